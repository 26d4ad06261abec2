import PyProof.Rows.All
import Wide.All
import OpenK.AllK
import Wide.FinOn
import Lean
import PyProof.EqAt
import PyProof.EqKinds
import PyProof.TupleCall
import KE.BitLaws
import KE.KRevIter
import PyProof.P3In
import PySem.SetTable
import PyProof.TupleKey
import PyProof.SetRoads
import PyProof.IsRules
import PyProof.Rows.SetFrom
import KE.KDictSum
import PyProof.StrLawsChain
import PyProof.StrLawsTight
import PyProof.Rows.StrNews
import PyProof.StrCalls2
import PyProof.StrBlock2
import PyProof.TupleIter
import PyProof.WalksMore
import PySem.Challenge.RW_canonwheel_k75_refusals_apart
set_option Elab.async false
set_option linter.all false
set_option maxRecDepth 100000
set_option maxHeartbeats 4000000
set_option compiler.extract_closed false
set_option genSizeOf false
set_option genSizeOfSpec false
set_option bootstrap.genMatcherCode false
noncomputable section
local macro_rules|`(⋯)=>`(by omega)
theorem Zf {C:Prop}(h:False):C:=h.elim
open List renaming mem_cons_of_mem → v7, mem_cons_self → wc, map_cons → we, length_map → wg, size_toArray → wj, mem_append_right → wk, length_cons → wt, not_mem_nil → wu, getElem?_map → wx, length_append → wy, mem_cons → wz, lookup_cons → wA, mem_append_left → wB, getElem?_set_self → wC, getElem?_eq_getElem → wD, getElem?_append_left → wF, replicate_succ → wG, getElem?_set_ne → wI, getElem?_append_right → wJ, eq_nil_of_length_eq_zero → wM, flatten_cons → wO, find?_cons → wQ, getElem?_cons_succ → wR, append_nil → wV, drop_eq_getElem_cons → wW, getElem?_cons_zero → wZ, length_set → w5, any_cons → w6, length_replicate → w8, mem_of_getElem? → xc, cons_append → xf, getD_eq_getElem?_getD → xg, filterMap_cons → xh, getElem_of_mem → xi, zip_cons_cons → xl, getElem?_replicate → xo, length_take → xq, getElem_mem → xt, of_mem_zip → xu, map_nil → xy, map_congr_left → xA, contains_cons → xC, drop_length → xH, any_eq_true → xJ, foldl_cons → xN, nil_append → xO, forIn_cons → xQ, map_append → xR, getElem?_eq_none → xS, length_singleton → xT, all_cons → xW, pairwise_cons → xX, getElem_inj → ya, length_drop → yb, all_eq_true → yc, map_id → yd, zipIdx_cons → ye, filter_cons → yf, length_nil → yg, length_zip → yi, zipIdx_nil → ym, forIn_nil → yq, set_set → yw, map_map → yx
open Bool renaming and_eq_true → v8, false_ne_true → wo, eq_iff_iff → wL, false_eq_true → w4, beq_eq_decide_eq → xr, or_eq_true → xw, false_and → xV, and_false → yp, and_true → yr, true_and → yt, and_self → yu, true_or → yv
open Nat renaming ne_of_lt → wb, le_refl → wm, lt_of_lt_of_le → wq, lt_irrefl → wH, le_trans → wK, lt_succ_self → wN, le_add_right → wU, lt_succ_of_lt → wX, ne_of_gt → w9, add_le_add_left → xj, lt_of_le_of_lt → xn, zero_le → xD, le_succ → xE, succ_ne_self → xI, mod_eq_of_lt → xK, le_of_eq → xM, min_le_left → xP, log2_lt → xU, le_of_lt → xY, le_antisymm → yk
open Option renaming getD_some → wY, map_eq_some_iff → xp, isSome_some → xB, isSome_map → xF, getD_none → xG, map_some → yo
open Int renaming toNat_natCast → xZ, le_antisymm → yh
open PySem.W renaming Frag → yy, nsIn → yH, findIn → yI, fnOf → yJ, mg_of → yL, mg_none_of → yM, keepIn → yR, kitOne → yU, emptyDict → yW, kia_one → yZ, codeIn → zc, instObj → zh, isFn → zo, plainGet → zu, hideAll_get → zy, tail_of_in → zF, hasDictIn → zH, looks_findIn → zM, callWith_K → zT, plainOver → zZ, cellsFrom_some → z9, hideAll → Ae, makesIn → Af, plainGet_of → Al, lookIn → Aq, nsOkIn → As, of_hideAll → Aw, excIn → AE, methodObj → AI, takerIn → AV, hideAll_none → Bb, callWith_K0 → Bo, codeRec_of → BD, handedIn → BP, tailIn → BS, Looks → BW
open PySem renaming wpAny_bind → yz, wpAny_mono → yC, wpAny_pure → yE, Env → yF, wpAny_field → yV, wpAny_Call_Name_kw → y9, wpAny_loadPart_at → zi, wpAny_holding → zj, wpAny_seqItems → zl, wpAny_setField_rec → zp, wpAny_passesOwn → zq, sizeLine_eq → zt, mem_of_lookup → zA, wpAny_callSpecial?_slot → zC, wpAny_truthy_bool → zG, wpAny_pyIter_enum → zI, codeAny_mono → zJ, call_meets → zN, lookup_relabel_local → zP, wpAny_isSubtype_exc → zQ, wpAny_execs_nil → zR, wpAny_pyIter_list → zY, wpAny_newObj_type → z0, wpAny_standAt → Aa, wpAny_call_entry → Ac, typeIs_str → Ag, passOn → Ai, wpAny_updateSeq_pair → Ak, boot_len → Ar, tupleKind_room_in1 → Ay, wpAny_newFunctionEnv_cells → AD, wpAny_letOwnedTupleGo_enum → AG, wpAny_onRaise → AH, wpAny_comp_letGo → AR, wpAny_pyNext_range_end → AZ, wpAny_pyIter_rangeiter → A0, seqIndex_of → A1, codeAny_compStart_list → A3, wpAny_isTrue_Compare1 → A5, wpAny_loadPart → A6, codeAny_call_function → A7, wpAny_setField → A9, wpAny_loadName_local → Bc, wpAny_call → Bd, codeAny_call_builtin → Bf, wpAny_newFunctionEnv → Bg, wpAny_rule → Bi, wpAny_attempt → Bm, wpAny_loadName_cell → Bn, Within → Bz, wpAny_pyIter_range → BA, seqIndex_neg → BE, wpAny_pyIter_tuple → BI, list_append → BM, wpAny_letGo → BO
open PySem.Heap renaming lt_size → yA, get?_push_of_some → yB, get?_push_size → yD, get?_update_other → yS, size_push → y8, SameBut → zS, get?_update_self → Ad, HeldW → AN
open PySem.Str renaming ofString → yG, length → zD, join → Bj, empty → BU
open PySem.Value renaming ref → yK, type → yP, none → zX, builtin → AF, bool → AL, int → Bv, str → Bw, isStrOf → BV
open False renaming elim → yN
open PySem.Builtin.SmallTypes renaming nextOf → yO, ownedTupleIsFree → yY, ownedTupleHandOut → zW
open PyProof.Rows renaming callWith_type1 → yQ, subscriptTail_builtinR → A2
open PySem.PyData renaming canLay0 → yT, depth → y7, eqv → zO, eqvAll → Ab, depthAll → Ah, canLayAll0 → AJ
open PySem.NameKind renaming free → yX, cell → Bl
open PySem.Builtin.Str renaming occurrences → zk, strSliceIndices → zL, partsBetween → AS, strKind → Bu
open True renaming intro → zm
open PySem.F renaming slot_tuple_iterator_next → zr, typeOf_object_class → zK, slot_zip_next → Aj, args_tuple_iterator_next_1 → Av, args_str_split_2 → AA, entry_tuple_iterator_next → AB, entry_str_split → AK, slot_str_split → AU, plainAttrs_str → A4, args_list_append_2 → Bh, entry_list_append → Br, slot_list_append → BH, args_zip_next_1 → BN, entry_zip_next → BQ
open PySem.Builtin.List renaming listTooLong → zw
open Array renaming length_toList → zz, append_assoc → Ax
open PySem.Builtin.Range renaming rangeSize → zB, small → Bq
open ForInStep renaming yield → zE
open PySem.W.WData renaming int → zU, weightAll → AX, weight → BF, list → BR
open PySem.Obj renaming data_mapFields → zV, mapSeq → AM, isFreed_of_fields → A8
open Sum.inr renaming inj → z7
open PySem.comprehension renaming letGo → Am
open PySem.Heap.SameBut renaming update → Ap
open PySem.Txt renaming split → Az, startswith → Ba, slice → BG
open PySem.Calls renaming Name_function_global → AC, evalArgs_plain → Be
open PySem.IsL renaming update → AO
open PyProof renaming noPylong_of_log2 → AQ
open PySem.PassesOwn renaming never → AW, leaving → BJ, looking → BK
open Sum.inl renaming inj → AY
open PySem.Paired renaming length → Bk, snoc → BY
open PySem.Builtin.Int renaming intBits → Bp
open PySem.SeqAt.EqAt renaming int_str → Bx, str_int → By
open PySem.Around renaming under → BB
open PySem.Code renaming isFrame → BC
open PySem.StrLaws renaming found_one → BL
open PySem.IsRange renaming new → BX
open PySem.Shared renaming heap → BZ
open PySem.Heap.IsSliceOf renaming new → B0
theorem ZB (h:True:=by first|exact .inl rfl|exact .inr rfl|assumption):True:=h
theorem ZC (h:True:=by decide):True:=h
theorem ZD (h:True:=by first|exact nobehind _ (by decide) (by decide)|rfl):True:=h
theorem ZE (h:True:=by intro _;rfl):True:=h
theorem ZF (h:True:=by rfl):True:=h
theorem ZG (h:True:=by intros;rfl):True:=h
theorem ZH (h:True:=by first|exact Or.inl rfl|exact Or.inr (Or.inl rfl)|exact Or.inr (Or.inr rfl)):True:=h
theorem ZI (h:True:=by intro _ _ z;cases z):True:=h
theorem ZJ (h:True:=by decide +kernel):True:=h
theorem ZK (h:True:=by intro _ _;rfl):True:=h
theorem ZL (h:True:=by with_unfolding_all rfl):True:=h
namespace L2
open PySem PySem.Spec PyProof.Rows
abbrev Key:=Sum Int Str
def hI:Key->Value->Bool
 | .inl k,v=>Value.isInt k v
 | .inr x,v=>BV x v
def ng (w:World):Key->Int
 | .inl k=>hashInt k
 | .inr x=>hashStr w x
theorem aQ:∀ {k:Key} {v:Value},hI k v=true->(∃ i t,k=Sum.inl i/\v=Bv i t)\/(∃ x t,k=Sum.inr x/\v=Bw x t)
 | .inl i,v,h=>by
  obtain⟨t,e⟩:=Value.isInt_shape (k:=i) (v:=v) h;exact .inl ⟨i,t,rfl,e⟩
 | .inr x,v,h=>by
  obtain⟨t,e⟩:=Value.isStrOf_shape (x:=x) (v:=v) h;exact .inr ⟨x,t,rfl,e⟩
theorem lT (i:Int)(t:Tok):hI (.inl i) (.int i t)=true:=by simp[hI,Value.isInt]
theorem bZ (x:Str)(t:Tok):hI (.inr x) (.str x t)=true:=by simp[hI,BV]
theorem tY (a b:Int):decide ((Sum.inl a:Key)=Sum.inl b)=(a == b):=by
 by_cases e:a=b
 ·subst e;simp
 ·have h:¬ (Sum.inl a:Key)=Sum.inl b:=λ q=>e (AY q)
  rw[decide_eq_false h];exact(beq_eq_false_iff_ne.mpr e).symm
theorem sV (a b:Str):decide ((Sum.inr a:Key)=Sum.inr b)=decide (a=b):=by
 by_cases e:a=b
 ·subst e;simp
 ·have h:¬ (Sum.inr a:Key)=Sum.inr b:=λ q=>e (z7 q)
  rw[decide_eq_false h,decide_eq_false e]
theorem sG (a:Int)(b:Str):decide ((Sum.inl a:Key)=Sum.inr b)=false:=decide_eq_false (λ q=>nomatch q)
theorem rN (a:Str)(b:Int):decide ((Sum.inr a:Key)=Sum.inl b)=false:=decide_eq_false (λ q=>nomatch q)
def ay (prog:Program)(w:World):PySem.KeyKind prog w Key where
 is:=hI
 hash:=ng w
 inj:=λ v a b ha hb=>by
  rcases aQ ha with ⟨i,t,rfl,rfl⟩|⟨x,t,rfl,rfl⟩
  ·rcases aQ hb with ⟨j,u,rfl,e⟩|⟨y,u,rfl,e⟩
   ·injection e with e1 _;rw[e1]
   ·exact nomatch e
  ·rcases aQ hb with ⟨j,u,rfl,e⟩|⟨y,u,rfl,e⟩
   ·exact nomatch e
   ·injection e with e1 _;rw[e1]
 byValue:=λ k v h=>by
  rcases aQ h with ⟨i,t,rfl,rfl⟩|⟨x,t,rfl,rfl⟩ <;>rfl
 pyHash:=λ hv h=>by
  rcases aQ hv with ⟨i,t,rfl,rfl⟩|⟨x,t,rfl,rfl⟩
  ·exact wpAny_pyHash_int h
  ·exact wpAny_pyHash_str h
 eqBool:=λ hu hv h=>by
  rcases aQ hu with ⟨i,t,rfl,rfl⟩|⟨x,t,rfl,rfl⟩
  ·rcases aQ hv with ⟨j,u,rfl,rfl⟩|⟨y,u,rfl,rfl⟩
   ·rw[tY] at h;exact wpAny_eqBool_int h
   ·rw[sG] at h;exact Bx i t y u _ _ _ _ h
  ·rcases aQ hv with ⟨j,u,rfl,rfl⟩|⟨y,u,rfl,rfl⟩
   ·rw[rN] at h;exact By x t j u _ _ _ _ h
   ·rw[sV] at h;exact wpAny_eqBool_str h
 «strs»:=λ k x t v h=>by
  rcases aQ h with ⟨i,u,rfl,e⟩|⟨y,u,rfl,e⟩
  ·exact nomatch e
  ·injection e with e1 _
   subst e1;cases v <;>rfl
theorem jK (prog:Program)(w:World)(i:Int)(t:Tok):(ay prog w).is (.inl i) (.int i t)=true:=lT i t
theorem jj (prog:Program)(w:World)(x:Str)(t:Tok):(ay prog w).is (.inr x) (.str x t)=true:=bZ x t
inductive V where
 | non|bl (b:Bool)|int (i:Int)|str (x:Str)|byt (b:Array UInt8)|flt (b:UInt64)|ref (a:Addr)|ty (n:String)
 deriving DecidableEq
def RelV:V->Value->Prop
 | .non,u=>u=zX
 | .bl b,u=>u=AL b
 | .int i,u=>∃ t,u=Bv i t
 | .str x,u=>∃ t,u=Bw x t
 | .byt b,u=>∃ t,u=Value.bytes b t
 | .flt b,u=>∃ t,u=Value.float b t
 | .ref a,u=>u=yK a
 | .ty n,u=>u=yP n
abbrev Vals:List V->List Value->Prop:=Paired RelV
theorem Vals.length {xs:List V}{us:List Value}(r:Vals xs us):xs.length=us.length:=Bk r
theorem Vals.get:∀ {xs:List V} {us:List Value} {i:Nat} {x:V},Vals xs us->xs[i]?=some x->∃ u,us[i]?=some u/\RelV x u
 | _,_,_,_,.nil,e=>by simp at e
 | _,_,0,_,.cons r _,e=>by simp at e;subst e;exact⟨_,rfl,r⟩
 | _,_,i+1,x,.cons _ t,e=>by
  obtain⟨u,h1,h2⟩:=Vals.get (i:=i) (x:=x) t (by simpa using e);exact⟨u,by simpa using h1,h2⟩
theorem Vals.set {x:V}{u:Value}(r:RelV x u):∀ {xs:List V} {us:List Value} (i:Nat),Vals xs us->Vals (xs.set i x) (us.set i u)
 | _,_,_,.nil=>.nil
 | _,_,0,.cons _ t=>.cons r t
 | _,_,i+1,.cons q t=>.cons q (Vals.set r i t)
theorem Vals.append {xs ys:List V}{us ws:List Value}(q:Vals xs us)(s:Vals ys ws):Vals (xs++ys) (us++ws):=by
 induction q with
 | nil=>exact s
 | cons r t ih=>exact .cons r ih
theorem Vals.take:∀ {xs:List V} {us:List Value} (n:Nat),Vals xs us->Vals (xs.take n) (us.take n)
 | _,_,0,_=>.nil
 | _,_,_+1,.nil=>.nil
 | _,_,n+1,.cons r t=>.cons r (Vals.take n t)
theorem Vals.drop:∀ {xs:List V} {us:List Value} (n:Nat),Vals xs us->Vals (xs.drop n) (us.drop n)
 | _,_,0,r=>r
 | _,_,_+1,.nil=>.nil
 | _,_,n+1,.cons _ t=>Vals.drop n t
def RelO:Option V->Option Value->Prop
 | some v,some u=>RelV v u
 | none,none=>True
 | _,_=>False
def KV {κ:Type}:List (κ×V)->List (κ×Value)->Prop:=Paired λ (p:κ×V) (q:κ×Value)=>p.1=q.1/\RelV p.2 q.2
def kV:Key->V
 | .inl i=>.int i
 | .inr x=>.str x
inductive HO where
  | lst (xs:List V)
  | tup (xs:List V)
  | dK (kvs:List (Key×V))|dT (kvs:List (List Key×V))
  | set (S:Int->Bool) (n:Nat)
  | ins (C dx:Addr) (fs:List (Str×V))
  | own (x:Addr)
  | xd (fs:List (Str×V))
  | met (f x:Addr)
  | rng (lo hi:Int)
  | frz (o:Obj) (u:HO)
  | tbl (ps:Array Value)
  | ext (φ:Heap->Prop)
abbrev Hp:=Addr->Option HO
def upd (H:Hp)(a:Addr)(o:HO):Hp:=λ b=>if b=a then some o else H b
theorem ao {H:Hp}{a:Addr}{o:HO}:upd H a o a=some o:=by unfold upd;rw[if_pos rfl]
theorem ai {H:Hp}{a b:Addr}{o:HO}(h:b≠a):upd H a o b=H b:=by unfold upd;rw[if_neg h]
theorem kQ {H:Hp}{a:Addr}{o u:HO}:upd (upd H a o) a u=upd H a u:=by
 funext b;unfold upd;split <;>rfl
theorem um {H:Hp}{a b:Addr}{o u:HO}(h:H a=some o)(h':H b=some u)(d:o≠u):a≠b:=by
 intro e;subst e;rw[h] at h';exact d (Option.some.inj h')
theorem ak {H:Hp}{a b:Addr}{o:HO}(h:H a=some o)(h':H b=none):a≠b:=by
 intro e;subst e;rw[h] at h';cases h'
section
variable (P:Program)(w:World)
def ObjOk (H:Hp)(h:Heap)(a:Addr):HO->Prop
 | .lst xs=>xs.length<=sizeLine/\∃ (its:List Value) (n:Nat),Vals xs its/\h.get? a=some { cls:=.type "list",data:=.seq its.toArray n }
 | .tup xs=>xs.length<=sizeLine/\∃ its:List Value,Vals xs its/\IsTup h a its.toArray
 | .dK kvs=>kvs.length<=sizeLine/\(a == sysModules)=false/\∃ vs,KV kvs vs/\h.DictOf (ay P w) a vs
 | .dT kvs=>kvs.length<=sizeLine/\(a == sysModules)=false/\∃ xs:List (List Key×Addr×Value),
   Paired (λ (p:List Key×V) (q:List Key×Addr×Value)=>p.1=q.1/\H q.2.1=some (.tup (p.1.map kV))/\RelV p.2 q.2.2) kvs xs /\
   ∃ o es ep,h.get? a=some o/\o.ExactDict/\o.data=.dict es ep/\es.toList=xs.map (entryOfKey (tupleKind (ay P w)))/\(xs.map (·.1)).Nodup
 | .set S n=>h.SetOf (intKind P w) a S n
 | .ins C dx fs=>H dx=some (.own a)/\fs.length<=1000/\dx≠a/\h.get? a=some (zh C dx) /\
   ∃ mA,h.Ns1 dx mA/\(∀ f,RelO (fs.lookup f) (mA f))/\Bz mA (fs.map (·.1))
 | .own _=>∃ o,h.get? a=some o
 | .xd fs=>∃ mA,h.Ns1 a mA/\∀ f,RelO (fs.lookup f) (mA f)
 | .rng lo hi=>∃ t u v,h.get? a=some { cls:=.type "range",data:=.fields #[.int lo t,.int hi u,.int 1 v] }
 | .frz o u=>h.get? a=some o/\ObjOk H h a u
 | .tbl ps=>h.get? a=some { cls:=.none,data:=.fields ps }
 | .met f x=>h.get? a=some (AI (.ref f) (.ref x))
 | .ext φ=>φ h/\(∃ o,h.get? a=some o)/\∀ h1 h2:Heap,φ h1->(∀ o,h1.get? a=some o->h2.get? a=some o)->φ h2
def HOk (H:Hp)(h:Heap):Prop:=∀ a o,H a=some o->ObjOk P w H h a o
end
section
variable {P:Program}{w:World}{H H':Hp}{h h':Heap}{a:Addr}{o:HO}
theorem ObjOk.lt (x:ObjOk P w H h a o):a<h.objs.size:=by
 cases o with
 | lst xs=>obtain⟨_,_,_,_,e⟩:=x;exact yA e
 | tup xs=>obtain⟨_,_,_,p⟩:=x;exact p.lt
 | dK kvs=>obtain⟨_,_,_,_,o,_,_,e,_⟩:=x;exact yA e
 | dT kvs=>obtain⟨_,_,_,_,o,_,_,e,_⟩:=x;exact yA e
 | set S n=>obtain⟨o,_,_,_,e,_⟩:=x;exact yA e
 | ins C dx fs=>obtain⟨_,_,_,e,_⟩:=x;exact yA e
 | own y=>obtain⟨_,e⟩:=x;exact yA e
 | xd fs=>obtain⟨_,⟨_,_,_,e,_⟩,_⟩:=x;exact yA e
 | rng lo hi=>obtain⟨_,_,_,e⟩:=x;exact yA e
 | frz ob u=>obtain⟨e,_⟩:=x;exact yA e
 | tbl ps=>exact yA (show h.get? a=some _ from x)
 | met f y=>exact yA (show h.get? a=some _ from x)
 | ext φ=>obtain⟨_,⟨_,e⟩,_⟩:=x;exact yA e
theorem Paired.mapP {α β:Type}{F G:α->β->Prop}{l₁:List α}{l₂:List β}(q:Paired F l₁ l₂)(f:∀ a b,F a b->G a b):Paired G l₁ l₂:=by
 induction q with
 | nil=>exact .nil
 | cons r t ih=>exact .cons (f _ _ r) ih
theorem ObjOk.stay (x:ObjOk P w H h a o)(k:∀ b u,(b=a\/H b=some (.own a))->h.get? b=some u->h'.get? b=some u)
  (ho:∀ b,H b=some (.own a)->H' b=some (.own a)) (ht:∀ b xs,H b=some (.tup xs)->H' b=some (.tup xs)):ObjOk P w H' h' a o:=by
 induction o with
 | lst xs=>obtain⟨z,its,n,r,e⟩:=x;exact⟨z,its,n,r,k _ _ (.inl rfl) e⟩
 | tup xs=>obtain⟨z,its,r,ob,e,c⟩:=x;exact⟨z,its,r,ob,k _ _ (.inl rfl) e,c⟩
 | dK kvs=>obtain⟨z,y,vs,r,ob,es,ep,e,c⟩:=x;exact⟨z,y,vs,r,ob,es,ep,k _ _ (.inl rfl) e,c⟩
 | dT kvs=>
  obtain⟨z,y,xs,r,ob,es,ep,e,c⟩:=x;exact⟨z,y,xs,Paired.mapP r λ p q z=>⟨z.1,ht _ _ z.2.1,z.2.2⟩,ob,es,ep,k _ _ (.inl rfl) e,c⟩
 | set S n=>obtain⟨ob,es,ep,t,e,c⟩:=x;exact⟨ob,es,ep,t,k _ _ (.inl rfl) e,c⟩
 | ins C dx fs=>
  obtain⟨d,z,ne,e,mA,⟨od,es,ep,e2,c⟩,r⟩:=x;exact⟨ho _ d,z,ne,k _ _ (.inl rfl) e,mA,⟨od,es,ep,k _ _ (.inr d) e2,c⟩,r⟩
 | own y=>obtain⟨ob,e⟩:=x;exact⟨ob,k _ _ (.inl rfl) e⟩
 | xd fs=>obtain⟨mA,⟨od,es,ep,e,c⟩,r⟩:=x;exact⟨mA,⟨od,es,ep,k _ _ (.inl rfl) e,c⟩,r⟩
 | rng lo hi=>obtain⟨t,u,v,e⟩:=x;exact⟨t,u,v,k _ _ (.inl rfl) e⟩
 | frz ob u ih=>obtain⟨e,q⟩:=x;exact⟨k _ _ (.inl rfl) e,ih q⟩
 | tbl ps=>
  have e:h.get? a=some { cls:=.none,data:=.fields ps }:=x;show h'.get? a=some { cls:=.none,data:=.fields ps }
  exact k a _ (.inl rfl) e
 | met f y=>
  have e:h.get? a=some (AI (.ref f) (.ref y)):=x;show h'.get? a=some (AI (.ref f) (.ref y))
  exact k a _ (.inl rfl) e
 | ext φ=>obtain⟨p,⟨o,e⟩,st⟩:=x;exact⟨st _ _ p λ o q=>k _ _ (.inl rfl) q,⟨o,k _ _ (.inl rfl) e⟩,st⟩
theorem HOk.lt (x:HOk P w H h)(e:H a=some o):a<h.objs.size:=(x a o e).lt
theorem HOk.fresh (x:HOk P w H h)(e:h.objs.size<=a):H a=none:=by
 cases q:H a with
 | none=>rfl
 | some u=>exact absurd (wq (x.lt q) e) (wH _)
theorem HOk.kept (x:HOk P w H h)(k:∀ b u,h.get? b=some u->h'.get? b=some u):HOk P w H h':=λ a o e=>
 (x a o e).stay (λ b u _ q=>k b u q) (λ _ q=>q) λ _ _ q=>q
theorem HOk.laid (x:HOk P w H h)(k:∀ b u,h.get? b=some u->h'.get? b=some u)(hp:h.objs.size<=a)(new:ObjOk P w (upd H a o) h' a o):HOk P w (upd H a o) h':=λ b u e=>by
 have hn:=x.fresh hp;by_cases hb:b=a
 ·subst hb;rw[ao] at e;cases e;exact new
 ·rw[ai hb] at e
  exact(x b u e).stay (λ c v _ q=>k c v q) (λ c q=>by rw[ai (ak q hn)];exact q) λ c xs q=>by rw[ai (ak q hn)];exact q
end
def Rd (H:Hp)(a:Addr)(u:HO):Prop:=H a=some u\/∃ o,H a=some (.frz o u)
theorem Rd.of {H:Hp}{a:Addr}{u:HO}(h:H a=some u):Rd H a u:=.inl h
theorem Rd.ok {P:Program}{w:World}{H:Hp}{h:Heap}{a:Addr}{u:HO}(r:Rd H a u)(x:HOk P w H h):ObjOk P w H h a u:=by
 rcases r with r|⟨o,r⟩
 ·exact x a u r
 ·obtain⟨_,q⟩:=x a _ r
  exact q
def Mut:Option HO->Prop
 | some (.lst _)=>True
 | some (.dK _)=>True
 | some (.dT _)=>True
 | some (.set _ _)=>True
 | some (.ins _ _ _)=>True
 | some (.ext _)=>True
 | _=>False
section
variable {P:Program}{w:World}{H:Hp}{h h':Heap}{x e:Addr}{o':HO}
theorem HOk.write (ok:HOk P w H h)(mu:Mut (H x))(he:e=x\/H e=some (.own x))(k:∀ b u,b≠e->h.get? b=some u->h'.get? b=some u)(heo:∃ u,h'.get? e=some u)
  (new:ObjOk P w (upd H x o') h' x o'):HOk P w (upd H x o') h':=λ b u q=>by
 have nown:∀ c y,H c=some (.own y)->c≠x:=λ c y r z=>by subst z;rw[r] at mu;exact mu
 have ntup:∀ c xs,H c=some (.tup xs)->c≠x:=λ c xs r z=>by subst z;rw[r] at mu;exact mu
 by_cases hb:b=x
 ·subst hb;rw[ao] at q;cases q;exact new
 ·rw[ai hb] at q
  by_cases hbe:b=e
  ·have q':H b=some (.own x):=by
    rcases he with z|z
    ·exact absurd (hbe.trans z) hb
    ·rw[hbe];exact z
   rw[q] at q';cases q';obtain⟨v,hv⟩:=heo;exact⟨v,by rw[hbe];exact hv⟩
  ·refine(ok b u q).stay (λ c v hc r=>k c v ?_ r) (λ c r=>by rw[ai (nown c b r)];exact r) λ c xs r=>by rw[ai (ntup c xs r)];exact r
   rcases hc with rfl|hc
   ·exact hbe
   ·rintro rfl
    rcases he with z|z
    ·exact nown c b hc z
    ·rw[hc] at z;cases z;exact hb rfl
end
structure Un (fs ex:List Addr)(H H':Hp)(h h':Heap):Prop where
 keep:∀ b o,h.get? b=some o->H b=none->b∉fs->b∉ex->h'.get? b=some o
 slot:∀ b o,h.get? b=some o->H b=none->b∈fs->b∉ex->∃ sl,h'.get? b=some { o with slots:=sl }
 free:∀ b o,h.get? b=some o->H b=none->b∉ex->H' b=none
 there:∀ b o,h.get? b=some o->b∉ex->∃ o',h'.get? b=some o'
 tups:∀ b xs,H b=some (.tup xs)->H' b=some (.tup xs)
 frzs:∀ b o u,H b=some (.frz o u)->H' b=some (.frz o u)
 tbls:∀ b ps,H b=some (.tbl ps)->∃ more,H' b=some (.tbl (ps++more))
section
variable {fs fs' ex ex':List Addr}{H H1 H2:Hp}{h h1 h2 h':Heap}{a x e:Addr}{o:HO}
theorem Un.any (u:Un fs ex H H1 h h1){b:Addr}{ob:Obj}(q:h.get? b=some ob)(n:H b=none)(hx:b∉ex):∃ sl,h1.get? b=some { ob with slots:=sl }:=by
 by_cases hb:b∈fs
 ·exact u.slot b ob q n hb hx
 ·exact⟨ob.slots,u.keep b ob q n hb hx⟩
theorem Un.kept (k:∀ b u,h.get? b=some u->h'.get? b=some u):Un fs ex H H h h':=
 ⟨λ b ob q _ _ _=>k b ob q,λ b ob q _ _ _=>⟨ob.slots,k b ob q⟩,λ _ _ _ n _=>n,λ b ob q _=>⟨ob,k b ob q⟩,λ _ _ q=>q,λ _ _ _ q=>q,λ _ ps q=>⟨#[],by rw[q];simp⟩⟩
theorem Un.refl:Un fs ex H H h h:=Un.kept λ _ _ q=>q
theorem Un.laid (k:∀ b u,h.get? b=some u->h'.get? b=some u)(hp:h.objs.size<=a)(hn:H a=none):Un fs ex H (upd H a o) h h' where
 keep:=λ b u q _ _ _=>k b u q
 slot:=λ b u q _ _ _=>⟨u.slots,k b u q⟩
 free:=λ b u q n _=>by rw[ai (wb (wq (yA q) hp))];exact n
 there:=λ b u q _=>⟨u,k b u q⟩
 tups:=λ b xs q=>by rw[ai (ak q hn)];exact q
 frzs:=λ b u xs q=>by rw[ai (ak q hn)];exact q
 tbls:=λ b ps q=>⟨#[],by rw[ai (ak q hn),q];simp⟩
theorem Un.write (mu:Mut (H x))(he:e=x\/H e=some (.own x))(k:∀ b u,b≠e->h.get? b=some u->h'.get? b=some u)(heo:∃ u,h'.get? e=some u):Un fs ex H (upd H x o) h h':=by
 have hx:∀ b,H b=none->b≠x:=λ b n z=>by subst z;rw[n] at mu;exact mu
 have hb:∀ b,H b=none->b≠e:=λ b n z=>by
  subst z
  rcases he with r|r
  ·exact hx b n r
  ·rw[n] at r;cases r
 have hm:∀ b u,H b=some u->¬ Mut (some u)->b≠x:=λ b u q nm z=>by subst z;rw[q] at mu;exact nm mu
 refine⟨λ b u q n _ _=>k b u (hb b n) q,λ b u q n _ _=>⟨u.slots,k b u (hb b n) q⟩,λ b u q n _=>by rw[ai (hx b n)];exact n,λ b u q _=>?_,
  λ b xs q=>by rw[ai (hm b _ q λ z=>z)];exact q,λ b u xs q=>by rw[ai (hm b _ q λ z=>z)];exact q,λ b ps q=>⟨#[],by rw[ai (hm b _ q λ z=>z),q];simp⟩⟩
 by_cases hbe:b=e
 ·subst hbe;exact heo
 ·exact⟨u,k b u hbe q⟩
end
def trk (h:Heap)(H:Hp):List Addr:=(List.range h.objs.size).filter λ a=>(H a).isSome
def iQ (h:Heap)(H:Hp):Heap:=Ae h (trk h H)
theorem lM (h:Heap)(H:Hp):(iQ h H).objs.size=h.objs.size:=PySem.W.hideAll_size _ _
theorem nh {h:Heap}{H:Hp}{b:Addr}{o:Obj}(e:h.get? b=some o)(n:H b=none):(iQ h H).get? b=some o:=
 zy _ e λ hm=>by
  have q:(H b).isSome=true:=(List.mem_filter.mp hm).2;rw[n] at q;simp at q
theorem p0 {h:Heap}{H:Hp}{b:Addr}{o:Obj}(e:(iQ h H).get? b=some o):h.get? b=some o/\H b=none:=by
 have e':h.get? b=some o:=Aw (trk h H) e;refine⟨e',?_⟩;cases q:H b with
 | none=>rfl
 | some x=>
  have hm:b∈trk h H:=List.mem_filter.mpr ⟨List.mem_range.mpr (yA e'),by simp[q]⟩;have z:(iQ h H).get? b=none:=Bb (trk h H) hm;rw[z] at e;cases e
structure Mod (K:yy)(mg:Str->Option Value)(base:Heap):Prop where
 kin:K.In base
 glob:base.Ns mainGlobals mg
 blt:∃ mb,base.Ns builtinsNs mb/\∀ x:Str,x≠"__name__"->mb x=bootBuiltins x
 nolimit:base.NoLimit
structure Cx where
 prog:Program
 w:World
 K:yy
 mg:Str->Option Value
 base:Heap
 A:Around
 N:List Str
 s₀:Shared
 H₀:Hp
 env:Env
 outer:List Env
 stack:List Env
 ex:List Addr
 fn:Str->Bool
 calm:Bool
 pn:List (Addr×Obj)
 xe:Value->Shared->Prop
def frs (l:List Env):List Addr:=l.filterMap (·.frame)
abbrev Cx.fs (X:Cx):List Addr:=frs X.outer
def Vis (sc:Scope)(x:Str):Prop:=sc.names.lookup x=some .local\/sc.names.lookup x=some .cell\/sc.names.lookup x=some .free
def Loc (sc:Scope)(x:Str):Prop:=sc.names.lookup x=some .local\/sc.names.lookup x=some .cell
def Look (env:Env)(h:Heap)(m:Str->Option Value)(x:Str)(u:Value):Prop:=
 (env.kindOf x=some .local/\m x=some u)\/((env.kindOf x=some .cell\/env.kindOf x=some .free)/\∃ c,env.cells.lookup x=some c/\h.IsCell c (some u))
structure Cx.Ok (X:Cx):Prop where
 mod:Mod X.K X.mg X.base
 kind:X.env.scope.kind=.function
 glob:X.env.globals=mainGlobals
 blt:X.env.builtins=builtinsNs
 above:X.s₀.heap.objs.size<=X.env.locals
 inj:∀ x y c,X.env.cells.lookup x=some c->X.env.cells.lookup y=some c->x=y
 has:∀ x,(X.env.kindOf x=some .cell\/X.env.kindOf x=some .free)->∃ c,X.env.cells.lookup x=some c
 cab:∀ x c,X.fn x=true->X.env.cells.lookup x=some c->X.s₀.heap.objs.size<=c
 hd:X.calm=true->X.A.handled=none
 frames:X.A.frames=some X.stack
 stk:X.stack=X.outer\/(X.stack=X.env::X.outer/\X.env.frame=some X.env.locals)
 exf:∀ b∈X.ex,b≠X.env.locals/\∀ x c,X.env.cells.lookup x=some c->c≠b
 bs:∀ b o,X.base.get? b=some o->X.s₀.heap.get? b=some o/\X.H₀ b=none
 bsz:X.base.objs.size<=X.s₀.heap.objs.size
 noex:∀ b o,X.base.get? b=some o->b∉X.ex
 exfs:∀ b∈X.ex,b∉X.fs
 funs:X.s₀.heap.FunFrames X.base X.outer
 frf:∀ b∈X.fs,X.H₀ b=none
structure Inv (X:Cx)(pins:List (Addr×Obj))(σ:List (Option V))(H:Hp)(s:Shared):Prop where
 ok:X.Ok
 os:s.os=X.s₀.os
 bare:AllBare s.gens
 base:Un X.fs X.ex X.H₀ H X.s₀.heap s.heap
 loc:∃ m,s.heap.Ns X.env.locals m/\∀ (i:Nat) (x:Str) (v:V),X.N[i]?=some x->σ[i]?=some (some v)->Vis X.env.scope x->∃ u,RelV v u/\Look X.env s.heap m x u
 cell:∀ x c,X.env.cells.lookup x=some c->∃ v,s.heap.IsCell c v
 free:H X.env.locals=none
 freeC:∀ x c,X.env.cells.lookup x=some c->H c=none
 pin:∀ p∈X.pn++pins,s.heap.get? p.1=some p.2/\H p.1=none/\p.1≠X.env.locals/\p.1∉X.fs/\∀ v,p.2.data≠.cell v
 hok:HOk X.prog X.w H s.heap
 len:σ.length=X.N.length
section
variable {X:Cx}{pins:List (Addr×Obj)}{σ:List (Option V)}{H H':Hp}{s:Shared}{h':Heap}
theorem Cx.Ok.nofr (ok:X.Ok){b:Addr}{o:Obj}(e:X.base.get? b=some o):b∉X.fs:=λ hb=>by
 have:=(ok.funs.mem hb).1;rw[e] at this;cases this
theorem Inv.bs (I:Inv X pins σ H s):∀ b o,X.base.get? b=some o->s.heap.get? b=some o/\H b=none:=λ b o e=>
 ⟨I.base.keep b o (I.ok.bs b o e).1 (I.ok.bs b o e).2 (I.ok.nofr e) (I.ok.noex b o e),I.base.free b o (I.ok.bs b o e).1 (I.ok.bs b o e).2 (I.ok.noex b o e)⟩
theorem Inv.bk (I:Inv X pins σ H s):∀ b o,X.base.get? b=some o->s.heap.get? b=some o:=λ b o e=>(I.bs b o e).1
theorem Inv.mod (I:Inv X pins σ H s):Mod X.K X.mg X.base:=I.ok.mod
theorem Inv.kIn (I:Inv X pins σ H s):X.K.In s.heap:=I.ok.mod.kin.keeps I.bk
theorem Inv.lt (I:Inv X pins σ H s):X.env.locals<s.heap.objs.size:=let ⟨_,hn,_⟩:=I.loc;hn.lt
theorem Inv.sz (I:Inv X pins σ H s):X.s₀.heap.objs.size<=s.heap.objs.size:=wK I.ok.above (xY I.lt)
theorem Inv.nofs (I:Inv X pins σ H s){a:Addr}(h:s.heap.objs.size<=a):a∉X.fs:=λ hb=>by
 obtain⟨_,o,ho,_⟩:=I.ok.funs.mem hb;exact absurd (wq (yA ho) (wK I.sz h)) (wH _)
theorem Inv.cne (I:Inv X pins σ H s):∀ x c,X.env.cells.lookup x=some c->c≠X.env.locals:=λ x c e z=>by
 obtain⟨v,o,ho,hd⟩:=I.cell x c e;obtain⟨m,⟨o',es,ep,ho',hd',_⟩,_⟩:=I.loc;rw[z,ho'] at ho;cases ho;rw[hd'] at hd;cases hd
theorem Inv.funs (I:Inv X pins σ H s):s.heap.FunFrames X.base X.outer:=by
 have all:∀ (l:List Env),(∀ b∈frs l,b∈X.fs)->X.s₀.heap.FunFrames X.base l->s.heap.FunFrames X.base l:=by
  intro l
  induction l with
  | nil=>intro _ _;trivial
  | cons env r ih=>
   intro hs hl;obtain⟨hk,⟨L,o,hf,hn,ho,hd⟩,hr⟩:=hl;have hL:L∈X.fs:=hs L (by unfold frs;rw[xh,hf];exact wc);obtain⟨sl,e⟩:=I.base.slot L o ho (I.ok.frf L hL) hL λ z=>I.ok.exfs L z hL
   exact⟨hk,⟨L,_,hf,hn,e,hd⟩,ih (λ b hb=>hs b (by unfold frs;rw[xh,hf];exact v7 _ hb)) hr⟩
 exact all X.outer (λ _ hb=>hb) I.ok.funs
theorem Inv.stack (I:Inv X pins σ H s):s.heap.FunFrames X.base X.stack:=by
 rcases I.ok.stk with e|⟨e,hf⟩
 ·rw[e];exact I.funs
 ·rw[e]
  obtain⟨m,hn,_⟩:=I.loc;refine .cons (by rw[I.ok.kind];decide) hf hn ?_ I.funs
  exact Heap.get?_none_of_le (wK I.ok.bsz I.ok.above)
theorem Inv.stkSub (I:Inv X pins σ H s):∀ b∈frs X.stack,b∈X.env.locals::X.fs:=λ b hb=>by
 rcases I.ok.stk with e|⟨e,hf⟩
 ·rw[e] at hb;exact v7 _ hb
 ·rw[e] at hb
  unfold frs at hb;rw[xh,hf] at hb;exact hb
theorem Inv.stkFree (I:Inv X pins σ H s):∀ b∈frs X.stack,H b=none:=λ b hb=>by
 rcases List.mem_cons.mp (I.stkSub b hb) with e|hb
 ·rw[e];exact I.free
 ·obtain⟨_,o,ho,_⟩:=I.ok.funs.mem hb
  exact I.base.free b o ho (I.ok.frf b hb) λ z=>I.ok.exfs b z hb
theorem Inv.step {g':Array GenState}{t':Nat}{d':Drawn}{ch:List Addr}(I:Inv X pins σ H s)
  (hch:∀ b∈ch,(b∈X.ex\/X.s₀.heap.objs.size<=b)/\b≠X.env.locals/\(∀ x c,X.env.cells.lookup x=some c->c≠b)/\∀ p∈X.pn++pins,p.1≠b)
  (keep:∀ b o,b≠X.env.locals->b∉X.fs->b∉ch->s.heap.get? b=some o->H b=none->h'.get? b=some o)
  (slot:∀ b o,b≠X.env.locals->b∈X.fs->b∉ch->s.heap.get? b=some o->H b=none->∃ sl,h'.get? b=some { o with slots:=sl }) (free:∀ b o,b∉ch->s.heap.get? b=some o->H b=none->H' b=none)
  (there:∀ b o,b∉ch->s.heap.get? b=some o->∃ o',h'.get? b=some o')
  (tups:∀ b xs,H b=some (.tup xs)->H' b=some (.tup xs)) (frzs:∀ b o u,H b=some (.frz o u)->H' b=some (.frz o u)) (tbls:∀ b ps,H b=some (.tbl ps)->∃ more,H' b=some (.tbl (ps++more)))
  (ns:∀ m,s.heap.Ns X.env.locals m->h'.Ns X.env.locals m) (hok:HOk X.prog X.w H' h') (hg:AllBare g'):
  Inv X pins σ H' { s with heap:=h',gens:=g',drawn:=d',toks:=t' }:=by
 have neL:∀ b o,X.s₀.heap.get? b=some o->b≠X.env.locals:=λ b o e=>wb (wq (yA e) I.ok.above)
 have neC:∀ b o,X.s₀.heap.get? b=some o->b∉X.ex->b∉ch:=λ b o e hx hb=>by
  rcases (hch b hb).1 with z|z
  ·exact hx z
  ·exact absurd (wq (yA e) z) (wH _)
 have cellK:∀ x c,X.env.cells.lookup x=some c->∀ v,s.heap.IsCell c v->h'.IsCell c v:=λ x c e v ⟨o,ho,hd⟩=>by
  have nch:c∉ch:=λ z=>(hch c z).2.2.1 x c e rfl
  by_cases hc:c∈X.fs
  ·obtain⟨sl,q⟩:=slot c o (I.cne x c e) hc nch ho (I.freeC x c e)
   exact⟨_,q,hd⟩
  ·exact⟨o,keep c o (I.cne x c e) hc nch ho (I.freeC x c e),hd⟩
 refine⟨I.ok,I.os,hg,⟨λ b o e n hb hx=>?_,λ b o e n hb hx=>?_,λ b o e n hx=>?_,λ b o e hx=>?_,λ b xs e=>tups b xs (I.base.tups b xs e),λ b o xs e=>frzs b o xs (I.base.frzs b o xs e),λ b ps e=>?_⟩,?_,λ x c e=>?_,?_,λ x c e=>?_,λ p hp=>?_,hok,I.len⟩
 ·exact keep b o (neL b o e) hb (neC b o e hx) (I.base.keep b o e n hb hx) (I.base.free b o e n hx)
 ·obtain⟨sl,e1⟩:=I.base.slot b o e n hb hx
  obtain⟨sl',e2⟩:=slot b _ (neL b o e) hb (neC b o e hx) e1 (I.base.free b o e n hx);exact⟨sl',e2⟩
 ·obtain⟨o',e1⟩:=I.base.there b o e hx
  exact free b o' (neC b o e hx) e1 (I.base.free b o e n hx)
 ·obtain⟨o',e1⟩:=I.base.there b o e hx
  exact there b o' (neC b o e hx) e1
 ·obtain⟨m1,e1⟩:=I.base.tbls b ps e
  obtain⟨m2,e2⟩:=tbls b _ e1;exact⟨m1++m2,by rw[e2,Ax]⟩
 ·obtain⟨m,hn,hl⟩:=I.loc
  refine⟨m,ns m hn,λ i x v e1 e2 e3=>?_⟩;obtain⟨u,r,l⟩:=hl i x v e1 e2 e3;refine⟨u,r,?_⟩
  rcases l with l|⟨k,c,e,z⟩
  ·exact .inl l
  ·exact .inr ⟨k,c,e,cellK x c e _ z⟩
 ·obtain⟨v,z⟩:=I.cell x c e
  exact⟨v,cellK x c e v z⟩
 ·obtain⟨m,⟨o,_,_,ho,_⟩,_⟩:=I.loc
  exact free _ o (λ z=>(hch _ z).2.1 rfl) ho I.free
 ·obtain⟨v,o,ho,hd⟩:=I.cell x c e
  exact free c o (λ z=>(hch c z).2.2.1 x c e rfl) ho (I.freeC x c e)
 ·obtain⟨e,n,ne,nf,d⟩:=I.pin p hp
  have nch:p.1∉ch:=λ z=>(hch p.1 z).2.2.2 p hp rfl
  exact⟨keep p.1 p.2 ne nf nch e n,free p.1 p.2 nch e n,ne,nf,d⟩
theorem Inv.un {t':Nat}(I:Inv X pins σ H s)(u:Un X.fs [] H H' s.heap h')(hok:HOk X.prog X.w H' h'):Inv X pins σ H' { s with heap:=h',toks:=t' }:=by
 obtain⟨m,⟨o,es,ep,ho,r⟩,_⟩:=id I.loc;obtain⟨sl,hL⟩:=u.any ho I.free (by simp);exact I.step (g':=s.gens) (d':=s.drawn) (ch:=[]) (λ _ z=>nomatch z) (λ b o _ hb _ e n=>u.keep b o e n hb (by simp)) (λ b o _ hb _ e n=>u.slot b o e n hb (by simp)) (λ b o _ e n=>u.free b o e n (by simp)) (λ b o _ e=>u.there b o e (by simp)) u.tups u.frzs u.tbls (λ m' hm=>by
  obtain⟨o',es',ep',ho',r'⟩:=hm;rw[ho] at ho';cases ho';exact⟨_,es',ep',hL,r'⟩) hok I.bare
theorem Inv.call {g':Array GenState}{t':Nat}{d':Drawn}{ch:List Addr}(I:Inv X pins σ H s)(u:Un (frs X.stack) ch H H' s.heap h')(hok:HOk X.prog X.w H' h')(hg:AllBare g')
  (hch:∀ b∈ch,(b∈X.ex\/X.s₀.heap.objs.size<=b)/\b≠X.env.locals/\(∀ x c,X.env.cells.lookup x=some c->c≠b)/\∀ p∈X.pn++pins,p.1≠b):
  Inv X pins σ H' { s with heap:=h',gens:=g',drawn:=d',toks:=t' }:=by
 obtain⟨m,⟨o,es,ep,ho,r⟩,_⟩:=id I.loc;obtain⟨sl,hL⟩:=u.any ho I.free λ z=>(hch _ z).2.1 rfl
 exact I.step (ch:=ch) hch (λ b o hL hb hc e n=>u.keep b o e n (λ z=>(List.mem_cons.mp (I.stkSub b z)).elim hL hb) hc) (λ b o _ _ hc e n=>u.any e n hc) (λ b o hc e n=>u.free b o e n hc) (λ b o hc e=>u.there b o e hc) u.tups u.frzs u.tbls (λ m' hm=>by
  obtain⟨o',es',ep',ho',r'⟩:=hm;rw[ho] at ho';cases ho';exact⟨_,es',ep',hL,r'⟩) hok hg
theorem Inv.turned {t':Nat}{it:Addr}(I:Inv X pins σ H s)(k:∀ b o,b≠it->s.heap.get? b=some o->h'.get? b=some o)(hn:H it=none)(hL:it≠X.env.locals)
  (h1:it∈X.ex\/X.s₀.heap.objs.size<=it) (h2:∀ x c,X.env.cells.lookup x=some c->c≠it) (h3:∀ p∈X.pn++pins,p.1≠it):Inv X pins σ H { s with heap:=h',toks:=t' }:=by
 have nit:∀ b u,H b=some u->b≠it:=λ b u e z=>by rw[z,hn] at e;cases e
 refine I.step (g':=s.gens) (d':=s.drawn) (ch:=[it]) (λ b hb=>?_) (λ b o _ _ hc e _=>k b o (λ z=>hc (by simp[z])) e) (λ b o _ _ hc e _=>⟨o.slots,k b o (λ z=>hc (by simp[z])) e⟩) (λ _ _ _ _ n=>n)
  (λ b o hc e=>⟨o,k b o (λ z=>hc (by simp[z])) e⟩) (λ _ _ e=>e) (λ _ _ _ e=>e) (λ b ps e=>⟨#[],by rw[e];simp⟩) (λ m hm=>?_) (λ b u e=>?_) I.bare
 ·have e:b=it:=by simpa using hb
  subst e;exact⟨h1,hL,h2,h3⟩
 ·obtain⟨o,es,ep,ho,r⟩:=hm
  exact⟨o,es,ep,k _ o (Ne.symm hL) ho,r⟩
 ·refine(I.hok b u e).stay (λ c v hc q=>k c v ?_ q) (λ _ q=>q) λ _ _ q=>q
  rcases hc with z|z
  ·rw[z];exact nit b u e
  ·exact nit c _ z
theorem Inv.tok (I:Inv X pins σ H s)(t:Nat):Inv X pins σ H { s with toks:=t }:=I.un (h':=s.heap) (t':=t) Un.refl I.hok
theorem Inv.kept {t':Nat}(I:Inv X pins σ H s)(k:∀ b u,s.heap.get? b=some u->h'.get? b=some u):Inv X pins σ H { s with heap:=h',toks:=t' }:=I.un (Un.kept k) (I.hok.kept k)
theorem Inv.laid {a:Addr}{o:HO}{t':Nat}(I:Inv X pins σ H s)(k:∀ b u,s.heap.get? b=some u->h'.get? b=some u)(hp:s.heap.objs.size<=a)(new:ObjOk X.prog X.w (upd H a o) h' a o):
  Inv X pins σ (upd H a o) { s with heap:=h',toks:=t' }:=I.un (Un.laid k hp (I.hok.fresh hp)) (I.hok.laid k hp new)
theorem Inv.write {x e:Addr}{o:HO}{t':Nat}(I:Inv X pins σ H s)(mu:Mut (H x))(he:e=x\/H e=some (.own x))(k:∀ b u,b≠e->s.heap.get? b=some u->h'.get? b=some u)(heo:∃ u,h'.get? e=some u)
  (new:ObjOk X.prog X.w (upd H x o) h' x o):Inv X pins σ (upd H x o) { s with heap:=h',toks:=t' }:=I.un (Un.write mu he k heo) (I.hok.write mu he k heo new)
theorem Inv.pins_of {pins':List (Addr×Obj)}(I:Inv X pins σ H s)(h:∀ p∈pins',s.heap.get? p.1=some p.2/\H p.1=none/\p.1≠X.env.locals/\p.1∉X.fs/\∀ v,p.2.data≠.cell v):Inv X pins' σ H s:=
 ⟨I.ok,I.os,I.bare,I.base,I.loc,I.cell,I.free,I.freeC,λ p hp=>(List.mem_append.mp hp).elim (λ z=>I.pin p (wB _ z)) (h p),I.hok,I.len⟩
theorem jE {N:List Str}(hN:N.Nodup){i j:Nat}{x:Str}(a:N[i]?=some x)(b:N[j]?=some x):i=j:=by
 obtain⟨h1,e1⟩:=List.getElem?_eq_some_iff.mp a;obtain⟨h2,e2⟩:=List.getElem?_eq_some_iff.mp b;exact(ya hN).mp (e1.trans e2.symm)
theorem ia {M:Model}{A:Around}{E:Value->Shared->Prop}{i:Nat}{x:Str}{v:V}{u:Value}{Q:Unit->Shared->Prop}(I:Inv X pins σ H s)(hN:X.N.Nodup)(hi:X.N[i]?=some x)(hx:Loc X.env.scope x)(r:RelV v u)
  (h:∀ s',Inv X pins (σ.set i (some v)) H s'->(∃ a,zS a s.heap s'.heap/\(a=X.env.locals\/X.env.cells.lookup x=some a))->Q () s') (hf:autoParam (X.fn x=true\/X.env.scope.names.lookup x=some .local) ZB._auto_1):wpAny M A (storeName X.env x u) Q E s:=by
 obtain⟨m,hn,hl⟩:=id I.loc;have hcls:(X.env.scope.kind == .class || (X.env.scope.kind == .module&&X.env.locals != X.env.globals))=false:=by rw[I.ok.kind];rfl
 have hiσ:i<σ.length:=by rw[I.len];exact(List.getElem?_eq_some_iff.mp hi).1
 have cne:=I.cne;have tracked:∀ {a:Addr} {h':Heap},(∃ o,s.heap.get? a=some o/\H a=none)->zS a s.heap h'->HOk X.prog X.w H h':=λ {a h'} ha hs b ob e=>by
  obtain⟨_,_,hfree⟩:=ha;refine(I.hok b ob e).stay (λ c w' hc q=>(hs.2 c ?_).trans q) (λ _ q=>q) λ _ _ q=>q
  rintro rfl
  rcases hc with rfl|hc
  ·rw[hfree] at e;cases e
  ·rw[hfree] at hc;cases hc
 rcases hx with hk|hk
 ·refine wpAny_storeName_local hk hn (λ h' hn' hs=>?_) hcls
  obtain⟨oL,_,_,hoL,_⟩:=id hn;refine h _ ⟨I.ok,I.os,I.bare,⟨λ b o e n hb hx=>?_,λ b o e n hb hx=>?_,I.base.free,λ b o e hx=>?_,I.base.tups,I.base.frzs,I.base.tbls⟩,⟨_,hn',λ j y v' e1 e2 e3=>?_⟩,λ y c e=>?_,I.free,I.freeC,λ p hp=>?_,tracked ⟨oL,hoL,I.free⟩ hs,by simpa using I.len⟩ ⟨_,hs,.inl rfl⟩
  ·exact(hs.2 b (wb (wq (yA e) I.ok.above))).trans (I.base.keep b o e n hb hx)
  ·obtain⟨sl,e1⟩:=I.base.slot b o e n hb hx
   exact⟨sl,(hs.2 b (wb (wq (yA e) I.ok.above))).trans e1⟩
  ·obtain⟨o',e1⟩:=I.base.there b o e hx
   exact⟨o',(hs.2 b (wb (wq (yA e) I.ok.above))).trans e1⟩
  ·by_cases hj:j=i
   ·subst hj
    rw[hi] at e1;cases e1;rw[wC hiσ] at e2;cases e2;exact⟨u,r,.inl ⟨hk,by simp⟩⟩
   ·rw[wI (Ne.symm hj)] at e2
    obtain⟨u',r',q⟩:=hl j y v' e1 e2 e3;refine⟨u',r',?_⟩
    rcases q with ⟨k,e⟩|⟨k,c,e,z⟩
    ·refine .inl ⟨k,?_⟩
     have:y≠x:=λ e=>hj (jE hN e1 (e▸hi))
     simp[this,e]
    ·exact .inr ⟨k,c,e,z.sameBut hs (cne y c e)⟩
  ·obtain⟨w',z⟩:=I.cell y c e
   exact⟨w',z.sameBut hs (cne y c e)⟩
  ·obtain⟨e,n,ne,nf,d⟩:=I.pin p hp
   exact⟨(hs.2 p.1 ne).trans e,n,ne,nf,d⟩
 ·have hfn:X.fn x=true:=by
   rcases hf with z|z
   ·exact z
   ·rw[z] at hk;cases hk
  obtain⟨c,hc⟩:=I.ok.has x (.inl hk);obtain⟨w',z⟩:=I.cell x c hc;refine wpAny_storeName_cell I.ok.kind hk hc z (λ h' hc' hs=>?_);obtain⟨oc,hoc,hocd⟩:=id z;refine h { s with heap:=h' } ⟨I.ok,I.os,I.bare,⟨λ b o e n hb hx=>?_,λ b o e n hb hx=>?_,I.base.free,λ b o e hx=>?_,I.base.tups,I.base.frzs,I.base.tbls⟩,⟨m,hn.sameBut hs (Ne.symm (cne x c hc)),λ j y v' e1 e2 e3=>?_⟩,λ y c' e=>?_,I.free,I.freeC,λ p hp=>?_,tracked ⟨oc,hoc,I.freeC x c hc⟩ hs,by simpa using I.len⟩ ⟨c,hs,.inr hc⟩
  ·exact(hs.2 b (wb (wq (yA e) (I.ok.cab x c hfn hc)))).trans (I.base.keep b o e n hb hx)
  ·obtain⟨sl,e1⟩:=I.base.slot b o e n hb hx
   exact⟨sl,(hs.2 b (wb (wq (yA e) (I.ok.cab x c hfn hc)))).trans e1⟩
  ·obtain⟨o',e1⟩:=I.base.there b o e hx
   exact⟨o',(hs.2 b (wb (wq (yA e) (I.ok.cab x c hfn hc)))).trans e1⟩
  ·by_cases hj:j=i
   ·subst hj
    rw[hi] at e1;cases e1;rw[wC hiσ] at e2;cases e2;exact⟨u,r,.inr ⟨.inl hk,c,hc,hc'⟩⟩
   ·rw[wI (Ne.symm hj)] at e2
    obtain⟨u',r',q⟩:=hl j y v' e1 e2 e3;refine⟨u',r',?_⟩
    rcases q with q|⟨k,c',e,z'⟩
    ·exact .inl q
    ·refine .inr ⟨k,c',e,z'.sameBut hs ?_⟩
     rintro rfl
     exact hj (jE hN e1 (I.ok.inj _ _ _ e hc▸hi))
  ·by_cases hcc:c'=c
   ·subst hcc;exact⟨_,hc'⟩
   ·obtain⟨w2,z2⟩:=I.cell y c' e
    exact⟨w2,z2.sameBut hs hcc⟩
  ·obtain⟨e,n,ne,nf,d⟩:=I.pin p hp
   refine⟨(hs.2 p.1 ?_).trans e,n,ne,nf,d⟩;intro q;rw[q,hoc] at e;have q':oc=p.2:=Option.some.inj e;exact d w' (by rw[<- q'];exact hocd)
theorem d8 {M:Model}{A:Around}{E:Value->Shared->Prop}{i:Nat}{x:Str}{v:V}{u:Value}{Q:Unit->Shared->Prop}(I:Inv X pins σ H s)(hN:X.N.Nodup)(hi:X.N[i]?=some x)(hx:Loc X.env.scope x)(r:RelV v u)
  (h:∀ s',Inv X pins (σ.set i (some v)) H s'->Q () s') (hf:autoParam (X.fn x=true\/X.env.scope.names.lookup x=some .local) ZB._auto_1):wpAny M A (storeName X.env x u) Q E s:=
 ia I hN hi hx r (λ s' I' _=>h s' I') hf
theorem Inv.call' {s':Shared}{ch:List Addr}(I:Inv X pins σ H s)(ho:s'.os=s.os)(u:Un (frs X.stack) ch H H' s.heap s'.heap)(hok:HOk X.prog X.w H' s'.heap)(hg:AllBare s'.gens)
  (hch:∀ b∈ch,(b∈X.ex\/X.s₀.heap.objs.size<=b)/\b≠X.env.locals/\(∀ x c,X.env.cells.lookup x=some c->c≠b)/\∀ p∈X.pn++pins,p.1≠b):Inv X pins σ H' s':=by
 obtain⟨h',g',d',t',o'⟩:=s';have e:o'=s.os:=ho;subst e;exact I.call (g':=g') (t':=t') (d':=d') u hok hg hch
end
abbrev XK:=Value->Option Addr->Hp->Prop
abbrev St:=List (Option V)
abbrev VK:=V->Hp->Prop
abbrev TE:=St->Hp->VK->Prop
abbrev TT:=St->Hp->(Bool->Hp->Prop)->Prop
abbrev TA:=St->Hp->(List V->Hp->Prop)->Prop
structure Ends where
 nx:St->Hp->Prop
 rt:VK
 bk:St->Hp->Prop:=λ _ _=>False
 ct:St->Hp->Prop:=λ _ _=>False
abbrev TS:=Ends->St->Hp->Prop
def EP (X:Cx)(pins:List (Addr×Obj))(σ:St)(Q:VK)(u:Value)(s':Shared):Prop:=∃ v H',Inv X pins σ H' s'/\RelV v u/\Q v H'
def TP (X:Cx)(pins:List (Addr×Obj))(σ:St)(Q:Bool->Hp->Prop)(b:Bool)(s':Shared):Prop:=∃ H',Inv X pins σ H' s'/\Q b H'
def AP (X:Cx)(pins:List (Addr×Obj))(σ:St)(Q:List V->Hp->Prop)(us:List Value)(s':Shared):Prop:=∃ vs H',Inv X pins σ H' s'/\Vals vs us/\Q vs H'
def SP (X:Cx)(pins:List (Addr×Obj))(D:Ends)(f:Flow)(s':Shared):Prop:=
 match f with
 | .next=>∃ σ' H',Inv X pins σ' H' s'/\D.nx σ' H'
 | .brk=>∃ σ' H',Inv X pins σ' H' s'/\D.bk σ' H'
 | .cont=>∃ σ' H',Inv X pins σ' H' s'/\D.ct σ' H'
 | .ret u=>∃ v σ' H',Inv X pins σ' H' s'/\RelV v u/\D.rt v H'
def PE (X:Cx)(e:Expr)(t:TE):Prop:=
 ∀ (pins:List (Addr×Obj)) (s:Shared) (σ:St) (H:Hp) (Q:VK),Inv X pins σ H s->t σ H Q->wpAny (model X.prog X.w) X.A (eval e X.env) (EP X pins σ Q) X.xe s
def PT (X:Cx)(e:Expr)(t:TT):Prop:=
 ∀ (pins:List (Addr×Obj)) (s:Shared) (σ:St) (H:Hp) (Q:Bool->Hp->Prop),Inv X pins σ H s->t σ H Q->wpAny (model X.prog X.w) X.A (isTrue e X.env (eval e X.env)) (TP X pins σ Q) X.xe s
def PW (X:Cx)(e:Expr)(t:TT):Prop:=
 ∀ (whole:Sem Value) (pins:List (Addr×Obj)) (s:Shared) (σ:St) (H:Hp) (Q:Bool->Hp->Prop),Inv X pins σ H s->t σ H Q->wpAny (model X.prog X.w) X.A (isTrue e X.env whole) (TP X pins σ Q) X.xe s
theorem PW.pt {X:Cx}{e:Expr}{t:TT}(h:PW X e t):PT X e t:=h _
def PA (X:Cx)(es:List Expr)(t:TA):Prop:=
 ∀ (pos:Pos) (pins:List (Addr×Obj)) (s:Shared) (σ:St) (H:Hp) (Q:List V->Hp->Prop),Inv X pins σ H s->t σ H Q->wpAny (model X.prog X.w) X.A (spliced (backTo pos (starEach es X.env))) (AP X pins σ Q) X.xe s
def PS (X:Cx)(st:Stmt)(t:TS):Prop:=
 ∀ (pins:List (Addr×Obj)) (s:Shared) (σ:St) (H:Hp) (D:Ends),Inv X pins σ H s->t D σ H->wpAny (model X.prog X.w) X.A (exec st X.env) (SP X pins D) X.xe s
def PSs (X:Cx)(st:List Stmt)(t:TS):Prop:=
 ∀ (pins:List (Addr×Obj)) (s:Shared) (σ:St) (H:Hp) (D:Ends),Inv X pins σ H s->t D σ H->wpAny (model X.prog X.w) X.A (execs st X.env) (SP X pins D) X.xe s
theorem thn {α:Type}{t:Sem α}{Q Q':α->Shared->Prop}{M:Model}{A:Around}{E:Value->Shared->Prop}{s:Shared}(h:wpAny M A t Q E s)(hQ:∀ a s,Q a s->Q' a s):wpAny M A t Q' E s:=yC h hQ λ _ _ x=>x
section
variable {X:Cx}
def aZ (i:Nat):TE:=λ σ H Q=>∃ v,σ[i]?=some (some v)/\Q v H
def tC (v:V):TE:=λ _ H Q=>Q v H
theorem cJ {i:Nat}{x:Str}{pos:Pos}(hN:X.N[i]?=some x)(hv:Vis X.env.scope x)(hd:autoParam ((x == ("__debug__":Str))=false) ZC._auto_1)(hcd:autoParam ((x == ("__classdict__":Str))=false) ZC._auto_1):PE X (.Name x pos) (aZ i):=by
 intro pins s σ H Q I h;obtain⟨v,e,h⟩:=h;obtain⟨m,hn,hl⟩:=I.loc;obtain⟨u,r,l⟩:=hl i x v hN e hv;have fin:EP X pins σ Q u s:=⟨v,H,I,r,h⟩
 rcases l with ⟨hk,hm⟩|⟨hk,c,hc,hcell⟩
 ·exact wpAny_Name (Bc I.ok.kind hk hn hm fin) hd
 ·rcases hk with hk|hk
  ·exact wpAny_Name (Bn I.ok.kind hk hc hcell fin) hd
  ·exact wpAny_Name (wpAny_loadName_free I.ok.kind hk hc hcell fin hcd) hd
theorem mM {i j pos}:PE X (.Constant (.int i) j pos) (tC (.int i)):=λ _ _ _ H _ I h=>wpAny_Constant_int ⟨.int i,H,I.tok _,⟨_,rfl⟩,h⟩
theorem vj {b j pos}:PE X (.Constant (.bool b) j pos) (tC (.bl b)):=λ _ _ _ H _ I h=>Constant_bool ⟨.bl b,H,I,rfl,h⟩
theorem jY {x j pos}:PE X (.Constant (.str x) j pos) (tC (.str x)):=λ _ _ _ H _ I h=>Calls.Constant_str ⟨.str x,H,I.tok _,⟨_,rfl⟩,h⟩
def Gl (X:Cx)(x:Str):Prop:=X.env.kindOf x=some .globalImplicit
theorem cI {E:Value->Shared->Prop}{pins:List (Addr×Obj)}{s:Shared}{σ:St}{H:Hp}{x:Str}{u:Value}{pos:Pos}{Q:Value->Shared->Prop}(I:Inv X pins σ H s)(hg:Gl X x)(hm:X.mg x=some u)(h:Q u s)
  (hd:autoParam ((x == ("__debug__":Str))=false) ZC._auto_1):wpAny (model X.prog X.w) X.A (eval (.Name x pos) X.env) Q E s:=
 AC I.ok.kind hg (Calls.loadGlobal_global (by rw[I.ok.glob];exact I.mod.glob.keeps I.bk) hm h) hd
theorem cD {E:Value->Shared->Prop}{pins:List (Addr×Obj)}{s:Shared}{σ:St}{H:Hp}{x:Str}{u:Value}{pos:Pos}{Q:Value->Shared->Prop}(I:Inv X pins σ H s)(hg:Gl X x)(hm:X.mg x=none)(hv:bootBuiltins x=some u)(h:Q u s)
  (hn:autoParam (x≠"__name__") ZC._auto_1) (hd:autoParam ((x == ("__debug__":Str))=false) ZC._auto_1):wpAny (model X.prog X.w) X.A (eval (.Name x pos) X.env) Q E s:=by
 obtain⟨mb,h1,h2⟩:=I.mod.blt;exact AC I.ok.kind hg (Calls.loadGlobal_builtin (by rw[I.ok.glob];exact I.mod.glob.keeps I.bk) hm (by rw[I.ok.blt];exact h1.keeps I.bk) ((h2 x hn).trans hv) h) hd
theorem cm {x:Str}{v:V}{u:Value}{pos:Pos}(hg:Gl X x)(hm:X.mg x=some u)(r:RelV v u)(hd:autoParam ((x == ("__debug__":Str))=false) ZC._auto_1):PE X (.Name x pos) (tC v):=
 λ _ _ _ H _ I h=>cI I hg hm ⟨v,H,I,r,h⟩ hd
theorem ko {x:Str}{v:V}{u:Value}{pos:Pos}(hg:Gl X x)(hm:X.mg x=none)(hv:bootBuiltins x=some u)(r:RelV v u)(hn:autoParam (x≠"__name__") ZC._auto_1)(hd:autoParam ((x == ("__debug__":Str))=false) ZC._auto_1):PE X (.Name x pos) (tC v):=
 λ _ _ _ H _ I h=>cD I hg hm hv ⟨v,H,I,r,h⟩ hn hd
variable {a b:Expr}{ta tb:TE}{pos:Pos}
def PC (X:Cx)(op:CmpOp)(a b:Expr)(t:TE):Prop:=
 ∀ (pins:List (Addr×Obj)) (s:Shared) (σ:St) (H:Hp) (Q:VK),Inv X pins σ H s->t σ H Q ->
  wpAny (model X.prog X.w) X.A (eval a X.env) (λ v s₁=>wpAny (model X.prog X.w) X.A (eval b X.env) (λ u s₂=>wpAny (model X.prog X.w) X.A (compareOp op v u) (EP X pins σ Q) X.xe s₂) X.xe s₁) X.xe s
def tB (t:TE):TT:=λ σ H Q=>t σ H λ x H1=>∃ c,x=.bl c/\Q c H1
theorem oj {op:CmpOp}{t:TE}(h:PC X op a b t)(h1:autoParam (behindInMarks op b=false) ZD._auto_1):PT X (.Compare a [op] [b] pos) (tB t):=by
 intro pins s σ H Q I hw;refine A5 (thn (h pins s σ H _ I hw) λ v s1 h1=>thn h1 λ u s2 h2=>thn h2 λ c s3 ⟨x,H1,I1,r1,q1⟩=>?_) h1;obtain⟨d,rfl,q⟩:=q1;cases r1;exact zG ⟨H1,I1,q⟩
theorem t6 {e:Expr}{t:TE}(h:PE X e t)(he:autoParam (∀ whole,isTrue e X.env whole=(do let v <- whole;standAt e.pos;holding [v] (truthy v))) ZE._auto_1):PT X e (tB t):=by
 intro pins s σ H Q I hw;refine isTrue_plain (thn (h pins s σ H _ I hw) λ v s1 ⟨x,H1,I1,r1,q1⟩=>?_) (he _);obtain⟨d,rfl,q⟩:=q1;cases r1;exact zG ⟨H1,I1,q⟩
variable {tA tB':TT}{rest:List Expr}
def uL (t u:TT):TT:=λ σ H Q=>t σ H λ c H1=>if c=true then u σ H1 Q else Q false H1
def tOr (t u:TT):TT:=λ σ H Q=>t σ H λ c H1=>if c=true then Q true H1 else u σ H1 Q
def vM (t:TT):TT:=λ σ H Q=>t σ H λ c H1=>Q (!c) H1
theorem kB (ha:PT X a tA):PW X (.BoolOp .And [a] pos) tA:=by
 intro wh pins s σ H Q I h;refine isTrue_and (thn (ha pins s σ H Q I h) λ c s1 e=>?_);cases c with
 | true=>exact isTrue_and_nil e
 | false=>exact e
theorem tJ (ha:PT X a tA):PW X (.BoolOp .Or [a] pos) tA:=by
 intro wh pins s σ H Q I h;refine isTrue_or (thn (ha pins s σ H Q I h) λ c s1 e=>?_);cases c with
 | false=>exact isTrue_or_nil e
 | true=>exact e
theorem oy (ha:PT X a tA)(hb:PW X (.BoolOp .And (b::rest) pos) tB'):PW X (.BoolOp .And (a::b::rest) pos) (uL tA tB'):=by
 intro wh pins s σ H Q I h;refine isTrue_and (thn (ha pins s σ H _ I h) λ c s1 ⟨H1,I1,q1⟩=>?_);cases c with
 | true=>exact hb wh pins s1 σ H1 Q I1 q1
 | false=>exact⟨H1,I1,q1⟩
theorem vt (ha:PT X a tA)(hb:PW X (.BoolOp .Or (b::rest) pos) tB'):PW X (.BoolOp .Or (a::b::rest) pos) (tOr tA tB'):=by
 intro wh pins s σ H Q I h;refine isTrue_or (thn (ha pins s σ H _ I h) λ c s1 ⟨H1,I1,q1⟩=>?_);cases c with
 | true=>exact⟨H1,I1,q1⟩
 | false=>exact hb wh pins s1 σ H1 Q I1 q1
theorem tw (ha:PT X a tA):PT X (.UnaryOp .Not a pos) (vM tA):=by
 intro pins s σ H Q I h;exact isTrue_not (ha pins s σ H (λ c H1=>Q (!c) H1) I h)
def tIf (t:TT)(ta tb:TE):TE:=λ σ H Q=>t σ H λ c H1=>if c=true then ta σ H1 Q else tb σ H1 Q
theorem nP {c:Expr}(hc:PT X c tA)(ha:PE X a ta)(hb:PE X b tb):PE X (.IfExp c a b pos) (tIf tA ta tb):=by
 intro pins s σ H Q I h;refine wpAny_IfExp (thn (hc pins s σ H _ I h) λ d s1 ⟨H1,I1,q1⟩=>?_);cases d with
 | true=>exact ha pins s1 σ H1 Q I1 q1
 | false=>exact hb pins s1 σ H1 Q I1 q1
end
def SqL (K:yy)(H:Hp)(a:Addr)(xs:List V):Prop:=
 Rd H a (.lst xs) \/
  ∃ (o:Obj) (its:Array Value) (n:Nat),K.lookup a=some o/\o.cls=.type "list"/\o.dict=none/\o.data=.seq its n/\its.size<=sizeLine/\Vals xs its.toList
def SqT (K:yy)(H:Hp)(a:Addr)(xs:List V):Prop:=
 Rd H a (.tup xs) \/
  ∃ (o:Obj) (its:Array Value) (n:Nat),K.lookup a=some o/\o.cls=.type "tuple"/\o.data=.seq its n/\its.size<=sizeLine/\Vals xs its.toList
def vS:Value->Option V
 | .none=>some .non
 | .bool b=>some (.bl b)
 | .int i _=>some (.int i)
 | .str x _=>some (.str x)
 | .bytes b _=>some (.byt b)
 | .float b _=>some (.flt b)
 | .ref a=>some (.ref a)
 | .type n=>some (.ty n)
 | _=>none
theorem RelV.abs {x:V}{u:Value}(r:RelV x u):vS u=some x:=by
 cases x with
 | non=>cases r;rfl
 | bl _=>cases r;rfl
 | int _=>obtain⟨t,rfl⟩:=r;rfl
 | str _=>obtain⟨t,rfl⟩:=r;rfl
 | byt _=>obtain⟨t,rfl⟩:=r;rfl
 | flt _=>obtain⟨t,rfl⟩:=r;rfl
 | ref _=>cases r;rfl
 | ty _=>cases r;rfl
theorem RelV.inj {x y:V}{u:Value}(r:RelV x u)(q:RelV y u):x=y:=Option.some.inj (r.abs.symm.trans q.abs)
theorem Vals.inj {xs ys:List V}{us:List Value}(q:Vals xs us)(p:Vals ys us):xs=ys:=by
 induction q generalizing ys with
 | nil=>cases p;rfl
 | cons r t ih=>
  cases p with
  | cons r' t'=>rw[r.inj r',ih t']
section
variable {X:Cx}{pins:List (Addr×Obj)}{σ:St}{H:Hp}{s:Shared}{a:Addr}{xs ys:List V}
theorem SqL.of {K:yy}(h:H a=some (.lst xs)):SqL K H a xs:=.inl (.inl h)
theorem Inv.list (I:Inv X pins σ H s)(h:SqL X.K H a xs):∃ its:List Value,Vals xs its/\PlainL s.heap a its.toArray/\xs.length<=sizeLine:=by
 rcases h with h|⟨o,its,n,hk,hc,hd,hs,hz,r⟩
 ·obtain⟨z,its,n,r,e⟩:=h.ok I.hok
  exact⟨its,r,⟨_,n,e,rfl,rfl,rfl⟩,z⟩
 ·refine⟨its.toList,r,⟨o,n,I.kIn a o hk,hc,hd,by simpa using hs⟩,?_⟩
  have e:=r.length;simp only[zz] at e;omega
theorem Inv.tuple (I:Inv X pins σ H s)(h:SqT X.K H a xs):∃ its:List Value,Vals xs its/\IsTup s.heap a its.toArray/\xs.length<=sizeLine:=by
 rcases h with h|⟨o,its,n,hk,hc,hs,hz,r⟩
 ·obtain⟨z,its,r,p⟩:=h.ok I.hok
  exact⟨its,r,p,z⟩
 ·refine⟨its.toList,r,⟨o,I.kIn a o hk,hc,n,by simpa using hs⟩,?_⟩
  have e:=r.length;simp only[zz] at e;omega
theorem Inv.list_inj (I:Inv X pins σ H s)(h:SqL X.K H a xs)(h':SqL X.K H a ys):xs=ys:=by
 obtain⟨its,r,⟨o,n,e,_,_,d⟩,_⟩:=I.list h;obtain⟨its',r',⟨o',n',e',_,_,d'⟩,_⟩:=I.list h';rw[e] at e';cases e';rw[d] at d';injection d' with d1 _
 have:its=its':=by simpa using congrArg Array.toList d1
 subst this;exact r.inj r'
end
section
variable {X:Cx}{st:Stmt}{rest:List Stmt}{t u:TS}{e:Expr}{te:TE}{pos:Pos}
def eJ:TS:=λ D σ H=>D.nx σ H
def cP (t u:TS):TS:=λ D σ H=>t { D with nx:=u D } σ H
theorem bW:PSs X [] eJ:=λ _ _ σ H _ I h=>zR ⟨σ,H,I,h⟩
theorem aG (h1:PS X st t)(h2:PSs X rest u):PSs X (st::rest) (cP t u):=by
 intro pins s σ H D I h;refine wpAny_execs_cons (thn (h1 pins s σ H { D with nx:=u D } I h) λ f s1 q=>?_);cases f with
 | next=>
  obtain⟨σ',H',I',q⟩:=q;exact h2 pins s1 σ' H' D I' q
 | ret v=>exact q
 | brk=>exact q
 | cont=>exact q
theorem aS (h1:PS X st t):PSs X [st] t:=by
 intro pins s σ H D I h;refine wpAny_execs_cons (thn (h1 pins s σ H D I h) λ f s1 q=>?_);cases f with
 | next=>exact zR q
 | ret v=>exact q
 | brk=>exact q
 | cont=>exact q
theorem Inv.quiet {pins:List (Addr×Obj)}{σ:St}{H:Hp}{s:Shared}(I:Inv X pins σ H s):interactive X.env=false:=by simp[interactive,I.ok.kind]
def k9 (te:TE):TS:=λ D σ H=>te σ H λ _ H1=>D.nx σ H1
theorem cE (he:PE X e te)(hs:autoParam (swapsWith e none pos.line X.env=pure false) ZF._auto_1):PS X (.Expr e pos) (k9 te):=by
 intro pins s σ H D I h;exact wpAny_Expr_any (thn (he pins s σ H _ I h) λ v s1 ⟨x,H1,I1,r1,q1⟩=>⟨σ,H1,I1,q1⟩) I.quiet hs
def i6 (te:TE):TS:=λ D σ H=>te σ H D.rt
theorem cw (he:PE X e te):PS X (.Return (some e) pos) (i6 te):=by
 intro pins s σ H D I h;exact wpAny_Return_some (thn (he pins s σ H _ I h) λ v s1 ⟨x,H1,I1,r1,q1⟩=>⟨x,σ,H1,I1,r1,q1⟩)
def iV (c:TT)(t u:TS):TS:=λ D σ H=>c σ H λ b H1=>if b=true then t D σ H1 else u D σ H1
theorem eh {c:Expr}{a b:List Stmt}{tc:TT}(hc:PT X c tc)(ha:PSs X a t)(hb:PSs X b u):PS X (.If c a b pos) (iV tc t u):=by
 intro pins s σ H D I h;refine wpAny_If (thn (hc pins s σ H _ I h) λ d s1 ⟨H1,I1,q1⟩=>?_);cases d with
 | true=>exact ha pins s1 σ H1 D I1 q1
 | false=>exact hb pins s1 σ H1 D I1 q1
def rO:TS:=λ _ _ _=>False
theorem dh {sts:List Stmt}:PSs X sts rO:=λ _ _ _ _ _ _ h=>h.elim
end
abbrev TG:=V->St->Hp->(St->Hp->Prop)->Prop
abbrev TGs:=List V->St->Hp->(St->Hp->Prop)->Prop
def PG (X:Cx)(target:Expr)(t:TG):Prop:=
 ∀ (pins:List (Addr×Obj)) (s:Shared) (σ:St) (H:Hp) (v:V) (u:Value) (Q:St->Hp->Prop),Inv X pins σ H s->RelV v u->t v σ H Q ->
  wpAny (model X.prog X.w) X.A (assign target X.env u) (λ _ s'=>∃ σ' H',Inv X pins σ' H' s'/\Q σ' H') X.xe s
def PGs (X:Cx)(ts:List Expr)(t:TGs):Prop:=
 ∀ (pins:List (Addr×Obj)) (s:Shared) (σ:St) (H:Hp) (vs:List V) (us:List Value) (Q:St->Hp->Prop),Inv X pins σ H s->Vals vs us->t vs σ H Q ->
  wpAny (model X.prog X.w) X.A (assignInOrder ((assignEach ts X.env).map (·.2)) us) (λ _ s'=>∃ σ' H',Inv X pins σ' H' s'/\Q σ' H') X.xe s
abbrev mC:=V->V->V->Hp->(Hp->Prop)->Prop
def tN (X:Cx)(t:mC):Prop:=
 ∀ (pins:List (Addr×Obj)) (s:Shared) (σ:St) (H:Hp) (o i v:V) (ov iv u:Value) (Q:Hp->Prop),Inv X pins σ H s->RelV o ov->RelV i iv->RelV v u->t o i v H Q ->
  wpAny (model X.prog X.w) X.A (setItem ov iv u) (λ _ s'=>∃ H',Inv X pins σ H' s'/\Q H') X.xe s
abbrev TIp:=V->V->Hp->VK->Prop
def PIp (X:Cx)(op:Operator)(t:TIp):Prop:=
 ∀ (pins:List (Addr×Obj)) (s:Shared) (σ:St) (H:Hp) (x y:V) (v u:Value) (Q:VK),Inv X pins σ H s->RelV x v->RelV y u->t x y H Q ->
  wpAny (model X.prog X.w) X.A (inplaceOp op v u) (EP X pins σ Q) X.xe s
section
variable {X:Cx}{pos:Pos}
def gp (i:Nat):TG:=λ v σ H Q=>Q (σ.set i (some v)) H
theorem eB {i:Nat}{x:Str}(hN:X.N.Nodup)(hi:X.N[i]?=some x)(hx:Loc X.env.scope x)(hf:autoParam (X.fn x=true\/X.env.scope.names.lookup x=some .local) ZB._auto_1):PG X (.Name x pos) (gp i):=by
 intro pins s σ H v u Q I r h;exact wpAny_assign_Name (d8 I hN hi hx r (λ s' I'=>⟨_,H,I',h⟩) hf)
def u7:TGs:=λ vs σ H Q=>vs=[]/\Q σ H
def rm (t:TG)(u:TGs):TGs:=λ vs σ H Q=>∃ v r,vs=v::r/\t v σ H λ σ' H'=>u r σ' H' Q
theorem kL:PGs X [] u7:=by
 intro pins s σ H vs us Q I r h;obtain⟨e,h⟩:=h;subst e;cases r;exact assignInOrder_nil ⟨σ,H,I,h⟩
theorem ju {e:Expr}{es:List Expr}{t:TG}{u:TGs}(h1:PG X e t)(h2:PGs X es u)
  (hs:autoParam ((assignEach (e::es) X.env).map (·.2)=assign e X.env::(assignEach es X.env).map (·.2)) ZF._auto_1):PGs X (e::es) (rm t u):=by
 intro pins s σ H vs us Q I r h;obtain⟨v,vr,e1,h⟩:=h;subst e1;cases r with
 | cons r rr=>
  rw[hs];refine assignInOrder_cons (thn (h1 pins s σ H _ _ _ I r h) λ _ s1 ⟨σ1,H1,I1,q1⟩=>?_);exact h2 pins s1 σ1 H1 _ _ Q I1 rr q1
def uo (K:yy)(n:Nat)(t:TGs):TG:=λ v σ H Q=>∃ a xs,v=.ref a/\SqT K H a xs/\xs.length=n/\t xs σ H Q
theorem o6 {es:List Expr}{k:Nat}{t:TGs}{n:Nat}(hc:X.calm=true)(h:PGs X es t)
  (hn:autoParam ((assignEach es X.env).length=n) ZF._auto_1) (hst:autoParam ((assignEach es X.env).findIdx? (·.1)=none) ZF._auto_1):PG X (.Tuple es k pos) (uo X.K n t):=by
 intro pins s σ H v u Q I r hw;obtain⟨a,xs,e1,hq,hl,hw⟩:=hw;subst e1;cases r;obtain⟨its,rv,ht,hz⟩:=I.tuple hq;refine assign_Tuple_tuple (I.ok.hd hc) ht (by simp[hn,<- hl,rv.length]) hst λ h' hx=>?_
 have I1:Inv X pins σ H { s with heap:=h' }:=I.kept (t':=s.toks) λ b o e=>hx b o (wb (yA e)) e
 exact h pins _ σ H xs _ Q I1 (by simpa using rv) hw
def vL (to ti:TE)(t:mC):TG:=λ v σ H Q=>to σ H λ o H1=>ti σ H1 λ i H2=>t o i v H2 λ H3=>Q σ H3
theorem tG {o i:Expr}{to ti:TE}{t:mC}(ho:PE X o to)(hi:PE X i ti)(hs:tN X t)
  (ha:autoParam (∀ v,assign (.Subscript o i pos) X.env v=(do
   let ov <- holding [v] (eval o X.env)
   let iv <- holding [v,ov] (eval i X.env)
   standAt pos
   holding [v,ov,iv] (setItem ov iv v)
   release [v,ov,iv] [])) ZE._auto_1):PG X (.Subscript o i pos) (vL to ti t):=by
 intro pins s σ H v u Q I r h;rw[ha];refine yz (zj (thn (ho pins s σ H _ I h) λ ov s1 ⟨x,H1,I1,r1,q1⟩=>?_));refine yz (zj (thn (hi pins s1 σ H1 _ I1 q1) λ iv s2 ⟨y,H2,I2,r2,q2⟩=>?_));refine yz (Aa (yz (zj (thn (hs pins s2 σ H2 x y v ov iv u _ I2 r1 r2 r q2) λ _ s3 ⟨H3,I3,q3⟩=>?_))));exact wpAny_release ⟨σ,H3,I3,q3⟩
def lU (te:TE)(g:TG):TS:=λ D σ H=>te σ H λ x H1=>g x σ H1 D.nx
theorem sU {tg e:Expr}{te:TE}{g:TG}(he:PE X e te)(hg:PG X tg g)(hs:autoParam (swapsWithSole [tg] e pos.line X.env=pure false) ZF._auto_1)(hw:autoParam (swappedStores [tg] e X.env=pure none) ZF._auto_1)
  (h1:autoParam ((assignEach [tg] X.env).map (·.2)=[assign tg X.env]) ZF._auto_1):PS X (.Assign [tg] e pos) (lU te g):=by
 intro pins s σ H D I h;refine wpAny_Assign_stores (thn (he pins s σ H _ I h) λ v s1 ⟨x,H1,I1,r1,q1⟩=>?_) hs hw;rw[h1];exact thn (hg pins s1 σ H1 x v _ I1 r1 q1) λ _ s2 q=>q
theorem dG {i:Nat}{x:Str}{e:Expr}{te:TE}{pos':Pos}(hN:X.N.Nodup)(hi:X.N[i]?=some x)(hx:Loc X.env.scope x)(he:PE X e te)(hs:autoParam (swapsWith e (some (.Name x pos')) pos.line X.env=pure false) ZF._auto_1)(hf:autoParam (X.fn x=true\/X.env.scope.names.lookup x=some .local) ZB._auto_1):
  PS X (.Assign [.Name x pos'] e pos) (lU te (gp i)):=by
 intro pins s σ H D I h;refine wpAny_Assign_Name (thn (he pins s σ H _ I h) λ v s1 ⟨y,H1,I1,r1,q1⟩=>?_) hs;exact d8 I1 hN hi hx r1 (λ s2 I2=>⟨_,H1,I2,q1⟩) hf
def vK (i:Nat)(te:TE)(ti:TIp):TS:=λ D σ H=>∃ x,σ[i]?=some (some x)/\te σ H λ y H1=>ti x y H1 λ z H2=>D.nx (σ.set i (some z)) H2
theorem tU {i:Nat}{x:Str}{e:Expr}{te:TE}{op:Operator}{ti:TIp}{pos':Pos}(hN:X.N.Nodup)(hi:X.N[i]?=some x)(hx:Loc X.env.scope x)(he:PE X e te)(ho:PIp X op ti)(hf:autoParam (X.fn x=true\/X.env.scope.names.lookup x=some .local) ZB._auto_1):
  PS X (.AugAssign (.Name x pos') op e pos) (vK i te ti):=by
 intro pins s σ H D I h;obtain⟨v,e1,h⟩:=h;obtain⟨m,hn,hl⟩:=I.loc;have vis:Vis X.env.scope x:=by rcases hx with k|k;exact .inl k;exact .inr (.inl k)
 obtain⟨u,r,l⟩:=hl i x v hi e1 vis;refine wpAny_AugAssign_Name ?_
 have go:wpAny (model X.prog X.w) X.A (eval e X.env) (λ w s₂=>wpAny (model X.prog X.w) X.A (inplaceOp op u w) (λ r s₃=>wpAny (model X.prog X.w) X.A (storeName X.env x r) (λ _=>SP X pins D .next) X.xe s₃) X.xe s₂) X.xe s:=by
  refine thn (he pins s σ H _ I h) λ w s1 ⟨y,H1,I1,r1,q1⟩=>?_
  refine thn (ho pins s1 σ H1 v y u w _ I1 r r1 q1) λ z s2 ⟨zv,H2,I2,r2,q2⟩=>?_
  exact d8 I2 hN hi hx r2 (λ s3 I3=>⟨_,H2,I3,q2⟩) hf
 rcases l with ⟨hk,hm⟩|⟨hk,c,hc,hcell⟩
 ·exact Bc I.ok.kind hk hn hm go
 ·rcases hk with hk|hk
  ·exact Bn I.ok.kind hk hc hcell go
  ·rcases hx with k|k
   ·have:X.env.scope.names.lookup x=some .free:=hk
    rw[k] at this;cases this
   ·have:X.env.scope.names.lookup x=some .free:=hk
    rw[k] at this;cases this
def vE (to ti te:TE)(tget:V->V->Hp->VK->Prop)(tip:TIp)(tset:mC):TS:=λ D σ H=>to σ H λ o H1=>ti σ H1 λ i H2=>tget o i H2 λ x H3=>te σ H3 λ y H4=>tip x y H4 λ z H5=>tset o i z H5 λ H6=>D.nx σ H6
def vw (X:Cx)(t:V->V->Hp->VK->Prop):Prop:=
 ∀ (pins:List (Addr×Obj)) (s:Shared) (σ:St) (H:Hp) (o i:V) (ov iv:Value) (Q:VK),Inv X pins σ H s->RelV o ov->RelV i iv->t o i H Q ->
  wpAny (model X.prog X.w) X.A (getItem ov iv) (EP X pins σ Q) X.xe s
theorem pK {o i e:Expr}{to ti te:TE}{tget:V->V->Hp->VK->Prop}{tip:TIp}{tset:mC}{op:Operator}{tpos:Pos}(ho:PE X o to)(hi:PE X i ti)(hg:vw X tget)(he:PE X e te)(hp:PIp X op tip)(hs:tN X tset)
  (ha:autoParam (∀ ov iv new,augStore i ov iv new=(do holding [new,ov,iv] (setItem ov iv new);release [new,ov,iv] [];pure .next)) ZG._auto_1):PS X (.AugAssign (.Subscript o i tpos) op e pos) (vE to ti te tget tip tset):=by
 intro pins s σ H D I h;refine wpAny_AugAssign_SubscriptAny (thn (ho pins s σ H _ I h) λ ov s1 ⟨x1,H1,I1,r1,q1⟩=>?_) ha;refine thn (hi pins s1 σ H1 _ I1 q1) λ iv s2 ⟨x2,H2,I2,r2,q2⟩=>?_
 refine thn (hg pins s2 σ H2 x1 x2 ov iv _ I2 r1 r2 q2) λ old s3 ⟨x3,H3,I3,r3,q3⟩=>?_
 refine thn (he pins s3 σ H3 _ I3 q3) λ v s4 ⟨x4,H4,I4,r4,q4⟩=>?_
 refine thn (hp pins s4 σ H4 x3 x4 old v _ I4 r3 r4 q4) λ new s5 ⟨x5,H5,I5,r5,q5⟩=>?_
 exact thn (hs pins s5 σ H5 x1 x2 x5 ov iv new _ I5 r1 r2 r5 q5) λ _ s6 ⟨H6,I6,q6⟩=>⟨σ,H6,I6,q6⟩
def ipI (f:Int->Int->Int):TIp:=λ x y H Q=>∃ i j,x=.int i/\y=.int j/\Q (.int (f i j)) H
theorem o7:PIp X .Sub (ipI λ i j=>i-j):=by
 intro pins s σ H x y v u Q I r1 r2 h;obtain⟨i,j,e1,e2,q⟩:=h;subst e1;subst e2;obtain⟨t,rfl⟩:=r1;obtain⟨t',rfl⟩:=r2;exact isub_int ⟨.int _,H,I.tok _,⟨_,rfl⟩,q⟩
end
section
variable {X:Cx}{pos:Pos}
def sT (c:TT)(tb:TS):TS:=λ D σ H=>∃ W:Nat->St->Hp->Prop,(∃ m,W m σ H)/\∀ m σ H,W m σ H ->
 c σ H λ b H1=>if b=true then ∃ N:St->Hp->Prop,(∀ σ' H',N σ' H'->∃ m',m'<m/\W m' σ' H')/\tb { D with nx:=N,ct:=N,bk:=D.nx } σ H1 else D.nx σ H1
theorem mW {c:Expr}{body:List Stmt}{tc:TT}{tb:TS}(hp:PassesOwn (model X.prog X.w) X.A X.env X.xe)(hc:PT X c tc)(hb:PSs X body tb):PS X (.While c body [] pos) (sT tc tb):=by
 intro pins s σ H D I h;obtain⟨W,⟨m0,w0⟩,turn⟩:=h;refine wpAny_While (codeAny_whileLoop (λ n s'=>∃ σ' H',Inv X pins σ' H' s'/\W n σ' H') ?_ m0 ⟨σ,H,I,w0⟩)
 rintro n s1 ⟨σ1,H1,I1,w1⟩
 refine zq hp (thn (hc pins s1 σ1 H1 _ I1 (turn n σ1 H1 w1)) λ b s2 ⟨H2,I2,q2⟩=>?_);cases b with
 | true=>
  obtain⟨N,hN,q2⟩:=q2;rw[if_pos rfl];refine zq hp (thn (hb pins s2 σ1 H2 _ I2 q2) λ f s3 q3=>?_);cases f with
  | next=>
   obtain⟨σ3,H3,I3,n3⟩:=q3;obtain⟨m',hm,w3⟩:=hN σ3 H3 n3;exact⟨m',hm,σ3,H3,I3,w3⟩
  | cont=>
   obtain⟨σ3,H3,I3,n3⟩:=q3;obtain⟨m',hm,w3⟩:=hN σ3 H3 n3;exact⟨m',hm,σ3,H3,I3,w3⟩
  | brk=>exact q3
  | ret v=>exact q3
 | false=>
  rw[if_neg wo];exact zR ⟨σ1,H2,I2,q2⟩
end
structure It where
 go:Nat->Hp->Prop
 yld:Nat->Hp->V->Hp->Prop
 stop:Nat->Hp->Prop
def eG (X:Cx)(pins:List (Addr×Obj))(H:Hp)(b:Addr):Prop:=
 H b=none/\b≠X.env.locals/\b∉X.fs/\(b∈X.ex\/X.s₀.heap.objs.size<=b)/\(∀ x c,X.env.cells.lookup x=some c->c≠b)/\∀ p∈X.pn++pins,p.1≠b
theorem Inv.fpOk {X:Cx}{pins:List (Addr×Obj)}{σ:St}{H H':Hp}{s:Shared}{b:Addr}(I:Inv X pins σ H s)(hb:s.heap.objs.size<=b)(hn:H' b=none):eG X pins H' b:=by
 refine⟨hn,w9 (wq I.lt hb),I.nofs hb,.inr (wK I.sz hb),λ x c e z=>?_,λ p hp z=>?_⟩
 ·obtain⟨v,q⟩:=I.cell x c e
  exact absurd (wq q.lt (by rw[z];exact hb)) (wH _)
 ·exact absurd (wq (yA (I.pin p hp).1) (by rw[z];exact hb)) (wH _)
structure Turn (P:Program)(w:World)(K:yy)(tg:Expr)(J:It)(fp:List Addr)(it:Addr)(tn:Nat->Heap->Prop):Prop where
 mem:it∈fp
 obj:∀ i h,tn i h->∀ b∈fp,∃ o,h.get? b=some o/\∀ v,o.data≠.cell v
 keep:∀ i h h',tn i h->(∀ b∈fp,∀ o,h.get? b=some o->h'.get? b=some o)->tn i h'
 item:∀ (X:Cx),X.prog=P->X.w=w->X.K=K->X.calm=true->∀ (i:Nat) (pins:List (Addr×Obj)) (s:Shared) (σ:St) (H:Hp) (E:Value->Shared->Prop),Inv X pins σ H s->(∀ b∈fp,eG X pins H b)->tn i s.heap->J.go i H ->
  wpAny (model P w) X.A (pyNext (.ref it)) (λ r s1=>∃ u,r=some u /\
   wpAny (model P w) X.A (letOwnedTupleGo tg (.ref it) u) (λ _ s2=>∃ x H',Inv X pins σ H' s2/\RelV x u/\J.yld i H x H'/\tn (i+1) s2.heap/\∀ b∈fp,H' b=none) E s1) E s
 done:∀ (X:Cx),X.prog=P->X.w=w->X.K=K->X.calm=true->∀ (i:Nat) (pins:List (Addr×Obj)) (s:Shared) (σ:St) (H:Hp) (E:Value->Shared->Prop),Inv X pins σ H s->(∀ b∈fp,eG X pins H b)->tn i s.heap->J.stop i H ->
  wpAny (model P w) X.A (pyNext (.ref it)) (λ r s1=>r=none/\Inv X pins σ H s1) E s
 self:∀ (A:Around) (i:Nat) (s:Shared) (Q:Value->Shared->Prop) (E:Value->Shared->Prop),tn i s.heap->Q (.ref it) s->wpAny (model P w) A (pyIter (.ref it)) Q E s
abbrev TI:=St->Hp->(It->Hp->Prop)->Prop
def PIE (X:Cx)(pins:List (Addr×Obj))(σ:St)(tg:Expr)(R:It->Hp->Prop)(itv:Value)(s2:Shared):Prop:=
 ∃ (it:Addr) (fp:List Addr) (tn:Nat->Heap->Prop) (J:It) (H':Hp),itv=.ref it/\Inv X pins σ H' s2/\Turn X.prog X.w X.K tg J fp it tn/\tn 0 s2.heap/\(∀ b∈fp,eG X pins H' b)/\R J H'
def PI (X:Cx)(tg iter:Expr)(wi:TI):Prop:=
 ∀ (pins:List (Addr×Obj)) (s:Shared) (σ:St) (H:Hp) (R:It->Hp->Prop),Inv X pins σ H s->wi σ H R ->
  wpAny (model X.prog X.w) X.A (eval iter X.env) (λ v s1=>wpAny (model X.prog X.w) X.A (pyIter v) (PIE X pins σ tg R) X.xe s1) X.xe s
theorem kK {M:Model}{A:Around}{E:Value->Shared->Prop}{s:Shared}{tg:Expr}{it:Addr}{u:Value}{o:Obj}{n:String}{vs:Array Value}{Q:Unit->Shared->Prop}(ho:s.heap.get? it=some o)(hc:o.cls=.type n)(hd:o.data=.fields vs)
    (hn:["enumerate","zip","dict_itemiterator","dict_reverseitemiterator","odict_iterator","itertools.zip_longest","itertools.pairwise"].contains n=false) (hQ:Q () s):wpAny M A (letOwnedTupleGo tg (.ref it) u) Q E s:=by
  unfold letOwnedTupleGo;cases tg <;>first
    | exact yE hQ
    | (cases u <;>first
        | exact yE hQ
        | (refine yz (wpAny_load ho ?_)
           rw[hc,hd];show wpAny M A (if (["enumerate","zip","dict_itemiterator","dict_reverseitemiterator","odict_iterator","itertools.zip_longest","itertools.pairwise"].contains n&&vs[0]? == some (rawInt _))=true then _ else _) Q E s
           rw[if_neg (by intro h;rw[hn,xV] at h;cases h)];exact yE hQ))
def Itl (K:yy)(a:Addr):It:=
 ⟨λ i H=>∃ xs x,SqL K H a xs/\xs[i]?=some x,λ i H x H'=>H'=H/\∀ xs,SqL K H a xs->xs[i]?=some x,λ i H=>∃ xs,SqL K H a xs/\xs.length<=i⟩
def Itr (lo:Int)(n:Nat):It:=⟨λ i _=>i<n,λ i H x H'=>H'=H/\x=.int (lo+i),λ i _=>n<=i⟩
theorem lH {P:Program}{w:World}{K:yy}{tg:Expr}(a it:Addr):Turn P w K tg (Itl K a) [it] it (λ i h=>h.IsListIter it a i) where
 mem:=by simp
 obj:=λ i h st b hb=>by
  have e:b=it:=by simpa using hb
  subst e;obtain⟨o,e,c,d⟩:=st;exact⟨o,e,λ v z=>by rw[d] at z;cases z⟩
 keep:=λ i h h' st k=>st.at λ o e=>k it (by simp) o e
 item:=by
  intro X hP hw hK hc i pins s σ H E I hf st hg;subst hP hw hK;obtain⟨xs,x,hq,hx⟩:=hg;obtain⟨its,rv,p,hz⟩:=I.list hq;obtain⟨u,hu,ru⟩:=rv.get hx;obtain⟨f0,f1,f2,f3,f4,f5⟩:=hf it (by simp);refine wpAny_pyNext_list_item st p.isList (x:=u) (by simpa using hu) λ h' st' sb=>?_
  have I1:Inv X pins σ H { s with heap:=h' }:=I.turned (t':=s.toks) (λ b o hb e=>(sb.2 b hb).trans e) f0 f1 f3 f4 f5;obtain⟨o,e,c,d⟩:=id st';exact⟨u,rfl,kK (s:={ s with heap:=h' }) e c d (by decide) ⟨x,H,I1,ru,⟨rfl,λ ys hy=>by rw[I.list_inj hy hq];exact hx⟩,st',λ b hb=>(hf b hb).1⟩⟩
 done:=by
  intro X hP hw hK hc i pins s σ H E I hf st hg;subst hP hw hK;obtain⟨xs,hq,hx⟩:=hg;obtain⟨its,rv,p,hz⟩:=I.list hq;obtain⟨f0,f1,f2,f3,f4,f5⟩:=hf it (by simp);have hl:=rv.length;exact wpAny_pyNext_list_end (I.ok.hd hc) st p.isList (by simp;omega) λ h' eb=>⟨rfl,I.turned (t':=s.toks) (λ b o hb e=>eb b o hb e) f0 f1 f3 f4 f5⟩
 self:=λ _ _ _ _ _ st h=>wpAny_pyIter_listiter st h
theorem jU {P:Program}{w:World}{K:yy}{tg:Expr}(it:Addr)(lo:Int)(n:Nat):Turn P w K tg (Itr lo n) [it] it (λ i h=>IsRangeIter h it (lo+(i:Nat)*1) ((n:Int)-(i:Nat)) 1) where
 mem:=by simp
 obj:=λ i h st b hb=>by
  have e:b=it:=by simpa using hb
  subst e;exact⟨_,st,λ v z=>by
   have z':Data.fields _=Data.cell v:=z;cases z'⟩
 keep:=λ i h h' st k=>k it (by simp) _ st
 item:=by
  intro X hP hw hK hc i pins s σ H E I hf st hg;subst hP hw hK;obtain⟨f0,f1,f2,f3,f4,f5⟩:=hf it (by simp);have W:=Walks.range (prog:=X.prog) (w:=X.w) (I.ok.hd hc) it lo 1 n;refine W.item i s _ _ hg st λ v h' tk hv st' kk=>?_
  obtain⟨t,rfl⟩:=hv;have I1:Inv X pins σ H { s with heap:=h',toks:=tk }:=I.turned (λ b o hb e=>kk b o (by simpa using hb) e) f0 f1 f3 f4 f5;refine⟨_,rfl,kK (s:={ s with heap:=h',toks:=tk }) (n:="range_iterator") st' rfl rfl (by decide) ⟨.int (lo+i),H,I1,⟨t,?_⟩,⟨rfl,rfl⟩,st',λ b hb=>(hf b hb).1⟩⟩;rw[Int.mul_one]
 done:=by
  intro X hP hw hK hc i pins s σ H E I hf st hg;subst hP hw hK;obtain⟨f0,f1,f2,f3,f4,f5⟩:=hf it (by simp);exact AZ (I.ok.hd hc) st (by have:n<=i:=hg;omega) λ h' eb=>⟨rfl,I.turned (t':=s.toks) (λ b o hb e=>eb b o hb e) f0 f1 f3 f4 f5⟩
 self:=λ _ _ _ _ _ st h=>A0 st h
section
variable {X:Cx}{tg:Expr}
def vk (K:yy)(tl:TE):TI:=λ σ H R=>tl σ H λ x H1=>∃ a,x=.ref a/\(∃ xs,SqL K H1 a xs)/\R (Itl K a) H1
theorem qD {l:Expr}{tl:TE}(hl:PE X l tl):PI X tg l (vk X.K tl):=by
 intro pins s σ H R I h;refine thn (hl pins s σ H _ I h) λ v s1 ⟨x,H1,I1,r1,q1⟩=>?_
 obtain⟨a,e,⟨xs,hq⟩,q⟩:=q1;subst e;cases r1;obtain⟨its,rv,p,hz⟩:=I1.list hq;refine zY p.isList ?_
 refine⟨s1.heap.objs.size,[s1.heap.objs.size],_,_,H1,rfl,I1.kept (t':=s1.toks) λ b o e=>yB _ e,lH a _,⟨_,yD _ rfl,rfl,rfl⟩,λ b hb=>?_,q⟩;have e:b=s1.heap.objs.size:=by simpa using hb
 subst e;exact I1.fpOk (wm _) (I1.hok.fresh (wm _))
theorem jf {pins:List (Addr×Obj)}{σ:St}{H:Hp}{s:Shared}{R:It->Hp->Prop}{E:Value->Shared->Prop}{lo hi:Int}{t u v:Tok}{tk:Nat}(I:Inv X pins σ H s)(h1:-(2 ^ 62)<=lo)(h2:lo<2 ^ 62)(h3:-(2 ^ 62)<=hi)(h4:hi<2 ^ 62)
  (q:R (Itr lo (hi-lo).toNat) H):wpAny (model X.prog X.w) X.A (pyIter (.ref s.heap.objs.size)) (PIE X pins σ tg R) E { s with heap:=s.heap.push { cls:=.type "range",data:=.fields #[.int lo t,.int hi u,.int 1 v] },toks:=tk }:=by
 refine BA (BX ..) (small_one h1 h2 h3 h4) ?_
 have I1:Inv X pins σ H { s with heap:=s.heap.push { cls:=.type "range",data:=.fields #[.int lo t,.int hi u,.int 1 v] },toks:=tk }:=I.kept λ b o e=>yB _ e
 refine⟨(s.heap.push { cls:=.type "range",data:=.fields #[.int lo t,.int hi u,.int 1 v] }).objs.size,[(s.heap.push { cls:=.type "range",data:=.fields #[.int lo t,.int hi u,.int 1 v] }).objs.size],_,_,H,rfl,
  I1.kept (t':=tk) λ b o e=>yB _ e,jU _ lo (hi-lo).toNat,?_,λ b hb=>?_,q⟩
 ·have e1:lo+((0:Nat):Int)*1=lo:=by simp
  have e2:(((hi-lo).toNat:Nat):Int)-((0:Nat):Int)=zB lo hi 1:=by rw[rangeSize_one];split <;>omega
  show IsRangeIter _ _ (lo+((0:Nat):Int)*1) ((((hi-lo).toNat:Nat):Int)-((0:Nat):Int)) 1
  rw[e1,e2];exact yD _ rfl
 ·have e:b=(s.heap.push { cls:=.type "range",data:=.fields #[.int lo t,.int hi u,.int 1 v] }).objs.size:=by simpa using hb
  subst e;exact I1.fpOk (wm _) (I1.hok.fresh (wm _))
def uZ (ta:TA):TI:=λ σ H R=>ta σ H λ vs H1=>∃ j:Int,vs=[.int j]/\-(2 ^ 62)<=j/\j<2 ^ 62/\R (Itr 0 j.toNat) H1
def uq (ta:TA):TI:=λ σ H R=>ta σ H λ vs H1=>∃ i j:Int,vs=[.int i,.int j]/\(-(2 ^ 62)<=i/\i<2 ^ 62/\-(2 ^ 62)<=j/\j<2 ^ 62)/\R (Itr i (j-i).toNat) H1
theorem mz {a:Expr}{ta:TA}{p pos:Pos}(hg:Gl X "range")(hm:X.mg "range"=none)(ha:PA X [a] ta)(hs:autoParam (starEach [a] X.env=[(false,eval a X.env)]) ZF._auto_1):PI X tg (.Call (.Name "range" p) [a] [] pos) (uZ ta):=by
 intro pins s σ H R I h;refine Call_ (cD I hg hm boot_range (yQ (thn (ha pos pins s σ H _ I h) λ us s1 ⟨vs,H1,I1,r1,q1⟩=>?_) hs rfl));obtain⟨j,e,q1,q2,q⟩:=q1;subst e;cases r1 with
 | cons r rr=>
  cases rr;obtain⟨t,rfl⟩:=r;exact call_range_1 (jf I1 ⋯ ⋯ q1 q2 (by simpa using q))
theorem mn {a b:Expr}{ta:TA}{p pos:Pos}(hg:Gl X "range")(hm:X.mg "range"=none)(ha:PA X [a,b] ta)(hs:autoParam (starEach [a,b] X.env=[(false,eval a X.env),(false,eval b X.env)]) ZF._auto_1)(hs2:autoParam (starEach [b] X.env=[(false,eval b X.env)]) ZF._auto_1):
  PI X tg (.Call (.Name "range" p) [a,b] [] pos) (uq ta):=by
 intro pins s σ H R I h;refine Call_ (cD I hg hm boot_range (yQ (thn (ha pos pins s σ H _ I h) λ us s1 ⟨vs,H1,I1,r1,q1⟩=>?_) (by rw[hs,hs2]) (by rw[hs2];rfl)));obtain⟨i,j,e,⟨q1,q2,q3,q4⟩,q⟩:=q1;subst e;cases r1 with
 | cons r rr=>
  cases rr with
  | cons r' rr=>
   cases rr;obtain⟨t,rfl⟩:=r;obtain⟨t',rfl⟩:=r';exact call_range_2 (jf I1 q1 q2 q3 q4 q)
def vI (wi:TI)(g:TG)(tb:TS):TS:=λ D σ H=>wi σ H λ J H1=>∃ W:Nat->Nat->St->Hp->Prop,(∃ m,W 0 m σ H1)/\∀ i m σ H,W i m σ H ->
 (J.stop i H/\D.nx σ H)\/(J.go i H/\∃ N:St->Hp->Prop,(∀ σ' H',N σ' H'->∃ m',m'<m/\W (i+1) m' σ' H')/\∀ x H',J.yld i H x H'->g x σ H' λ σ2 H2=>tb { D with nx:=N,ct:=N,bk:=D.nx } σ2 H2)
def dJ (fp:List Addr)(h:Heap):List (Addr×Obj):=fp.filterMap λ b=>(h.get? b).map λ o=>(b,o)
theorem bM {fp:List Addr}{h:Heap}{b:Addr}{o:Obj}(hb:b∈fp)(e:h.get? b=some o):(b,o)∈dJ fp h:=List.mem_filterMap.mpr ⟨b,hb,by rw[e];rfl⟩
theorem lX {fp:List Addr}{h:Heap}{p:Addr×Obj}(hp:p∈dJ fp h):p.1∈fp/\h.get? p.1=some p.2:=by
 obtain⟨b,hb,e⟩:=List.mem_filterMap.mp hp;cases q:h.get? b with
 | none=>rw[q] at e;cases e
 | some o=>
  rw[q] at e;have e':(b,o)=p:=Option.some.inj e;subst e';exact⟨hb,q⟩
theorem Inv.pinned {pins:List (Addr×Obj)}{σ:St}{H:Hp}{s:Shared}{fp:List Addr}(I:Inv X pins σ H s)(hf:∀ b∈fp,eG X pins H b)(ho:∀ b∈fp,∃ o,s.heap.get? b=some o/\∀ v,o.data≠.cell v):Inv X (pins++dJ fp s.heap) σ H s:=
 I.pins_of λ p hp=>(List.mem_append.mp hp).elim (λ z=>I.pin p (wk _ z)) λ z=>by
  obtain⟨hb,e⟩:=lX z;obtain⟨f0,f1,f2,_⟩:=hf p.1 hb;obtain⟨o,e',d⟩:=ho p.1 hb;rw[e] at e';cases e';exact⟨e,f0,f1,f2,d⟩
theorem Inv.unpinned {pins pl:List (Addr×Obj)}{σ:St}{H:Hp}{s:Shared}(I:Inv X (pins++pl) σ H s):Inv X pins σ H s:=I.pins_of λ p hp=>I.pin p (wk _ (wB _ hp))
theorem km {iter:Expr}{body:List Stmt}{wi:TI}{g:TG}{tb:TS}{pos:Pos}(hp:PassesOwn (model X.prog X.w) X.A X.env X.xe)(hc:X.calm=true)(hi:PI X tg iter wi)(hg:PG X tg g)(hb:PSs X body tb)
  (hs:autoParam (∀ x,foldedSetIterable iter X.env x=pure x) ZE._auto_1):PS X (.For tg iter body [] pos) (vI wi g tb):=by
 intro pins s σ H D I h;refine wpAny_For (thn (hi pins s σ H _ I h) λ v s1 h1=>thn h1 λ itv s2 h2=>?_) hs;obtain⟨it,fp,tn,J,H2,e,I2,T,st2,f2,W,⟨m0,w0⟩,turn⟩:=h2;subst e;have stat:∀ {H':Hp},(∀ b∈fp,H' b=none)->∀ b∈fp,eG X pins H' b:=λ hn b hb=>⟨hn b hb,(f2 b hb).2⟩
 refine codeAny_forLoop_any (λ n s'=>∃ i σ' H',Inv X pins σ' H' s'/\tn i s'.heap/\(∀ b∈fp,H' b=none)/\W i n σ' H') ?_ m0 ⟨0,σ,H2,I2,st2,λ b hb=>(f2 b hb).1,w0⟩
 rintro n s3 ⟨i,σ3,H3,I3,st3,fr3,w3⟩
 rcases turn i n σ3 H3 w3 with ⟨stop,qn⟩|⟨go,N,hN,step⟩
 ·refine zq hp (thn (T.done X rfl rfl rfl hc i pins s3 σ3 H3 X.xe I3 (stat fr3) st3 stop) λ r s4 ⟨hr,I4⟩=>?_)
  subst hr;exact zR ⟨σ3,H3,I4,qn⟩
 ·refine zq hp (thn (T.item X rfl rfl rfl hc i pins s3 σ3 H3 X.xe I3 (stat fr3) st3 go) λ r s4 ⟨u,hr,h4⟩=>?_)
  subst hr;refine zq hp (thn h4 λ _ s5 ⟨x,H5,I5,r5,y5,st5,fr5⟩=>?_);have I5':=I5.pinned (stat fr5) (T.obj _ _ st5);refine zq hp (thn (hg _ s5 σ3 H5 x u _ I5' r5 (step x H5 y5)) λ _ s6 ⟨σ6,H6,I6,q6⟩=>?_);refine zq hp (thn (hb _ s6 σ6 H6 _ I6 q6) λ f s7 q7=>?_);have again:∀ {σ7:St} {H7:Hp},Inv X (pins++dJ fp s5.heap) σ7 H7 s7->N σ7 H7->∃ m,m<n/\∃ i σ' H',Inv X pins σ' H' s7/\tn i s7.heap/\(∀ b∈fp,H' b=none)/\W i m σ' H':=λ {σ7 H7} I7 n7=>by
   obtain⟨m',hm,w7⟩:=hN σ7 H7 n7;refine⟨m',hm,i+1,σ7,H7,I7.unpinned,T.keep _ _ _ st5 λ b hb o e=>(I7.pin (b,o) (wk _ (wk _ (bM hb e)))).1,λ b hb=>?_,w7⟩;obtain⟨o,e,d⟩:=T.obj _ _ st5 b hb;exact(I7.pin (b,o) (wk _ (wk _ (bM hb e)))).2.1
  cases f with
  | next=>obtain⟨σ7,H7,I7,n7⟩:=q7;exact again I7 n7
  | cont=>obtain⟨σ7,H7,I7,n7⟩:=q7;exact again I7 n7
  | brk=>obtain⟨σ7,H7,I7,q7⟩:=q7;exact⟨σ7,H7,I7.unpinned,q7⟩
  | ret v=>obtain⟨x7,σ7,H7,I7,r7,q7⟩:=q7;exact⟨x7,σ7,H7,I7.unpinned,r7,q7⟩
end
abbrev R2:=V->V->Hp->VK->Prop
def OpR (X:Cx)(f:Value->Value->Sem Value)(r:R2):Prop:=
 ∀ (pins:List (Addr×Obj)) (s:Shared) (σ:St) (H:Hp) (x y:V) (v u:Value) (Q:VK),Inv X pins σ H s->RelV x v->RelV y u->r x y H Q ->
  wpAny (model X.prog X.w) X.A (f v u) (EP X pins σ Q) X.xe s
def UnR (X:Cx)(f:Value->Sem Value)(r:V->Hp->VK->Prop):Prop:=
 ∀ (pins:List (Addr×Obj)) (s:Shared) (σ:St) (H:Hp) (x:V) (v:Value) (Q:VK),Inv X pins σ H s->RelV x v->r x H Q ->
  wpAny (model X.prog X.w) X.A (f v) (EP X pins σ Q) X.xe s
def cb (X:Cx)(f:Value)(r:List V->Hp->VK->Prop):Prop:=
 ∀ (pins:List (Addr×Obj)) (s:Shared) (σ:St) (H:Hp) (xs:List V) (us:List Value) (Q:VK),Inv X pins σ H s->Vals xs us->r xs H Q ->
  wpAny (model X.prog X.w) X.A (call f us) (EP X pins σ Q) X.xe s
def tOp (r:R2)(ta tb:TE):TE:=λ σ H Q=>ta σ H λ x H1=>tb σ H1 λ y H2=>r x y H2 Q
def tUn (r:V->Hp->VK->Prop)(ta:TE):TE:=λ σ H Q=>ta σ H λ x H1=>r x H1 Q
def rI (C:Int->Int->Prop)(g:Int->Int->V):R2:=λ x y H Q=>∃ i j,x=.int i/\y=.int j/\C i j/\Q (g i j) H
def rI0 (g:Int->Int->V):R2:=λ x y H Q=>∃ i j,x=.int i/\y=.int j/\Q (g i j) H
def rU (g:Int->V):V->Hp->VK->Prop:=λ x H Q=>∃ i,x=.int i/\Q (g i) H
section
variable {X:Cx}{a b c:Expr}{ta tb tc:TE}{pos:Pos}
theorem t4 (ha:PE X a ta)(hb:PE X b tb){pins:List (Addr×Obj)}{s:Shared}{σ:St}{H:Hp}{R:V->V->Hp->Prop}(I:Inv X pins σ H s)
  (h:ta σ H λ x H1=>tb σ H1 λ y H2=>R x y H2) {Q:Value->Shared->Prop} {f:Value->Value->Sem Value}
  (hf:∀ v u s2 x y H2,Inv X pins σ H2 s2->RelV x v->RelV y u->R x y H2->wpAny (model X.prog X.w) X.A (f v u) Q X.xe s2):
  wpAny (model X.prog X.w) X.A (eval a X.env) (λ v s₁=>wpAny (model X.prog X.w) X.A (eval b X.env) (λ u s₂=>wpAny (model X.prog X.w) X.A (f v u) Q X.xe s₂) X.xe s₁) X.xe s:=by
 refine thn (ha pins s σ H _ I h) λ v s1 ⟨x,H1,I1,r1,q1⟩=>?_
 refine thn (hb pins s1 σ H1 _ I1 q1) λ u s2 ⟨y,H2,I2,r2,q2⟩=>?_
 exact hf v u s2 x y H2 I2 r1 r2 q2
theorem u4 {op:Operator}{r:R2}(ho:OpR X (binaryOp op) r)(ha:PE X a ta)(hb:PE X b tb):PE X (.BinOp a op b pos) (tOp r ta tb):=by
 intro pins s σ H Q I h;exact wpAny_BinOp (t4 ha hb I h λ v u s2 x y H2 I2 rx ry q=>ho pins s2 σ H2 x y v u Q I2 rx ry q)
theorem uj {op:UnaryOp}{r:V->Hp->VK->Prop}(ho:UnR X (unaryOp op) r)(ha:PE X a ta):PE X (.UnaryOp op a pos) (tUn r ta):=by
 intro pins s σ H Q I h;exact UnaryOp_ (thn (ha pins s σ H _ I h) λ v s1 ⟨x,H1,I1,r1,q1⟩=>ho pins s1 σ H1 x v Q I1 r1 q1)
theorem opI {f:Value->Value->Sem Value}{C:Int->Int->Prop}{g:Int->Int->Int}
  (rule:∀ (i j:Int) (t u:Tok) (s:Shared) (Q:Value->Shared->Prop) (E:Value->Shared->Prop),C i j->Q (.int (g i j) s.toks) { s with toks:=s.toks+1 }->wpAny (model X.prog X.w) X.A (f (.int i t) (.int j u)) Q E s):
  OpR X f (rI C λ i j=>.int (g i j)):=by
 intro pins s σ H x y v u Q I rx ry h;obtain⟨i,j,rfl,rfl,hc,q⟩:=h;obtain⟨t,rfl⟩:=rx;obtain⟨t',rfl⟩:=ry;exact rule i j t t' s _ _ hc ⟨.int (g i j),H,I.tok _,⟨_,rfl⟩,q⟩
theorem ui {f:Value->Value->Sem Value}{g:Int->Int->Int}
  (rule:∀ (i j:Int) (t u:Tok) (s:Shared) (Q:Value->Shared->Prop) (E:Value->Shared->Prop),Q (.int (g i j) s.toks) { s with toks:=s.toks+1 }->wpAny (model X.prog X.w) X.A (f (.int i t) (.int j u)) Q E s):
  OpR X f (rI0 λ i j=>.int (g i j)):=by
 intro pins s σ H x y v u Q I rx ry h;obtain⟨i,j,rfl,rfl,q⟩:=h;obtain⟨t,rfl⟩:=rx;obtain⟨t',rfl⟩:=ry;exact rule i j t t' s _ _ ⟨.int (g i j),H,I.tok _,⟨_,rfl⟩,q⟩
theorem pN {f:Value->Value->Sem Value}{g:Int->Int->Bool}
  (rule:∀ (i j:Int) (t u:Tok) (s:Shared) (Q:Value->Shared->Prop) (E:Value->Shared->Prop),Q (.bool (g i j)) s->wpAny (model X.prog X.w) X.A (f (.int i t) (.int j u)) Q E s):
  OpR X f (rI0 λ i j=>.bl (g i j)):=by
 intro pins s σ H x y v u Q I rx ry h;obtain⟨i,j,rfl,rfl,q⟩:=h;obtain⟨t,rfl⟩:=rx;obtain⟨t',rfl⟩:=ry;exact rule i j t t' s _ _ ⟨.bl (g i j),H,I,rfl,q⟩
def vV (i j:Int):Prop:=0<=j/\j<=1000000/\i.natAbs<2 ^ 64
theorem tq:OpR X (binaryOp .Add) (rI0 λ i j=>.int (i+j)):=ui λ _ _ _ _ _ _ _ q=>add_int q
theorem tM:OpR X (binaryOp .Sub) (rI0 λ i j=>.int (i-j)):=ui λ _ _ _ _ _ _ _ q=>sub_int q
theorem sH:OpR X (binaryOp .Mod) (rI (λ _ j=>0<j) λ i j=>.int (i%j)):=opI λ i j _ _ _ _ _ hc q=>by
 have h1:(0:Int)<j:=hc;exact mod_int' ⋯ (by rw[Int.fmod_eq_emod_of_nonneg i ⋯];exact q)
theorem sC:OpR X (binaryOp .Pow) (rI vV λ i j=>.int (i ^ j.toNat)):=opI λ _ _ _ _ _ _ _ hc q=>pow_int_small hc.1 hc.2.1 hc.2.2 q
theorem unI {f:Value->Sem Value}{g:Int->Int}
  (rule:∀ (i:Int) (t:Tok) (s:Shared) (Q:Value->Shared->Prop) (E:Value->Shared->Prop),Q (.int (g i) s.toks) { s with toks:=s.toks+1 }->wpAny (model X.prog X.w) X.A (f (.int i t)) Q E s):
  UnR X f (rU λ i=>.int (g i)):=by
 intro pins s σ H x v Q I rx h;obtain⟨i,rfl,q⟩:=h;obtain⟨t,rfl⟩:=rx;exact rule i t s _ _ ⟨.int (g i),H,I.tok _,⟨_,rfl⟩,q⟩
theorem tV:UnR X (unaryOp .USub) (rU λ i=>.int (-i)):=unI λ _ _ _ _ _ q=>neg_int q
end
def scal:V->V->Bool
 | .non,.non=>true | .non,.int _=>true | .int _,.non=>true | .non,.bl _=>true | .bl _,.non=>true | .non,.str _=>true | .str _,.non=>true
 | .int _,.int _=>true | .bl _,.bl _=>true | .str _,.str _=>true | .byt _,.byt _=>true
 | .int _,.str _=>true | .str _,.int _=>true | .bl _,.str _=>true | .str _,.bl _=>true
 | _,_=>false
def rEq:R2:=λ x y H Q=>scal x y=true/\Q (.bl (decide (x=y))) H
theorem pY {i j:Int}:decide (V.int i=V.int j)=(i == j):=by
 rw[wL];simp
theorem ue {i j:Bool}:decide (V.bl i=V.bl j)=(i == j):=by
 rw[wL];simp
theorem iW {i j:Str}:decide (V.str i=V.str j)=(i == j):=by
 rw[wL];simp
theorem pw {i j:Array UInt8}:decide (V.byt i=V.byt j)=(i.toList == j.toList):=by
 rw[wL];cases i;cases j;simp
section
variable {X:Cx}{a b c:Expr}{ta tb tc:TE}{pos:Pos}
theorem bc {pins:List (Addr×Obj)}{σ:St}{H:Hp}{s:Shared}{Q:VK}{k k':Bool}(I:Inv X pins σ H s)(q:Q (.bl k) H)(e:k=k'):EP X pins σ Q (.bool k') s:=by
 subst e;exact⟨.bl k,H,I,rfl,q⟩
theorem vo:OpR X (compareOp .Eq) rEq:=by
 intro pins s σ H x y v u Q I rx ry h;obtain⟨hs,q⟩:=h;cases x with
 | non=>
  cases rx;cases y with
  | non=>cases ry;exact PySem.EqNone.eq_none_none (bc I q (by simp))
  | bl j=>cases ry;exact PySem.EqNone.eq_none_bool (bc I q (by simp))
  | int j=>obtain⟨t',rfl⟩:=ry;exact PySem.EqNone.eq_none_int (bc I q (by simp))
  | str j=>obtain⟨t',rfl⟩:=ry;exact PySem.EqNone.eq_none_str (bc I q (by simp))
  | _=>exact absurd (show false=true from hs) wo
 | bl i=>
  cases rx;cases y with
  | non=>cases ry;exact PySem.EqNone.eq_bool_none (bc I q (by simp))
  | bl j=>cases ry;exact eq_bool (bc I q ue)
  | str j=>obtain⟨t',rfl⟩:=ry;exact PySem.EqMixed.eq_bool_str (bc I q (by simp))
  | _=>exact absurd (show false=true from hs) wo
 | int i=>
  obtain⟨t,rfl⟩:=rx;cases y with
  | non=>cases ry;exact PySem.EqNone.eq_int_none (bc I q (by simp))
  | int j=>obtain⟨t',rfl⟩:=ry;exact eq_int (bc I q pY)
  | str j=>obtain⟨t',rfl⟩:=ry;exact PySem.EqMixed.eq_int_str (bc I q (by simp))
  | _=>exact absurd (show false=true from hs) wo
 | str i=>
  obtain⟨t,rfl⟩:=rx;cases y with
  | non=>cases ry;exact PySem.EqNone.eq_str_none (bc I q (by simp))
  | bl j=>cases ry;exact PySem.EqMixed.eq_str_bool (bc I q (by simp))
  | int j=>obtain⟨t',rfl⟩:=ry;exact PySem.EqMixed.eq_str_int (bc I q (by simp))
  | str j=>obtain⟨t',rfl⟩:=ry;exact eq_str (bc I q iW)
  | _=>exact absurd (show false=true from hs) wo
 | byt i=>
  obtain⟨t,rfl⟩:=rx;cases y with
  | byt j=>obtain⟨t',rfl⟩:=ry;exact PySem.W.eq_bytes (bc I q pw)
  | _=>exact absurd (show false=true from hs) wo
 | _=>cases y <;>exact absurd (show false=true from hs) wo
theorem uP:OpR X (compareOp .Lt) (rI0 λ i j=>.bl (decide (i<j))):=pN λ _ _ _ _ _ _ _ q=>lt_int q
theorem vG:OpR X (compareOp .LtE) (rI0 λ i j=>.bl (decide (i<=j))):=pN λ _ _ _ _ _ _ _ q=>le_int q
theorem vg:OpR X (compareOp .Gt) (rI0 λ i j=>.bl (decide (j<i))):=pN λ _ _ _ _ _ _ _ q=>gt_int q
theorem vC:OpR X (compareOp .GtE) (rI0 λ i j=>.bl (decide (j<=i))):=pN λ _ _ _ _ _ _ _ q=>ge_int q
theorem lr:OpR X (compareOp .In) (λ x y H Q=>∃ i j,x=.str i/\y=.str j/\Q (.bl (!(zk j i 0 j.length 1).isEmpty)) H):=by
 intro pins s σ H x y v u Q I rx ry h;obtain⟨i,j,rfl,rfl,q⟩:=h;obtain⟨t,rfl⟩:=rx;obtain⟨t',rfl⟩:=ry;exact in_str (bc I q rfl)
theorem ix:OpR X (compareOp .NotIn) (λ x y H Q=>∃ i j,x=.str i/\y=.str j/\Q (.bl (!(!(zk j i 0 j.length 1).isEmpty))) H):=by
 intro pins s σ H x y v u Q I rx ry h;obtain⟨i,j,rfl,rfl,q⟩:=h;obtain⟨t,rfl⟩:=rx;obtain⟨t',rfl⟩:=ry;exact notIn_str (bc I q rfl)
theorem OpR.or {f:Value->Value->Sem Value}{r r':R2}(h:OpR X f r)(h':OpR X f r'):OpR X f (λ x y H Q=>r x y H Q\/r' x y H Q):=by
 intro pins s σ H x y v u Q I rx ry q
 rcases q with q|q
 ·exact h pins s σ H x y v u Q I rx ry q
 ·exact h' pins s σ H x y v u Q I rx ry q
theorem nomark (b:Expr){op:CmpOp}(h:autoParam (op≠.In) ZC._auto_1)(h2:autoParam (op≠.NotIn) ZC._auto_1):behindInMarks op b=false:=by
 have e1:(op == CmpOp.In)=false:=by cases op <;>first|rfl|exact absurd rfl h
 have e2:(op == CmpOp.NotIn)=false:=by cases op <;>first|rfl|exact absurd rfl h2
 cases b <;>simp[behindInMarks,e1,e2]
theorem qW {op:CmpOp}{r:R2}(ho:OpR X (compareOp op) r)(ha:PE X a ta)(hb:PE X b tb)(hm:behindInMarks op b=false):PE X (.Compare a [op] [b] pos) (tOp r ta tb):=by
 intro pins s σ H Q I h;exact wpAny_Compare1 (t4 ha hb I h λ v u s2 x y H2 I2 rx ry q=>ho pins s2 σ H2 x y v u Q I2 rx ry q) hm
def rB (t:TE):TT:=λ σ H Q=>t σ H λ x H'=>∃ k,x=.bl k/\Q k H'
theorem fP {op:CmpOp}{r:R2}(ho:OpR X (compareOp op) r)(ha:PE X a ta)(hb:PE X b tb)(hm:behindInMarks op b=false):PT X (.Compare a [op] [b] pos) (rB (tOp r ta tb)):=by
 intro pins s σ H Q I h;refine A5 (thn (ha pins s σ H _ I h) λ v s1 ⟨x,H1,I1,r1,q1⟩=>thn (hb pins s1 σ H1 _ I1 q1) λ u s2 ⟨y,H2,I2,r2,q2⟩=>
  thn (ho pins s2 σ H2 x y v u _ I2 r1 r2 q2) λ c s3 ⟨z,H3,I3,r3,k,e,q3⟩=>?_) hm
 subst e;cases r3;exact zG ⟨H3,I3,q3⟩
theorem dH:(sizeLine:Nat)<2 ^ 63:=by rw[zt];decide
theorem jP:OpR X (binaryOp .Add) (λ x y H Q=>∃ i j,x=.str i/\y=.str j/\i.length+j.length<=sizeLine/\Q (.str (i++j)) H):=by
 intro pins s σ H x y v u Q I rx ry h;obtain⟨i,j,rfl,rfl,hz,q⟩:=h;obtain⟨t,rfl⟩:=rx;obtain⟨t',rfl⟩:=ry;exact add_str (λ t' tk=>⟨.str (i++j),H,I.tok _,⟨_,rfl⟩,q⟩) hz
theorem vals1 {x:V}{us:List Value}(r:Vals [x] us):∃ u,us=[u]/\RelV x u:=by
 cases r with
 | cons r1 r2=>cases r2;exact⟨_,rfl,r1⟩
theorem vals2 {x y:V}{us:List Value}(r:Vals [x,y] us):∃ u w',us=[u,w']/\RelV x u/\RelV y w':=by
 cases r with
 | cons r1 r2=>
  cases r2 with
  | cons r3 r4=>cases r4;exact⟨_,_,rfl,r1,r3⟩
theorem iH:cb X (.type "str") (λ xs H Q=>∃ i,xs=[.int i]/\i.natAbs.log2<1920/\Q (.str (toString i)) H):=by
 intro pins s σ H xs us Q I r h;obtain⟨i,rfl,hz,q⟩:=h;obtain⟨u,rfl,t,rfl⟩:=vals1 r;exact PySem.P.str_of_int hz ⟨.str _,H,I.tok _,⟨_,rfl⟩,q⟩
end
structure ObjM (h:Heap)(x dx C:Addr)(mA:Str->Option Value):Prop where
 obj:h.get? x=some (zh C dx)
 ns:h.Ns1 dx mA
 ne:dx≠x
theorem mv {h:Heap}{dx:Addr}{mA:Str->Option Value}(n:h.Ns1 dx mA):∃ od,h.get? dx=some od/\∀ name,Aq name od=some (mA name):=by
 obtain⟨o,es,ep,ho,hd,hk,_,hm⟩:=n;refine⟨o,ho,λ name=>?_⟩;have e:=hm name;unfold nsFind findBy at e;rw[<- Array.find?_toList] at e;unfold Aq;rw[hd];dsimp only
 split
 ·rename_i y q
  rw[q] at e;exact congrArg some e
 ·rename_i q
  rw[q] at e;have a:es.toList.any (·.refKey)=false:=by
   rw[List.any_eq_false];intro y hy;obtain⟨z,t,hkey⟩:=hk y (Array.mem_toList_iff.mp hy);simp[DictEntry.refKey,hkey]
  have a':¬ es.toList.any (·.refKey)=true:=by rw[a];exact wo
  rw[if_neg a'];exact congrArg some e
theorem ObjM.look {h:Heap}{x dx C:Addr}{mA:Str->Option Value}(I:ObjM h x dx C mA):∃ od,PySem.W.InstAt h x (zh C dx) C (some od)/\∀ name,Aq name od=some (mA name):=
 let ⟨od,ho,hl⟩:=mv I.ns
 ⟨od,⟨I.obj,rfl,rfl,ho⟩,hl⟩
section
variable {prog:Program}{w:World}{A:Around}{E:Value->Shared->Prop}{s:Shared}{K:yy}{x dx C f:Addr}{mA:Str->Option Value}{name:Str}{v:Value}
theorem get_map {expr:Bool}{Q:Value->Shared->Prop}(X:K.In s.heap)(I:ObjM s.heap x dx C mA)(hg:zu K C name=true)(hh:zH K C=true)
  (ha:yI K (.ref C) name=some none) (hv:mA name=some v) (hv':BP v=true) (h:Q v { s with toks:=s.toks+1 }):
  wpAny (model prog w) A (getAttr (.ref x) name expr) Q E s:=by
 obtain⟨od,J,hl⟩:=I.look;exact PySem.W.get_value X J (Al hg).1 (PySem.W.findObj_own hh ha rfl (by rw[hl,hv])) hv' h
theorem nK {pl:Sem Bool}{Q:Value×List Value->Shared->Prop}(X:K.In s.heap)(I:ObjM s.heap x dx C mA)(hg:zu K C name=true)
  (hf:yI K (.ref C) name=some (some (.ref f))) (ht:zo K (.ref f)=true) (hv:mA name=none) (h:Q (.ref f,[.ref x]) s):
  wpAny (model prog w) A (getMethod (.ref x) name pl) Q E s:=by
 obtain⟨od,J,hl⟩:=I.look;exact PySem.W.method_fn X J (Al hg).1 (Al hg).2 hf (beq_iff_eq.mp ht) (by show (Aq name od).map (·.isSome)=some false;rw[hl,hv];rfl) h
theorem pC {ns:List Str}{Q:Unit->Shared->Prop}(X:K.In s.heap)(I:ObjM s.heap x dx C mA)
  (hs:yI K (.ref C) "__setattr__"=some (some (.builtin "object.__setattr__"))) (hp:zZ K C=true) (ht:AV K C name=some none) (hh:zH K C=true)
  (hw:Bz mA ns) (hsz:ns.length<=sizeLine)
  (h:∀ h',ObjM h' x dx C (λ y=>if y=name then some v else mA y)->zS dx s.heap h'->Q () { s with heap:=h',toks:=s.toks+2 }):
  wpAny (model prog w) A (setAttr (.ref x) name v) Q E s:=by
 obtain⟨od,J,hl⟩:=I.look;refine PySem.W.set_plain X J hs (PySem.W.osa_open (s:={ s with toks:=s.toks+1 }) (r:=none) X J hp ht λ b=>?_);obtain⟨cd,hc,hd'⟩:=PySem.W.any_some hh;have hx:s.heap.get? x=some ⟨.ref C,some dx,.plain,#[]⟩:=I.obj;refine yz (yE (yz (yz (A6 hx (yz (PySem.W.Looks.here (s:={ s with toks:=s.toks+1 }) (PySem.W.looks_clsIn X hc) ?_))))));rw[hd'];refine yE (a:=some dx) (yz (yE (yz ?_)));refine wpAny_nsSet1 (s:={ s with toks:=s.toks+1 }) I.ns λ h' hn2 hs2=>?_
 obtain⟨oD,esD,epD,hoD,hdD,hcD⟩:=hn2.count (PySem.Within.cons name v hw);refine yz (wpAny_lookBehind hoD (by rw[hdD];exact pastItsLine_dict (wK hcD (by rw[wt];omega))) ?_);exact yE (h _ ⟨(hs2.2 _ (Ne.symm I.ne)).trans I.obj,hn2,I.ne⟩ hs2)
theorem mT {R:Result->Shared->Prop}{vs:List Value}{kw:List (Str×Value)}(X:K.In s.heap)(hm:Af K C=true)
  (hi:yI K (.ref C) "__init__"=some (some (.ref f))) (hf:PySem.W.typeIn K (.ref f)=some (.type "function"))
  (h:codeAny (model prog w) (A.under (.builtin "type.__call__" ⟨.ref C::vs,kw⟩)) (.call (.ref f) ⟨.ref (s.heap.objs.size+1)::vs,kw⟩) (PySem.W.InitBack (s.heap.objs.size+1) R)
   { s with heap:=(s.heap.push yW).push (zh C s.heap.objs.size) }):
  codeAny (model prog w) A (.call (.ref C) ⟨vs,kw⟩) R s:=by
 obtain⟨hh,g,d,t,os⟩:=s;exact PySem.W.make_core (PySem.W.makes_of X hm) (zM X hi) (λ self=>PySem.W.bind_fn X self hf) (.inl rfl) h
end
def dr (f:Str)(v:V):List (Str×V)->List (Str×V)
 | []=>[(f,v)]
 | (g,x)::r=>if g=f then (g,v)::r else (g,x)::dr f v r
theorem fG (f g:Str)(v:V):∀ fs:List (Str×V),(dr f v fs).lookup g=if g=f then some v else fs.lookup g
 | []=>by
  show List.lookup g [(f,v)]=_
  by_cases h:g=f
  ·have hb:(g == f)=true:=beq_iff_eq.mpr h
   simp only[List.lookup,hb,if_pos h]
  ·have hb:(g == f)=false:=beq_eq_false_iff_ne.mpr h
   simp only[List.lookup,hb,if_neg h]
 | (k,x)::r=>by
  have ih:=fG f g v r;rw[show dr f v ((k,x)::r)=(if k=f then (k,v)::r else (k,x)::dr f v r) from rfl];by_cases hk:k=f
  ·rw[if_pos hk]
   by_cases h:g=k
   ·have hb:(g == k)=true:=beq_iff_eq.mpr h
    simp only[List.lookup,hb,if_pos (h.trans hk)]
   ·have hb:(g == k)=false:=beq_eq_false_iff_ne.mpr h
    simp only[List.lookup,hb,if_neg (λ e:g=f=>h (e.trans hk.symm))]
  ·rw[if_neg hk]
   by_cases h:g=k
   ·have hb:(g == k)=true:=beq_iff_eq.mpr h
    simp only[List.lookup,hb,if_neg (λ e:g=f=>hk (h.symm.trans e))]
   ·have hb:(g == k)=false:=beq_eq_false_iff_ne.mpr h
    simp only[List.lookup,hb];exact ih
theorem eW (f:Str)(v:V):∀ fs:List (Str×V),f∈(dr f v fs).map (·.1)/\∀ g,g∈fs.map (·.1)->g∈(dr f v fs).map (·.1)
 | []=>⟨by simp[dr],λ g h=>by simp at h⟩
 | (k,x)::r=>by
  obtain⟨i1,i2⟩:=eW f v r;rw[show dr f v ((k,x)::r)=(if k=f then (k,v)::r else (k,x)::dr f v r) from rfl];by_cases hk:k=f
  ·rw[if_pos hk]
   subst hk;exact⟨by simp,λ g h=>by simpa using h⟩
  ·rw[if_neg hk]
   refine⟨?_,λ g h=>?_⟩
   ·rw[we]
    exact v7 _ i1
   ·rw[we] at h ⊢
    rcases List.mem_cons.mp h with e|e
    ·exact List.mem_cons.mpr (.inl e)
    ·exact v7 _ (i2 g e)
theorem fI (f:Str)(v:V):∀ fs:List (Str×V),(dr f v fs).length<=fs.length+1
 | []=>by simp[dr]
 | (k,x)::r=>by
  have ih:=fI f v r;rw[show dr f v ((k,x)::r)=(if k=f then (k,v)::r else (k,x)::dr f v r) from rfl];by_cases hk:k=f
  ·rw[if_pos hk,wt,wt];omega
  ·rw[if_neg hk,wt,wt];omega
theorem RelO.some_of {v:V}{o:Option Value}(r:RelO (some v) o):∃ u,o=some u/\RelV v u:=by
 cases o with
 | none=>exact Zf r
 | some u=>exact⟨u,rfl,r⟩
theorem RelO.none_of {o:Option Value}(r:RelO none o):o=none:=by
 cases o with
 | none=>rfl
 | some u=>exact Zf r
theorem l5 {v:V}{u:Value}(r:RelV v u):BP u=true:=by
 cases v with
 | non=>cases (show u=zX from r);rfl
 | bl b=>cases (show u=AL b from r);rfl
 | int i=>obtain⟨t,e⟩:=(show ∃ t,u=Bv i t from r);cases e;rfl
 | str x=>obtain⟨t,e⟩:=(show ∃ t,u=Bw x t from r);cases e;rfl
 | byt b=>obtain⟨t,e⟩:=(show ∃ t,u=Value.bytes b t from r);cases e;rfl
 | flt b=>obtain⟨t,e⟩:=(show ∃ t,u=Value.float b t from r);cases e;rfl
 | ref a=>cases (show u=yK a from r);rfl
 | ty n=>cases (show u=yP n from r);rfl
section
variable {P:Program}{w:World}{H H':Hp}{h h':Heap}{a C dx:Addr}{fs fs':List (Str×V)}
theorem iX (hok:HOk P w H h)(e:H a=some (.ins C dx fs)):∃ mA,ObjM h a dx C mA/\(∀ f,RelO (fs.lookup f) (mA f))/\Bz mA (fs.map (·.1))/\fs.length<=1000/\H dx=some (.own a):=by
 obtain⟨d,z,ne,ob,mA,n,r,q⟩:=(show ObjOk P w H h a (.ins C dx fs) from hok a _ e);exact⟨mA,⟨ob,n,ne⟩,r,q,z,d⟩
end
structure Cls (K:yy)(C:Addr):Prop where
 pg:zu K C BU=true
 hd:zH K C=true
 po:zZ K C=true
 sa:yI K (.ref C) "__setattr__"=some (some (.builtin "object.__setattr__"))
theorem Cls.get {K:yy}{C:Addr}(c:Cls K C)(f:Str):zu K C f=true:=c.pg
def NoAttr (K:yy)(C:Addr)(f:Str):Prop:=yI K (.ref C) f=some none
theorem NoAttr.taker {K:yy}{C:Addr}{f:Str}(n:NoAttr K C f):AV K C f=some none:=by
 unfold AV;rw[show yI K (.ref C) f=some none from n];rfl
structure Meth (K:yy)(C:Addr)(m:Str)(f:Addr):Prop where
 at_:yI K (.ref C) m=some (some (.ref f))
 fn:zo K (.ref f)=true
 kp:yR K (.ref f)=true
section
variable {X:Cx}{pins:List (Addr×Obj)}{σ:St}{H:Hp}{s:Shared}{a C dx:Addr}{fs:List (Str×V)}{f:Str}{v:V}{A:Around}{E:Value->Shared->Prop}
theorem ke {b:Bool}{Q:Value->Shared->Prop}(I:Inv X pins σ H s)(e:H a=some (.ins C dx fs))(c:Cls X.K C)(n:NoAttr X.K C f)(l:fs.lookup f=some v)
  (h:∀ u s',Inv X pins σ H s'->RelV v u->Q u s'):wpAny (model X.prog X.w) A (getAttr (.ref a) f b) Q E s:=by
 obtain⟨mA,O,r,_,_,_⟩:=iX I.hok e;obtain⟨u,hu,ru⟩:=RelO.some_of (v:=v) (o:=mA f) (by rw[<- l];exact r f);exact get_map I.kIn O (c.get f) c.hd n hu (l5 ru) (h u _ (I.tok _) ru)
theorem jZ {m:Str}{g:Addr}{pl:Sem Bool}{Q:Value×List Value->Shared->Prop}(I:Inv X pins σ H s)(e:H a=some (.ins C dx fs))(c:Cls X.K C)(k:Meth X.K C m g)(l:fs.lookup m=none)
  (h:Q (.ref g,[.ref a]) s):wpAny (model X.prog X.w) A (getMethod (.ref a) m pl) Q E s:=by
 obtain⟨mA,O,r,_,_,_⟩:=iX I.hok e;have hn:mA m=none:=RelO.none_of (by rw[<- l];exact r m);exact nK I.kIn O (c.get m) k.at_ k.fn hn h
theorem kj {y:V}{u:Value}{Q:Unit->Shared->Prop}(I:Inv X pins σ H s)(e:H a=some (.ins C dx fs))(c:Cls X.K C)(n:NoAttr X.K C f)(hl:fs.length<1000)(ry:RelV y u)
  (h:∀ s',Inv X pins σ (upd H a (.ins C dx (dr f y fs))) s'->Q () s'):wpAny (model X.prog X.w) A (setAttr (.ref a) f u) Q E s:=by
 obtain⟨mA,O,r,wi,_,ho⟩:=iX I.hok e;have hz:(fs.map (·.1)).length<=sizeLine:=by rw[wg,zt];omega
 refine pC I.kIn O c.sa c.po n.taker c.hd wi hz λ h' O' sb=>h _ ?_
 have hd:∃ o,h'.get? dx=some o:=let ⟨o,_,_,e',_⟩:=O'.ns;⟨o,e'⟩
 refine I.write (x:=a) (e:=dx) (by rw[e];exact zm) (.inr ho) (λ b q hb z=>(sb.2 b hb).trans z) hd ?_
 refine⟨by rw[ai O.ne];exact ho,?_,O.ne,O'.obj,_,O'.ns,λ g=>?_,λ g hg=>?_⟩
 ·have:=fI f y fs;omega
 ·show RelO ((dr f y fs).lookup g) (if g=f then some u else mA g)
  rw[fG];by_cases q:g=f
  ·rw[if_pos q,if_pos q];exact ry
  ·rw[if_neg q,if_neg q];exact r g
 ·by_cases q:g=f
  ·rw[q];exact(eW f y fs).1
  ·refine(eW f y fs).2 g (wi g λ z=>hg ?_)
   show (if g=f then some u else mA g)=none
   rw[if_neg q];exact z
theorem Inv.made (I:Inv X pins σ H s):Inv X pins σ (upd (upd H s.heap.objs.size (.own (s.heap.objs.size+1))) (s.heap.objs.size+1) (.ins C s.heap.objs.size []))
  { s with heap:=(s.heap.push yW).push (zh C s.heap.objs.size) }:=by
 have e1:(s.heap.push yW).get? s.heap.objs.size=some yW:=yD s.heap rfl;have e2:((s.heap.push yW).push (zh C s.heap.objs.size)).get? (s.heap.objs.size+1)=some (zh C s.heap.objs.size):=by
  have:=yD (s.heap.push yW) (o:=zh C s.heap.objs.size) rfl
  rwa [y8] at this
 have e3:(s.heap.push yW).Ns s.heap.objs.size (λ _=>none):=⟨yW,#[],_,e1,rfl,(λ e he=>absurd he (by simp)),λ _=>rfl⟩;have I1:=I.laid (a:=s.heap.objs.size) (o:=.own (s.heap.objs.size+1)) (h':=s.heap.push yW) (t':=s.toks) (λ b u q=>yB _ q) (wm _) ⟨_,e1⟩;refine I1.laid (a:=s.heap.objs.size+1) (o:=.ins C s.heap.objs.size []) (t':=s.toks) (λ b u q=>yB _ q) (xM (y8 _ _)) ?_
 have ne:s.heap.objs.size≠s.heap.objs.size+1:=wb (wN _);refine⟨by rw[ai ne,ao],xD _,ne,e2,λ _=>none,(Heap.Ns1.of_empty e3).at λ o q=>yB _ q,λ _=>zm,λ y hy=>absurd rfl hy⟩
theorem rk {prog:Program}{w:World}{env:Env}{e:Expr}{f:Str}{pos:Pos}{s:Shared}{Q:Value->Shared->Prop}(hb:attributeBase e f env (eval e env)=eval e env)
  (h:wpAny (model prog w) A (eval e env) (λ o s₁=>wpAny (model prog w) A (getAttr o f true) Q E s₁) E s):wpAny (model prog w) A (eval (.Attribute e f pos) env) Q E s:=
 Attribute_any_ h (by rw[arm_eval_Attribute,hb])
end
def iT (K:yy)(ta:TE)(f:Str):TE:=λ σ H Q=>ta σ H λ x H1=>∃ a C dx fs v,x=.ref a/\H1 a=some (.ins C dx fs)/\Cls K C/\NoAttr K C f/\fs.lookup f=some v/\Q v H1
def qv (K:yy)(ta tv:TE)(f:Str):TS:=λ D σ H=>tv σ H λ y H1=>ta σ H1 λ x H2=>∃ a C dx fs,x=.ref a/\H2 a=some (.ins C dx fs)/\Cls K C/\NoAttr K C f/\fs.length<1000 /\
 D.nx σ (upd H2 a (.ins C dx (dr f y fs)))
section
variable {X:Cx}{o e value:Expr}{f:Str}{pos pos' tpos:Pos}{ta tv:TE}
theorem f7 (he:PE X e ta)(hb:attributeBase e f X.env (eval e X.env)=eval e X.env):PE X (.Attribute e f pos) (iT X.K ta f):=by
 intro pins s σ H Q I h;refine rk hb (thn (he pins s σ H _ I h) λ u s1 ⟨x,H1,I1,rx,a,C,dx,fs,v,ex,ea,c,n,l,q⟩=>?_);subst ex;obtain rfl:u=yK a:=rx;exact ke I1 ea c n l λ u' s2 I2 ru=>⟨v,H1,I2,ru,q⟩
theorem j1 (ha:PE X o ta)(hv:PE X value tv)(hs:swapsWith value (some (.Attribute o f pos')) pos.line X.env=pure false):PS X (.Assign [.Attribute o f pos'] value pos) (qv X.K ta tv f):=by
 intro pins s σ H D I h;refine plainObj_wpAny_Assign_Attribute (thn (hv pins s σ H _ I h) λ u s1 ⟨y,H1,I1,ry,q⟩=>thn (ha pins s1 σ H1 _ I1 q) λ ov s2 ⟨x,H2,I2,rx,a,C,dx,fs,ex,ea,c,n,l,q2⟩=>?_) hs;subst ex;obtain rfl:ov=yK a:=rx;exact kj I2 ea c n l ry λ s3 I3=>⟨σ,_,I3,q2⟩
end
structure Room (k:Nat)(A:Around):Prop where
 hd:A.handled=none
 dp:A.depth+3*k+5<recursionLimit
 un:A.units+16*k+200<cLine
theorem Room.mono {j k:Nat}{A:Around}(r:Room k A)(h:j<=k):Room j A:=⟨r.hd,by have:=r.dp;omega,by have:=r.un;omega⟩
theorem Room.deeper {k:Nat}{A:Around}(r:Room (k+1) A)(env:Env):Room k (A.deeper env):=
 ⟨r.hd,by have:=r.dp;show A.depth+1+3*k+5<_;omega,by have:=r.un;show A.units+3+16*k+200<_;omega⟩
theorem j4 {A:Around}{C:Addr}{us:List Value}{kw:List (Str×Value)}:(A.under (.builtin "type.__call__" ⟨.ref C::us,kw⟩)).depth=A.depth+1:=by
 first|rfl|simp[BB,Code.weight,Code.isCreation,Code.isGuard,Code.isCaller,Code.frames,BC,guardIds]
theorem j5 {A:Around}{C:Addr}{us:List Value}{kw:List (Str×Value)}:(A.under (.builtin "type.__call__" ⟨.ref C::us,kw⟩)).units=A.units+1:=by
 first|rfl|simp[BB,Code.cUnits,Code.frames,BC]
theorem Room.make {k:Nat}{A:Around}(r:Room (k+1) A)(C:Addr)(us:List Value)(kw:List (Str×Value)):Room k (A.under (.builtin "type.__call__" ⟨.ref C::us,kw⟩)):=
 ⟨r.hd,by have:=r.dp;rw[j4];omega,by have:=r.un;rw[j5];omega⟩
theorem Room.depth {k:Nat}{A:Around}(r:Room k A):A.depth<recursionLimit:=by have:=r.dp;omega
theorem Room.units {k:Nat}{A:Around}(r:Room k A):A.units+64<cLine:=by have:=r.un;omega
def gO:TA:=λ _ H Q=>Q [] H
def ek (ta:TE)(tr:TA):TA:=λ σ H Q=>ta σ H λ x H1=>tr σ H1 λ xs H2=>Q (x::xs) H2
section
variable {X:Cx}{e:Expr}{es:List Expr}{te:TE}{t:TA}{pos:Pos}
theorem aM:PA X [] gO:=λ _ _ _ _ H Q I h=>Calls.spliced_nil ⟨[],H,I,.nil,h⟩
theorem au (ha:PE X e te)(hr:PA X es t)(hs:autoParam (starEach (e::es) X.env=(false,eval e X.env)::starEach es X.env) ZF._auto_1):PA X (e::es) (ek te t):=by
 intro pos pins s σ H Q I h;rw[hs];show wpAny _ _ (spliced ((false,eval e X.env)::backTo pos (starEach es X.env))) _ _ s
 refine Calls.spliced_cons (thn (ha pins s σ H _ I h) λ u s1 ⟨x,H1,I1,r1,q1⟩=>?_);exact thn (hr pos pins s1 σ H1 _ I1 q1) λ us s2 ⟨xs,H2,I2,r2,q2⟩=>⟨x::xs,H2,I2,.cons r1 r2,q2⟩
def vO (t:TA):TE:=λ σ H Q=>t σ H λ xs H1=>xs.length<=sizeLine/\∀ p,H1 p=none->Q (.ref p) (upd H1 p (.tup xs))
def vR (t:TA):TE:=λ σ H Q=>t σ H λ xs H1=>xs.length<=sizeLine/\∀ p,H1 p=none->Q (.ref p) (upd H1 p (.lst xs))
theorem oz {x1}(h:PA X es t):PE X (.Tuple es x1 pos) (vO t):=by
 intro pins s σ H Q I hq;refine wpAny_Tuple_spliced (thn (h pos pins s σ H _ I hq) λ us s1 ⟨xs,H1,I1,r,z,q⟩=>⟨by rw[<- r.length];exact z,?_⟩);have hf:H1 s1.heap.objs.size=none:=I1.hok.fresh (wm _);refine⟨.ref s1.heap.objs.size,upd H1 s1.heap.objs.size (.tup xs),I1.laid (t':=s1.toks) (λ b u e=>yB _ e) (wm _) ?_,rfl,q _ hf⟩;exact⟨z,us,r,⟨_,yD _ rfl,rfl,_,rfl⟩⟩
theorem sj (h:PA X es t):PE X (.List es pos) (vR t):=by
 intro pins s σ H Q I hq;refine wpAny_List_spliced (thn (h pos pins s σ H _ I hq) λ us s1 ⟨xs,H1,I1,r,z,q⟩=>⟨by rw[<- r.length];exact z,?_⟩);have hf:H1 s1.heap.objs.size=none:=I1.hok.fresh (wm _);refine⟨.ref s1.heap.objs.size,upd H1 s1.heap.objs.size (.lst xs),I1.laid (t':=s1.toks) (λ b u e=>yB _ e) (wm _) ?_,rfl,q _ hf⟩;exact⟨z,us,0,r,yD _ rfl⟩
end
abbrev Sp:=List V->Hp->VK->XK->Prop
abbrev CXT:=List Env->Hp->Shared->XK->Value->Shared->Prop
structure Env0 (P:Program)(w:World)(K:yy)(mg:Str->Option Value)(base:Heap)(A:Around)(outer:List Env)(s:Shared)(H:Hp):Prop where
 frames:A.frames=some outer
 mod:Mod K mg base
 bs:∀ b o,base.get? b=some o->s.heap.get? b=some o/\H b=none
 bsz:base.objs.size<=s.heap.objs.size
 funs:s.heap.FunFrames base outer
 frf:∀ b∈frs outer,H b=none
 hok:HOk P w H s.heap
 bare:AllBare s.gens
def CE (outer:List Env)(P:Program)(w:World)(H:Hp)(s:Shared)(Q:VK)(u:Value)(s':Shared):Prop:=
 ∃ v H',s'.os=s.os/\AllBare s'.gens/\Un (frs outer) [] H H' s.heap s'.heap/\HOk P w H' s'.heap/\RelV v u/\Q v H'
def CR (CX:CXT)(outer:List Env)(P:Program)(w:World)(H:Hp)(s:Shared)(Q:VK)(E:XK)(r:Result)(s':Shared):Prop:=
 match r with
 | .ok (.ret u)=>CE outer P w H s Q u s'
 | .ok _=>False
 | .error e=>CX outer H s E e s'
structure FnOk (P:Program)(w:World)(K:yy)(mg:Str->Option Value)(base:Heap)(CX:CXT)(k:Nat)(f:Addr)(fd:FuncData)(ps:List Str)(sp:Sp):Prop where
 len:∀ vs H Q E,sp vs H Q E->vs.length=ps.length
 run:∀ (A:Around) (outer:List Env) (s:Shared) (H:Hp) (args:Args) (us:List Value) (vs:List V) (Q:VK) (E:XK),Room k A->Env0 P w K mg base A outer s H->BindsTo s fd args (ps.zip us)->Vals vs us->sp vs H Q E ->
  codeAny (model P w) A (.call (.ref f) args) (CR CX outer P w H s Q E) s
theorem FnOk.mono {P:Program}{w:World}{K:yy}{mg:Str->Option Value}{base:Heap}{CX:CXT}{j k:Nat}{f:Addr}{fd:FuncData}{ps:List Str}{sp:Sp}(F:FnOk P w K mg base CX j f fd ps sp)(h:j<=k):
  FnOk P w K mg base CX k f fd ps sp:=⟨F.len,λ A outer s H args us vs Q E hr=>F.run A outer s H args us vs Q E (hr.mono h)⟩
theorem Env0.make {P:Program}{w:World}{K:yy}{mg:Str->Option Value}{base:Heap}{A:Around}{outer:List Env}{s:Shared}{H:Hp}(e:Env0 P w K mg base A outer s H)(C:Addr)(us:List Value)(kw:List (Str×Value)):
  Env0 P w K mg base (A.under (.builtin "type.__call__" ⟨.ref C::us,kw⟩)) outer s H:=⟨by first|exact e.frames|(simpa[BB,Code.envs,BC,pushEnvs] using e.frames),e.mod,e.bs,e.bsz,e.funs,e.frf,e.hok,e.bare⟩
section
variable {X:Cx}{pins:List (Addr×Obj)}{σ:St}{H:Hp}{s s':Shared}
theorem Inv.env0 (I:Inv X pins σ H s):Env0 X.prog X.w X.K X.mg X.base X.A X.stack s H:=
 ⟨I.ok.frames,I.ok.mod,I.bs,wK I.ok.bsz I.sz,I.stack,I.stkFree,I.hok,I.bare⟩
theorem Inv.after {Q:VK}{u:Value}(I:Inv X pins σ H s)(h:CE X.stack X.prog X.w H s Q u s'):EP X pins σ Q u s':=by
 obtain⟨v,H',os,bare,un,hok,r,q⟩:=h;obtain⟨hh,g,d,t,os'⟩:=s';obtain rfl:os'=s.os:=os;exact⟨v,H',I.call (h':=hh) (g':=g) (d':=d) (t':=t) (ch:=[]) un hok bare (λ b z=>absurd z (by simp)),r,q⟩
end
def uz (sp:Sp)(dvs:List V)(E:XK)(t:TA):TE:=λ σ H Q=>t σ H λ vs H1=>sp (vs++dvs) H1 Q E
def ie (C:Addr)(m:Str)(sp:Sp)(dvs:List V)(E:XK)(ta:TE)(t:TA):TE:=λ σ H Q=>ta σ H λ x H1=>∃ a dx fs,x=.ref a/\H1 a=some (.ins C dx fs)/\fs.lookup m=none /\
 t σ H1 λ vs H2=>sp (x::(vs++dvs)) H2 Q E
def kO (C:Addr)(sp:Sp)(dvs:List V)(E:XK)(t:TA):TE:=λ σ H Q=>t σ H λ vs H1=>∀ x dx,H1 x=none->H1 dx=none->dx≠x ->
 sp (.ref x::(vs++dvs)) (upd (upd H1 dx (.own x)) x (.ins C dx [])) (λ v H2=>v=.non/\Q (.ref x) H2) E
def Binds (K:yy)(fd:FuncData)(ps:List Str)(ds:List Value):Prop:=
 ∀ (s:Shared) (us:List Value),K.In s.heap->(us++ds).length=ps.length->BindsTo s fd ⟨us,[]⟩ (ps.zip (us++ds))
theorem Binds.all {K:yy}{fd:FuncData}{ps:List Str}(h:∀ us:List Value,us.length=ps.length->bindArgs fd ⟨us,[]⟩=pure (ps.zip us)):Binds K fd ps []:=λ s us _ hl=>by
 rw[wV] at hl ⊢;exact .of_eq (h us hl)
def bC (CX:CXT)(X:Cx)(E:XK):Prop:=∀ (pins:List (Addr×Obj)) (σ:St) (H:Hp) (s:Shared) (e:Value) (s':Shared),Inv X pins σ H s->CX X.stack H s E e s'->X.xe e s'
section
variable {X:Cx}{CX:CXT}{k:Nat}{f C:Addr}{fd:FuncData}{ps:List Str}{sp:Sp}{dvs:List V}{ds:List Value}{E:XK}{x m:Str}{p pos apos:Pos}{e o:Expr}{es:List Expr}{ta:TE}{t:TA}
theorem nj {pins:List (Addr×Obj)}{σ:St}{H:Hp}{s:Shared}{Q:VK}{us:List Value}{vs:List V}(F:FnOk X.prog X.w X.K X.mg X.base CX k f fd ps sp)(hr:Room k X.A)(hb:Binds X.K fd ps ds)(hd:Vals dvs ds)(hx:bC CX X E)
  (I:Inv X pins σ H s) (r:Vals vs us) (h:sp (vs++dvs) H Q E):wpAny (model X.prog X.w) X.A (call (.ref f) us) (EP X pins σ Q) X.xe s:=by
 have r2:Vals (vs++dvs) (us++ds):=r.append hd;have hl:(us++ds).length=ps.length:=by rw[<- r2.length];exact F.len _ _ _ _ h
 refine Bd (zJ (F.run X.A X.stack s H ⟨us,[]⟩ (us++ds) (vs++dvs) Q E hr I.env0 (hb s us I.kIn hl) r2 h) λ r s' hq=>?_);cases r with
 | error e=>exact hx pins σ H s e s' I hq
 | ok fl=>
  cases fl with
  | ret u=>exact I.after hq
  | next=>exact yN hq
  | brk=>exact yN hq
  | cont=>exact yN hq
theorem oF (F:FnOk X.prog X.w X.K X.mg X.base CX k f fd ps sp)(hr:Room k X.A)(hg:Gl X x)(hm:X.mg x=some (.ref f))(hk:yR X.K (.ref f)=true)(hb:Binds X.K fd ps ds)(hd:Vals dvs ds)(hx:bC CX X E)
  (hdb:autoParam ((x == ("__debug__":Str))=false) ZC._auto_1):PE X (.Call (.Name x p) [] [] pos) (uz sp dvs E gO):=by
 intro pins s σ H Q I h;refine y9 (cI I hg hm ?_ hdb);exact Bo I.kIn hk (nj (us:=[]) F hr hb hd hx I .nil h)
theorem fS {pl:Sem Bool}(he:PE X o ta)(c:Cls X.K C)(hm:Meth X.K C m f)(F:FnOk X.prog X.w X.K X.mg X.base CX k f fd ps sp)(hr:Room k X.A)(hb:Binds X.K fd ps ds)(hd:Vals dvs ds)(hx:bC CX X E)(ha:PA X (e::es) t)
  (hst:autoParam (starEach (e::es) X.env=(false,eval e X.env)::starEach es X.env) ZF._auto_1) (hpl:autoParam ((backTo pos (starEach es X.env)).any (·.1)=false) ZF._auto_1)
  (ht:autoParam (eval (.Call (.Attribute o m apos) (e::es) [] pos) X.env=(do
   let ov <- eval o X.env
   standAt apos.atName
   let (f,first) <- holding [ov] (getMethod ov m pl)
   callWith pos f first (backTo pos (starEach (e::es) X.env)) (backToKw pos (keywordEach [] X.env)))) ZF._auto_1):
  PE X (.Call (.Attribute o m apos) (e::es) [] pos) (ie C m sp dvs E ta t):=by
 intro pins s σ H Q I h;refine PySem.W.methodCall_KW (pl:=pl) (thn (he pins s σ H _ I h) λ u s1 ⟨x,H1,I1,rx,a,dx,fs,ex,ea,l,q⟩=>?_) ht;subst ex;obtain rfl:u=yK a:=rx;refine jZ I1 ea c hm l ?_
 refine zT (first:=[.ref a]) (h₀:=X.base) I.ok.mod.kin hm.kp (thn (ha pos pins s1 σ H1 _ I1 q) λ us s2 ⟨vs,H2,I2,r,q2⟩=>⟨I2.kIn,?_⟩) hst hpl;exact nj (us:=.ref a::us) (vs:=.ref a::vs) F hr hb hd hx I2 (.cons rfl r) q2
structure Mk (K:yy)(C f:Addr):Prop where
 makes:Af K C=true
 init:yI K (.ref C) "__init__"=some (some (.ref f))
 fn:zo K (.ref f)=true
 kp:yR K (.ref C)=true
theorem jz {pins:List (Addr×Obj)}{σ:St}{H:Hp}{s:Shared}{Q:VK}{us:List Value}{vs:List V}(M:Mk X.K C f)(F:FnOk X.prog X.w X.K X.mg X.base CX k f fd ps sp)(hr:Room (k+1) X.A)(hb:Binds X.K fd ps ds)(hd:Vals dvs ds)
  (hx:bC CX X E) (I:Inv X pins σ H s) (r:Vals vs us)
  (h:∀ x dx,H x=none->H dx=none->dx≠x->sp (.ref x::(vs++dvs)) (upd (upd H dx (.own x)) x (.ins C dx [])) (λ v H2=>v=.non/\Q (.ref x) H2) E):
  wpAny (model X.prog X.w) X.A (call (.ref C) us) (EP X pins σ Q) X.xe s:=by
 have hq:=h (s.heap.objs.size+1) s.heap.objs.size (I.hok.fresh (xE _)) (I.hok.fresh (wm _)) (wb (wN _));have I2:=Inv.made (C:=C) I;have r2:Vals (V.ref (s.heap.objs.size+1)::(vs++dvs)) (yK (s.heap.objs.size+1)::(us++ds)):=.cons rfl (r.append hd);have hl:(yK (s.heap.objs.size+1)::us++ds).length=ps.length:=by
  have e:=r2.length;rw[F.len _ _ _ _ hq] at e;exact e.symm
 refine Bd (mT (f:=f) I.kIn M.makes M.init (beq_iff_eq.mp M.fn) (zJ (F.run _ X.stack _ _ ⟨yK (s.heap.objs.size+1)::us,[]⟩ (yK (s.heap.objs.size+1)::(us++ds)) _ _ E (hr.make C us [])
  (I2.env0.make C us []) (hb _ (yK (s.heap.objs.size+1)::us) I2.kIn hl) r2 hq) λ r s' hq'=>?_))
 cases r with
 | error e=>exact hx pins σ _ _ e s' I2 hq'
 | ok fl=>
  cases fl with
  | ret u=>
   obtain⟨v,H',I3,rv,ev,q3⟩:=I2.after hq';subst ev;exact⟨rv,⟨V.ref (s.heap.objs.size+1),H',I3,rfl,q3⟩⟩
  | next=>exact yN hq'
  | brk=>exact yN hq'
  | cont=>exact yN hq'
theorem p8 (M:Mk X.K C f)(F:FnOk X.prog X.w X.K X.mg X.base CX k f fd ps sp)(hr:Room (k+1) X.A)(hg:Gl X x)(hm:X.mg x=some (.ref C))(hb:Binds X.K fd ps ds)(hd:Vals dvs ds)(hx:bC CX X E)
  (ha:PA X (e::es) t) (hdb:autoParam ((x == ("__debug__":Str))=false) ZC._auto_1) (he:autoParam (starEach (e::es) X.env=(false,eval e X.env)::starEach es X.env) ZF._auto_1) (hpl:autoParam ((backTo pos (starEach es X.env)).any (·.1)=false) ZF._auto_1):
  PE X (.Call (.Name x p) (e::es) [] pos) (kO C sp dvs E t):=by
 intro pins s σ H Q I h;refine y9 (cI I hg hm ?_ hdb);refine zT (h₀:=X.base) I.ok.mod.kin M.kp (thn (ha pos pins s σ H _ I h) λ us s1 ⟨vs,H1,I1,r,q⟩=>⟨I1.kIn,?_⟩) he hpl;exact jz M F hr hb hd hx I1 r q
theorem nZ (M:Mk X.K C f)(F:FnOk X.prog X.w X.K X.mg X.base CX k f fd ps sp)(hr:Room (k+1) X.A)(hg:Gl X x)(hm:X.mg x=some (.ref C))(hb:Binds X.K fd ps ds)(hd:Vals dvs ds)(hx:bC CX X E)
  (hdb:autoParam ((x == ("__debug__":Str))=false) ZC._auto_1):PE X (.Call (.Name x p) [] [] pos) (kO C sp dvs E gO):=by
 intro pins s σ H Q I h;refine y9 (cI I hg hm ?_ hdb);exact Bo I.kIn M.kp (jz (us:=[]) M F hr hb hd hx I .nil h)
end
structure FnScope (N P:List Str)(sc:Scope):Prop where
 kind:sc.kind=.function
 co:sc.isCoroutine=false
 gen:sc.isGenerator=false
 nd:N.Nodup
 pre:N.take P.length=P
 par:∀ x∈P,sc.names.lookup x=some .local\/sc.names.lookup x=some .cell
 nofree:∀ y∈sc.names,y.2≠.free
theorem gR {kindOf:Str->Option NameKind}{x:Str}:∀ {binds:List (Str×Value)} {m:Str->Option Value},(∀ v,(x,v)∉binds)->bindL kindOf binds m x=m x
 | [],_,_=>rfl
 | (n,v)::r,m,h=>by
  unfold bindL;rw[gR λ w hw=>h w (v7 _ hw)]
  split
  ·have:x≠n:=by rintro rfl;exact h v wc
   simp[this]
  ·rfl
theorem g7 {kindOf:Str->Option NameKind}{x:Str}:∀ {binds:List (Str×Value)} {m:Str->Option Value},(∀ v,(x,v)∉binds)->bindC kindOf binds m x=m x
 | [],_,_=>rfl
 | (n,v)::r,m,h=>by
  unfold bindC;rw[g7 λ w hw=>h w (v7 _ hw)]
  split
  ·rfl
  ·have:x≠n:=by rintro rfl;exact h v wc
   simp[this]
theorem gU {kindOf:Str->Option NameKind}{x:Str}{v:Value}:∀ {P:List Str} {vs:List Value} {i:Nat} {m:Str->Option Value},P.Nodup->P[i]?=some x->vs[i]?=some v->kindOf x=some .local ->
  bindL kindOf (P.zip vs) m x=some v
 | [],_,_,_,_,h,_,_=>by simp at h
 | _::_,[],_,_,_,_,h,_=>by simp at h
 | p::P,w::vs,0,m,nd,h1,h2,hk=>by
  simp at h1 h2;subst h1;subst h2;show bindL kindOf ((p,w)::P.zip vs) m p=_
  unfold bindL;rw[gR λ v hv=>(List.nodup_cons.mp nd).1 (xu hv).1,if_pos hk];simp
 | p::P,w::vs,i+1,m,nd,h1,h2,hk=>by
  show bindL kindOf ((p,w)::P.zip vs) m x=_
  unfold bindL;exact gU (i:=i) (List.nodup_cons.mp nd).2 (by simpa using h1) (by simpa using h2) hk
theorem gW {kindOf:Str->Option NameKind}{x:Str}{v:Value}:∀ {P:List Str} {vs:List Value} {i:Nat} {m:Str->Option Value},P.Nodup->P[i]?=some x->vs[i]?=some v->kindOf x≠some .local ->
  bindC kindOf (P.zip vs) m x=some v
 | [],_,_,_,_,h,_,_=>by simp at h
 | _::_,[],_,_,_,_,h,_=>by simp at h
 | p::P,w::vs,0,m,nd,h1,h2,hk=>by
  simp at h1 h2;subst h1;subst h2;show bindC kindOf ((p,w)::P.zip vs) m p=_
  unfold bindC;rw[g7 λ v hv=>(List.nodup_cons.mp nd).1 (xu hv).1,if_neg hk];simp
 | p::P,w::vs,i+1,m,nd,h1,h2,hk=>by
  show bindC kindOf ((p,w)::P.zip vs) m x=_
  unfold bindC;exact gW (i:=i) (List.nodup_cons.mp nd).2 (by simpa using h1) (by simpa using h2) hk
def start (N:List Str)(vs:List V):St:=vs.map some++List.replicate (N.length-vs.length) none
def bJ (CX:CXT)(P:Program)(w:World)(K:yy)(mg:Str->Option Value)(base:Heap)(N:List Str)(qual:Str)(scope:Scope)(f:Addr)(cd:Value)(A:Around)(outer:List Env)(s:Shared)(H:Hp)(E:XK):Cx where
 prog:=P
 w:=w
 K:=K
 mg:=mg
 base:=base
 A:=A.deeper (envOfC qual scope s.heap.objs.size f cd)
 N:=N
 s₀:=s
 H₀:=H
 env:=envOfC qual scope s.heap.objs.size f cd
 outer:=outer
 stack:=envOfC qual scope s.heap.objs.size f cd::outer
 ex:=[]
 calm:=true
 fn:=λ _=>true
 pn:=[]
 xe:=λ e s'=>wpAny (model P w) (A.deeper (envOfC qual scope s.heap.objs.size f cd)) (leaving (envOfC qual scope s.heap.objs.size f cd) e) (λ _ s''=>CX outer H s E e s'') (λ e' s''=>CX outer H s E e' s'') s'
theorem jv {sc:Scope}{n:Nat}{x:Str}(h:sc.names.lookup x=some .cell):∃ c,(cellsFrom n sc.names []).lookup x=some c:=by
 have q:=z9 sc.names n [] (.inl h);exact Option.isSome_iff_exists.mp q
theorem iw {CX:CXT}{P:Program}{w:World}{K:yy}{mg:Str->Option Value}{base:Heap}{N ps:List Str}{qual:Str}{scope:Scope}{f:Addr}{cd:Value}{A:Around}{outer:List Env}{s s1:Shared}{H:Hp}{E:XK}{us:List Value}{vs:List V}
  (S:FnScope N ps scope) (hd:A.handled=none) (e0:Env0 P w K mg base A outer s H) (hl:vs.length=ps.length) (r:Vals vs us)
  (x:InCallC s s.heap.objs.size (bindL (envOfC qual scope s.heap.objs.size f cd).kindOf (ps.zip us) λ _=>none) (cellsFrom (s.heap.objs.size+1) scope.names []) (bindC (envOfC qual scope s.heap.objs.size f cd).kindOf (ps.zip us) λ _=>none) s1):
  Inv (bJ CX P w K mg base N qual scope f cd A outer s H E) [] (start N vs) H s1:=by
 have hpl:ps.length<=N.length:=by have:=congrArg List.length S.pre;rw[xq] at this;omega
 obtain⟨h1,tk,rfl,hk⟩:=x.done;have noA:∀ b:Addr,b∉(bJ CX P w K mg base N qual scope f cd A outer s H E).ex:=λ b z=>absurd (show b∈([]:List Addr) from z) (by simp)
 refine⟨⟨e0.mod,S.kind,rfl,rfl,wm _,λ y z c h1 h2=>?_,λ y hy=>?_,λ y c _ h=>?_,λ _=>hd,Around.frames_deeper e0.frames,.inr ⟨rfl,rfl⟩,λ b z=>absurd z (noA b),e0.bs,e0.bsz,λ b _ _=>noA b,λ b z=>absurd z (noA b),e0.funs,e0.frf⟩,
  rfl,e0.bare,Un.kept hk,⟨_,x.toInCall.ns,λ i y v h1 h2 h3=>?_⟩,λ y c h=>⟨_,x.cell y c h⟩,e0.hok.fresh (wm _),λ y c h=>?_,λ p hp=>absurd (show p∈([]:List (Addr×Obj)) from hp) (by simp),e0.hok.kept hk,?_⟩
 ·exact name_of_addr x.apart (zA h1) (zA h2)
 ·have hy:scope.names.lookup y=some .cell\/scope.names.lookup y=some .free:=hy
  rcases hy with hy|hy
  ·exact jv hy
  ·exact absurd rfl (S.nofree _ (zA hy))
 ·exact xY (x.above y c (zA h))
 ·have hi:i<vs.length:=by
   unfold start at h2;by_cases hi:i<vs.length
   ·exact hi
   ·rw[wJ (by simpa using hi)] at h2
    rw[xo] at h2
    split at h2 <;>cases h2
  have ha:vs[i]?=some v:=by
   unfold start at h2;rw[wF (by simpa using hi),wx] at h2;cases e:vs[i]? with
   | none=>rw[e] at h2;cases h2
   | some a=>rw[e] at h2;cases h2;rfl
  obtain⟨u,hu,rv⟩:=r.get ha;have hp:ps[i]?=some y:=by
   rw[<- S.pre,List.getElem?_take_of_lt ⋯];exact h1
  have ndP:ps.Nodup:=by rw[<- S.pre];exact S.nd.sublist (List.take_sublist _ _)
  refine⟨u,rv,?_⟩
  rcases S.par y (xc hp) with k|k
  ·exact .inl ⟨k,gU ndP hp hu k⟩
  ·obtain⟨c,e⟩:=jv (n:=s.heap.objs.size+1) k
   refine .inr ⟨.inl k,c,e,?_⟩;have q:=x.cell y c e;rw[gW ndP hp hu (by show scope.names.lookup y≠_;rw[k];decide)] at q;exact q
 ·exact e0.hok.fresh (xY (x.above y c (zA h)))
 ·unfold start
  show _=N.length
  rw[wy,wg,w8];omega
theorem rA {CX:CXT}{P:Program}{w:World}{K:yy}{mg:Str->Option Value}{base:Heap}{k:Nat}{f:Addr}{name qual:Str}{params:Arguments}{body:List Stmt}{scope:Scope}{dV kV doc pm cdv ct oc:Value}{an od:Option Addr}
  {osl:Array (Option Value)} {N ps:List Str} {sp:Sp} (lk:K.lookup f=some ⟨oc,od,.func (yJ name qual params body scope dV kV doc pm an cdv ct),osl⟩) (hcd:zc K cdv qual=true) (S:FnScope N ps scope)
  (len:∀ vs H Q E,sp vs H Q E->vs.length=ps.length)
  (hbody:∀ (A:Around) (outer:List Env) (s:Shared) (H:Hp) (vs:List V) (Q:VK) (E:XK),Room k (A.deeper (envOfC qual scope s.heap.objs.size f cdv))->sp vs H Q E ->
   ∃ t,PSs (bJ CX P w K mg base N qual scope f cdv A outer s H E) body t/\t { nx:=λ _ H'=>Q .non H',rt:=Q } (start N vs) H):
  FnOk P w K mg base CX (k+1) f (yJ name qual params body scope dV kV doc pm an cdv ct) ps sp:=by
 refine⟨len,λ A outer s H args us vs Q E hr e0 hb r hsp=>?_⟩;have hl:=len _ _ _ _ hsp;have KX:K.In s.heap:=e0.mod.kin.keeps λ b o e=>(e0.bs b o e).1
 have lim:s.heap.NoLimit:=e0.mod.nolimit.keeps λ b o e=>(e0.bs b o e).1
 have hkind:∀ y∈ps.zip us,scope.names.lookup y.1=some .local\/(scope.names.lookup y.1=some .cell/\((cellsFrom (s.heap.objs.size+1) scope.names []).lookup y.1).isSome=true):=λ⟨n,v⟩ hy=>by
  rcases S.par n (xu hy).1 with q|q
  ·exact .inl q
  ·exact .inr ⟨q,z9 _ _ _ (.inl q)⟩
 refine A7 hr.depth (KX _ _ lk) rfl S.co S.gen rfl (BD KX hcd) (hb _ _ _ _ ?_);refine AD S.kind hkind λ env he s1 x=>?_
 subst he;refine⟨lim.keeps x.toInCall.keep,codeAny_func ?_⟩;obtain⟨t,ht,hq⟩:=hbody A outer s H vs Q E (hr.deeper _) hsp;have I:Inv (bJ CX P w K mg base N qual scope f cdv A outer s H E) [] (start N vs) H s1:=iw S hr.hd e0 hl r x;refine yC (ht [] s1 (start N vs) H _ I hq) (λ fl s' hs=>?_) λ e s' hs=>hs
 have fin:∀ {σ':St} {H':Hp} {v:V} {u:Value},Inv (bJ CX P w K mg base N qual scope f cdv A outer s H E) [] σ' H' s'->RelV v u->Q v H'->CE outer P w H s Q u s':=
  λ {σ' H' v u} J rv q=>⟨v,H',J.os,J.bare,J.base,J.hok,rv,q⟩
 cases fl with
 | ret u=>
  obtain⟨v,σ',H',J,rv,q⟩:=hs;exact fin J rv q
 | next=>
  obtain⟨σ',H',J,q⟩:=hs;exact fin (v:=V.non) (u:=zX) J rfl q
 | brk=>
  obtain⟨_,_,_,q⟩:=hs;exact yN q
 | cont=>
  obtain⟨_,_,_,q⟩:=hs;exact yN q
section
variable {X:Cx}{x:Str}{p pos:Pos}{e:Expr}{es:List Expr}{t:TA}{id T:String}{r:List V->Hp->VK->Prop}
def tCB (r:List V->Hp->VK->Prop)(t:TA):TE:=λ σ H Q=>t σ H λ vs H1=>r vs H1 Q
theorem cB (hc:cb X (.builtin id) r)(hg:Gl X x)(hm:X.mg x=none)(hv:bootBuiltins x=some (.builtin id))(ha:PA X (e::es) t)(hn:autoParam (x≠"__name__") ZC._auto_1)(hdb:autoParam ((x == ("__debug__":Str))=false) ZC._auto_1)
  (he:autoParam (starEach (e::es) X.env=(false,eval e X.env)::starEach es X.env) ZF._auto_1) (hpl:autoParam ((backTo pos (starEach es X.env)).any (·.1)=false) ZF._auto_1):PE X (.Call (.Name x p) (e::es) [] pos) (tCB r t):=by
 intro pins s σ H Q I h;refine y9 (cD I hg hm hv ?_ hn hdb);exact PyProof.Rows.callWith_builtin1 (thn (ha pos pins s σ H _ I h) λ us s1 ⟨vs,H1,I1,r1,q1⟩=>hc pins s1 σ H1 vs us Q I1 r1 q1) he hpl
theorem mj (hc:cb X (.type T) r)(hg:Gl X x)(hm:X.mg x=none)(hv:bootBuiltins x=some (.type T))(ha:PA X (e::es) t)(hn:autoParam (x≠"__name__") ZC._auto_1)(hdb:autoParam ((x == ("__debug__":Str))=false) ZC._auto_1)
  (he:autoParam (starEach (e::es) X.env=(false,eval e X.env)::starEach es X.env) ZF._auto_1) (hpl:autoParam ((backTo pos (starEach es X.env)).any (·.1)=false) ZF._auto_1):PE X (.Call (.Name x p) (e::es) [] pos) (tCB r t):=by
 intro pins s σ H Q I h;refine y9 (cD I hg hm hv ?_ hn hdb);exact yQ (thn (ha pos pins s σ H _ I h) λ us s1 ⟨vs,H1,I1,r1,q1⟩=>hc pins s1 σ H1 vs us Q I1 r1 q1) he hpl
end
end L2
namespace HT
open PySem PyProof.Rows
section
open PySem.SeqAt
open PySem.AutoSeq1 (wpAny_loadPart')
open PySem.MeetsSeq PySem.MeetsSeq2 PySem.MeetsSeq3
end
section
variable {prog:Program}{w:World}{A:Around}{E:Value->Shared->Prop}{s:Shared}
def sIx (n d:Nat):Option Int->Nat
 | none=>d
 | some v=>if v<0 then (v+(n:Int)).toNat else min v.toNat n
end
end HT
namespace L2
open PySem PySem.Spec PyProof.Rows
abbrev TO:=St->Hp->(Option Int->Hp->Prop)->Prop
def PO (X:Cx)(e:Option Expr)(t:TO):Prop:=
 ∀ (pins:List (Addr×Obj)) (s:Shared) (σ:St) (H:Hp) (Q:Option Int->Hp->Prop),Inv X pins σ H s->t σ H Q ->
  wpAny (model X.prog X.w) X.A (evalPart e X.env) (λ u s'=>∃ o H',Inv X pins σ H' s'/\IsPart u o/\Q o H') X.xe s
def qm:TO:=λ _ H Q=>Q none H
def uE (t:TE):TO:=λ σ H Q=>t σ H λ x H1=>∃ i,x=.int i/\Q (some i) H1
theorem intsAre_of {ns:List Int}:∀ {us:List Value},Vals (ns.map V.int) us->IntsAre us ns:=by
 induction ns with
 | nil=>intro us r;rw[xy] at r;cases r;exact .nil
 | cons n ns ih=>
  intro us r;rw[we] at r;cases r with
  | cons r1 r2=>
   obtain⟨t,e⟩:=r1;subst e;exact .cons n t (ih r2)
section
variable {X:Cx}{e:Expr}{te:TE}{lo hi:Option Expr}{tl th:TO}{pos p2:Pos}
theorem qj:PO X none qm:=by
 intro pins s σ H Q I h;rw[evalPart_none];exact yE ⟨none,H,I,.none,h⟩
theorem qL (h:PE X e te):PO X (some e) (uE te):=by
 intro pins s σ H Q I hw;rw[evalPart_some];refine thn (h pins s σ H _ I hw) λ u s1 ⟨x,H1,I1,r1,q1⟩=>?_
 obtain⟨i,rfl,q⟩:=q1;obtain⟨t,rfl⟩:=r1;exact⟨some i,H1,I1,.int i t,q⟩
def SlR (X:Cx)(r:V->Option Int->Option Int->Hp->VK->Prop):Prop:=
 ∀ (pins:List (Addr×Obj)) (s:Shared) (σ:St) (H:Hp) (x:V) (v vl vu:Value) (lo hi:Option Int) (sl:Addr) (Q:VK),Inv X pins σ H s->RelV x v->s.heap.IsSliceOf sl vl vu .none->IsPart vl lo->IsPart vu hi->r x lo hi H Q ->
  ∃ T id,typeLookup (.type T) "__getitem__"=pure (some (.builtin id))/\s.TypeIs v T/\wpAny (model X.prog X.w) X.A (getItem v (.ref sl)) (EP X pins σ Q) X.xe s
def tSl (r:V->Option Int->Option Int->Hp->VK->Prop)(te:TE)(tl th:TO):TE:=λ σ H Q=>te σ H λ x H1=>tl σ H1 λ l H2=>th σ H2 λ u H3=>r x l u H3 Q
theorem jm {r:V->Option Int->Option Int->Hp->VK->Prop}(hr:SlR X r)(he:PE X e te)(hl:PO X lo tl)(hu:PO X hi th):PE X (.Subscript e (.Slice lo hi none p2) pos) (tSl r te tl th):=by
 intro pins s σ H Q I h;refine Subscript_ (thn (he pins s σ H _ I h) λ v s1 ⟨x,H1,I1,r1,q1⟩=>?_);refine wpAny_Slice (thn (hl pins s1 σ H1 _ I1 q1) λ vl s2 ⟨l,H2,I2,pl,q2⟩=>thn (hu pins s2 σ H2 _ I2 q2) λ vu s3 ⟨u,H3,I3,pu,q3⟩=>?_);rw[evalPart_none];refine yE ?_
 have I4:Inv X pins σ H3 { s3 with heap:=s3.heap.push { cls:=.type "slice",data:=.fields #[vl,vu,.none] } }:=I3.kept (t':=s3.toks) λ b ob q=>yB _ q
 obtain⟨T,id,hT,ht,hg⟩:=hr pins { s3 with heap:=s3.heap.push { cls:=.type "slice",data:=.fields #[vl,vu,.none] } } σ H3 x v vl vu l u s3.heap.objs.size Q I4 r1 (B0 ..) pl pu q3;show wpAny (model X.prog X.w) X.A (subscriptTail e (.Slice lo hi none p2) v (.ref s3.heap.objs.size)) (EP X pins σ Q) X.xe { s3 with heap:=s3.heap.push { cls:=.type "slice",data:=.fields #[vl,vu,.none] } }
 exact tail_any (ops:=[.ref s3.heap.objs.size,v]) ht hT hg (by with_unfolding_all rfl)
def lV (xs:List V)(lo hi:Option Int):List V:=(xs.drop (HT.sIx xs.length 0 lo)).take (HT.sIx xs.length xs.length hi-HT.sIx xs.length 0 lo)
theorem jF (xs:List V)(lo hi:Option Int):(lV xs lo hi).length<=xs.length:=by
 unfold lV;rw[xq,yb];omega
end
def ixN (n:Nat)(i:Int):Option Nat:=if 0<=i then (if i<n then some i.toNat else none) else if -(n:Int)<=i then some (i+n).toNat else none
def atI {α:Type}(xs:List α)(i:Int):Option α:=(ixN xs.length i).bind λ j=>xs[j]?
theorem kr {n:Nat}{i:Int}{j:Nat}(h:ixN n i=some j):seqIndex? i n=some j/\j<n/\-(n:Int)<=i/\i<n:=by
 unfold ixN at h;by_cases h0:0<=i
 ·rw[if_pos h0] at h
  by_cases h1:i<n
  ·rw[if_pos h1] at h
   have e:i.toNat=j:=Option.some.inj h;exact⟨by rw[A1 h0 h1,e],⋯,⋯,h1⟩
  ·rw[if_neg h1] at h;cases h
 ·rw[if_neg h0] at h
  by_cases h1:-(n:Int)<=i
  ·rw[if_pos h1] at h
   have e:(i+n).toNat=j:=Option.some.inj h;exact⟨by rw[BE ⋯ h1,e],⋯,h1,⋯⟩
  ·rw[if_neg h1] at h;cases h
theorem dY {α:Type}{xs:List α}{i:Int}{v:α}(h:atI xs i=some v):∃ j,seqIndex? i xs.length=some j/\xs[j]?=some v/\j<xs.length/\-(xs.length:Int)<=i/\i<xs.length:=by
 unfold atI at h;cases e:ixN xs.length i with
 | none=>rw[e] at h;cases h
 | some j=>
  rw[e] at h;obtain⟨h1,h2,h3,h4⟩:=kr e;exact⟨j,h1,h,h2,h3,h4⟩
theorem kS {α:Type}{xs:List α}{j:Nat}{v:α}(h:xs[j]?=some v):atI xs (j:Int)=some v:=by
 have hj:j<xs.length:=(List.getElem?_eq_some_iff.mp h).1;have e:ixN xs.length (j:Int)=some j:=by
  unfold ixN;rw[if_pos ⋯,if_pos ⋯];simp
 unfold atI;rw[e];exact h
def jb (b:Expr):Prop:=∀ o i,subscripted b false o i=operate [o,i] (getItem o i)
def IxR (X:Cx)(r:R2):Prop:=
 ∀ (value slice:Expr) (pins:List (Addr×Obj)) (s:Shared) (σ:St) (H:Hp) (x y:V) (v u:Value) (Q:VK),Inv X pins σ H s->RelV x v->RelV y u->r x y H Q ->
  subscripted slice false v u=operate [v,u] (getItem v u)->wpAny (model X.prog X.w) X.A (subscriptTail value slice v u) (EP X pins σ Q) X.xe s
def MtR (X:Cx)(id:String)(r:V->List V->Hp->VK->Prop):Prop:=
 ∀ (pins:List (Addr×Obj)) (s:Shared) (σ:St) (H:Hp) (x:V) (xs:List V) (v:Value) (us:List Value) (Q:VK),Inv X pins σ H s->RelV x v->Vals xs us->r x xs H Q ->
  wpAny (model X.prog X.w) X.A (call (.builtin id) (v::us)) (EP X pins σ Q) X.xe s
section
variable {X:Cx}{a b:Expr}{ta tb:TE}{pos:Pos}
theorem IxR.or {r r':R2}(h:IxR X r)(h':IxR X r'):IxR X (λ x y H Q=>r x y H Q\/r' x y H Q):=by
 intro value slice pins s σ H x y v u Q I rx ry q hs
 rcases q with q|q
 ·exact h value slice pins s σ H x y v u Q I rx ry q hs
 ·exact h' value slice pins s σ H x y v u Q I rx ry q hs
theorem nW {r:R2}(hr:IxR X r)(ha:PE X a ta)(hb:PE X b tb)(hs:jb b):PE X (.Subscript a b pos) (tOp r ta tb):=by
 intro pins s σ H Q I h;exact Subscript_ (t4 ha hb I h λ v u s2 x y H2 I2 rx ry q=>hr a b pins s2 σ H2 x y v u Q I2 rx ry q (hs _ _))
def vq (K:yy):R2:=λ x y H Q=>∃ p xs i v,x=.ref p/\y=.int i/\SqL K H p xs/\atI xs i=some v/\Q v H
def vT (K:yy):R2:=λ x y H Q=>∃ p xs i v,x=.ref p/\y=.int i/\SqT K H p xs/\atI xs i=some v/\Q v H
def vH:R2:=λ x y H Q=>∃ z i c,x=.str z/\y=.int i/\z.length<=sizeLine/\atI z.cps.toList i=some c/\Q (.str ⟨#[c]⟩) H
theorem ix_list:IxR X (vq X.K):=by
 intro value slice pins s σ H x y v u Q I rx ry h hs;obtain⟨p,xs,i,z,rfl,rfl,hq,he,q⟩:=h;cases rx;obtain⟨t,rfl⟩:=ry;obtain⟨its,r,pl,hz⟩:=I.list hq;obtain⟨j,h1,h2,h3,h4,h5⟩:=dY he;obtain⟨w,ew,rw'⟩:=r.get h2;have hl:=r.length;have hn:=dH;have fin:EP X pins σ Q w s:=⟨z,H,I,rw',q⟩;by_cases h0:0<=i
 ·have hj:i.toNat=j:=by
   rw[A1 h0 h5] at h1;exact Option.some.inj h1
  exact item_listR pl.isList h0 ⋯ (by rw[hj];simpa using ew) fin hs
 ·have hj:(i+(its.toArray.size:Int)).toNat=j:=by
   rw[BE ⋯ h4] at h1;rw[wj,<- hl];exact Option.some.inj h1
  exact A2 (x:=w) pl.isList.typeIs slot_list_getitem.lookup
   (wpAny_getItem_list_neg (Q:=λ r s'=>r=w/\EP X pins σ Q r s') pl.isList ⋯ (by rw[wj] <;>omega) ⋯ (by rw[hj];simpa using ew) ⟨rfl,fin⟩) hs
theorem tE:IxR X (vT X.K):=by
 intro value slice pins s σ H x y v u Q I rx ry h hs;obtain⟨p,xs,i,z,rfl,rfl,hq,he,q⟩:=h;cases rx;obtain⟨t,rfl⟩:=ry;obtain⟨its,r,pl,hz⟩:=I.tuple hq;obtain⟨j,h1,h2,h3,h4,h5⟩:=dY he;obtain⟨w,ew,rw'⟩:=r.get h2;have hl:=r.length;have hn:=dH;have fin:EP X pins σ Q w s:=⟨z,H,I,rw',q⟩;exact A2 (x:=w) pl.typeIs slot_tuple_getitem.lookup
  (getItem_tuple (j:=j) (Q:=λ r s'=>r=w/\EP X pins σ Q r s') pl ⋯ ⋯ (by rw[wj,<- hl];exact h1) (by simpa using ew) ⟨rfl,fin⟩) hs
theorem tP:IxR X vH:=by
 intro value slice pins s σ H x y v u Q I rx ry h hs;obtain⟨z,i,c,rfl,rfl,hz,he,q⟩:=h;obtain⟨t,rfl⟩:=rx;obtain⟨t',rfl⟩:=ry;obtain⟨j,h1,h2,h3,h4,h5⟩:=dY he;have hl:z.cps.toList.length=z.length:=by simp[zD]
 rw[hl] at h1 h4 h5;have hn:=dH;exact tail_any (Ag s z t) slot_str_getitem.lookup (getItem_str (c:=c) (by
  have e1:decide (i < -(2 ^ 63:Int))=false:=decide_eq_false ⋯;have e2:decide (i ≥ 2 ^ 63)=false:=decide_eq_false ⋯;rw[e1,e2,Bool.or_false]) (by rw[h1];simpa using h2) ⟨.str ⟨#[c]⟩,H,I.tok _,⟨_,rfl⟩,q⟩) hs
theorem j8 (its:List Value)(n j:Nat)(u:Value):AM (·.setIfInBounds j u) { cls:=.type "list",data:=.seq its.toArray n }={ cls:=.type "list",data:=.seq (its.set j u).toArray n }:=by
 simp[AM]
theorem Inv.lst {pins:List (Addr×Obj)}{σ:St}{H:Hp}{s:Shared}{p:Addr}{xs:List V}(I:Inv X pins σ H s)(h:H p=some (.lst xs)):
  ∃ (its:List Value) (n:Nat),Vals xs its/\s.heap.get? p=some { cls:=.type "list",data:=.seq its.toArray n }/\xs.length<=sizeLine:=by
 obtain⟨z,its,n,r,e⟩:=I.hok p _ h;exact⟨its,n,r,e,z⟩
theorem Inv.lstUpd {pins:List (Addr×Obj)}{σ:St}{H:Hp}{s:Shared}{p:Addr}{xs ys:List V}{its its':List Value}{n n':Nat}{f:Obj->Obj}(I:Inv X pins σ H s)(h:H p=some (.lst xs))
  (ho:s.heap.get? p=some { cls:=.type "list",data:=.seq its.toArray n }) (hf:f { cls:=.type "list",data:=.seq its.toArray n }={ cls:=.type "list",data:=.seq its'.toArray n' }) (r:Vals ys its') (hz:ys.length<=sizeLine) (t:Nat):
  Inv X pins σ (upd H p (.lst ys)) { s with heap:=s.heap.update p f,toks:=t }:=by
 have e:(s.heap.update p f).get? p=some { cls:=.type "list",data:=.seq its'.toArray n' }:=by
  rw[Ad f ho (by rw[hf] <;>rfl),hf]
 refine I.write (x:=p) (e:=p) (by rw[h];trivial) (.inl rfl) (λ b u hb q=>(yS _ _ (Ne.symm hb)).trans q) ⟨_,e⟩ ?_
 exact⟨hz,its',n',r,e⟩
def uI:V->V->V->Hp->(Hp->Prop)->Prop:=λ o i v H Q=>∃ p xs k j,o=.ref p/\i=.int k/\H p=some (.lst xs)/\ixN xs.length k=some j/\Q (upd H p (.lst (xs.set j v)))
theorem set_list:tN X uI:=by
 intro pins s σ H o i v ov iv u Q I ro ri rv h;obtain⟨p,xs,k,j,rfl,rfl,hp,hj,q⟩:=h;cases ro;obtain⟨t,rfl⟩:=ri;obtain⟨its,n,r,ho,hz⟩:=I.lst hp;obtain⟨h1,h2,h3,h4⟩:=kr hj;have hl:=r.length;have hn:=dH;have I':Inv X pins σ (upd H p (.lst (xs.set j v))) { s with heap:=s.heap.update p (AM (·.setIfInBounds j u)) }:=
  I.lstUpd hp ho (j8 its n j u) (r.set rv j) (by rw[w5];exact hz) s.toks
 by_cases h0:0<=k
 ·have hk:k.toNat=j:=by
   rw[A1 h0 h4] at h1;exact Option.some.inj h1
  exact PySem.W.ki_setAt ho h0 ⋯ (by rw[wj,<- hl];exact h4) (by rw[hk];exact⟨_,I',q⟩)
 ·have hk:(k+(its.toArray.size:Int)).toNat=j:=by
   rw[BE ⋯ h3] at h1;rw[wj,<- hl];exact Option.some.inj h1
  exact PySem.W.ki_setBack ho ⋯ (by rw[wj,<- hl];exact h3) ⋯ (by rw[hk];exact⟨_,I',q⟩)
theorem iK (lo hi:Option Int)(n:Nat):(sliceBounds lo hi none n).1=((HT.sIx n 0 lo:Nat):Int)/\(sliceBounds lo hi none n).2.1=((HT.sIx n n hi:Nat):Int)/\(sliceBounds lo hi none n).2.2=1:=by
 refine⟨?_,?_,rfl⟩
 ·cases lo with
  | none=>simp[sliceBounds,HT.sIx]
  | some i=>
   simp only[sliceBounds,HT.sIx,xG,show (1:Int) > 0 by decide,if_true];by_cases h:i<0
   ·simp only[h,if_true] <;>omega
   ·simp only[h,if_false] <;>omega
 ·cases hi with
  | none=>simp[sliceBounds,HT.sIx]
  | some i=>
   simp only[sliceBounds,HT.sIx,xG,show (1:Int) > 0 by decide,if_true];by_cases h:i<0
   ·simp only[h,if_true] <;>omega
   ·simp only[h,if_false] <;>omega
theorem gN (its:List Value)(lo hi:Option Int):slicePick its.toArray lo hi none=((its.drop (HT.sIx its.length 0 lo)).take (HT.sIx its.length its.length hi-HT.sIx its.length 0 lo)).toArray:=by
 obtain⟨h1,h2,h3⟩:=iK lo hi its.toArray.size;unfold slicePick;rw[h1,h2,h3];simp only[sliceRange_one,pick_run,wj] <;>rfl
def vW (K:yy):V->Option Int->Option Int->Hp->VK->Prop:=λ x lo hi H Q=>∃ a xs,x=.ref a/\SqL K H a xs/\∀ p,H p=none->Q (.ref p) (upd H p (.lst (lV xs lo hi)))
theorem qU:SlR X (vW X.K):=by
 intro pins s σ H x v vl vu lo hi sl Q I rx hs pl pu h;obtain⟨a,xs,rfl,hx,q⟩:=h;cases rx;obtain⟨its,r,ht,hz⟩:=I.list hx;have hlen:=r.length;refine⟨"list",_,slot_list_getitem.lookup,ht.isList.typeIs,?_⟩;refine wpAny_getItem_list_slice ht.isList hs pl pu .none (by simp) ?_ (by rw[wj] <;>omega)
 rw[gN,<- hlen];refine⟨.ref s.heap.objs.size,_,I.laid (t':=s.toks) (o:=.lst (lV xs lo hi)) (λ b ob q=>yB _ q) (wm _) ?_,rfl,q _ (I.hok.fresh (wm _))⟩;exact⟨wK (jF xs lo hi) hz,_,0,(r.drop (HT.sIx xs.length 0 lo)).take (HT.sIx xs.length xs.length hi-HT.sIx xs.length 0 lo),yD _ rfl⟩
def du:V->Bool
 | .non=>true
 | .bl _=>true
 | .int _=>true
 | .str _=>true
 | _=>false
def eqV:V->V->Bool
 | .non,.non=>true
 | .bl a,.bl b=>a == b
 | .bl a,.int b=>(if a then 1 else 0) == b
 | .int a,.bl b=>a == (if b then 1 else 0)
 | .int a,.int b=>a == b
 | .str a,.str b=>a == b
 | _,_=>false
theorem tH {A:Around}{s:Shared}{y x:V}{u v:Value}(ry:RelV y u)(rx:RelV x v)(fy:du y=true)(fx:du x=true):SeqAt.EqAt A s u v (eqV y x):=by
 cases y with
 | non=>
  cases ry;cases x with
  | non=>cases rx;exact SeqAt.EqAt.same _
  | bl b=>cases rx;exact SeqAt.EqAt.none_bool b
  | int b=>obtain⟨t,rfl⟩:=rx;exact SeqAt.EqAt.none_int b t
  | str b=>obtain⟨t,rfl⟩:=rx;exact SeqAt.EqAt.none_str b t
  | _=>exact absurd (show false=true from fx) wo
 | bl a=>
  cases ry;cases x with
  | non=>cases rx;exact SeqAt.EqAt.bool_none a
  | bl b=>cases rx;exact SeqAt.EqAt.bool_bool a b
  | int b=>obtain⟨t,rfl⟩:=rx;exact SeqAt.EqAt.bool_int a b t
  | str b=>obtain⟨t,rfl⟩:=rx;exact SeqAt.EqAt.bool_str a b t
  | _=>exact absurd (show false=true from fx) wo
 | int a=>
  obtain⟨t',rfl⟩:=ry;cases x with
  | non=>cases rx;exact SeqAt.EqAt.int_none a t'
  | bl b=>cases rx;exact SeqAt.EqAt.int_bool a t' b
  | int b=>obtain⟨t,rfl⟩:=rx;exact SeqAt.EqAt.int_int a t' b t
  | str b=>obtain⟨t,rfl⟩:=rx;exact Bx a t' b t
  | _=>exact absurd (show false=true from fx) wo
 | str a=>
  obtain⟨t',rfl⟩:=ry;cases x with
  | non=>cases rx;exact SeqAt.EqAt.str_none a t'
  | bl b=>cases rx;exact SeqAt.EqAt.str_bool a t' b
  | int b=>obtain⟨t,rfl⟩:=rx;exact By a t' b t
  | str b=>obtain⟨t,rfl⟩:=rx;exact SeqAt.EqAt.str_str a t' b t
  | _=>exact absurd (show false=true from fx) wo
 | _=>exact absurd (show false=true from fy) wo
def eqU (x:V)(u:Value):Bool:=match u with
 | .none=>eqV .non x
 | .bool b=>eqV (.bl b) x
 | .int i _=>eqV (.int i) x
 | .str z _=>eqV (.str z) x
 | _=>false
theorem nz {x y:V}{u:Value}(r:RelV y u)(f:du y=true):eqU x u=eqV y x:=by
 cases y with
 | non=>cases r;rfl
 | bl b=>cases r;rfl
 | int i=>obtain⟨t,rfl⟩:=r;rfl
 | str z=>obtain⟨t,rfl⟩:=r;rfl
 | _=>exact absurd (show false=true from f) wo
theorem iJ {x:V}:∀ {xs:List V} {us:List Value},Vals xs us->xs.all du=true->us.any (eqU x)=xs.any λ y=>eqV y x
 | _,_,.nil,_=>rfl
 | y::xs,u::us,.cons r t,f=>by
  rw[xW,v8] at f;rw[w6,w6,nz r f.1,iJ t f.2]
theorem gC {A:Around}{s:Shared}{x:V}{v:Value}(rx:RelV x v)(fx:du x=true):∀ {xs:List V} {us:List Value},Vals xs us->xs.all du=true->∀ u∈us,SeqAt.EqAt A s u v (eqU x u)
 | _,_,.nil,_=>λ u hu=>by cases hu
 | y::xs,u::us,.cons r t,f=>λ u' hu=>by
  rw[xW,v8] at f
  rcases List.mem_cons.mp hu with rfl|hu
  ·rw[nz r f.1];exact tH r rx f.1 fx
  ·exact gC rx fx t f.2 u' hu
def inV (x:V)(xs:List V):Bool:=xs.any λ y=>eqV y x
def rIn (K:yy)(neg:Bool):R2:=λ x y H Q=>∃ p xs,y=.ref p/\(SqL K H p xs\/SqT K H p xs)/\du x=true/\xs.all du=true/\Q (.bl (if neg then !inV x xs else inV x xs)) H
theorem lW:OpR X (compareOp .In) (rIn X.K false):=by
 intro pins s σ H x y v u Q I rx ry h;obtain⟨p,xs,rfl,hq,fx,fs,q⟩:=h;cases ry
 rcases hq with hq|hq
 ·obtain⟨its,r,pl,hz⟩:=I.list hq
  refine SeqAt.in_listAt (eqU x) pl.isList (λ w hw=>gC rx fx r fs w (by simpa using hw)) ⟨.bl _,H,I,rfl,?_⟩;rw[show its.toArray.any (eqU x)=its.any (eqU x) by simp,iJ r fs];exact q
 ·obtain⟨its,r,pl,hz⟩:=I.tuple hq
  refine SeqAt.in_tupleAt (eqU x) pl (λ w hw=>gC rx fx r fs w (by simpa using hw)) ⟨.bl _,H,I,rfl,?_⟩;rw[show its.toArray.any (eqU x)=its.any (eqU x) by simp,iJ r fs];exact q
theorem eK:cb X (.builtin "len") (λ xs H Q=>∃ p ys,xs=[.ref p]/\(SqL X.K H p ys\/SqT X.K H p ys)/\Q (.int ys.length) H):=by
 intro pins s σ H xs us Q I r h;obtain⟨p,ys,rfl,hq,q⟩:=h;obtain⟨u,rfl,rx⟩:=vals1 r;cases rx;have hn:=dH
 rcases hq with hq|hq
 ·obtain⟨its,r',pl,hz⟩:=I.list hq
  have hlen:=r'.length;exact Calls.call_len_list pl.isList (by simp only[wj] <;>omega) ⟨.int ys.length,H,I.tok _,⟨s.toks+1,by rw[wj,hlen]⟩,q⟩
 ·obtain⟨its,r',pl,hz⟩:=I.tuple hq
  have hlen:=r'.length;exact len_tuple pl (by simp only[wj] <;>omega) ⟨.int ys.length,H,I.tok _,⟨s.toks+1,by rw[wj,hlen]⟩,q⟩
theorem iA:cb X (.builtin "len") (λ xs H Q=>∃ z,xs=[.str z]/\z.length<=sizeLine/\Q (.int z.length) H):=by
 intro pins s σ H xs us Q I r h;obtain⟨z,rfl,hz,q⟩:=h;obtain⟨u,rfl,t,rfl⟩:=vals1 r;have hn:=dH;exact len_str ⋯ ⟨.int z.length,H,I.tok _,⟨_,rfl⟩,q⟩
theorem i3:cb X (.type "list") (λ xs H Q=>∃ p ys,xs=[.ref p]/\(SqL X.K H p ys\/SqT X.K H p ys)/\∀ l,H l=none->Q (.ref l) (upd H l (.lst ys))):=by
 intro pins s σ H xs us Q I r h;obtain⟨p,ys,rfl,hq,q⟩:=h;obtain⟨u,rfl,rx⟩:=vals1 r;cases rx;have fin:∀ (its:List Value),Vals ys its->ys.length<=sizeLine->∀ (h':Heap) (c':Nat),(∀ b o',s.heap.get? b=some o'->h'.get? b=some o') ->
   h'.get? s.heap.objs.size=some { cls:=.type "list",dict:=none,data:=.seq its.toArray c',slots:=#[] }->EP X pins σ Q (.ref s.heap.objs.size) { s with heap:=h' }:=λ its r' hz h' c' kp e=>
  ⟨.ref s.heap.objs.size,_,I.laid (t':=s.toks) kp (wm _) (show ObjOk X.prog X.w _ h' _ (.lst ys) from ⟨hz,its,c',r',e⟩),rfl,q _ (I.hok.fresh (wm _))⟩
 rcases hq with hq|hq
 ·obtain⟨its,r',pl,hz⟩:=I.list hq
  have hlen:=r'.length;obtain⟨o,ho,hc,n,hd⟩:=pl.isList;exact call_list_seq p (.inl rfl) ho hc hd (λ h' c' kp e=>fin its r' hz h' c' kp e) (by simp only[wj] <;>omega)
 ·obtain⟨its,r',pl,hz⟩:=I.tuple hq
  have hlen:=r'.length;obtain⟨o,ho,hc,n,hd⟩:=pl;exact call_list_seq p (.inr rfl) ho hc hd (λ h' c' kp e=>fin its r' hz h' c' kp e) (by simp only[wj] <;>omega)
def tyV (K:yy)(T:String)(x:V)(H:Hp):Prop:=match x with
 | .str _=>T="str"
 | .int _=>T="int"
 | .ref p=>(T="list"/\∃ xs,SqL K H p xs)\/(T="tuple"/\∃ o,K.lookup p=some o/\o.cls=.type "tuple"/\o.dict=none) \/
   (T="dict"/\((∃ kvs,H p=some (.dK kvs))\/∃ kvs,H p=some (.dT kvs)))\/(T="set"/\∃ S n,H p=some (.set S n))
 | _=>False
theorem tI {pins:List (Addr×Obj)}{σ:St}{H:Hp}{s:Shared}{T:String}{x:V}{v:Value}(I:Inv X pins σ H s)(r:RelV x v)(ty:tyV X.K T x H):
  s.TypeIs v T/\∀ a,v=.ref a->∃ ob,s.heap.get? a=some ob/\ob.dict=none:=by
 cases x with
 | str z=>
  obtain⟨t,rfl⟩:=r;cases (show T="str" from ty);exact⟨Ag s z t,λ _ e=>nomatch e⟩
 | int i=>
  obtain⟨t,rfl⟩:=r;cases (show T="int" from ty);exact⟨typeIs_int s i t,λ _ e=>nomatch e⟩
 | ref p=>
  cases r
  rcases ty with ⟨rfl,xs,hq⟩|⟨rfl,o,hk,hc,hd⟩|⟨rfl,hk⟩|⟨rfl,S,n,hk⟩
  ·obtain⟨its,_,pl,_⟩:=I.list hq
   refine⟨pl.isList.typeIs,λ a e=>?_⟩;cases e;obtain⟨o,n,e,c,hd,_⟩:=pl;exact⟨o,e,hd⟩
  ·refine⟨⟨o,I.kIn p o hk,hc⟩,λ a e=>?_⟩
   cases e;exact⟨o,I.kIn _ o hk,hd⟩
  ·have z:∃ o,s.heap.get? p=some o/\o.ExactDict:=by
    rcases hk with ⟨kvs,hk⟩|⟨kvs,hk⟩
    ·obtain⟨_,_,_,_,o,_,_,e,ex,_⟩:=I.hok p _ hk
     exact⟨o,e,ex⟩
    ·obtain⟨_,_,_,_,o,_,_,e,ex,_⟩:=I.hok p _ hk
     exact⟨o,e,ex⟩
   obtain⟨o,e,ex⟩:=z;refine⟨⟨o,e,ex.1⟩,λ a e2=>?_⟩;cases e2;exact⟨o,e,ex.2.1⟩
  ·obtain⟨o,_,_,_,e,ex,_⟩:=I.hok p _ hk
   refine⟨⟨o,e,ex.1⟩,λ a e2=>?_⟩;cases e2;exact⟨o,e,ex.2.1⟩
 | _=>exact yN ty
def tBM (K:yy)(T:String)(r:V->List V->Hp->VK->Prop)(to:TE)(t:TA):TE:=λ σ H Q=>to σ H λ x H1=>tyV K T x H1/\t σ H1 λ xs H2=>r x xs H2 Q
variable {o e:Expr}{es:List Expr}{to:TE}{t:TA}{name:Str}{apos cpos:Pos}{T id:String}{r:V->List V->Hp->VK->Prop}
theorem mG (pa:PlainAttrs T)(slot:Slot T name id)(hty:typeOf (.builtin id)=pure (.type "method_descriptor"))(hm:MtR X id r)(ho:PE X o to)(ha:PA X (e::es) t)
  (hbase:autoParam (attributeBase o name X.env (eval o X.env)=eval o X.env) ZF._auto_1)
  (hfew:autoParam (((backTo cpos (starEach (e::es) X.env)).all (λ x=>!x.1)&&(backToKw cpos (keywordEach [] X.env)).all (λ x=>x.1.isSome)
   && decide ((e::es).length+([]:List Keyword).length+(if ([]:List Keyword).isEmpty then 0 else 1)<30))=true) ZF._auto_1)
  (hline:autoParam ((apos.endLine == cpos.line)=true) ZF._auto_1) (hs:autoParam (starEach (e::es) X.env=(false,eval e X.env)::starEach es X.env) ZF._auto_1) (hplain:autoParam ((backTo cpos (starEach es X.env)).any (·.1)=false) ZF._auto_1):
  PE X (.Call (.Attribute o name apos) (e::es) [] cpos) (tBM X.K T r to t):=by
 intro pins s σ H Q I h;refine wpAny_Call_method_late hbase hfew hline rfl (thn (ho pins s σ H _ I h) λ v s1 ⟨x,H1,I1,r1,ty,q1⟩=>?_);obtain⟨h1,h2⟩:=tI I1 r1 ty;refine⟨T,id,pa,slot,hty,h1,h2,?_⟩;have hA:=ha cpos pins s1 σ H1 _ I1 q1;rw[hs] at hA ⊢;refine Calls.callWith_builtin (by show (false || (backTo cpos (starEach es X.env)).any (·.1))=false;rw[hplain] <;>rfl) (Be ?_);exact thn hA λ us s2 ⟨vs,H2,I2,r2,q2⟩=>hm pins s2 σ H2 x vs v us Q I2 r1 r2 q2
end
def MtM (X:Cx)(id:String)(r:V->List V->Hp->VK->Prop):Prop:=
 ∀ (pins:List (Addr×Obj)) (s:Shared) (σ:St) (H:Hp) (x:V) (xs:List V) (v:Value) (us:List Value) (Q:VK),Inv X pins σ H s->RelV x v->Vals xs us->r x xs H Q ->
  wpAny (model X.prog X.w) X.A (call (.builtin id) (v::us)) (EP X pins σ Q) X.xe s
theorem Vals.one {x:V}{us:List Value}(r:Vals [x] us):∃ u,us=[u]/\RelV x u:=by
 cases r with
 | cons r1 r2=>cases r2;exact⟨_,rfl,r1⟩
theorem Vals.rep {xs:List V}{us:List Value}(h:Vals xs us):∀ k:Nat,Vals (List.replicate k xs).flatten (List.replicate k us).flatten
 | 0=>.nil
 | k+1=>by
  rw[wG,wG,wO,wO];exact Vals.append h (Vals.rep h k)
theorem foldl_rep (its:List Value):∀ (k:Nat) (acc:List Value),
  List.foldl (λ x1 x2=>x1++x2) acc.toArray (List.replicate k its.toArray)=(acc++(List.replicate k its).flatten).toArray
 | 0,acc=>by simp
 | k+1,acc=>by
  have e:acc.toArray++its.toArray=(acc++its).toArray:=by simp
  have e2:(acc++its)++(List.replicate k its).flatten=acc++(List.replicate (k+1) its).flatten:=by
   rw[wG,wO,List.append_assoc]
  rw[<- e2,<- foldl_rep its k (acc++its),<- e,wG,xN]
section
variable {X:Cx}{pins:List (Addr×Obj)}{σ:St}{H:Hp}{s:Shared}{l b:Addr}{xs ys zs:List V}
theorem Inv.lset {its its':List Value}{n:Nat}{f:Array Value->Array Value}{t':Nat}(I:Inv X pins σ H s)(hH:H l=some (.lst xs))
  (e:s.heap.get? l=some { cls:=.type "list",data:=.seq its.toArray n }) (hf:f its.toArray=its'.toArray) (hv:Vals ys its') (hz:ys.length<=sizeLine):
  Inv X pins σ (upd H l (.lst ys)) { s with heap:=s.heap.update l (AM f),toks:=t' }:=by
 have q:=AO e f;rw[hf] at q;refine I.write (x:=l) (e:=l) (by rw[hH];exact trivial) (.inl rfl) (λ b' u hb hu=>(yS s.heap (AM f) (Ne.symm hb)).trans hu) ⟨_,q⟩ ?_
 exact⟨hz,its',_,hv,q⟩
theorem Inv.lnew {its:List Value}{t':Nat}(I:Inv X pins σ H s)(hv:Vals ys its)(hz:ys.length<=sizeLine):
  Inv X pins σ (upd H s.heap.objs.size (.lst ys)) { s with heap:=s.heap.push { cls:=.type "list",data:=.seq its.toArray },toks:=t' }:=
 I.laid (λ _ _ q=>yB _ q) (wm _) ⟨hz,its,0,hv,yD _ rfl⟩
theorem Inv.fresh (I:Inv X pins σ H s):H s.heap.objs.size=none:=I.hok.fresh (wm _)
theorem Inv.lstM (I:Inv X pins σ H s)(hH:H l=some (.lst xs)):xs.length<=sizeLine/\∃ (its:List Value) (n:Nat),Vals xs its/\xs.length=its.length/\s.heap.get? l=some { cls:=.type "list",data:=.seq its.toArray n }:=by
 obtain⟨z,its,n,r,e⟩:=I.hok l _ hH;exact⟨z,its,n,r,r.length,e⟩
theorem jd {n:Nat}(h:n<=sizeLine):zw n=false:=by
 unfold zw;exact decide_eq_false ⋯
end
section
variable {X:Cx}
def pA:V->List V->Hp->VK->Prop:=λ x vs H Q=>∃ l b xs zs,x=.ref l/\vs=[.ref b]/\H l=some (.lst xs)/\H b=some (.lst zs)/\xs.length+zs.length<=sizeLine/\Q .non (upd H l (.lst (xs++zs)))
theorem lS:MtM X "list.extend" pA:=by
 intro pins s σ H x vs v us Q I rx rv h;obtain⟨l,b,xs,zs,rfl,rfl,hH,hB,hz,q⟩:=h;cases rx;obtain⟨u,rfl,ru⟩:=rv.one;cases ru;obtain⟨z,its,n,r,hl,e⟩:=I.lstM hH;obtain⟨z2,its2,n2,r2,hl2,e2⟩:=I.lstM hB;have hsz:its.toArray.size+its2.toArray.size<=sizeLine:=by rw[wj,wj];omega
 have hlong:¬ (!its.toArray.isEmpty&&zw (its.toArray.size+its2.toArray.size))=true:=by
  rw[jd hsz,yp];exact wo
 refine zN F.slot_list_extend ⟨_,e,rfl⟩ F.entry_list_extend (F.args_list_extend_2 _ _)
  (AutoSeq1.list_extend_list_list_0 l its.toArray n b its2.toArray n2 hlong (by rw[wj];omega) ⋯) ⟨e,e2,?_⟩
 refine⟨.non,_,I.lset (its':=its++its2) hH e (by simp) (r.append r2) ?_,rfl,q⟩;rw[wy];omega
theorem len_rep {α:Type}(xs:List α)(k:Nat):(List.replicate k xs).flatten.length=k*xs.length:=by
 induction k with
 | zero=>simp
 | succ k ih=>rw[wG,wO,wy,ih,Nat.succ_mul,Nat.add_comm]
end
end L2
namespace Att
open PySem PySem.W PySem.Calls PyProof.Rows
theorem fM {P:Params}{h:Heap}:∀ (ns:List Int) (vs:List Value),WellAll P h vs (ns.map zU)->IntsAre vs ns:=by
 intro ns
 induction ns with
 | nil=>
  intro vs w;rw[xy] at w;cases w;exact .nil
 | cons n ns ih=>
  intro vs w;rw[we] at w;cases w with
  | cons a b=>
   cases a;exact .cons _ _ (ih _ b)
theorem script_of {l:OpenLaw}{n:Nat}(hn:l.most=some n){P:Params}{h:Heap}{args:List WData}{vals:List Value}
  (hpre:l.row.toRowW.claim.pre args=true) (hwl:WellAll P h vals args):
  ∃ a vs ns,vals=[yK a]/\args=[BR (ns.map zU)]/\h.get? a=some { cls:=.type "list",data:=.seq vs.toArray }/\IntsAre vs ns/\ns.length<=n:=by
 have hsh:WShape.hasAll [] args [.list .int]=true:=(pre_splitW hpre).1;have hc:l.pre.holds [] { args:=args }=true:=(pre_splitW hpre).2;obtain⟨d,r,rfl,h1,h2⟩:=hasAllW_cons hsh;obtain rfl:=hasAllW_nil h2;obtain⟨xs,rfl,h3⟩:=hasW_list h1;obtain⟨ns,rfl⟩:=items_int h3;have hlen:ns.length<=n:=by
  unfold OpenLaw.pre at hc;have h4:(WTm.not (.lt (.lit (.int (n:Int))) (.len (.arg 0)))).holds [] { args:=[.list (ns.map .int)] }=true:=by
   have h4:=(holds_andW hc).1;rw[hn] at h4;exact h4
  have h5:=condW_of h4 (w_not (w_lt w_lit (w_len_list (w_arg rfl))));rw[wg] at h5;refine Nat.le_of_not_lt λ q=>?_
  have q':(n:Int)<((ns.length:Nat):Int):=⋯
  first
   | (rw[decide_eq_true q'] at h5;exact absurd h5 (by decide))
   | (simp at h5;omega)
 cases hwl with
 | cons w1 w2=>
  cases w2;cases w1 with
  | list ho hall=>exact⟨_,_,ns,rfl,rfl,ho,fM ns _ hall,hlen⟩
theorem post_true (l:OpenLaw)(args:List WData):l.row.toRowW.claim.post args (.bool true) args=true:=
 postW_of (r:=l.row.toRowW) (X:=(true == true))
  (show WShape.has [] (.bool true) .bool=true by first|rfl|decide|simp[WShape.has,WShape.arms,WShape.armsAll])
  (show (WTm.eq .res (.lit (.bool true))).value [] { args:=args,res:=some (.bool true),after:=args }=some (.bool (true == true)) from w_eq_bool (w_res rfl) w_lit) rfl
end Att
namespace L2
open PySem PySem.Spec PyProof.Rows
theorem ig:∀ {vs:List Value} {ns:List Int},IntsAre vs ns->Vals (ns.map V.int) vs
 | _,_,.nil=>.nil
 | _,_,.cons n t h=>.cons ⟨t,rfl⟩ (ig h)
def uA (H:Hp):Prop:=∀ b,H b=none\/∃ o xs,H b=some (.frz o (.lst xs))
theorem law_call {P:Program}{w:World}{K:yy}{mg mb:Str->Option Value}{CX:CXT}{k:Nat}{fa a:Addr}{fd:FuncData}{x:Str}{sp:Sp}{s₁:Shared}{vs:List Value}{ns:List Int}
  (KX:K.In s₁.heap) (hns:s₁.heap.Ns mainGlobals mg) (hb:s₁.heap.Ns builtinsNs mb) (hbb:∀ x:Str,x≠"__name__"->mb x=bootBuiltins x) (hlim:s₁.heap.NoLimit) (hg:s₁.gens=#[])
  (ha:s₁.heap.get? a=some { cls:=.type "list",data:=.seq vs.toArray }) (hi:IntsAre vs ns) (hl:ns.length<=sizeLine) (hr:Room k callerA)
  (F:∀ base:Heap,K.In base->base.Ns mainGlobals mg->FnOk P w K mg base CX k fa fd [x] sp) (hbind:∀ (s:Shared) (u:Value),BindsTo s fd ⟨[u],[]⟩ [(x,u)])
  (hsp:∀ H:Hp,uA H->SqL K H a (ns.map V.int)->sp [.ref a] H (λ v _=>v=.bl true) λ _ _ _=>False)
  (hCX:∀ H e s',CX [] H s₁ (λ _ _ _=>False) e s'->False):
  codeAny (model P w) callerA (.call (.ref fa) ⟨[.ref a],[]⟩) (λ r s'=>r=.ok (.ret (.bool true))/\OldK s₁.heap s'.heap/\s'.os=s₁.os/\AllBare s'.gens) s₁:=by
 have rv:=ig hi;have lenV:=hi.length;have core:∀ H:Hp,uA H->SqL K H a (ns.map V.int)->HOk P w H s₁.heap->(∀ b,H b≠none->b=a)->(H a≠none->K.lookup a=none) ->
   codeAny (model P w) callerA (.call (.ref fa) ⟨[.ref a],[]⟩) (λ r s'=>r=.ok (.ret (.bool true))/\OldK s₁.heap s'.heap/\s'.os=s₁.os/\AllBare s'.gens) s₁:=by
  intro H hO hS hok hA hK;have base_of:∀ {b:Addr} {o:Obj},s₁.heap.get? b=some o->H b=none->(iQ s₁.heap H).get? b=some o:=λ e n=>nh e n
  have noA:∀ {b:Addr} {o:Obj} {es:Array DictEntry} {ep:Nat},s₁.heap.get? b=some o->o.data=.dict es ep->H b=none:=λ {b o es ep} e d=>by
   cases q:H b with
   | none=>rfl
   | some u=>
    have e':b=a:=hA b (by rw[q];simp);subst e';rw[ha] at e;cases e;have d':Data.seq vs.toArray _=Data.dict es ep:=d;cases d'
  have nsK:∀ {b:Addr} {m:Str->Option Value},s₁.heap.Ns b m->(iQ s₁.heap H).Ns b m:=λ {b m} ⟨o,es,ep,e,d,r⟩=>⟨o,es,ep,base_of e (noA e d),d,r⟩
  have hKb:K.In (iQ s₁.heap H):=λ b o e=>base_of (KX b o e) (by
   cases q:H b with
   | none=>rfl
   | some u=>
    have e':b=a:=hA b (by rw[q];simp);subst e';rw[hK (by rw[q];simp)] at e;cases e)
  have hM:Mod K mg (iQ s₁.heap H):=⟨hKb,nsK hns,⟨mb,nsK hb,hbb⟩,let ⟨mc,h1,h2⟩:=hlim;⟨mc,nsK h1,h2⟩⟩;have e0:Env0 P w K mg (iQ s₁.heap H) callerA [] s₁ H:=⟨rfl,hM,λ b o e=>p0 e,xM (lM _ _),trivial,λ b hb=>absurd (show b∈([]:List Addr) from hb) (by simp),hok,.of_eq hg⟩;refine zJ ((F _ hKb (nsK hns)).run callerA [] s₁ H ⟨[.ref a],[]⟩ [.ref a] [.ref a] _ _ hr e0 (hbind s₁ (.ref a)) (.cons rfl .nil) (hsp H hO hS)) λ r s' h=>?_
  cases r with
  | error e=>exact(hCX H e s' h).elim
  | ok fl=>
   cases fl with
   | next=>exact yN h
   | brk=>exact yN h
   | cont=>exact yN h
   | ret u=>
    obtain⟨v,H',os,bare,un,hok',r',q⟩:=h;have q':v=.bl true:=q;subst q';obtain rfl:u=AL true:=r';refine⟨rfl,OldK.of_keep λ b o e=>?_,os,bare⟩;cases q:H b with
    | none=>exact un.keep b o e q (by intro z;exact absurd (show b∈([]:List Addr) from z) (by simp)) (by simp)
    | some u=>
     rcases hO b with z|⟨ob,xs,z⟩
     ·rw[q] at z;cases z
     ·have z2:=un.frzs b ob _ z
      obtain⟨e1,_⟩:=hok b _ z;obtain⟨e2,_⟩:=hok' b _ z2;rw[e] at e1;cases e1;exact e2
 cases hk:K.lookup a with
 | some o=>
  have e:=KX a o hk;rw[ha] at e;cases e;refine core (λ _=>none) (λ _=>.inl rfl) (.inr ⟨_,vs.toArray,_,hk,rfl,rfl,rfl,by rw[wj,lenV];exact hl,by simpa using rv⟩) (λ b u z=>by have z':(none:Option HO)=some u:=z;cases z') (λ b z=>absurd rfl z) λ z=>absurd rfl z
 | none=>
  refine core (λ b=>if b=a then some (.frz { cls:=.type "list",data:=.seq vs.toArray } (.lst (ns.map V.int))) else none) (λ b=>?_) (.inl (.inr ⟨{ cls:=.type "list",data:=.seq vs.toArray },if_pos rfl⟩)) (λ b u z=>?_) (λ b z=>?_) λ _=>hk
  ·by_cases hb:b=a
   ·exact .inr ⟨_,_,if_pos hb⟩
   ·exact .inl (if_neg hb)
  ·by_cases hb:b=a
   ·have z':=(if_pos hb).symm.trans z
    cases z';subst hb;exact⟨ha,by rw[wg];exact hl,vs,_,rv,ha⟩
   ·have z':=(if_neg hb).symm.trans z
    cases z'
  ·by_cases hb:b=a
   ·exact hb
   ·exact absurd (if_neg hb) z
def inClass (s:Stmt)(j:Nat):Stmt:=match s with
 | .ClassDef _ _ _ body _ _ _ _ _ _ _=>body.getD j (.Pass ⟨0,0,0,0⟩)
 | _=>.Pass ⟨0,0,0,0⟩
def aE (s:Stmt):Arguments:=match s with
 | .FunctionDef _ a _ _ _ _ _ _ _ _=>a
 | _=>{ posonlyargs:=[],args:=[],vararg:=none,kwonlyargs:=[],kw_defaults:=[],kwarg:=none,defaults:=[] }
def ax (s:Stmt):List Stmt:=match s with
 | .FunctionDef _ _ b _ _ _ _ _ _ _=>b
 | _=>[]
def ae (s:Stmt):Scope:=match s with
 | .FunctionDef _ _ _ _ _ _ sc _ _ _=>sc
 | _=>{ kind:=.function,names:=[],isGenerator:=false,isCoroutine:=false }
abbrev CX0:CXT:=λ _ _ _ _ _ _=>False
abbrev E0:XK:=λ _ _ _=>False
section
variable {X:Cx}
theorem pv (i:Nat){x:Str}{pos:Pos}(hN:autoParam (X.N[i]?=some x) ZF._auto_1)(hv:autoParam (Vis X.env.scope x) ZH._auto_1)(hd:autoParam ((x == ("__debug__":Str))=false) ZC._auto_1)
  (hcd:autoParam ((x == ("__classdict__":Str))=false) ZC._auto_1):PE X (.Name x pos) (aZ i):=cJ hN hv hd hcd
end
theorem oI {A B:Prop}(h:B):if false=true then A else B:=by
 rw[if_neg wo];exact h
theorem oS {A B:Prop}(h:A):if true=true then A else B:=by
 rw[if_pos rfl];exact h
def Same (H H':Hp):Prop:=∀ b o,H b=some o->H' b=some o
theorem Same.refl (H:Hp):Same H H:=λ _ _ h=>h
theorem Same.trans {H H1 H2:Hp}(a:Same H H1)(b:Same H1 H2):Same H H2:=λ c o h=>b c o (a c o h)
theorem Same.free {H H':Hp}(e:Same H H'){l:Addr}(h:H' l=Option.none):H l=Option.none:=by
 cases q:H l with
 | none=>rfl
 | some o=>
  rw[e l o q] at h;cases h
section
variable {κ:Type}[DecidableEq κ]
def eQ (kvs:List (κ×V))(k:κ):Option V:=(kvs.find? λ kv=>decide (kv.1=k)).map (·.2)
def putK (kvs:List (κ×V))(k:κ)(v:V):List (κ×V):=
 if (kvs.any λ kv=>decide (kv.1=k))=true then kvs.map (λ kv=>if kv.1=k then (kv.1,v) else kv) else kvs++[(k,v)]
theorem eA {p:κ×V}{r:List (κ×V)}{k:κ}(e:p.1=k):eQ (p::r) k=some p.2:=by simp[eQ,wQ,e]
theorem eI {p:κ×V}{r:List (κ×V)}{k:κ}(e:¬ p.1=k):eQ (p::r) k=eQ r k:=by simp[eQ,wQ,e]
theorem d9 (k:κ):∀ kvs:List (κ×V),(kvs.any λ kv=>decide (kv.1=k))=(eQ kvs k).isSome
 | []=>rfl
 | p::r=>by
  rw[w6];by_cases e:p.1=k
  ·simp only[eA e,decide_eq_true e,yv,xB]
  ·rw[eI e,decide_eq_false e,Bool.false_or];exact d9 k r
theorem fD (kvs:List (κ×V))(k:κ)(v:V):(putK kvs k v).length<=kvs.length+1:=by
 unfold putK
 split
 ·rw[wg];omega
 ·rw[wy,wt,yg];omega
theorem RelO.isSome_eq {o:Option V}{u:Option Value}(r:RelO o u):o.isSome=u.isSome:=by
 cases o with
 | none=>cases u with
  | none=>rfl
  | some _=>exact Zf r
 | some _=>cases u with
  | none=>exact Zf r
  | some _=>rfl
theorem KV.val {kvs:List (κ×V)}{vs:List (κ×Value)}(r:KV kvs vs)(k:κ):RelO (eQ kvs k) (valueAt vs k):=by
 unfold KV at r
 induction r with
 | nil=>exact zm
 | @cons p q ps qs h t ih=>
  obtain⟨h1,h2⟩:=h;by_cases e:p.1=k
  ·have e':q.1=k:=h1.symm.trans e
   have b:valueAt (q::qs) k=some q.2:=by simp[valueAt,wQ,e']
   rw[eA e,b];exact h2
  ·have e':¬ q.1=k:=λ z=>e (h1.trans z)
   have b:valueAt (q::qs) k=valueAt qs k:=by simp[valueAt,wQ,e']
   rw[eI e,b];exact ih
theorem KV.any {kvs:List (κ×V)}{vs:List (κ×Value)}(r:KV kvs vs)(k:κ):(kvs.any λ kv=>decide (kv.1=k))=vs.any λ kv=>decide (kv.1=k):=by
 unfold KV at r
 induction r with
 | nil=>rfl
 | cons h t ih=>rw[w6,w6,ih,h.1]
theorem KV.repl {kvs:List (κ×V)}{vs:List (κ×Value)}(r:KV kvs vs)(k:κ){y:V}{u:Value}(ry:RelV y u):
  KV (kvs.map λ kv=>if kv.1=k then (kv.1,y) else kv) (vs.map λ kv=>if kv.1=k then (kv.1,u) else kv):=by
 unfold KV at r ⊢
 induction r with
 | nil=>exact .nil
 | @cons p q ps qs h t ih=>
  rw[we,we];refine .cons ?_ ih
  obtain⟨h1,h2⟩:=h;by_cases e:p.1=k
  ·rw[if_pos e,if_pos (h1.symm.trans e)];exact⟨h1,ry⟩
  ·rw[if_neg e,if_neg (λ z=>e (h1.trans z))];exact⟨h1,h2⟩
theorem KV.put {kvs:List (κ×V)}{vs:List (κ×Value)}(r:KV kvs vs)(k:κ){y:V}{u:Value}(ry:RelV y u):KV (putK kvs k y) (stored vs k u):=by
 unfold putK stored;rw[r.any k];by_cases e:(vs.any λ kv=>decide (kv.1=k))=true
 ·rw[if_pos e,if_pos e];exact r.repl k ry
 ·rw[if_neg e,if_neg e];exact BY r ⟨rfl,ry⟩
theorem KV.length {kvs:List (κ×V)}{vs:List (κ×Value)}(r:KV kvs vs):kvs.length=vs.length:=Bk r
end
theorem kP {P:Program}{w:World}{k:Key}{u:Value}(r:RelV (kV k) u):(ay P w).is k u=true:=by
 cases k with
 | inl i=>obtain⟨t,e⟩:=(show ∃ t,u=Bv i t from r);subst e;exact jK P w i t
 | inr x=>obtain⟨t,e⟩:=(show ∃ t,u=Bw x t from r);subst e;exact jj P w x t
theorem iq {P:Program}{w:World}:∀ {ks:List Key} {us:List Value},Vals (ks.map kV) us->ItemsAre (ay P w) ks us
 | [],_,r=>by rw[xy] at r;cases r;exact .nil
 | k::ks,_,r=>by
  rw[we] at r;cases r with
  | cons h t=>exact .cons (kP h) (iq t)
abbrev KT (H:Hp):List (List Key×V)->List (List Key×Addr×Value)->Prop:=Paired λ p q=>p.1=q.1/\H q.2.1=some (.tup (p.1.map kV))/\RelV p.2 q.2.2
theorem KT.val {H:Hp}{kvs:List (List Key×V)}{xs:List (List Key×Addr×Value)}(r:KT H kvs xs)(k:List Key):RelO (eQ kvs k) ((atKey xs k).map (·.2)):=by
 induction r with
 | nil=>exact zm
 | @cons p q ps qs h t ih=>
  obtain⟨h1,_,h2⟩:=h;by_cases e:p.1=k
  ·have e':q.1=k:=h1.symm.trans e
   have b:atKey (q::qs) k=some q.2:=by simp[atKey,wQ,e']
   rw[eA e,b];exact h2
  ·have e':¬ q.1=k:=λ z=>e (h1.trans z)
   have b:atKey (q::qs) k=atKey qs k:=by simp[atKey,wQ,e']
   rw[eI e,b];exact ih
theorem KT.repl {H:Hp}{kvs:List (List Key×V)}{xs:List (List Key×Addr×Value)}(r:KT H kvs xs)(k:List Key){y:V}{u:Value}(ry:RelV y u):
  KT H (kvs.map λ kv=>if kv.1=k then (kv.1,y) else kv) (xs.map (putAt k u)):=by
 induction r with
 | nil=>exact .nil
 | @cons p q ps qs h t ih=>
  rw[we,we];refine .cons ?_ ih
  obtain⟨h1,h2,h3⟩:=h;unfold putAt;by_cases e:p.1=k
  ·rw[if_pos e,if_pos (h1.symm.trans e)];exact⟨h1,h2,ry⟩
  ·rw[if_neg e,if_neg (λ z=>e (h1.trans z))];exact⟨h1,h2,h3⟩
theorem KT.put {H:Hp}{kvs:List (List Key×V)}{xs:List (List Key×Addr×Value)}(r:KT H kvs xs)(k:List Key){b:Addr}{y:V}{u:Value}(hb:H b=some (.tup (k.map kV)))(ry:RelV y u):
  KT H (putK kvs k y) (storedH xs k b u):=by
 have e:(kvs.any λ kv=>decide (kv.1=k))=(atKey xs k).isSome:=by
  rw[d9,(r.val k).isSome_eq,xF]
 unfold putK storedH;rw[e];by_cases q:(atKey xs k).isSome=true
 ·rw[if_pos q,if_pos q];exact r.repl k ry
 ·rw[if_neg q,if_neg q];exact BY r ⟨rfl,hb,ry⟩
theorem KT.keeps {H H':Hp}{kvs:List (List Key×V)}{xs:List (List Key×Addr×Value)}(r:KT H kvs xs)(ht:∀ b ys,H b=some (.tup ys)->H' b=some (.tup ys)):KT H' kvs xs:=
 Paired.mapP r λ _ _ z=>⟨z.1,ht _ _ z.2.1,z.2.2⟩
section
variable {P:Program}{w:World}{H:Hp}{h:Heap}{a:Addr}
theorem rF {u:HO}(ok:HOk P w H h)(e:Rd H a u):ObjOk P w H h a u:=e.ok ok
theorem gY {kvs:List (Key×V)}(ok:HOk P w H h)(e:Rd H a (.dK kvs)):kvs.length<=sizeLine/\(a == sysModules)=false/\∃ vs,KV kvs vs/\h.DictOf (ay P w) a vs:=
 show ObjOk P w H h a (.dK kvs) from rF ok e
theorem vz {kvs:List (Key×V)}(ok:HOk P w H h)(e:H a=some (.dK kvs)):kvs.length<=sizeLine/\(a == sysModules)=false/\∃ vs,KV kvs vs/\h.DictOf (ay P w) a vs:=gY ok (.inl e)
theorem iE {ks:List Key}(ok:HOk P w H h)(e:H a=some (.tup (ks.map kV))):(tupleKind (ay P w)).is h ks a:=by
 obtain⟨_,its,r,o,h1,h2,n,h3⟩:=(show ObjOk P w H h a (.tup (ks.map kV)) from ok a _ e);exact⟨o,its.toArray,n,h1,h2,h3,by simpa using iq r⟩
theorem jr {kvs:List (List Key×V)}(ok:HOk P w H h)(e:Rd H a (.dT kvs)):kvs.length<=sizeLine/\(a == sysModules)=false /\
  ∃ xs,KT H kvs xs/\h.DictOfH (tupleKind (ay P w)) a xs:=by
 obtain⟨z,y,xs,r,o,es,ep,h1,h2,h3,h4,h5⟩:=(show ObjOk P w H h a (.dT kvs) from rF ok e);refine⟨z,y,xs,r,o,es,ep,h1,h2,h3,h4,λ x hx=>?_,h5⟩;have all:∀ {l:List (List Key×V)} {m:List (List Key×Addr×Value)},KT H l m->∀ x∈m,(tupleKind (ay P w)).is h x.1 x.2.1:=by
  intro l m q
  induction q with
  | nil=>intro x hx;exact nomatch hx
  | @cons p q ps qs hq t ih=>
   intro x hx
   rcases List.mem_cons.mp hx with e|hx
   ·subst e
    exact iE ok (by rw[<- hq.1];exact hq.2.1)
   ·exact ih x hx
 exact all r x hx
theorem ux {kvs:List (List Key×V)}(ok:HOk P w H h)(e:H a=some (.dT kvs)):kvs.length<=sizeLine/\(a == sysModules)=false /\
  ∃ xs,KT H kvs xs/\h.DictOfH (tupleKind (ay P w)) a xs:=jr ok (.inl e)
end
def DGet (H:Hp)(a:Addr)(y:V)(r:Option V):Prop:=
 (∃ kvs k,Rd H a (.dK kvs)/\y=kV k/\r=eQ kvs k)\/∃ kvs k b,Rd H a (.dT kvs)/\y=.ref b/\H b=some (.tup (k.map kV))/\r=eQ kvs k
def DPut (H:Hp)(a:Addr)(y v:V)(H':Hp):Prop:=
 (∃ kvs k,H a=some (.dK kvs)/\y=kV k/\kvs.length<sizeLine/\H'=upd H a (.dK (putK kvs k v))) \/
 ∃ kvs k b,H a=some (.dT kvs)/\y=.ref b/\H b=some (.tup (k.map kV))/\kvs.length<sizeLine/\H'=upd H a (.dT (putK kvs k v))
theorem DGet.k {H:Hp}{a:Addr}{kvs:List (Key×V)}{k:Key}(e:H a=some (.dK kvs)):DGet H a (kV k) (eQ kvs k):=.inl ⟨kvs,k,.inl e,rfl,rfl⟩
theorem DPut.k {H:Hp}{a:Addr}{kvs:List (Key×V)}{k:Key}{v:V}(e:H a=some (.dK kvs))(hl:kvs.length<sizeLine):DPut H a (kV k) v (upd H a (.dK (putK kvs k v))):=.inl ⟨kvs,k,e,rfl,hl,rfl⟩
section
variable {X:Cx}{pins:List (Addr×Obj)}{σ:St}{H:Hp}{s:Shared}{a:Addr}{y v:V}{u r:Value}{o:Option V}{A:Around}{E:Value->Shared->Prop}
theorem Inv.big (I:Inv X pins σ H s):sysModules<s.heap.objs.size:=by
 have h:mainGlobals<s.heap.objs.size:=(I.mod.glob.keeps I.bk).lt;exact Nat.lt_trans (by decide) h
theorem ml {Q:Value->Shared->Prop}(hu:A.units+1<cLine)(I:Inv X pins σ H s)(g:DGet H a y (some v))(ry:RelV y u)(h:∀ w' s',Inv X pins σ H s'->RelV v w'->Q w' s'):
  wpAny (model X.prog X.w) A (getItem (.ref a) u) Q E s:=by
 rcases g with ⟨kvs,k,e,ey,l⟩|⟨kvs,k,b,e,ey,eb,l⟩
 ·subst ey
  obtain⟨z,hd,vs,rel,dd⟩:=gY I.hok e;obtain⟨w',hw,rw'⟩:=RelO.some_of (v:=v) (o:=valueAt vs k) (by rw[l];exact rel.val k);exact wpAny_getItem_of (kP ry) dd.mapOf hw (h w' _ (I.tok _) rw')
 ·subst ey
  cases (show u=yK b from ry);obtain⟨z,hd,xs,rel,dd⟩:=jr I.hok e;obtain⟨w',hw,rw'⟩:=RelO.some_of (v:=v) (o:=(atKey xs k).map (·.2)) (by rw[l];exact rel.val k);obtain⟨p,hp,hp2⟩:=Option.map_eq_some_iff.mp hw;refine wpAny_getItem_heap (Ay hu) (iE I.hok eb) dd hp ?_
  rw[hp2];exact h w' _ (I.tok _) rw'
theorem qp {Q:Value->Shared->Prop}(hu:A.units+1<cLine)(I:Inv X pins σ H s)(g:DGet H a y o)(ry:RelV y u)(h:∀ s',Inv X pins σ H s'->Q (.bool (!o.isSome)) s'):
  wpAny (model X.prog X.w) A (compareOp .NotIn u (.ref a)) Q E s:=by
 rcases g with ⟨kvs,k,e,ey,l⟩|⟨kvs,k,b,e,ey,eb,l⟩
 ·subst ey
  obtain⟨z,hd,vs,rel,dd⟩:=gY I.hok e;refine wpAny_notIn_of (kP ry) hd dd.mapOf ?_
  rw[<- (rel.val k).isSome_eq,<- l];exact h _ (I.tok _)
 ·subst ey
  cases (show u=yK b from ry);obtain⟨z,hd,xs,rel,dd⟩:=jr I.hok e;refine wpAny_notIn_heap (Ay hu) (iE I.hok eb) hd dd ?_
  have q:=(rel.val k).isSome_eq;rw[xF] at q;rw[<- q,<- l];exact h _ (I.tok _)
theorem k8 {h':Heap}{t':Nat}{ob:HO}(I:Inv X pins σ H s)(mu:Mut (H a))(hs:zS a s.heap h')(he:∃ q,h'.get? a=some q)(new:ObjOk X.prog X.w (upd H a ob) h' a ob):
  Inv X pins σ (upd H a ob) { s with heap:=h',toks:=t' }:=
 I.write (x:=a) (e:=a) mu (.inl rfl) (λ b q hb z=>(hs.2 b hb).trans z) he new
theorem sQ {P:Program}{w:World}{H':Hp}{h':Heap}{kvs:List (Key×V)}{vs:List (Key×Value)}(z:kvs.length<=sizeLine)(hd:(a == sysModules)=false)(rel:KV kvs vs)(dd:h'.DictOf (ay P w) a vs):
  ObjOk P w H' h' a (.dK kvs):=⟨z,hd,vs,rel,dd⟩
theorem lA {H':Hp}{Q:Unit->Shared->Prop}(hu:A.units+1<cLine)(I:Inv X pins σ H s)(g:DPut H a y v H')(ry:RelV y u)(rv:RelV v r)(h:∀ s',Inv X pins σ H' s'->Q () s'):
  wpAny (model X.prog X.w) A (setItem (.ref a) u r) Q E s:=by
 rcases g with ⟨kvs,k,e,ey,l,eH⟩|⟨kvs,k,b,e,ey,eb,l,eH⟩
 ·subst ey eH
  obtain⟨z,hd,vs,rel,dd⟩:=vz I.hok e;have hz:vs.length<=sizeLine:=by rw[<- rel.length];exact z
  have hl:(putK kvs k v).length<=sizeLine:=by have:=fD kvs k v;omega
  refine wpAny_setItem_pairs (hsz:=hz) (kP ry) dd λ h' dd' hs=>h _ ?_
  have he:∃ q,h'.get? a=some q:=let ⟨q,_,_,hq,_⟩:=dd';⟨q,hq⟩
  exact k8 I (by rw[e];exact zm) hs he (sQ hl hd (rel.put k rv) dd')
 ·subst ey eH
  cases (show u=yK b from ry);obtain⟨z,hd,xs,rel,dd⟩:=ux I.hok e;have hz:xs.length<=sizeLine:=by rw[<- Bk rel];exact z
  have hl:(putK kvs k v).length<=sizeLine:=by have:=fD kvs k v;omega
  refine wpAny_setItem_heap (hsz:=hz) (Ay hu) (iE I.hok eb) dd λ h' dd' hs=>h _ ?_
  obtain⟨q,es,ep,hq,h2,h3,h4,_,h5⟩:=dd';refine k8 I (by rw[e];exact zm) hs ⟨q,hq⟩ ⟨hl,hd,_,(rel.put k eb rv).keeps λ c ys ec=>?_,q,es,ep,hq,h2,h3,h4,h5⟩;rw[ai (um ec e (λ z=>nomatch z))];exact ec
end
section
variable {X:Cx}{pins:List (Addr×Obj)}{σ:St}{H:Hp}{s:Shared}{a:Addr}{kvs:List (Key×V)}{k:Key}{u:Value}{A:Around}{E:Value->Shared->Prop}
theorem vA {Q:Value->Shared->Prop}(I:Inv X pins σ H s)(e:Rd H a (.dK kvs))(h:∀ t s',Inv X pins σ H s'->Q (.int kvs.length t) s'):wpAny (model X.prog X.w) A (call (.builtin "len") [.ref a]) Q E s:=by
 obtain⟨z,hd,vs,rel,dd⟩:=gY I.hok e;refine call_len_dict hd dd (by rw[<- rel.length];rw[zt] at z;omega) ?_
 rw[<- rel.length];exact h _ _ (I.tok _)
end
def lK (i:Expr):Prop:=∀ ov iv,subscripted i false ov iv=operate [ov,iv] (getItem ov iv)
theorem kZ {prog:Program}{w:World}{A:Around}{E:Value->Shared->Prop}{s:Shared}{env:Env}{value slice:Expr}{pos:Pos}{T id:String}{Q:Value->Shared->Prop}
  (hl:typeLookup (.type T) "__getitem__"=pure (some (.builtin id))) (hs:lK slice)
  (h:wpAny (model prog w) A (eval value env) (λ o s₁=>wpAny (model prog w) A (eval slice env) (λ i s₂=>s₂.TypeIs o T/\wpAny (model prog w) A (getItem o i) Q E s₂) E s₁) E s):
  wpAny (model prog w) A (eval (.Subscript value slice pos) env) Q E s:=by
 refine Subscript_ (yC h (λ o s₁ h₁=>yC h₁ (λ i s₂ h₂=>?_) λ _ _ x=>x) λ _ _ x=>x);obtain⟨hT,h₂⟩:=h₂;unfold subscriptTail;refine yz ?_
 rw[getitemInPython_of_ne hT.not_modules];refine yz (wpAny_specialOf hT hl ?_);have fin:wpAny (model prog w) A (subscripted slice false o i) (λ r s₃=>wpAny (model prog w) A (letTemporaryGo value o r >>= λ _=>pure r) Q E s₃) E s₂:=by
  rw[hs o i];exact wpAny_operating (yC h₂ (λ r s₃ h₃=>yz (wpAny_letTemporaryGo (yE h₃))) λ _ _ x=>x)
 first
  | exact yE (yz fin)
  | exact yz (yE (yz fin))
  | exact yz fin
theorem jw {X:Cx}{pins:List (Addr×Obj)}{σ:St}{H:Hp}{s:Shared}{a:Addr}{y:V}{o:Option V}(I:Inv X pins σ H s)(g:DGet H a y o):s.TypeIs (.ref a) "dict":=by
 rcases g with ⟨kvs,k,e,_,_⟩|⟨kvs,k,b,e,_,_,_⟩
 ·obtain⟨_,_,vs,_,dd⟩:=gY I.hok e
  exact dd.typeIs
 ·obtain⟨_,_,xs,_,dd⟩:=jr I.hok e
  exact dd.typeIs
def rG (td ty:TE):TE:=λ σ H Q=>td σ H λ x H1=>ty σ H1 λ y H2=>∃ a v,x=.ref a/\DGet H2 a y (some v)/\Q v H2
def iN (ty td:TE):TE:=λ σ H Q=>ty σ H λ y H1=>td σ H1 λ x H2=>∃ a o,x=.ref a/\DGet H2 a y o/\Q (.bl (!o.isSome)) H2
def kG (td ty tv:TE):TS:=λ D σ H=>tv σ H λ v H1=>td σ H1 λ x H2=>ty σ H2 λ y H3=>∃ a H4,x=.ref a/\DPut H3 a y v H4/\D.nx σ H4
section
variable {X:Cx}{o i e value:Expr}{pos pos' tpos:Pos}{td ty tv:TE}
theorem kq (hu:X.A.units+1<cLine)(ho:PE X o td)(hi:PE X i ty)(hs:lK i):PE X (.Subscript o i pos) (rG td ty):=by
 intro pins s σ H Q I h;refine kZ PySem.F.slot_dict_getitem.lookup hs (thn (ho pins s σ H _ I h) λ u s1 ⟨x,H1,I1,rx,q1⟩=>thn (hi pins s1 σ H1 _ I1 q1) λ iv s2 ⟨y,H2,I2,ry,a,v,ex,g,q2⟩=>?_);subst ex;obtain rfl:u=yK a:=rx;exact⟨jw I2 g,ml hu I2 g ry λ w' s3 I3 rw'=>⟨v,H2,I3,rw',q2⟩⟩
theorem gX (hu:X.A.units+1<cLine)(hi:PE X i ty)(ho:PE X o td):PC X .NotIn i o (iN ty td):=by
 intro pins s σ H Q I h;refine thn (hi pins s σ H _ I h) λ iv s1 ⟨y,H1,I1,ry,q1⟩=>thn (ho pins s1 σ H1 _ I1 q1) λ u s2 ⟨x,H2,I2,rx,a,ov,ex,g,q2⟩=>?_
 subst ex;obtain rfl:u=yK a:=rx;exact qp hu I2 g ry λ s3 I3=>⟨.bl (!ov.isSome),H2,I3,rfl,q2⟩
theorem kx (hu:X.A.units+1<cLine)(ho:PE X o td)(hi:PE X i ty)(hv:PE X value tv)(hs:swapsWith value (some (.Subscript o i pos')) pos.line X.env=pure false):
  PS X (.Assign [.Subscript o i pos'] value pos) (kG td ty tv):=by
 intro pins s σ H D I h;refine wpAny_Assign_Subscript (thn (hv pins s σ H _ I h) λ r s1 ⟨v,H1,I1,rv,q1⟩=>thn (ho pins s1 σ H1 _ I1 q1) λ u s2 ⟨x,H2,I2,rx,q2⟩=>thn (hi pins s2 σ H2 _ I2 q2) λ iv s3 ⟨y,H3,I3,ry,a,H4,ex,g,q3⟩=>?_) hs;subst ex;obtain rfl:u=yK a:=rx;exact lA hu I3 g ry rv λ s4 I4=>⟨σ,H4,I4,q3⟩
end
theorem mP {P:Program}{w:World}{H:Hp}(h:Heap)(hb:sysModules<h.objs.size):ObjOk P w H (h.push { cls:=.type "dict",data:=.dict #[] }) h.objs.size (.dK []):=
 ⟨xD _,beq_eq_false_iff_ne.mpr (Ne.symm (wb hb)),[],.nil,Heap.DictOf.new h⟩
def oJ:TE:=λ _ H Q=>∀ p,H p=none->Q (.ref p) (upd H p (.dK []))
section
variable {X:Cx}{pos:Pos}
theorem jh:PE X (.Dict [] [] pos) oJ:=λ pins s σ H Q I h=>
 wpAny_Dict_empty ⟨.ref s.heap.objs.size,_,I.laid (a:=s.heap.objs.size) (o:=.dK []) (t':=s.toks) (λ _ _ q=>yB _ q) (wm _) (mP s.heap I.big),rfl,h _ (I.hok.fresh (wm _))⟩
end
def IsD (H:Hp)(a:Addr):Prop:=(∃ kvs,Rd H a (.dK kvs))\/∃ kvs,Rd H a (.dT kvs)
theorem sA {X:Cx}{pins:List (Addr×Obj)}{σ:St}{H:Hp}{s:Shared}{a:Addr}(I:Inv X pins σ H s)(d:IsD H a):
  s.TypeIs (.ref a) "dict"/\(∀ b,yK a=.ref b->∃ ob,s.heap.get? b=some ob/\ob.dict=none)/\(a == sysModules)=false:=by
 rcases d with ⟨kvs,e⟩|⟨kvs,e⟩
 ·obtain⟨_,hd,vs,_,dd⟩:=gY I.hok e
  refine⟨dd.typeIs,λ b q=>?_,hd⟩;cases q;obtain⟨ob,_,_,h1,h2,_⟩:=dd;exact⟨ob,h1,h2.2.1⟩
 ·obtain⟨_,hd,xs,_,dd⟩:=jr I.hok e
  refine⟨dd.typeIs,λ b q=>?_,hd⟩;cases q;obtain⟨ob,_,_,h1,h2,_⟩:=dd;exact⟨ob,h1,h2.2.1⟩
end L2
namespace Dv
inductive D where
 | non
 | bl (b:Bool)
 | int (i:Int)
  | str (x:List Nat)
 | lst (ds:List D)
 | tup (ds:List D)
  | exn (c:String)
  | raw (a:Nat)
  | tab (rows:List (List Int))
  | dct (ks:List Int) (ds:List D)
  | ins (ns:List String) (ds:List D)
def scal:D->Bool
 | .lst _=>false
 | .tup _=>false
 | .exn _=>false
 | .raw _=>false
 | .tab _=>false
 | .dct _ _=>false
 | .ins _ _=>false
 | _=>true
def noTy:D->Bool
 | .exn _=>true
 | .raw _=>true
 | .tab _=>true
 | .ins _ _=>true
 | _=>false
def flatL:List D->Bool
 | []=>true
 | d::r=>scal d&&flatL r
def clipS (x:List Nat):List Nat:=x.map (·%1114112)
mutual
def eqD:D->D->Option Bool
 | .non,.non=>some true
 | .bl a,.bl b=>some (a == b)
 | .int a,.int b=>some (decide (a=b))
 | .str a,.str b=>some (decide (clipS a=clipS b))
 | .lst a,.lst b=>eqDL a b
 | .tup a,.tup b=>eqDL a b
 | _,_=>none
def eqDL:List D->List D->Option Bool
 | [],[]=>some true
 | [],_::_=>some false
 | _::_,[]=>some false
 | a::x,b::y=>
  match eqD a b,eqDL x y with
  | some p,some q=>some (p&&q)
  | _,_=>none
end
mutual
def depthD:D->Nat
 | .lst ds=>depthL ds+1
 | .tup ds=>depthL ds+1
 | .exn _=>100
 | .raw _=>100
 | .tab _=>100
 | .dct _ _=>100
 | .ins _ _=>100
 | _=>0
def depthL:List D->Nat
 | []=>0
 | d::r=>max (depthD d) (depthL r)
end
def intsOf:List D->Option (List Int)
 | []=>some []
 | .int i::r=>(intsOf r).map (i::·)
 | _::_=>none
def bits (a:Int):Nat:=if a=0 then 0 else a.natAbs.log2+1
def mulOk (i j:Int):Bool:=decide (bits i<=64) || decide (bits j<=64) || (decide (bits i<=1048576)&&decide (bits j<=1048576))
def divOk (j:Int):Bool:=decide (0<j)&&decide (j.natAbs.log2<9000)
def ins (i:Int):List Int->List Int
 | []=>[i]
 | j::r=>if i<=j then i::j::r else j::ins i r
def isort:List Int->List Int
 | []=>[]
 | i::r=>ins i (isort r)
inductive R where
 | ok (d:D) (fr:Bool)
 | exc (c:String)
 | bad
inductive RL where
 | ok (ds:List D) (fr:Bool)
 | exc (c:String)
 | bad
abbrev R.bind (r:R)(k:D->Bool->R):R:=match r with
 | .ok d fr=>k d fr
 | .exc c=>.exc c
 | .bad=>.bad
abbrev RL.bind (r:RL)(k:List D->Bool->R):R:=match r with
 | .ok d fr=>k d fr
 | .exc c=>.exc c
 | .bad=>.bad
abbrev R.bindL (r:R)(k:D->Bool->RL):RL:=match r with
 | .ok d fr=>k d fr
 | .exc c=>.exc c
 | .bad=>.bad
abbrev RL.bindL (r:RL)(k:List D->Bool->RL):RL:=match r with
 | .ok d fr=>k d fr
 | .exc c=>.exc c
 | .bad=>.bad
abbrev Env:=List (Option D)
abbrev EE:=Env->R
abbrev EL:=Env->RL
inductive Op where
 | add|sub|mul|mod|fdiv|pow|shr|band
inductive Cm where
 | lt|le|gt|ge|eq|ne|isin|notin|isT|isNotT
def mx:Nat:=100000
def opD:Op->D->D->R
 | .add,.int i,.int j=>.ok (.int (i+j)) true
 | .add,.lst a,.lst b=>if a.length+b.length<=mx then .ok (.lst (a++b)) (flatL a&&flatL b) else .bad
 | .sub,.int i,.int j=>.ok (.int (i-j)) true
 | .mul,.int i,.int j=>if mulOk i j then .ok (.int (i*j)) true else .bad
 | .mul,.lst a,.int j=>if decide (-100000<=j)&&decide (j<=mx)&&decide (a.length*j.toNat<=mx) then .ok (.lst (List.replicate j.toNat a).flatten) (flatL a) else .bad
 | .mod,.int i,.int j=>if decide (0<j) then .ok (.int (i%j)) true else .bad
 | .fdiv,.int i,.int j=>if divOk j then .ok (.int (i/j)) true else .bad
 | .pow,.int i,.int j=>if decide (0<=j)&&decide (j<=1000)&&decide (i.natAbs<1000000) then .ok (.int (i ^ j.toNat)) true else .bad
 | .band,.int i,.int j=>if decide (j=1) then .ok (.int (i%2)) true else .bad
 | .shr,.int i,.int j=>if decide (0<=j) then .ok (.int (i/2 ^ j.toNat)) true else .bad
 | _,_,_=>.bad
theorem opD_ai (i j:Int):opD .add (.int i) (.int j)=.ok (.int (i+j)) true:=rfl
theorem opD_al (a b:List D):opD .add (.lst a) (.lst b)=if a.length+b.length<=mx then .ok (.lst (a++b)) (flatL a&&flatL b) else .bad:=rfl
theorem opD_su (i j:Int):opD .sub (.int i) (.int j)=.ok (.int (i-j)) true:=rfl
theorem opD_mi (i j:Int):opD .mul (.int i) (.int j)=if mulOk i j then .ok (.int (i*j)) true else .bad:=rfl
theorem opD_ml (a:List D)(j:Int):opD .mul (.lst a) (.int j)=if decide (-100000<=j)&&decide (j<=mx)&&decide (a.length*j.toNat<=mx) then .ok (.lst (List.replicate j.toNat a).flatten) (flatL a) else .bad:=rfl
theorem opD_mo (i j:Int):opD .mod (.int i) (.int j)=if decide (0<j) then .ok (.int (i%j)) true else .bad:=rfl
theorem opD_fd (i j:Int):opD .fdiv (.int i) (.int j)=if divOk j then .ok (.int (i/j)) true else .bad:=rfl
theorem opD_po (i j:Int):opD .pow (.int i) (.int j)=if decide (0<=j)&&decide (j<=1000)&&decide (i.natAbs<1000000) then .ok (.int (i ^ j.toNat)) true else .bad:=rfl
theorem opD_ba (i j:Int):opD .band (.int i) (.int j)=if decide (j=1) then .ok (.int (i%2)) true else .bad:=rfl
theorem opD_sh (i j:Int):opD .shr (.int i) (.int j)=if decide (0<=j) then .ok (.int (i/2 ^ j.toNat)) true else .bad:=rfl
def inD (i:Int):List D->Option Bool
 | []=>some false
 | .int j::r=>(inD i r).map (decide (j=i) || ·)
 | _::_=>none
def optB:Option Bool->R
 | some b=>.ok (.bl b) true
 | none=>.bad
def cmD:Cm->D->D->R
 | .eq,a,b=>if decide (depthD a<=9)&&decide (depthD b<=9) then optB (eqD a b) else .bad
 | .ne,a,b=>if decide (depthD a<=9)&&decide (depthD b<=9) then optB ((eqD a b).map (!·)) else .bad
 | .lt,.int i,.int j=>.ok (.bl (decide (i<j))) true
 | .le,.int i,.int j=>.ok (.bl (decide (i<=j))) true
 | .gt,.int i,.int j=>.ok (.bl (decide (j<i))) true
 | .ge,.int i,.int j=>.ok (.bl (decide (j<=i))) true
 | .isin,.int i,.lst b=>optB (inD i b)
 | .notin,.int i,.lst b=>optB ((inD i b).map (!·))
 | .isT,.bl a,.bl true=>.ok (.bl a) true
 | .isNotT,.bl a,.bl true=>.ok (.bl (!a)) true
 | _,_,_=>.bad
theorem cmD_eq (a b:D):cmD .eq a b=if decide (depthD a<=9)&&decide (depthD b<=9) then optB (eqD a b) else .bad:=rfl
theorem cmD_ne (a b:D):cmD .ne a b=if decide (depthD a<=9)&&decide (depthD b<=9) then optB ((eqD a b).map (!·)) else .bad:=rfl
theorem cmD_lt (i j:Int):cmD .lt (.int i) (.int j)=.ok (.bl (decide (i<j))) true:=rfl
theorem cmD_le (i j:Int):cmD .le (.int i) (.int j)=.ok (.bl (decide (i<=j))) true:=rfl
theorem cmD_gt (i j:Int):cmD .gt (.int i) (.int j)=.ok (.bl (decide (j<i))) true:=rfl
theorem cmD_ge (i j:Int):cmD .ge (.int i) (.int j)=.ok (.bl (decide (j<=i))) true:=rfl
theorem cmD_in (i:Int)(b:List D):cmD .isin (.int i) (.lst b)=optB (inD i b):=rfl
theorem cmD_ni (i:Int)(b:List D):cmD .notin (.int i) (.lst b)=optB ((inD i b).map (!·)):=rfl
theorem cmD_it (a:Bool):cmD .isT (.bl a) (.bl true)=.ok (.bl a) true:=rfl
theorem cmD_nt (a:Bool):cmD .isNotT (.bl a) (.bl true)=.ok (.bl (!a)) true:=rfl
def eVar (i:Nat):EE:=λ ρ=>match ρ[i]? with
 | some (some d)=>.ok d (scal d)
 | _=>.bad
def eInt (i:Int):EE:=λ _=>.ok (.int i) true
def eBl (b:Bool):EE:=λ _=>.ok (.bl b) true
def eStr (x:List Nat):EE:=λ _=>.ok (.str x) true
def eOp (o:Op)(a b:EE):EE:=λ ρ=>(a ρ).bind λ x _=>(b ρ).bind λ y _=>opD o x y
def eCm (o:Cm)(a b:EE):EE:=λ ρ=>(a ρ).bind λ x _=>(b ρ).bind λ y _=>cmD o x y
def eNeg (a:EE):EE:=λ ρ=>(a ρ).bind λ x _=>match x with
 | .int i=>.ok (.int (-i)) true
 | _=>.bad
def eAnd (a b:EE):EE:=λ ρ=>(a ρ).bind λ x _=>match x with
 | .bl true=>b ρ
 | .bl false=>.ok (.bl false) true
 | _=>.bad
def eOr (a b:EE):EE:=λ ρ=>(a ρ).bind λ x _=>match x with
 | .bl true=>.ok (.bl true) true
 | .bl false=>b ρ
 | _=>.bad
def eNot (a:EE):EE:=λ ρ=>(a ρ).bind λ x _=>match x with
 | .bl b=>.ok (.bl (!b)) true
 | _=>.bad
def eIf (c a b:EE):EE:=λ ρ=>(c ρ).bind λ x _=>match x with
 | .bl true=>a ρ
 | .bl false=>b ρ
 | _=>.bad
def lNil:EL:=λ _=>.ok [] true
def lCons (a:EE)(r:EL):EL:=λ ρ=>(a ρ).bindL λ d f=>(r ρ).bindL λ ds g=>.ok (d::ds) (f&&g)
def eLst (a:EL):EE:=λ ρ=>(a ρ).bind λ ds f=>.ok (.lst ds) f
def eTup (a:EL):EE:=λ ρ=>(a ρ).bind λ ds f=>.ok (.tup ds) f
def at? (ds:List D)(i:Int):Option D:=if 0<=i then ds[i.toNat]? else if -(ds.length:Int)<=i then ds[(i+ds.length).toNat]? else none
def ixD (a i:D)(f:Bool):R:=match a,i with
 | .lst ds,.int k=>match at? ds k with
  | some d=>.ok d (f || scal d)
  | none=>.bad
 | .tup ds,.int k=>match at? ds k with
  | some d=>.ok d (f || scal d)
  | none=>.bad
 | _,_=>.bad
def eIx (a i:EE):EE:=λ ρ=>(a ρ).bind λ x f=>(i ρ).bind λ y _=>ixD x y f
def eCall (F:List D->R)(a:EL):EE:=λ ρ=>(a ρ).bind λ ds _=>F ds
def eB1 (F:D->Bool->R)(a:EE):EE:=λ ρ=>(a ρ).bind F
def lenD:D->Bool->R
 | .lst ds,_=>.ok (.int ds.length) true
 | .tup ds,_=>.ok (.int ds.length) true
 | _,_=>.bad
def sortedD:D->Bool->R
 | .lst ds,_=>match intsOf ds with
  | some ns=>if ns.length<64 then .ok (.lst ((isort ns).map .int)) true else .bad
  | none=>.bad
 | _,_=>.bad
def listD:D->Bool->R
 | .lst ds,f=>.ok (.lst ds) (f || flatL ds)
 | .tup ds,f=>.ok (.lst ds) (f || flatL ds)
 | _,_=>.bad
def cutI (n:Nat)(dflt:Nat):Option Int->Nat
 | none=>dflt
 | some i=>if i<0 then (i+(n:Int)).toNat else min i.toNat n
def cutL {α:Type}(ds:List α)(lo hi:Option Int):List α:=(ds.drop (cutI ds.length 0 lo)).take (cutI ds.length ds.length hi-cutI ds.length 0 lo)
def rK (a:D)(f:Bool)(lo hi:Option Int):R:=match a with
 | .lst ds=>.ok (.lst (cutL ds lo hi)) (f || flatL (cutL ds lo hi))
 | _=>.bad
def ePart (p:Option EE)(ρ:Env)(k:Option Int->R):R:=match p with
 | none=>k none
 | some e=>(e ρ).bind λ d _=>match d with
  | .int i=>k (some i)
  | _=>.bad
def eSlice (a:EE)(lo hi:Option EE):EE:=λ ρ=>(a ρ).bind λ x f=>ePart lo ρ λ i=>ePart hi ρ λ j=>rK x f i j
def eB2 (F:D->D->R)(a b:EE):EE:=λ ρ=>(a ρ).bind λ x _=>(b ρ).bind λ y _=>F x y
def subX (c k:String):Bool:=c == k || k == "WheelError" || k == "ValueError"
def isXD (kn ks:List String):D->Bool->R
 | .exn c,_=>if kn.contains c then .ok (.bl (ks.any (subX c))) true else .bad
 | _,_=>.bad
inductive RI where
 | ok (ds:List D) (fr:Bool)
 | exc (c:String)
 | bad
abbrev EI:=Env->RI
def rangeL (lo:Int):Nat->List D
 | 0=>[]
 | n+1=>.int lo::rangeL (lo+1) n
def iSeq (a:EE):EI:=λ ρ=>match a ρ with
 | .ok (.lst ds) f=>.ok ds f
 | .exc c=>.exc c
 | _=>.bad
def rngOk (i:Int):Bool:=decide (-1000000<=i)&&decide (i<=1000000)
def iRange (a:EE):EI:=λ ρ=>match a ρ with
 | .ok (.int j) _=>if rngOk j then .ok (rangeL 0 j.toNat) true else .bad
 | .exc c=>.exc c
 | _=>.bad
def iRange2 (a b:EE):EI:=λ ρ=>match a ρ with
 | .ok (.int i) _=>match b ρ with
  | .ok (.int j) _=>if rngOk i&&rngOk j then .ok (rangeL i (j-i).toNat) true else .bad
  | .exc c=>.exc c
  | _=>.bad
 | .exc c=>.exc c
 | _=>.bad
def bS (elt:EE)(cond:EE)(free:Env):List D->RL
 | []=>.ok [] true
 | d::r=>match cond (some d::free) with
  | .ok (.bl true) _=>match elt (some d::free) with
   | .ok x f=>match bS elt cond free r with
    | .ok xs g=>.ok (x::xs) (f&&g)
    | _=>.bad
   | _=>.bad
  | .ok (.bl false) _=>bS elt cond free r
  | _=>.bad
def pick (ρ:Env)(is:List Nat):Env:=is.map λ i=>(ρ[i]?).getD none
def eComp (elt cond:EE)(is:List Nat)(it:EI):EE:=λ ρ=>match it ρ with
 | .ok ds _=>if ds.length<=mx then match bS elt cond (pick ρ is) ds with
   | .ok xs f=>.ok (.lst xs) f
   | _=>.bad
  else .bad
 | .exc c=>.exc c
 | .bad=>.bad
inductive Sl where
 | no
 | sh (d:D)
 | ow (d:D)
  | dp (d:D)
  | jk (n m:Nat)
abbrev St:=List Sl
def Sl.get:Sl->Option D
 | .no=>none
 | .sh d=>some d
 | .ow d=>some d
 | .dp d=>some d
 | .jk _ _=>none
def Sl.shared:Sl->Option D
 | .sh d=>some d
 | _=>none
def Sl.give:Sl->Sl
 | .ow d=>.sh d
 | .dp d=>.sh d
 | s=>s
def all (st:St):Env:=st.map Sl.get
def open_ (st:St):Env:=st.map Sl.shared
def give (is:List Nat)(st:St):St:=is.foldl (λ st i=>st.set i ((st[i]?.getD .no).give)) st
inductive Out where
 | nx (st:St)
 | ret (d:D) (nw:Bool)
 | brk (st:St)
 | cont (st:St)
 | exc (c:String) (st:St)
 | bad
abbrev SS:=St->Out
abbrev Out.bind (o:Out)(k:St->Out):Out:=match o with
 | .nx st=>k st
 | o=>o
def sNil:SS:=λ st=>.nx st
def sCons (a r:SS):SS:=λ st=>(a st).bind r
def keepD (d:D)(f:Bool):Option Sl:=match d with
 | .lst ds=>if f&&flatL ds then some (.ow d) else none
 | .tup _=>none
 | .exn _=>none
 | .raw _=>none
 | .tab _=>none
 | .ins _ _=>none
 | .dct ks ds=>if f&&ks.isEmpty&&ds.isEmpty then some (.ow d) else none
 | _=>some (.sh d)
def sSet (i:Nat)(e:EE):SS:=λ st=>match e (all st) with
 | .ok d f=>match keepD d f with
  | some s=>.nx (st.set i s)
  | none=>.bad
 | .exc c=>.exc c st
 | .bad=>.bad
def sSetG (is:List Nat)(i:Nat)(e:EE):SS:=λ st=>match e (open_ (give is st)) with
 | .ok d _=>.nx ((give is st).set i (.sh d))
 | .exc c=>.exc c st
 | .bad=>.bad
def sExpr (e:EE):SS:=λ st=>match e (all st) with
 | .ok _ _=>.nx st
 | .exc c=>.exc c st
 | .bad=>.bad
def sRet (e:EE):SS:=λ st=>match e (all st) with
 | .ok d f=>.ret d f
 | .exc c=>.exc c st
 | .bad=>.bad
def sRetO (i:Nat):SS:=λ st=>match st[i]? with
 | some (.ow (.lst ds))=>.ret (.lst ds) (flatL ds)
 | some (.ow (.dct ks ds))=>.ret (.dct ks ds) false
 | some (.dp d)=>.ret d true
 | some (.sh d)=>.ret d (scal d)
 | _=>.bad
def sIf (c:EE)(a b:SS):SS:=λ st=>match c (all st) with
 | .ok (.bl true) _=>a st
 | .ok (.bl false) _=>b st
 | .exc c=>.exc c st
 | _=>.bad
def sNever:SS:=λ _=>.bad
def sRaise (c:String):SS:=λ st=>.exc c st
def unb (i:Nat):Out->Out
 | .nx st=>.nx (st.set i .no)
 | .brk st=>.brk (st.set i .no)
 | .cont st=>.cont (st.set i .no)
 | .ret d f=>.ret d f
 | _=>.bad
def noX:Out->Out
 | .exc _ _=>.bad
 | o=>o
def sTryAs (kn:List String)(i:Nat)(k:String)(F G:SS):SS:=λ st=>match F st with
 | .exc c st'=>if kn.contains c&&subX c k then unb i (G (st'.set i (.sh (.exn c)))) else .bad
 | o=>o
def sApp (i:Nat)(e:EE):SS:=λ st=>match st[i]? with
 | some (.ow (.lst ds))=>match e (all st) with
  | .ok d _=>if scal d&&decide (ds.length<mx) then .nx (st.set i (.ow (.lst (ds++[d])))) else .bad
  | .exc c=>.exc c st
  | .bad=>.bad
 | _=>.bad
def sPut (i:Nat)(k e:EE):SS:=λ st=>match st[i]? with
 | some (.ow (.lst ds))=>match e (all st) with
  | .ok d _=>match k (all st) with
   | .ok (.int j) _=>if scal d&&decide (0<=j)&&decide (j<ds.length) then .nx (st.set i (.ow (.lst (ds.set j.toNat d)))) else .bad
   | .exc c=>.exc c st
   | _=>.bad
  | .exc c=>.exc c st
  | .bad=>.bad
 | _=>.bad
def sAugIx (i:Nat)(o:Op)(k e:EE):SS:=λ st=>match st[i]? with
 | some (.ow (.lst ds))=>match k (all st) with
  | .ok (.int j) _=>if 0<=j then match at? ds j with
    | some x=>match e (all st) with
     | .ok y _=>match opD o x y with
      | .ok (.int z) _=>.nx (st.set i (.ow (.lst (ds.set j.toNat (.int z)))))
      | _=>.bad
     | .exc c=>.exc c st
     | .bad=>.bad
    | none=>.bad
   else .bad
  | .exc c=>.exc c st
  | _=>.bad
 | _=>.bad
def forGo (x:Nat)(body:SS):List D->SS
 | [],st=>.nx st
 | d::r,st=>match body (st.set x (.sh d)) with
  | .nx st'=>forGo x body r st'
  | .cont st'=>forGo x body r st'
  | .brk st'=>.nx st'
  | o=>o
def sFor (is:List Nat)(x:Nat)(it:EI)(body:SS):SS:=λ st=>match it (open_ (give is st)) with
 | .ok ds _=>forGo x body ds (give is st)
 | .exc c=>.exc c st
 | .bad=>.bad
def whileGo (c:EE)(body:SS):Nat->SS
 | 0,_=>.bad
 | n+1,st=>match c (all st) with
  | .ok (.bl true) _=>match body st with
   | .nx st'=>whileGo c body n st'
   | .cont st'=>whileGo c body n st'
   | .brk st'=>.nx st'
   | o=>o
  | .ok (.bl false) _=>.nx st
  | .exc c=>.exc c st
  | _=>.bad
def sWhile (n:Nat)(c:EE)(body:SS):SS:=whileGo c body n
def setAll:List Nat->List D->St->St
 | i::is,d::ds,st=>setAll is ds (st.set i (.sh d))
 | _,_,st=>st
def forGoT (tgt:D->St->Option St)(body:SS):List D->SS
 | [],st=>.nx st
 | d::r,st=>match tgt d st with
  | none=>.bad
  | some st1=>match body st1 with
   | .nx st'=>forGoT tgt body r st'
   | .cont st'=>forGoT tgt body r st'
   | .brk st'=>.nx st'
   | o=>o
def sForT (is:List Nat)(tgt:D->St->Option St)(it:EI)(body:SS):SS:=λ st=>match it (open_ (give is st)) with
 | .ok ds _=>forGoT tgt body ds (give is st)
 | .exc c=>.exc c st
 | .bad=>.bad
def tupTo (xs:List Nat)(d:D)(s:St):Option St:=match d with
 | .tup ds=>if ds.length=xs.length then some (setAll xs ds s) else none
 | _=>none
def fn (n:Nat)(body:SS)(ds:List D):R:=match body (ds.map .sh++List.replicate (n-ds.length) .no) with
 | .nx _=>.ok .non true
 | .ret d f=>.ok d f
 | .exc c _=>.exc c
 | _=>.bad
end Dv
namespace Sd
open PySem PySem.Spec PyProof.Rows L2
open Dv (D R RL EE EL EI RI)
abbrev St:=L2.St
def SqX (K:yy)(H:Hp)(a:Addr)(xs:List V):Prop:=
 Rd H a (.lst xs)\/∃ (its:List Value) (n:Nat),K.lookup a=some { cls:=.type "list",data:=.seq its.toArray n }/\xs.length<=sizeLine/\Vals xs its
theorem SqX.seq {K:yy}{H:Hp}{a:Addr}{xs:List V}(h:SqX K H a xs):SqL K H a xs:=by
 rcases h with h|⟨its,n,e,z,r⟩
 ·exact .inl h
 ·refine .inr ⟨_,its.toArray,n,e,rfl,rfl,rfl,?_,by simpa using r⟩
  rw[wj,<- r.length];exact z
theorem SqX.of {K:yy}{H:Hp}{a:Addr}{xs:List V}(h:H a=some (.lst xs)):SqX K H a xs:=.inl (.inl h)
theorem Rd.same {H H':Hp}{a:Addr}{o:HO}(e:Same H H')(h:Rd H a o):Rd H' a o:=by
 rcases h with h|⟨u,h⟩
 ·exact .inl (e _ _ h)
 ·exact .inr ⟨u,e _ _ h⟩
theorem SqX.same {K:yy}{H H':Hp}{a:Addr}{xs:List V}(e:Same H H')(h:SqX K H a xs):SqX K H' a xs:=by
 rcases h with h|h
 ·exact .inl (Rd.same e h)
 ·exact .inr h
theorem Inv.listX {X:Cx}{pins:List (Addr×Obj)}{σ:St}{H:Hp}{s:Shared}{a:Addr}{xs:List V}(I:Inv X pins σ H s)(h:SqX X.K H a xs):
  ∃ (its:List Value) (n:Nat),Vals xs its/\s.heap.get? a=some { cls:=.type "list",data:=.seq its.toArray n }/\xs.length<=sizeLine:=by
 rcases h with h|⟨its,n,e,z,r⟩
 ·obtain⟨z,its,n,r,e⟩:=h.ok I.hok
  exact⟨its,n,r,e,z⟩
 ·exact⟨its,n,r,I.kIn a _ e,z⟩
def g8 (a C:Addr):Heap->Prop:=λ h=>∃ o vs,h.get? a=some o/\o.cls=.ref C/\o.data=.fields vs
def Tbr (H:Hp):List Addr->List (List Int)->Prop
 | [],[]=>True
 | b::bs,r::rs=>Rd H b (.lst (r.map V.int))/\Tbr H bs rs
 | _,_=>False
theorem Tbr.same {H H':Hp}(e:∀ {b:Addr} {o:HO},Rd H b o->Rd H' b o):∀ {bs:List Addr} {rows:List (List Int)},Tbr H bs rows->Tbr H' bs rows
 | [],[],_=>zm
 | b::bs,r::rs,h=>⟨e h.1,Tbr.same e h.2⟩
 | [],_::_,h=>h.elim
 | _::_,[],h=>h.elim
mutual
def Rp (K:yy)(H:Hp):D->V->Prop
 | .non,v=>v=.non
 | .bl b,v=>v=.bl b
 | .int i,v=>v=.int i
 | .str x,v=>v=.str ⟨(Dv.clipS x).toArray⟩
 | .lst ds,v=>∃ a vs,v=.ref a/\SqX K H a vs/\RpL K H ds vs
 | .tup ds,v=>∃ a vs,v=.ref a/\Rd H a (.tup vs)/\RpL K H ds vs
 | .exn c,v=>∃ a C,v=.ref a/\yH K mainGlobals (yG c)=some (some (.ref C))/\H a=some (.ext (g8 a C))
 | .raw a,v=>v=.ref a
 | .tab rows,v=>∃ t bs,v=.ref t/\Rd H t (.lst (bs.map V.ref))/\t∉bs/\bs.Nodup/\Tbr H bs rows
 | .dct ks ds,v=>∃ a vs,v=.ref a/\ks.length=ds.length/\Rd H a (.dK ((ks.map Sum.inl).zip vs))/\RpL K H ds vs
 | .ins ns ds,v=>∃ a C dx fs vs,v=.ref a/\H a=some (.ins C dx fs)/\Cls K C/\ns.length=ds.length/\(∀ n u,(n,u)∈ns.zip vs->NoAttr K C (yG n)/\fs.lookup (yG n)=some u)/\RpL K H ds vs
def RpL (K:yy)(H:Hp):List D->List V->Prop
 | [],vs=>vs=[]
 | d::r,vs=>∃ v ws,vs=v::ws/\Rp K H d v/\RpL K H r ws
end
mutual
theorem Rp.same {K:yy}{H H':Hp}(e:Same H H'):∀ {d:D} {v:V},Rp K H d v->Rp K H' d v
 | .non,_,h=>by unfold Rp at h ⊢;exact h
 | .bl _,_,h=>by unfold Rp at h ⊢;exact h
 | .int _,_,h=>by unfold Rp at h ⊢;exact h
 | .str _,_,h=>by unfold Rp at h ⊢;exact h
 | .raw _,_,h=>by unfold Rp at h ⊢;exact h
 | .tab _,v,h=>by
  unfold Rp at h ⊢;obtain⟨t,bs,h1,h2,h3,h4,h5⟩:=h;exact⟨t,bs,h1,Rd.same e h2,h3,h4,h5.same λ q=>Rd.same e q⟩
 | .lst ds,v,h=>by
  unfold Rp at h ⊢;obtain⟨a,vs,h1,h2,h3⟩:=h;exact⟨a,vs,h1,h2.same e,RpL.same e h3⟩
 | .tup ds,v,h=>by
  unfold Rp at h ⊢;obtain⟨a,vs,h1,h2,h3⟩:=h;exact⟨a,vs,h1,Rd.same e h2,RpL.same e h3⟩
 | .exn c,v,h=>by
  unfold Rp at h ⊢;obtain⟨a,C,h1,h2,h3⟩:=h;exact⟨a,C,h1,h2,e _ _ h3⟩
 | .dct ks ds,v,h=>by
  unfold Rp at h ⊢;obtain⟨a,vs,h1,h2,h3,h4⟩:=h;exact⟨a,vs,h1,h2,Rd.same e h3,RpL.same e h4⟩
 | .ins ns ds,v,h=>by
  unfold Rp at h ⊢;obtain⟨a,C,dx,fs,vs,h1,h2,h3,h4,h5,h6⟩:=h;exact⟨a,C,dx,fs,vs,h1,e _ _ h2,h3,h4,h5,RpL.same e h6⟩
theorem RpL.same {K:yy}{H H':Hp}(e:Same H H'):∀ {ds:List D} {vs:List V},RpL K H ds vs->RpL K H' ds vs
 | [],_,h=>by unfold RpL at h ⊢;exact h
 | d::r,vs,h=>by
  unfold RpL at h ⊢;obtain⟨v,ws,h1,h2,h3⟩:=h;exact⟨v,ws,h1,Rp.same e h2,RpL.same e h3⟩
end
theorem RpL.length {K:yy}{H:Hp}:∀ {ds:List D} {vs:List V},RpL K H ds vs->vs.length=ds.length
 | [],_,h=>by unfold RpL at h;subst h;rfl
 | d::r,vs,h=>by
  unfold RpL at h;obtain⟨v,ws,rfl,_,h3⟩:=h;rw[wt,wt,RpL.length h3]
theorem Rp.scal {K K':yy}{H H':Hp}{d:D}{v:V}(f:Dv.scal d=true)(h:Rp K H d v):Rp K' H' d v:=by
 cases d with
 | lst ds=>exact absurd f (by simp[Dv.scal])
 | tup ds=>exact absurd f (by simp[Dv.scal])
 | exn c=>exact absurd f (by simp[Dv.scal])
 | raw c=>exact absurd f (by simp[Dv.scal])
 | tab c=>exact absurd f (by simp[Dv.scal])
 | dct ks ds=>exact absurd f (by simp[Dv.scal])
 | ins ks ds=>exact absurd f (by simp[Dv.scal])
 | _=>unfold Rp at h ⊢;exact h
theorem RpL.flat {K K':yy}{H H':Hp}:∀ {ds:List D} {vs:List V},Dv.flatL ds=true->RpL K H ds vs->RpL K' H' ds vs
 | [],_,_,h=>by unfold RpL at h ⊢;exact h
 | d::r,vs,f,h=>by
  unfold Dv.flatL at f;rw[v8] at f;unfold RpL at h ⊢;obtain⟨v,ws,h1,h2,h3⟩:=h;exact⟨v,ws,h1,h2.scal f.1,RpL.flat f.2 h3⟩
theorem RpL.append {K:yy}{H:Hp}:∀ {ds es:List D} {vs ws:List V},RpL K H ds vs->RpL K H es ws->RpL K H (ds++es) (vs++ws)
 | [],_,_,_,h,g=>by unfold RpL at h;subst h;exact g
 | d::r,es,vs,ws,h,g=>by
  unfold RpL at h;obtain⟨v,vs',rfl,h2,h3⟩:=h;rw[xf,xf];unfold RpL;exact⟨v,_,rfl,h2,RpL.append h3 g⟩
theorem RpL.get {K:yy}{H:Hp}:∀ {ds:List D} {vs:List V} {i:Nat} {d:D},RpL K H ds vs->ds[i]?=some d->∃ v,vs[i]?=some v/\Rp K H d v
 | [],_,_,_,_,e=>by simp at e
 | x::r,vs,0,d,h,e=>by
  unfold RpL at h;obtain⟨v,ws,rfl,h2,_⟩:=h;simp at e;subst e;exact⟨v,rfl,h2⟩
 | x::r,vs,i+1,d,h,e=>by
  unfold RpL at h;obtain⟨v,ws,rfl,_,h3⟩:=h;obtain⟨u,h4,h5⟩:=RpL.get (i:=i) (d:=d) h3 (by simpa using e);exact⟨u,by simpa using h4,h5⟩
theorem RpL.cons {K:yy}{H:Hp}{d:D}{v:V}{ds:List D}{vs:List V}(h:Rp K H d v)(g:RpL K H ds vs):RpL K H (d::ds) (v::vs):=by
 unfold RpL;exact⟨v,vs,rfl,h,g⟩
theorem RpL.nil {K:yy}{H:Hp}:RpL K H [] []:=by unfold RpL;rfl
theorem RpL.set {K:yy}{H:Hp}{d:D}{v:V}(g:Rp K H d v):∀ {ds:List D} {vs:List V} (i:Nat),RpL K H ds vs->RpL K H (ds.set i d) (vs.set i v)
 | [],_,i,h=>by unfold RpL at h;subst h;exact .nil
 | x::r,vs,0,h=>by
  unfold RpL at h;obtain⟨u,ws,rfl,_,h3⟩:=h;exact .cons g h3
 | x::r,vs,i+1,h=>by
  unfold RpL at h;obtain⟨u,ws,rfl,h2,h3⟩:=h;exact .cons h2 (RpL.set g i h3)
theorem RpL.ints {K:yy}{H:Hp}:∀ {ds:List D} {vs:List V} {ns:List Int},Dv.intsOf ds=some ns->RpL K H ds vs->vs=ns.map V.int
 | [],vs,ns,e,h=>by
  simp[Dv.intsOf] at e;subst e;unfold RpL at h;exact h
 | d::r,vs,ns,e,h=>by
  unfold RpL at h;obtain⟨v,ws,rfl,h2,h3⟩:=h;cases d with
  | int i=>
   simp only[Dv.intsOf,xp] at e;obtain⟨ms,e1,rfl⟩:=e;unfold Rp at h2;subst h2;rw[RpL.ints e1 h3,we]
  | _=>simp[Dv.intsOf] at e
theorem RpL.ofInts {K:yy}{H:Hp}:∀ (ns:List Int),RpL K H (ns.map .int) (ns.map V.int)
 | []=>.nil
 | n::r=>.cons (by unfold Rp;rfl) (RpL.ofInts r)
structure Ext (Hv H Hv' H':Hp):Prop where
 hh:Same H H'
 vv:Same Hv Hv'
 vh:Same Hv' H'
 new:∀ b o,Hv' b=some o->Hv b=none->H b=none
 all:∀ b,H b=none->Hv' b=H' b
 nf:∀ b o u,H b=none->H' b≠some (.frz o u)
theorem Ext.refl {Hv H:Hp}(e:Same Hv H):Ext Hv H Hv H:=⟨.refl _,.refl _,e,λ b o h n=>(by rw[n] at h;cases h),λ b h=>(by rw[h];exact e.free h),λ b o u h=>by rw[h];intro z;cases z⟩
theorem Ext.trans {Hv H Hv1 H1 Hv2 H2:Hp}(a:Ext Hv H Hv1 H1)(b:Ext Hv1 H1 Hv2 H2):Ext Hv H Hv2 H2:=
 ⟨a.hh.trans b.hh,a.vv.trans b.vv,b.vh,λ c o h n=>(by
  cases q:Hv1 c with
  | some u=>exact a.new c u q n
  | none=>exact a.hh.free (b.new c o h q)),λ c h=>by
  cases q:H1 c with
  | none=>exact b.all c q
  | some o=>rw[b.hh c o q];exact b.vv c o ((a.all c h).trans q),λ c o u h=>by
  cases q:H1 c with
  | none=>exact b.nf c o u q
  | some w=>rw[b.hh c w q,<- q];exact a.nf c o u h⟩
theorem gv {H:Hp}{p:Addr}(h:H p=none)(o:HO):Same H (upd H p o):=λ b u q=>by rw[ai (ak q h)];exact q
theorem Ext.new1 {Hv H:Hp}(e:Same Hv H){p:Addr}(h:H p=none)(o:HO)(ho:autoParam (∀ a u,o≠.frz a u) ZI._auto_1):Ext Hv H (upd Hv p o) (upd H p o):=by
 refine⟨gv h o,gv (e.free h) o,λ b u q=>?_,λ b u q n=>?_,λ b q=>?_,λ b a u q=>?_⟩
 ·by_cases hb:b=p
  ·subst hb;rw[ao] at q ⊢;exact q
  ·rw[ai hb] at q ⊢;exact e _ _ q
 ·by_cases hb:b=p
  ·subst hb;exact h
  ·rw[ai hb,n] at q;cases q
 ·by_cases hb:b=p
  ·subst hb;rw[ao,ao]
  ·rw[ai hb,ai hb,q];exact e.free q
 ·by_cases hb:b=p
  ·subst hb;rw[ao];exact λ z=>ho a u (Option.some.inj z)
  ·rw[ai hb,q];intro z;cases z
def Hnew (H H':Hp):Hp:=λ b=>match H b with
 | none=>H' b
 | some _=>none
theorem Hnew.mono {H H1 H2 H3:Hp}(a:Same H H1)(c:Same H2 H3):Same (Hnew H1 H2) (Hnew H H3):=λ b o h=>by
 unfold Hnew at h ⊢;cases q:H b with
 | some u=>rw[a b u q] at h;cases h
 | none=>
  cases q1:H1 b with
  | some u=>rw[q1] at h;cases h
  | none=>rw[q1] at h;exact c b o h
theorem Ext.news {Hv H Hv' H':Hp}(x:Ext Hv H Hv' H'):Same (Hnew H H') Hv':=λ b o h=>by
 unfold Hnew at h;cases q:H b with
 | some u=>rw[q] at h;cases h
 | none=>rw[q] at h;rw[x.all b q];exact h
theorem Hnew.sub {H H':Hp}:Same (Hnew H H') H':=λ b o h=>by
 unfold Hnew at h;cases q:H b with
 | some u=>rw[q] at h;cases h
 | none=>rw[q] at h;exact h
mutual
theorem Rp.frag {K:yy}{H:Hp}:∀ {d:D} {v:V},Rp [] H d v->Rp K H d v
 | .non,_,h=>by unfold Rp at h ⊢;exact h
 | .bl _,_,h=>by unfold Rp at h ⊢;exact h
 | .int _,_,h=>by unfold Rp at h ⊢;exact h
 | .str _,_,h=>by unfold Rp at h ⊢;exact h
 | .raw _,_,h=>by unfold Rp at h ⊢;exact h
 | .tab _,_,h=>by unfold Rp at h ⊢;exact h
 | .lst ds,v,h=>by
  unfold Rp at h ⊢;obtain⟨a,vs,h1,h2,h3⟩:=h;refine⟨a,vs,h1,?_,RpL.frag h3⟩
  rcases h2 with h2|⟨its,n,e,_⟩
  ·exact .inl h2
  ·simp at e
 | .tup ds,v,h=>by
  unfold Rp at h ⊢;obtain⟨a,vs,h1,h2,h3⟩:=h;exact⟨a,vs,h1,h2,RpL.frag h3⟩
 | .exn c,v,h=>by
  unfold Rp at h;obtain⟨a,C,h1,h2,h3⟩:=h;simp[yH] at h2
 | .dct ks ds,v,h=>by
  unfold Rp at h ⊢;obtain⟨a,vs,h1,h2,h3,h4⟩:=h;exact⟨a,vs,h1,h2,h3,RpL.frag h4⟩
 | .ins ns ds,v,h=>by
  unfold Rp at h;obtain⟨a,C,dx,fs,vs,h1,h2,h3,h4,h5,h6⟩:=h;exact absurd h3.sa (by simp[yI])
theorem RpL.frag {K:yy}{H:Hp}:∀ {ds:List D} {vs:List V},RpL [] H ds vs->RpL K H ds vs
 | [],_,h=>by unfold RpL at h ⊢;exact h
 | d::r,vs,h=>by
  unfold RpL at h ⊢;obtain⟨v,ws,h1,h2,h3⟩:=h;exact⟨v,ws,h1,Rp.frag h2,RpL.frag h3⟩
end
theorem Hnew.at {H:Hp}{p:Addr}(h:H p=none)(o:HO):Hnew H (upd H p o) p=some o:=by
 unfold Hnew;rw[h];exact ao
def Ok (K:yy)(Hv H:Hp)(W:XK)(cls:String->Value)(r:R)(Q:VK):Prop:=match r with
 | .ok d fr=>∀ v Hv' H',Ext Hv H Hv' H'->Rp K Hv' d v->(fr=true->Rp [] (Hnew H H') d v)->Q v H'
 | .exc c=>∀ Hv' H',Ext Hv H Hv' H'->W (cls c) none H'
 | .bad=>False
def OkL (K:yy)(Hv H:Hp)(W:XK)(cls:String->Value)(r:RL)(Q:List V->Hp->Prop):Prop:=match r with
 | .ok ds fr=>∀ vs Hv' H',Ext Hv H Hv' H'->RpL K Hv' ds vs->(fr=true->RpL [] (Hnew H H') ds vs)->Q vs H'
 | .exc c=>∀ Hv' H',Ext Hv H Hv' H'->W (cls c) none H'
 | .bad=>False
def EnvR (K:yy)(Hv:Hp)(ρ:Dv.Env)(σ:St):Prop:=∀ (i:Nat) (d:D),ρ[i]?=some (some d)->∃ v,σ[i]?=some (some v)/\Rp K Hv d v
theorem EnvR.same {K:yy}{Hv Hv':Hp}{ρ:Dv.Env}{σ:St}(e:Same Hv Hv')(h:EnvR K Hv ρ σ):EnvR K Hv' ρ σ:=λ i d q=>
 let ⟨v,h1,h2⟩:=h i d q;⟨v,h1,h2.same e⟩
structure Ctx where
 X:Cx
 W:St->XK
 cls:String->Value
 CX:CXT
 un:X.A.units+64<cLine
 own:PassesOwn (model X.prog X.w) X.A X.env X.xe
 pass:∀ (pins:List (Addr×Obj)) (σ:St) (H:Hp) (s:Shared) (e:Value) (s':Shared),Inv X pins σ H s->CX X.stack H s (W σ) e s'->X.xe e s'
 cxF:∀ (outer:List yF) (H:Hp) (s:Shared) (e:Value) (s':Shared),CX outer H s (λ _ _ _=>False) e s'->False
def Tak (C:Ctx)(t:TE)(f:EE):Prop:=∀ σ H Hv ρ Q,EnvR C.X.K Hv ρ σ->Same Hv H->Ok C.X.K Hv H (C.W σ) C.cls (f ρ) Q->t σ H Q
def TakL (C:Ctx)(t:TA)(f:EL):Prop:=∀ σ H Hv ρ Q,EnvR C.X.K Hv ρ σ->Same Hv H->OkL C.X.K Hv H (C.W σ) C.cls (f ρ) Q->t σ H Q
def SE (C:Ctx)(e:Expr)(f:EE):Prop:=∃ t:TE,PE C.X e t/\Tak C t f
def SL (C:Ctx)(es:List Expr)(f:EL):Prop:=∃ t:TA,PA C.X es t/\TakL C t f/\∀ ρ ds fr,f ρ=.ok ds fr->ds.length=es.length
def SC (C:Ctx)(e:Expr)(f:EE):Prop:=
 ∃ t:TT,PT C.X e t/\∀ σ H Hv ρ Q,EnvR C.X.K Hv ρ σ->Same Hv H->Ok C.X.K Hv H (C.W σ) C.cls (f ρ) (λ v H'=>∃ b,v=.bl b/\Q b H')->t σ H Q
theorem Ok.later {K:yy}{Hv H Hv1 H1:Hp}{W:XK}{cls:String->Value}{r:R}{Q:VK}(x:Ext Hv H Hv1 H1)(h:Ok K Hv H W cls r Q):Ok K Hv1 H1 W cls r Q:=by
 cases r with
 | ok d fr=>exact λ v Hv' H' y r n=>h v Hv' H' (x.trans y) r λ z=>(n z).same (Hnew.mono x.hh (.refl _))
 | exc c=>exact λ Hv' H' y=>h Hv' H' (x.trans y)
 | bad=>exact h
theorem Ok.now {K:yy}{Hv H:Hp}{W:XK}{cls:String->Value}{d:D}{fr:Bool}{Q:VK}{v:V}(h:Ok K Hv H W cls (.ok d fr) Q)(e:Same Hv H)(r:Rp K Hv d v)(z:Dv.scal d=true):Q v H:=
 h v Hv H (.refl e) r λ _=>r.scal z
theorem Ok.at {K:yy}{Hv H Hv1 H1:Hp}{W:XK}{cls:String->Value}{d:D}{fr:Bool}{Q:VK}{v:V}(h:Ok K Hv H W cls (.ok d fr) Q)(x:Ext Hv H Hv1 H1)(r:Rp K Hv1 d v)(z:Dv.scal d=true):Q v H1:=
 h v Hv1 H1 x r λ _=>r.scal z
theorem Ok.newL {K:yy}{Hv H Hv1 H1:Hp}{W:XK}{cls:String->Value}{ds:List D}{fr:Bool}{Q:VK}{vs:List V}(h:Ok K Hv H W cls (.ok (.lst ds) fr) Q)(x:Ext Hv H Hv1 H1)(r:RpL K Hv1 ds vs)
  (n:fr=true->RpL [] (Hnew H H1) ds vs) (p:Addr) (hp:H1 p=none):Q (.ref p) (upd H1 p (.lst vs)):=by
 have y:=Ext.new1 x.vh hp (.lst vs);refine h _ _ _ (x.trans y) ?_ λ z=>?_
 ·unfold Rp
  exact⟨p,vs,rfl,SqX.of ao,r.same y.vv⟩
 ·unfold Rp
  have hH:H p=none:=x.hh.free hp;refine⟨p,vs,rfl,SqX.of (by unfold Hnew;rw[hH];exact ao),(n z).same (Hnew.mono (.refl _) y.hh)⟩
theorem Ok.newT {K:yy}{Hv H Hv1 H1:Hp}{W:XK}{cls:String->Value}{ds:List D}{fr:Bool}{Q:VK}{vs:List V}(h:Ok K Hv H W cls (.ok (.tup ds) fr) Q)(x:Ext Hv H Hv1 H1)(r:RpL K Hv1 ds vs)
  (n:fr=true->RpL [] (Hnew H H1) ds vs) (p:Addr) (hp:H1 p=none):Q (.ref p) (upd H1 p (.tup vs)):=by
 have y:=Ext.new1 x.vh hp (.tup vs);refine h _ _ _ (x.trans y) ?_ λ z=>?_
 ·unfold Rp
  exact⟨p,vs,rfl,.inl ao,r.same y.vv⟩
 ·unfold Rp
  have hH:H p=none:=x.hh.free hp;refine⟨p,vs,rfl,.inl (by unfold Hnew;rw[hH];exact ao),(n z).same (Hnew.mono (.refl _) y.hh)⟩
section
variable {C:Ctx}{a b c:Expr}{es:List Expr}{f g h:EE}{fl:EL}{ta tb tc:TE}{tl:TA}{pos:Pos}
theorem Tak.step (qa:Tak C ta f){σ:St}{H Hv Hv1 H1:Hp}{ρ:Dv.Env}{Q T:VK}{k:D->Bool->R}(e:EnvR C.X.K Hv ρ σ)(x:Ext Hv H Hv1 H1)(q:Ok C.X.K Hv H (C.W σ) C.cls ((f ρ).bind k) Q)
  (next:∀ v d fr Hv2 H2,f ρ=.ok d fr->Ext Hv H Hv2 H2->Ext Hv1 H1 Hv2 H2->Rp C.X.K Hv2 d v->(fr=true->Rp [] (Hnew H H2) d v)->Ok C.X.K Hv H (C.W σ) C.cls (k d fr) Q->T v H2):ta σ H1 T:=by
 refine qa σ H1 Hv1 ρ _ (e.same x.vv) x.vh ?_
 cases hf:f ρ with
 | bad=>rw[hf] at q;exact q
 | exc c=>rw[hf] at q;exact λ Hv' H' y=>q Hv' H' (x.trans y)
 | ok d fr=>
  rw[hf] at q;exact λ v Hv2 H2 y r n=>next v d fr Hv2 H2 hf (x.trans y) y r (λ z=>(n z).same (Hnew.mono x.hh (.refl _))) q
theorem TakL.step (qa:TakL C tl fl){σ:St}{H Hv Hv1 H1:Hp}{ρ:Dv.Env}{Q:VK}{T:List V->Hp->Prop}{k:List D->Bool->R}(e:EnvR C.X.K Hv ρ σ)(x:Ext Hv H Hv1 H1)(q:Ok C.X.K Hv H (C.W σ) C.cls ((fl ρ).bind k) Q)
  (next:∀ vs ds fr Hv2 H2,fl ρ=.ok ds fr->Ext Hv H Hv2 H2->Ext Hv1 H1 Hv2 H2->RpL C.X.K Hv2 ds vs->(fr=true->RpL [] (Hnew H H2) ds vs)->Ok C.X.K Hv H (C.W σ) C.cls (k ds fr) Q->T vs H2):tl σ H1 T:=by
 refine qa σ H1 Hv1 ρ _ (e.same x.vv) x.vh ?_
 cases hf:fl ρ with
 | bad=>rw[hf] at q;exact q
 | exc c=>rw[hf] at q;exact λ Hv' H' y=>q Hv' H' (x.trans y)
 | ok d fr=>
  rw[hf] at q;exact λ v Hv2 H2 y r n=>next v d fr Hv2 H2 hf (x.trans y) y r (λ z=>(n z).same (Hnew.mono x.hh (.refl _))) q
theorem aa (i:Nat){x:Str}(hN:autoParam (C.X.N[i]?=some x) ZF._auto_1)(hv:autoParam (Vis C.X.env.scope x) ZH._auto_1)(hd:autoParam ((x == ("__debug__":Str))=false) ZC._auto_1)
  (hcd:autoParam ((x == ("__classdict__":Str))=false) ZC._auto_1):SE C (.Name x pos) (Dv.eVar i):=by
 refine⟨aZ i,cJ hN hv hd hcd,λ σ H Hv ρ Q e s q=>?_⟩;unfold Dv.eVar at q;cases r:ρ[i]? with
 | none=>rw[r] at q;exact q.elim
 | some o=>
  cases o with
  | none=>rw[r] at q;exact q.elim
  | some d=>
   rw[r] at q;obtain⟨v,h1,h2⟩:=e i d r;exact⟨v,h1,q v Hv H (.refl s) h2 λ z=>h2.scal z⟩
theorem ag {i:Int}{j:Nat}:SE C (.Constant (.int i) j pos) (Dv.eInt i):=
 ⟨_,mM,λ _ _ _ _ _ _ s q=>q.now (v:=.int i) s (by unfold Rp;rfl) rfl⟩
theorem ny {i:Bool}{j:Nat}:SE C (.Constant (.bool i) j pos) (Dv.eBl i):=
 ⟨_,vj,λ _ _ _ _ _ _ s q=>q.now (v:=.bl i) s (by unfold Rp;rfl) rfl⟩
theorem aV {x:Str}{l:List Nat}{j:Nat}(h:autoParam (x.cps.toList=Dv.clipS l) ZJ._auto_1):SE C (.Constant (.str x) j pos) (Dv.eStr l):=
 ⟨_,jY,λ _ _ _ _ _ _ s q=>q.now (v:=.str x) s (by unfold Rp;rw[<- h]) rfl⟩
def OpS (C:Ctx)(op:Value->Value->Sem Value)(F:D->D->R):Prop:=
 ∃ r:R2,OpR C.X op r/\∀ x y d d' H Hv H1 Hv1 W Q,Ext Hv H Hv1 H1->Rp C.X.K Hv1 d x->Rp C.X.K Hv1 d' y->Ok C.X.K Hv H W C.cls (F d d') Q->r x y H1 Q
theorem i9 {op:Value->Value->Sem Value}{F:D->D->R}{r:R2}(hr:∀ x y d d' H Hv H1 Hv1 W Q,Ext Hv H Hv1 H1->Rp C.X.K Hv1 d x->Rp C.X.K Hv1 d' y->Ok C.X.K Hv H W C.cls (F d d') Q->r x y H1 Q)
  (qa:Tak C ta f) (qb:Tak C tb g):Tak C (tOp r ta tb) (λ ρ=>(f ρ).bind λ x _=>(g ρ).bind λ y _=>F x y):=λ σ H Hv ρ Q e s q=>
 qa.step e (.refl s) q λ v d fr Hv1 H1 _ x1 _ rp1 _ q1=>qb.step e x1 q1 λ v2 d2 fr2 Hv2 H2 _ x2 y2 rp2 _ q2=>
  hr v v2 d d2 H Hv H2 Hv2 _ Q x2 (rp1.same y2.vv) rp2 q2
theorem cX {op:Operator}{F:D->D->R}(o:OpS C (binaryOp op) F)(ha:SE C a f)(hb:SE C b g):SE C (.BinOp a op b pos) (λ ρ=>(f ρ).bind λ x _=>(g ρ).bind λ y _=>F x y):=by
 obtain⟨r,ho,hr⟩:=o;obtain⟨ta,pa,qa⟩:=ha;obtain⟨tb,pb,qb⟩:=hb;exact⟨_,u4 ho pa pb,i9 (op:=binaryOp op) hr qa qb⟩
theorem oH {op:CmpOp}{F:D->D->R}(o:OpS C (compareOp op) F)(ha:SE C a f)(hb:SE C b g)(hm:behindInMarks op b=false):SE C (.Compare a [op] [b] pos) (λ ρ=>(f ρ).bind λ x _=>(g ρ).bind λ y _=>F x y):=by
 obtain⟨r,ho,hr⟩:=o;obtain⟨ta,pa,qa⟩:=ha;obtain⟨tb,pb,qb⟩:=hb;exact⟨_,qW ho pa pb hm,i9 (op:=compareOp op) hr qa qb⟩
theorem cF {op:CmpOp}{F:D->D->R}(o:OpS C (compareOp op) F)(ha:SE C a f)(hb:SE C b g)(hm:behindInMarks op b=false):SC C (.Compare a [op] [b] pos) (λ ρ=>(f ρ).bind λ x _=>(g ρ).bind λ y _=>F x y):=by
 obtain⟨r,ho,hr⟩:=o;obtain⟨ta,pa,qa⟩:=ha;obtain⟨tb,pb,qb⟩:=hb;exact⟨_,fP ho pa pb hm,λ σ H Hv ρ Q e s q=>i9 (op:=compareOp op) hr qa qb σ H Hv ρ _ e s q⟩
theorem cy (ha:SE C a f)(he:autoParam (∀ whole,isTrue a C.X.env whole=(do let v <- whole;standAt a.pos;holding [v] (truthy v))) ZE._auto_1):SC C a f:=by
 obtain⟨t,p,q⟩:=ha;exact⟨_,t6 p he,λ σ H Hv ρ Q e s w=>q σ H Hv ρ _ e s w⟩
def SW (C:Ctx)(e:Expr)(f:EE):Prop:=
 ∃ t:TT,PW C.X e t/\∀ σ H Hv ρ Q,EnvR C.X.K Hv ρ σ->Same Hv H->Ok C.X.K Hv H (C.W σ) C.cls (f ρ) (λ v H'=>∃ b,v=.bl b/\Q b H')->t σ H Q
def TakC (C:Ctx)(t:TT)(f:EE):Prop:=∀ σ H Hv ρ Q,EnvR C.X.K Hv ρ σ->Same Hv H->Ok C.X.K Hv H (C.W σ) C.cls (f ρ) (λ v H'=>∃ b,v=.bl b/\Q b H')->t σ H Q
theorem TakC.step {tt:TT}(qa:TakC C tt f){σ:St}{H Hv Hv1 H1:Hp}{ρ:Dv.Env}{Q:VK}{T:Bool->Hp->Prop}{k:D->Bool->R}(e:EnvR C.X.K Hv ρ σ)(x:Ext Hv H Hv1 H1)(q:Ok C.X.K Hv H (C.W σ) C.cls ((f ρ).bind k) Q)
  (nb:∀ d fr,f ρ=.ok d fr->(∀ b,d≠.bl b)->k d fr=.bad)
  (next:∀ b fr Hv2 H2,f ρ=.ok (.bl b) fr->Ext Hv H Hv2 H2->Ext Hv1 H1 Hv2 H2->Ok C.X.K Hv H (C.W σ) C.cls (k (.bl b) fr) Q->T b H2):tt σ H1 T:=by
 refine qa σ H1 Hv1 ρ _ (e.same x.vv) x.vh ?_
 cases hf:f ρ with
 | bad=>rw[hf] at q;exact q
 | exc c=>rw[hf] at q;exact λ Hv' H' y=>q Hv' H' (x.trans y)
 | ok d fr=>
  intro v Hv2 H2 y r n;cases d with
  | bl b=>
   unfold Rp at r;rw[hf] at q;exact⟨b,r,next b fr Hv2 H2 hf (x.trans y) y q⟩
  | _=>
   have z:=nb _ _ hf (by intro b z;cases z);rw[hf] at q;have q':Ok C.X.K Hv H (C.W σ) C.cls (k _ fr) Q:=q;rw[z] at q';exact q'.elim
theorem bz (op:BoolOp)(ha:SC C a f):SW C (.BoolOp op [a] pos) f:=by
 obtain⟨t,p,q⟩:=ha;cases op with
 | And=>exact⟨t,kB p,q⟩
 | Or=>exact⟨t,tJ p,q⟩
theorem rV {rest:List Expr}(ha:SC C a f)(hb:SW C (.BoolOp .And (b::rest) pos) g):SW C (.BoolOp .And (a::b::rest) pos) (Dv.eAnd f g):=by
 obtain⟨t,p,q⟩:=ha;obtain⟨u,p2,q2⟩:=hb;refine⟨_,oy p p2,λ σ H Hv ρ Q e s w=>?_⟩;refine TakC.step q e (.refl s) w (λ d fr _ nb=>by cases d <;>first|rfl|exact absurd rfl (nb _)) λ b fr Hv2 H2 hf x y w2=>?_
 cases b with
 | true=>exact oS (q2 σ H2 Hv2 ρ _ (e.same x.vv) x.vh (Ok.later x (show Ok _ _ _ _ _ (g ρ) _ from w2)))
 | false=>
  obtain⟨b,e1,q3⟩:=(show Ok C.X.K Hv H (C.W σ) C.cls (.ok (.bl false) true) (λ v H'=>∃ b,v=.bl b/\Q b H') from w2).at (v:=.bl false) x (by unfold Rp;rfl) rfl;cases e1;exact oI q3
theorem bU {rest:List Expr}(ha:SC C a f)(hb:SW C (.BoolOp .Or (b::rest) pos) g):SW C (.BoolOp .Or (a::b::rest) pos) (Dv.eOr f g):=by
 obtain⟨t,p,q⟩:=ha;obtain⟨u,p2,q2⟩:=hb;refine⟨_,vt p p2,λ σ H Hv ρ Q e s w=>?_⟩;refine TakC.step q e (.refl s) w (λ d fr _ nb=>by cases d <;>first|rfl|exact absurd rfl (nb _)) λ b fr Hv2 H2 hf x y w2=>?_
 cases b with
 | false=>exact oI (q2 σ H2 Hv2 ρ _ (e.same x.vv) x.vh (Ok.later x (show Ok _ _ _ _ _ (g ρ) _ from w2)))
 | true=>
  obtain⟨b,e1,q3⟩:=(show Ok C.X.K Hv H (C.W σ) C.cls (.ok (.bl true) true) (λ v H'=>∃ b,v=.bl b/\Q b H') from w2).at (v:=.bl true) x (by unfold Rp;rfl) rfl;cases e1;exact oS q3
theorem dM (h:SW C a f):SC C a f:=let ⟨t,p,q⟩:=h;⟨t,p.pt,q⟩
theorem eR (ha:SC C a f):SC C (.UnaryOp .Not a pos) (Dv.eNot f):=by
 obtain⟨t,p,q⟩:=ha;refine⟨_,tw p,λ σ H Hv ρ Q e s w=>?_⟩;refine TakC.step q e (.refl s) w (λ d fr _ nb=>by cases d <;>first|rfl|exact absurd rfl (nb _)) λ b fr Hv2 H2 hf x y w2=>?_
 obtain⟨b',e1,q3⟩:=(show Ok C.X.K Hv H (C.W σ) C.cls (.ok (.bl (!b)) true) (λ v H'=>∃ b,v=.bl b/\Q b H') from w2).at (v:=.bl (!b)) x (by unfold Rp;rfl) rfl;cases e1;exact q3
theorem tf (hc:SC C c h)(ha:SE C a f)(hb:SE C b g):SE C (.IfExp c a b pos) (Dv.eIf h f g):=by
 obtain⟨tc,pc,qc⟩:=hc;obtain⟨t,p,q⟩:=ha;obtain⟨u,p2,q2⟩:=hb;refine⟨_,nP pc p p2,λ σ H Hv ρ Q e s w=>?_⟩;refine TakC.step qc e (.refl s) w (λ d fr _ nb=>by cases d <;>first|rfl|exact absurd rfl (nb _)) λ b fr Hv2 H2 hf x y w2=>?_
 cases b with
 | true=>exact oS (q σ H2 Hv2 ρ _ (e.same x.vv) x.vh (Ok.later x (show Ok _ _ _ _ _ (f ρ) _ from w2)))
 | false=>exact oI (q2 σ H2 Hv2 ρ _ (e.same x.vv) x.vh (Ok.later x (show Ok _ _ _ _ _ (g ρ) _ from w2)))
theorem c9 (ha:SE C a f):SE C (.UnaryOp .USub a pos) (Dv.eNeg f):=by
 obtain⟨t,p,q⟩:=ha;refine⟨_,uj tV p,λ σ H Hv ρ Q e s w=>?_⟩;refine Tak.step q e (.refl s) w λ v d fr Hv2 H2 hf x y rp n w2=>?_
 cases d with
 | int i=>
  unfold Rp at rp;exact⟨i,rp,(show Ok C.X.K Hv H (C.W σ) C.cls (.ok (.int (-i)) true) Q from w2).at (v:=.int (-i)) x (by unfold Rp;rfl) rfl⟩
 | _=>exact Zf w2
theorem aj:SL C [] Dv.lNil:=⟨_,aM,λ σ H Hv ρ Q e s q=>q [] Hv H (.refl s) .nil λ _=>.nil,λ ρ ds fr h=>by cases h;rfl⟩
theorem af (ha:SE C a f)(hr:SL C es fl)(hs:autoParam (starEach (a::es) C.X.env=(false,eval a C.X.env)::starEach es C.X.env) ZF._auto_1):SL C (a::es) (Dv.lCons f fl):=by
 obtain⟨t,p,q⟩:=ha;obtain⟨u,p2,q2,l2⟩:=hr;refine⟨_,au p p2 hs,λ σ H Hv ρ Q e s w=>?_,λ ρ ds fr h=>?_⟩
 rotate_left
 ·unfold Dv.lCons at h
  cases hf:f ρ with
  | bad=>rw[hf] at h;cases h
  | exc c=>rw[hf] at h;cases h
  | ok d f1=>
   cases hg:fl ρ with
   | bad=>rw[hf,hg] at h;cases h
   | exc c=>rw[hf,hg] at h;cases h
   | ok d2 f2=>
    rw[hf,hg] at h;cases h;rw[wt,wt,l2 ρ d2 f2 hg]
 unfold Dv.lCons at w;refine q σ H Hv ρ _ e s ?_
 cases hf:f ρ with
 | bad=>rw[hf] at w;exact w
 | exc c=>rw[hf] at w;exact w
 | ok d fr=>
  rw[hf] at w;intro v Hv1 H1 x1 r1 n1;refine q2 σ H1 Hv1 ρ _ (e.same x1.vv) x1.vh ?_
  cases hg:fl ρ with
  | bad=>rw[hg] at w;exact w
  | exc c=>rw[hg] at w;exact λ Hv' H' y=>w Hv' H' (x1.trans y)
  | ok ds fr2=>
   rw[hg] at w;intro vs Hv2 H2 x2 r2 n2;refine w (v::vs) Hv2 H2 (x1.trans x2) (.cons (r1.same x2.vv) r2) λ z=>?_
   have z':fr=true/\fr2=true:=by simpa using z
   exact .cons ((n1 z'.1).same (Hnew.mono (.refl _) x2.hh)) ((n2 z'.2).same (Hnew.mono x1.hh (.refl _)))
theorem aX {n:Nat}(h:n<=Dv.mx):n<=sizeLine:=by
 unfold Dv.mx at h;rw[zt];omega
theorem aL (h:SL C es fl)(hz:autoParam (es.length<=Dv.mx) ZC._auto_1):SE C (.List es pos) (Dv.eLst fl):=by
 obtain⟨t,p,q,hn⟩:=h;refine⟨_,sj p,λ σ H Hv ρ Q e s w=>?_⟩;refine TakL.step q e (.refl s) w λ vs ds fr Hv2 H2 hf x y rp n w2=>⟨?_,λ p hp=>?_⟩
 ·rw[rp.length,hn ρ ds fr hf];exact aX hz
 ·exact Ok.newL w2 x rp n p hp
theorem jc {k}(h:SL C es fl)(hz:autoParam (es.length<=Dv.mx) ZC._auto_1):SE C (.Tuple es k pos) (Dv.eTup fl):=by
 obtain⟨t,p,q,hn⟩:=h;refine⟨_,oz p,λ σ H Hv ρ Q e s w=>?_⟩;refine TakL.step q e (.refl s) w λ vs ds fr Hv2 H2 hf x y rp n w2=>⟨?_,λ p hp=>?_⟩
 ·rw[rp.length,hn ρ ds fr hf];exact aX hz
 ·exact Ok.newT w2 x rp n p hp
end
section
variable {C:Ctx}{a b c:Expr}{es:List Expr}{f g h:EE}{fl:EL}{pos:Pos}
theorem nG {op:Value->Value->Sem Value}{K:Int->Int->Prop}{G:Int->Int->V}{F:D->D->R}(o:OpR C.X op (rI K G))
  (hF:∀ d d',(∃ i j x,d=.int i/\d'=.int j/\K i j/\F d d'=.ok x true/\Dv.scal x=true/\∀ K' H',Rp K' H' x (G i j))\/F d d'=.bad):OpS C op F:=by
 refine⟨_,o,λ x y d d' H Hv H1 Hv1 W Q e rx ry q=>?_⟩
 rcases hF d d' with ⟨i,j,z,rfl,rfl,hk,hz,hs,hr⟩|hb
 ·unfold Rp at rx ry
  rw[hz] at q;exact⟨i,j,rx,ry,hk,q.at e (hr _ _) hs⟩
 ·rw[hb] at q;exact q.elim
theorem gB {op:Value->Value->Sem Value}{G:Int->Int->V}{F:D->D->R}(o:OpR C.X op (rI0 G))
  (hF:∀ d d',(∃ i j x,d=.int i/\d'=.int j/\F d d'=.ok x true/\Dv.scal x=true/\∀ K' H',Rp K' H' x (G i j))\/F d d'=.bad):OpS C op F:=by
 refine⟨_,o,λ x y d d' H Hv H1 Hv1 W Q e rx ry q=>?_⟩
 rcases hF d d' with ⟨i,j,z,rfl,rfl,hz,hs,hr⟩|hb
 ·unfold Rp at rx ry
  rw[hz] at q;exact⟨i,j,rx,ry,q.at e (hr _ _) hs⟩
 ·rw[hb] at q;exact q.elim
theorem bp {K:yy}{H:Hp}{i:Int}:Rp K H (.int i) (.int i):=by unfold Rp;rfl
theorem bI {K:yy}{H:Hp}{i:Bool}:Rp K H (.bl i) (.bl i):=by unfold Rp;rfl
theorem oG {K:yy}{H:Hp}:Rp K H .non .non:=by unfold Rp;rfl
theorem sZ:OpS C (binaryOp .Sub) (Dv.opD .sub):=gB tM λ d d'=>by
 cases d <;>first
  | exact .inr rfl
  | (cases d' <;>first
   | exact .inr rfl
   | exact .inl ⟨_,_,_,rfl,rfl,rfl,rfl,λ _ _=>bp⟩)
theorem tW:OpS C (binaryOp .Mod) (Dv.opD .mod):=nG sH λ d d'=>by
 cases d with
 | int i=>
  cases d' with
  | int j=>
   by_cases h:0<j
   ·exact .inl ⟨i,j,.int (i%j),rfl,rfl,h,by simp[Dv.opD_ai,Dv.opD_al,Dv.opD_su,Dv.opD_mi,Dv.opD_ml,Dv.opD_mo,Dv.opD_fd,Dv.opD_po,Dv.opD_ba,Dv.opD_sh,h],rfl,λ _ _=>bp⟩
   ·exact .inr (by simp[Dv.opD_ai,Dv.opD_al,Dv.opD_su,Dv.opD_mi,Dv.opD_ml,Dv.opD_mo,Dv.opD_fd,Dv.opD_po,Dv.opD_ba,Dv.opD_sh,h])
  | _=>exact .inr rfl
 | _=>exact .inr rfl
theorem nM:OpR C.X (binaryOp .FloorDiv) (rI (λ _ j=>0<j/\j.natAbs.log2<9000) λ i j=>.int (i/j)):=opI λ i j _ _ _ _ _ hc q=>by
 have h1:(0:Int)<j:=hc.1;exact floordiv_int ⋯ (by rw[Int.fdiv_eq_ediv_of_nonneg i ⋯];exact q) (.inl (AQ hc.2))
theorem pU:OpS C (binaryOp .FloorDiv) (Dv.opD .fdiv):=nG nM λ d d'=>by
 cases d with
 | int i=>
  cases d' with
  | int j=>
   by_cases h:Dv.divOk j=true
   ·refine .inl ⟨i,j,.int (i/j),rfl,rfl,?_,by simp[Dv.opD_ai,Dv.opD_al,Dv.opD_su,Dv.opD_mi,Dv.opD_ml,Dv.opD_mo,Dv.opD_fd,Dv.opD_po,Dv.opD_ba,Dv.opD_sh,h],rfl,λ _ _=>bp⟩
    unfold Dv.divOk at h;simpa using h
   ·exact .inr (by simp[Dv.opD_ai,Dv.opD_al,Dv.opD_su,Dv.opD_mi,Dv.opD_ml,Dv.opD_mo,Dv.opD_fd,Dv.opD_po,Dv.opD_ba,Dv.opD_sh,h])
  | _=>exact .inr rfl
 | _=>exact .inr rfl
theorem sN:OpS C (binaryOp .Pow) (Dv.opD .pow):=nG sC λ d d'=>by
 cases d with
 | int i=>
  cases d' with
  | int j=>
   by_cases h:(decide (0<=j)&&decide (j<=1000)&&decide (i.natAbs<1000000))=true
   ·refine .inl ⟨i,j,.int (i ^ j.toNat),rfl,rfl,?_,by simp only[Dv.opD_ai,Dv.opD_al,Dv.opD_su,Dv.opD_mi,Dv.opD_ml,Dv.opD_mo,Dv.opD_fd,Dv.opD_po,Dv.opD_ba,Dv.opD_sh,h];rfl,rfl,λ _ _=>bp⟩
    simp only[v8,decide_eq_true_eq] at h;exact⟨h.1.1,⋯,⋯⟩
   ·exact .inr (by simp only[Dv.opD_ai,Dv.opD_al,Dv.opD_su,Dv.opD_mi,Dv.opD_ml,Dv.opD_mo,Dv.opD_fd,Dv.opD_po,Dv.opD_ba,Dv.opD_sh,h];rfl)
  | _=>exact .inr rfl
 | _=>exact .inr rfl
def uF (K:yy):R2:=λ x y H Q=>∃ l b xs zs,x=.ref l/\y=.ref b/\SqX K H l xs/\SqX K H b zs/\xs.length+zs.length<=sizeLine/\∀ p,H p=none->Q (.ref p) (upd H p (.lst (xs++zs)))
theorem pq {X:Cx}:OpR X (binaryOp .Add) (uF X.K):=by
 intro pins s σ H x y v u Q I rx ry h;obtain⟨l,b,xs,zs,rfl,rfl,hH,hB,hz,q⟩:=h;cases rx;cases ry;obtain⟨its,n,r,e,z⟩:=Inv.listX I hH;obtain⟨its2,n2,r2,e2,z2⟩:=Inv.listX I hB;have hl:=r.length;have hl2:=r2.length;refine PySem.P.add_list e e2 ?_ (by rw[wj,wj];omega)
 have ea:its.toArray++its2.toArray=(its++its2).toArray:=by simp
 rw[ea];exact⟨.ref _,_,I.lnew (t':=s.toks) (r.append r2) (by rw[wy];omega),rfl,q _ I.fresh⟩
theorem tO:OpS C (binaryOp .Add) (Dv.opD .add):=by
 refine⟨_,OpR.or tq pq,λ x y d d' H Hv H1 Hv1 W Q e rx ry q=>?_⟩;cases d with
 | int i=>
  cases d' with
  | int j=>
   unfold Rp at rx ry;exact .inl ⟨i,j,rx,ry,(show Ok _ _ _ _ _ (.ok (.int (i+j)) true) Q from q).at e bp rfl⟩
  | _=>exact Zf q
 | lst xs=>
  cases d' with
  | lst ys=>
   unfold Rp at rx ry;obtain⟨l,vs,rfl,h1,h2⟩:=rx;obtain⟨m,ws,rfl,h3,h4⟩:=ry;by_cases hz:xs.length+ys.length<=Dv.mx
   ·have q':Ok C.X.K Hv H W C.cls (.ok (.lst (xs++ys)) (Dv.flatL xs&&Dv.flatL ys)) Q:=by simpa[Dv.opD_ai,Dv.opD_al,Dv.opD_su,Dv.opD_mi,Dv.opD_ml,Dv.opD_mo,Dv.opD_fd,Dv.opD_po,Dv.opD_ba,Dv.opD_sh,hz] using q
    refine .inr ⟨l,m,vs,ws,rfl,rfl,h1.same e.vh,h3.same e.vh,?_,λ p hp=>Ok.newL q' e (h2.append h4) (λ z=>?_) p hp⟩
    ·rw[h2.length,h4.length];exact aX hz
    ·rw[v8] at z
     exact(h2.flat z.1).append (h4.flat z.2)
   ·have q':False:=by simpa[Dv.opD_ai,Dv.opD_al,Dv.opD_su,Dv.opD_mi,Dv.opD_ml,Dv.opD_mo,Dv.opD_fd,Dv.opD_po,Dv.opD_ba,Dv.opD_sh,hz,Ok] using q
    exact q'.elim
  | _=>exact Zf q
 | _=>exact Zf q
theorem ku (i:Int):Bp i=Dv.bits i:=by
 unfold Bp Dv.bits;by_cases h:i=0
 ·simp[h]
 ·simp[h]
theorem pH:OpR C.X (binaryOp .Mult) (rI (λ i j=>Dv.mulOk i j=true) λ i j=>.int (i*j)):=opI λ i j _ _ _ _ _ hc q=>by
 refine mul_int q ?_
 unfold Dv.mulOk at hc;simp only[xw,v8,decide_eq_true_eq,<- ku] at hc
 rcases hc with (hc|hc)|hc
 ·exact .of_left hc
 ·exact .of_right hc
 ·exact .of_bits (by simpa using hc.1) (by simpa using hc.2)
def u0 (K:yy):R2:=λ x y H Q=>∃ l k xs,x=.ref l/\y=.int k/\SqX K H l xs/\-(2 ^ 63)<=k/\k<2 ^ 63/\xs.length*k.toNat<=sizeLine /\
 ∀ p,H p=none->Q (.ref p) (upd H p (.lst (List.replicate k.toNat xs).flatten))
theorem qH {X:Cx}:OpR X (binaryOp .Mult) (u0 X.K):=by
 intro pins s σ H x y v u Q I rx ry h;obtain⟨l,k,xs,rfl,rfl,hH,h1,h2,hz,q⟩:=h;cases rx;obtain⟨t,rfl⟩:=ry;obtain⟨its,n,r,e,z⟩:=Inv.listX I hH;have hl:=r.length;have hlen:its.toArray.size*k.toNat<=sizeLine:=by rw[wj,<- hl];exact hz
 have hcap:¬ its.toArray.size*k.toNat > (2 ^ 63-1)/8:=by
  have:(sizeLine:Nat)<=(2 ^ 63-1)/8:=by decide
  omega
 have hfit:¬ (!Builtin.List.listFitsIndex k)=true:=by
  rw[fitsIndex_both h1 h2];exact wo
 have hlong:¬ zw (its.toArray.size*k.toNat)=true:=by
  rw[jd hlen];exact wo
 have hnew:List.foldl (λ x1 x2=>x1++x2) #[] (List.replicate (if its.toArray.isEmpty=true then 0 else k.toNat) its.toArray)=(List.replicate k.toNat its).flatten.toArray:=by
  have f0:∀ m:Nat,List.foldl (λ x1 x2=>x1++x2) #[] (List.replicate m its.toArray)=(List.replicate m its).flatten.toArray:=λ m=>by
   have:=foldl_rep its m [];rw[xO] at this;exact this
  rw[f0];cases its with
  | nil=>simp
  | cons a r'=>rw[if_neg (by simp)]
 refine wpAny_binaryOp_repeat_ref (T:="list") (U:="int") (by decide) ⟨_,e,rfl⟩ (λ s'=>typeIs_int s' k t) noFill_list_mul F.fills_int_mul F.slot_int_rmul repeat_list F.slot_int_index.lookup
  (zN F.slot_int_rmul (typeIs_int s k t) F.entry_int_rmul (F.args_int_rmul_2 _ _) (int___rmul___int_list k t l its.toArray n)
   ⟨e,rfl,⟨_,e,rfl⟩,zN F.slot_list_mul ⟨_,e,rfl⟩ F.entry_list_mul (F.args_list_mul_2 _ _) (AutoListH.list___mul___list_int_3 l its.toArray n k t hfit hcap hlong) ⟨e,?_⟩⟩)
 rw[hnew];exact⟨.ref _,_,I.lnew (t':=s.toks) (r.rep k.toNat) (by rw[len_rep,Nat.mul_comm];exact hz),rfl,q _ I.fresh⟩
theorem RpL.rep {K:yy}{H:Hp}{ds:List D}{vs:List V}(h:RpL K H ds vs):∀ k:Nat,RpL K H (List.replicate k ds).flatten (List.replicate k vs).flatten
 | 0=>.nil
 | k+1=>by
  rw[wG,wG,wO,wO];exact h.append (RpL.rep h k)
theorem rT:OpS C (binaryOp .Mult) (Dv.opD .mul):=by
 refine⟨_,OpR.or pH qH,λ x y d d' H Hv H1 Hv1 W Q e rx ry q=>?_⟩;cases d with
 | int i=>
  cases d' with
  | int j=>
   unfold Rp at rx ry;by_cases h:Dv.mulOk i j=true
   ·have q':Ok C.X.K Hv H W C.cls (.ok (.int (i*j)) true) Q:=by simpa[Dv.opD_ai,Dv.opD_al,Dv.opD_su,Dv.opD_mi,Dv.opD_ml,Dv.opD_mo,Dv.opD_fd,Dv.opD_po,Dv.opD_ba,Dv.opD_sh,h] using q
    exact .inl ⟨i,j,rx,ry,h,q'.at e bp rfl⟩
   ·have q':False:=by simpa[Dv.opD_ai,Dv.opD_al,Dv.opD_su,Dv.opD_mi,Dv.opD_ml,Dv.opD_mo,Dv.opD_fd,Dv.opD_po,Dv.opD_ba,Dv.opD_sh,h,Ok] using q
    exact q'.elim
  | _=>exact Zf q
 | lst xs=>
  cases d' with
  | int j=>
   unfold Rp at rx ry;obtain⟨l,vs,rfl,h1,h2⟩:=rx;subst ry;by_cases hz:(decide (-100000<=j)&&decide (j<=Dv.mx)&&decide (xs.length*j.toNat<=Dv.mx))=true
   ·have q':Ok C.X.K Hv H W C.cls (.ok (.lst (List.replicate j.toNat xs).flatten) (Dv.flatL xs)) Q:=by
     simp only[Dv.opD_ai,Dv.opD_al,Dv.opD_su,Dv.opD_mi,Dv.opD_ml,Dv.opD_mo,Dv.opD_fd,Dv.opD_po,Dv.opD_ba,Dv.opD_sh,hz,if_true] at q;exact q
    simp only[v8,decide_eq_true_eq] at hz;have hj:j<=100000:=hz.1.2;have hj0:-100000<=j:=hz.1.1;refine .inr ⟨l,j,vs,rfl,rfl,h1.same e.vh,⋯,⋯,?_,λ p hp=>Ok.newL q' e (h2.rep _) (λ z=>?_) p hp⟩
    ·rw[h2.length];exact aX hz.2
    ·exact(h2.flat z).rep _
   ·simp only[Dv.opD_ai,Dv.opD_al,Dv.opD_su,Dv.opD_mi,Dv.opD_ml,Dv.opD_mo,Dv.opD_fd,Dv.opD_po,Dv.opD_ba,Dv.opD_sh,hz] at q
    exact Zf q
  | _=>exact Zf q
 | _=>exact Zf q
theorem uX:OpS C (compareOp .Lt) (Dv.cmD .lt):=gB uP λ d d'=>by
 cases d <;>first
  | exact .inr rfl
  | (cases d' <;>first|exact .inr rfl|exact .inl ⟨_,_,_,rfl,rfl,rfl,rfl,λ _ _=>bI⟩)
theorem uk:OpS C (compareOp .LtE) (Dv.cmD .le):=gB vG λ d d'=>by
 cases d <;>first
  | exact .inr rfl
  | (cases d' <;>first|exact .inr rfl|exact .inl ⟨_,_,_,rfl,rfl,rfl,rfl,λ _ _=>bI⟩)
theorem ve:OpS C (compareOp .Gt) (Dv.cmD .gt):=gB vg λ d d'=>by
 cases d <;>first
  | exact .inr rfl
  | (cases d' <;>first|exact .inr rfl|exact .inl ⟨_,_,_,rfl,rfl,rfl,rfl,λ _ _=>bI⟩)
theorem uM:OpS C (compareOp .GtE) (Dv.cmD .ge):=gB vC λ d d'=>by
 cases d <;>first
  | exact .inr rfl
  | (cases d' <;>first|exact .inr rfl|exact .inl ⟨_,_,_,rfl,rfl,rfl,rfl,λ _ _=>bI⟩)
mutual
def pd:D->PyData
 | .non=>.none
 | .bl b=>.bool b
 | .int i=>.int i
 | .str x=>.str ⟨(Dv.clipS x).toArray⟩
 | .lst ds=>.list (pdL ds)
 | .tup ds=>.tuple (pdL ds)
 | .exn _=>.none
 | .raw _=>.none
 | .tab _=>.none
 | .dct _ _=>.none
 | .ins _ _=>.none
def pdL:List D->List PyData
 | []=>[]
 | d::r=>pd d::pdL r
end
mutual
theorem eS:∀ d:D,(pd d).canLay0=true
 | .non=>by simp[pd,yT]
 | .bl _=>by simp[pd,yT]
 | .int _=>by simp[pd,yT]
 | .str x=>by
  have:∀ n:Nat,n%1114112<1114112:=λ n=>Nat.mod_lt _ (by decide)
  simp[pd,yT,PyData.strOk,Dv.clipS,this]
 | .lst ds=>by simp[pd,yT,fU ds]
 | .tup ds=>by simp[pd,yT,fU ds]
 | .exn _=>by simp[pd,yT]
 | .raw _=>by simp[pd,yT]
 | .tab _=>by simp[pd,yT]
 | .dct _ _=>by simp[pd,yT]
 | .ins _ _=>by simp[pd,yT]
theorem fU:∀ ds:List D,AJ (pdL ds)=true
 | []=>by simp[pdL,AJ]
 | d::r=>by simp[pdL,AJ,eS d,fU r]
end
mutual
theorem cU:∀ d:D,(pd d).depth<=Dv.depthD d
 | .non=>by simp[pd,y7,Dv.depthD]
 | .bl _=>by simp[pd,y7,Dv.depthD]
 | .int _=>by simp[pd,y7,Dv.depthD]
 | .str _=>by simp[pd,y7,Dv.depthD]
 | .lst ds=>by have:=df ds;simp[pd,y7,Dv.depthD];omega
 | .tup ds=>by have:=df ds;simp[pd,y7,Dv.depthD];omega
 | .exn _=>by simp[pd,y7,Dv.depthD]
 | .raw _=>by simp[pd,y7,Dv.depthD]
 | .tab _=>by simp[pd,y7,Dv.depthD]
 | .dct _ _=>by simp[pd,y7,Dv.depthD]
 | .ins _ _=>by simp[pd,y7,Dv.depthD]
theorem df:∀ ds:List D,Ah (pdL ds)<=Dv.depthL ds
 | []=>by simp[pdL,Ah,Dv.depthL]
 | d::r=>by have:=cU d;have:=df r;simp[pdL,Ah,Dv.depthL];omega
end
mutual
theorem iD:∀ (a b:D) (r:Bool),Dv.eqD a b=some r->zO (pd a) (pd b)=r
 | .non,b,r,h=>by
  cases b with
  | non=>cases (show some true=some r from h);simp[pd,zO]
  | _=>exact(nomatch (show (none:Option Bool)=some r from h))
 | .bl p,b,r,h=>by
  cases b with
  | bl q=>cases (show some (p == q)=some r from h);simp[pd,zO]
  | _=>exact(nomatch (show (none:Option Bool)=some r from h))
 | .int p,b,r,h=>by
  cases b with
  | int q=>cases (show some (decide (p=q))=some r from h);simp[pd,zO,xr]
  | _=>exact(nomatch (show (none:Option Bool)=some r from h))
 | .str p,b,r,h=>by
  cases b with
  | str q=>cases (show some (decide (Dv.clipS p=Dv.clipS q))=some r from h);simp[pd,zO,xr]
  | _=>exact(nomatch (show (none:Option Bool)=some r from h))
 | .lst xs,b,r,h=>by
  cases b with
  | lst ys=>
   have h:Dv.eqDL xs ys=some r:=h;simp only[pd,zO];exact ja _ _ _ h
  | _=>exact(nomatch (show (none:Option Bool)=some r from h))
 | .tup xs,b,r,h=>by
  cases b with
  | tup ys=>
   have h:Dv.eqDL xs ys=some r:=h;simp only[pd,zO];exact ja _ _ _ h
  | _=>exact(nomatch (show (none:Option Bool)=some r from h))
 | .exn _,b,r,h=>by cases b <;>exact(nomatch (show (none:Option Bool)=some r from h))
 | .raw _,b,r,h=>by cases b <;>exact(nomatch (show (none:Option Bool)=some r from h))
 | .tab _,b,r,h=>by cases b <;>exact(nomatch (show (none:Option Bool)=some r from h))
 | .dct _ _,b,r,h=>by cases b <;>exact(nomatch (show (none:Option Bool)=some r from h))
theorem ja:∀ (a b:List D) (r:Bool),Dv.eqDL a b=some r->Ab (pdL a) (pdL b)=r
 | [],[],r,h=>by simp[Dv.eqDL] at h;subst h;simp[pdL,Ab]
 | [],_::_,r,h=>by simp[Dv.eqDL] at h;subst h;simp[pdL,Ab]
 | _::_,[],r,h=>by simp[Dv.eqDL] at h;subst h;simp[pdL,Ab]
 | x::xs,y::ys,r,h=>by
  simp only[Dv.eqDL] at h;cases h1:Dv.eqD x y with
  | none=>rw[h1] at h;cases h
  | some p=>
   cases h2:Dv.eqDL xs ys with
   | none=>rw[h1,h2] at h;cases h
   | some q=>
    rw[h1,h2] at h;cases h;simp only[pdL,Ab,iD x y p h1,ja xs ys q h2]
end
mutual
theorem b9 {X:Cx}{pins:List (Addr×Obj)}{σ:St}{H:Hp}{s:Shared}(I:Inv X pins σ H s):∀ (d:D) (v:V) (u:Value),Rp X.K H d v->RelV v u->Dv.depthD d<=9->∃ as,Reads s.heap u (pd d) as
 | .non=>λ v u h r _=>by unfold Rp at h;subst h;cases r;unfold pd;exact⟨_,.none⟩
 | .bl b=>λ v u h r _=>by unfold Rp at h;subst h;cases r;unfold pd;exact⟨_,.bool b⟩
 | .int i=>λ v u h r _=>by unfold Rp at h;subst h;obtain⟨t,rfl⟩:=r;unfold pd;exact⟨_,.int i t⟩
 | .str x=>λ v u h r _=>by unfold Rp at h;subst h;obtain⟨t,rfl⟩:=r;unfold pd;exact⟨_,.str _ t⟩
 | .exn _=>λ v u h r hd=>by unfold Dv.depthD at hd;omega
 | .raw _=>λ v u h r hd=>by unfold Dv.depthD at hd;omega
 | .tab _=>λ v u h r hd=>by unfold Dv.depthD at hd;omega
 | .dct _ _=>λ v u h r hd=>by unfold Dv.depthD at hd;omega
 | .ins _ _=>λ v u h r hd=>by unfold Dv.depthD at hd;omega
 | .lst ds=>λ v u h r hd=>by
  unfold Rp at h;unfold Dv.depthD at hd;obtain⟨a,vs,rfl,h1,h2⟩:=h;cases r;obtain⟨its,n,rv,e,_⟩:=Inv.listX I h1;obtain⟨as,ra⟩:=eV I ds vs its h2 rv ⋯;unfold pd;exact⟨_,.list e rfl rfl (by simpa using ra)⟩
 | .tup ds=>λ v u h r hd'=>by
  unfold Rp at h;unfold Dv.depthD at hd';obtain⟨a,vs,rfl,h1,h2⟩:=h;cases r;obtain⟨_,its,rv,o,e,hc,n,hd⟩:=h1.ok I.hok;obtain⟨as,ra⟩:=eV I ds vs its h2 rv ⋯;unfold pd;exact⟨_,.tuple e hc hd (by simpa using ra)⟩
theorem eV {X:Cx}{pins:List (Addr×Obj)}{σ:St}{H:Hp}{s:Shared}(I:Inv X pins σ H s):∀ (ds:List D) (vs:List V) (us:List Value),RpL X.K H ds vs->Vals vs us->Dv.depthL ds<=9->∃ as,ReadsAll s.heap us (pdL ds) as
 | []=>λ vs us h r _=>by unfold RpL at h;subst h;cases r;unfold pdL;exact⟨_,.nil⟩
 | d::ds=>λ vs us h r hd=>by
  unfold RpL at h;unfold Dv.depthL at hd;obtain⟨v,ws,rfl,h1,h2⟩:=h;cases r with
  | cons r1 r2=>
   obtain⟨as,ra⟩:=b9 I d v _ h1 r1 ⋯;obtain⟨bs,rb⟩:=eV I ds ws _ h2 r2 ⋯;unfold pdL;exact⟨_,.cons ra rb⟩
end
def uG (K:yy)(neg:Bool):R2:=λ x y H Q=>∃ d d' b,Rp K H d x/\Rp K H d' y/\Dv.depthD d<=9/\Dv.depthD d'<=9/\Dv.eqD d d'=some b/\Q (.bl (if neg then !b else b)) H
theorem ub (hu:C.X.A.units+64<cLine):OpR C.X (compareOp .Eq) (uG C.X.K false):=by
 intro pins s σ H x y v u Q I rx ry h;obtain⟨d,d',b,h1,h2,z1,z2,e,q⟩:=h;obtain⟨as,ra⟩:=b9 I d x v h1 rx z1;obtain⟨bs,rb⟩:=b9 I d' y u h2 ry z2;refine SeqAt.compareEq_reads ra rb (eS d) (eS d') ?_ ⟨.bl b,H,I,?_,q⟩
 ·have:=cU d
  have:=cU d';have:=xP (pd d).depth (pd d').depth;omega
 ·rw[iD _ _ _ e];rfl
theorem sM (hu:C.X.A.units+64<cLine):OpR C.X (compareOp .NotEq) (uG C.X.K true):=by
 intro pins s σ H x y v u Q I rx ry h;obtain⟨d,d',b,h1,h2,z1,z2,e,q⟩:=h;obtain⟨as,ra⟩:=b9 I d x v h1 rx z1;obtain⟨bs,rb⟩:=b9 I d' y u h2 ry z2;refine SeqAt.compareNe_reads ra rb (eS d) (eS d') ?_ ⟨.bl (!b),H,I,?_,q⟩
 ·have:=cU d
  have:=cU d';have:=xP (pd d).depth (pd d').depth;omega
 ·rw[iD _ _ _ e];rfl
theorem os_eq:OpS C (compareOp .Eq) (Dv.cmD .eq):=by
 refine⟨_,ub C.un,λ x y d d' H Hv H1 Hv1 W Q e rx ry q=>?_⟩;simp only[Dv.cmD_eq,Dv.cmD_ne,Dv.cmD_lt,Dv.cmD_le,Dv.cmD_gt,Dv.cmD_ge,Dv.cmD_in,Dv.cmD_ni,Dv.cmD_it,Dv.cmD_nt] at q;by_cases hz:(decide (Dv.depthD d<=9)&&decide (Dv.depthD d'<=9))=true
 ·rw[if_pos hz] at q
  simp only[v8,decide_eq_true_eq] at hz;cases he:Dv.eqD d d' with
  | none=>rw[he] at q;exact Zf q
  | some b=>
   rw[he] at q;exact⟨d,d',b,rx.same e.vh,ry.same e.vh,hz.1,hz.2,he,Ok.at (d:=.bl b) (fr:=true) q e bI rfl⟩
 ·rw[if_neg hz] at q;exact Zf q
theorem uR:OpS C (compareOp .NotEq) (Dv.cmD .ne):=by
 refine⟨_,sM C.un,λ x y d d' H Hv H1 Hv1 W Q e rx ry q=>?_⟩;simp only[Dv.cmD_eq,Dv.cmD_ne,Dv.cmD_lt,Dv.cmD_le,Dv.cmD_gt,Dv.cmD_ge,Dv.cmD_in,Dv.cmD_ni,Dv.cmD_it,Dv.cmD_nt] at q;by_cases hz:(decide (Dv.depthD d<=9)&&decide (Dv.depthD d'<=9))=true
 ·rw[if_pos hz] at q
  simp only[v8,decide_eq_true_eq] at hz;cases he:Dv.eqD d d' with
  | none=>rw[he] at q;exact Zf q
  | some b=>
   rw[he] at q;exact⟨d,d',b,rx.same e.vh,ry.same e.vh,hz.1,hz.2,he,Ok.at (d:=.bl (!b)) (fr:=true) q e bI rfl⟩
 ·rw[if_neg hz] at q;exact Zf q
theorem kE:∀ (i:Int) (ds:List D) (vs:List V) (b:Bool) {K:yy} {H:Hp},Dv.inD i ds=some b->RpL K H ds vs->vs.all du=true/\inV (.int i) vs=b
 | i,[],vs,b,K,H,h,r=>by
  unfold RpL at r;subst r;simp[Dv.inD] at h;subst h;exact⟨rfl,rfl⟩
 | i,d::ds,vs,b,K,H,h,r=>by
  unfold RpL at r;obtain⟨v,ws,rfl,h1,h2⟩:=r;cases d with
  | int j=>
   simp only[Dv.inD,xp] at h;obtain⟨c,hc,rfl⟩:=h;obtain⟨z1,z2⟩:=kE i ds ws c hc h2;unfold Rp at h1;subst h1;refine⟨by simp[du,z1],?_⟩;have:inV (.int i) (.int j::ws)=(eqV (.int j) (.int i) || inV (.int i) ws):=rfl;rw[this,z2];show ((j == i) || c)=(decide (j=i) || c)
   rw[xr]
  | _=>simp[Dv.inD] at h
theorem uT:OpS C (compareOp .In) (Dv.cmD .isin):=by
 refine⟨_,lW,λ x y d d' H Hv H1 Hv1 W Q e rx ry q=>?_⟩;cases d with
 | int i=>
  cases d' with
  | lst ds=>
   simp only[Dv.cmD_eq,Dv.cmD_ne,Dv.cmD_lt,Dv.cmD_le,Dv.cmD_gt,Dv.cmD_ge,Dv.cmD_in,Dv.cmD_ni,Dv.cmD_it,Dv.cmD_nt] at q;cases hi:Dv.inD i ds with
   | none=>rw[hi] at q;exact Zf q
   | some b=>
    rw[hi] at q;unfold Rp at rx ry;subst rx;obtain⟨l,vs,rfl,h1,h2⟩:=ry;obtain⟨z1,z2⟩:=kE i ds vs b hi h2;refine⟨l,vs,rfl,.inl (h1.same e.vh).seq,rfl,z1,?_⟩;rw[z2];exact Ok.at (d:=.bl b) (fr:=true) q e bI rfl
  | _=>exact Zf q
 | _=>exact Zf q
theorem gF {ds:List D}{vs:List V}{K:yy}{H:Hp}{i:Int}{d:D}(r:RpL K H ds vs)(h:Dv.at? ds i=some d):∃ v,atI vs i=some v/\Rp K H d v:=by
 unfold Dv.at? at h;unfold atI ixN;have hl:=r.length;by_cases h0:0<=i
 ·rw[if_pos h0] at h
  obtain⟨v,h1,h2⟩:=r.get h;have hlt:i.toNat<vs.length:=(List.getElem?_eq_some_iff.mp h1).1;refine⟨v,?_,h2⟩;rw[if_pos h0,if_pos ⋯];exact h1
 ·rw[if_neg h0] at h
  by_cases h1:-(ds.length:Int)<=i
  ·rw[if_pos h1] at h
   obtain⟨v,h2,h3⟩:=r.get h;refine⟨v,?_,h3⟩;rw[if_neg h0,if_pos ⋯];rw[hl];exact h2
  ·rw[if_neg h1] at h;cases h
theorem kT {K:yy}{H Hv H2 Hv2:Hp}{ds:List D}{v:V}{fr:Bool}{k:Int}{d:D}(x:Ext Hv H Hv2 H2)(hk:Dv.at? ds k=some d):
  (Rp K Hv2 (.lst ds) v->(fr=true->Rp [] (Hnew H H2) (.lst ds) v)->∃ l vs u,v=.ref l/\SqX K H2 l vs/\atI vs k=some u/\Rp K Hv2 d u/\((fr || Dv.scal d)=true->Rp [] (Hnew H H2) d u)) /\
  (Rp K Hv2 (.tup ds) v->(fr=true->Rp [] (Hnew H H2) (.tup ds) v)->∃ l vs u,v=.ref l/\Rd H2 l (.tup vs)/\atI vs k=some u/\Rp K Hv2 d u/\((fr || Dv.scal d)=true->Rp [] (Hnew H H2) d u)):=by
 constructor
 ·intro rp n
  cases fr with
  | true=>
   have rn:=n rfl;unfold Rp at rn;obtain⟨l,vs,rfl,h1,h2⟩:=rn;obtain⟨u,h3,h4⟩:=gF h2 hk;refine⟨l,vs,u,rfl,?_,h3,(Rp.frag h4).same x.news,λ _=>h4⟩
   rcases h1 with h1|⟨its,n,e,_⟩
   ·exact .inl (Rd.same Hnew.sub h1)
   ·simp at e
  | false=>
   unfold Rp at rp;obtain⟨l,vs,rfl,h1,h2⟩:=rp;obtain⟨u,h3,h4⟩:=gF h2 hk;exact⟨l,vs,u,rfl,h1.same x.vh,h3,h4,λ z=>h4.scal (by simpa using z)⟩
 ·intro rp n
  cases fr with
  | true=>
   have rn:=n rfl;unfold Rp at rn;obtain⟨l,vs,rfl,h1,h2⟩:=rn;obtain⟨u,h3,h4⟩:=gF h2 hk;exact⟨l,vs,u,rfl,Rd.same Hnew.sub h1,h3,(Rp.frag h4).same x.news,λ _=>h4⟩
  | false=>
   unfold Rp at rp;obtain⟨l,vs,rfl,h1,h2⟩:=rp;obtain⟨u,h3,h4⟩:=gF h2 hk;exact⟨l,vs,u,rfl,Rd.same x.vh h1,h3,h4,λ z=>h4.scal (by simpa using z)⟩
theorem aY (ha:SE C a f)(hb:SE C b g)(hs:autoParam (jb b) ZK._auto_1):SE C (.Subscript a b pos) (Dv.eIx f g):=by
 obtain⟨ta,pa,qa⟩:=ha;obtain⟨tb,pb,qb⟩:=hb;refine⟨_,nW (ix_list.or tE) pa pb hs,λ σ H Hv ρ Q e s w=>?_⟩;refine qa.step e (.refl s) w λ v d fr Hv1 H1 _ x1 _ rp1 n1 q1=>qb.step e x1 q1 λ v2 d2 fr2 Hv2 H2 _ x2 y2 rp2 _ q2=>?_
 have rp:=rp1.same y2.vv;have rn:fr=true->Rp [] (Hnew H H2) d v:=λ z=>(n1 z).same (Hnew.mono (.refl _) y2.hh)
 cases d2 with
 | int k=>
  unfold Rp at rp2;cases d with
  | lst ds=>
   have q3:Ok C.X.K Hv H (C.W σ) C.cls (match Dv.at? ds k with|some d=>.ok d (fr || Dv.scal d)|none=>.bad) Q:=q2;cases hk:Dv.at? ds k with
   | none=>rw[hk] at q3;exact Zf q3
   | some d=>
    rw[hk] at q3;obtain⟨l,vs,u,e1,h1,h2,h3,h4⟩:=(kT (fr:=fr) x2 hk).1 rp rn;exact .inl ⟨l,vs,k,u,e1,rp2,h1.seq,h2,q3 u Hv2 H2 x2 h3 h4⟩
  | tup ds=>
   have q3:Ok C.X.K Hv H (C.W σ) C.cls (match Dv.at? ds k with|some d=>.ok d (fr || Dv.scal d)|none=>.bad) Q:=q2;cases hk:Dv.at? ds k with
   | none=>rw[hk] at q3;exact Zf q3
   | some d=>
    rw[hk] at q3;obtain⟨l,vs,u,e1,h1,h2,h3,h4⟩:=(kT (fr:=fr) x2 hk).2 rp rn;exact .inr ⟨l,vs,k,u,e1,rp2,.inl h1,h2,q3 u Hv2 H2 x2 h3 h4⟩
  | _=>exact Zf q2
 | _=>cases d <;>exact Zf q2
def C1S (C:Ctx)(fv:Value)(F:D->Bool->R):Prop:=
 ∃ r,cb C.X fv r/\∀ x d fr H Hv H1 Hv1 W Q,Ext Hv H Hv1 H1->Rp C.X.K Hv1 d x->(fr=true->Rp [] (Hnew H H1) d x)->Ok C.X.K Hv H W C.cls (F d fr) Q->r [x] H1 Q
theorem ik {x:Str}{p:Pos}{id:String}{F:D->Bool->R}(o:C1S C (.builtin id) F)(hg:Gl C.X x)(hm:C.X.mg x=none)(hv:bootBuiltins x=some (.builtin id))(ha:SE C a f)
  (hn:autoParam (x≠"__name__") ZC._auto_1) (hdb:autoParam ((x == ("__debug__":Str))=false) ZC._auto_1) (he:autoParam (starEach [a] C.X.env=[(false,eval a C.X.env)]) ZF._auto_1):SE C (.Call (.Name x p) [a] [] pos) (Dv.eB1 F f):=by
 obtain⟨r,ho,hr⟩:=o;obtain⟨t,pa,qa⟩:=ha;refine⟨_,cB ho hg hm hv (au pa aM he) hn hdb he rfl,λ σ H Hv ρ Q e s w=>?_⟩;exact qa.step e (.refl s) w λ v d fr Hv1 H1 _ x1 _ rp1 n1 q1=>hr v d fr H Hv H1 Hv1 _ Q x1 rp1 n1 q1
theorem rH {x:Str}{p:Pos}{id:String}{F:D->Bool->R}(o:C1S C (.type id) F)(hg:Gl C.X x)(hm:C.X.mg x=none)(hv:bootBuiltins x=some (.type id))(ha:SE C a f)
  (hn:autoParam (x≠"__name__") ZC._auto_1) (hdb:autoParam ((x == ("__debug__":Str))=false) ZC._auto_1) (he:autoParam (starEach [a] C.X.env=[(false,eval a C.X.env)]) ZF._auto_1):SE C (.Call (.Name x p) [a] [] pos) (Dv.eB1 F f):=by
 obtain⟨r,ho,hr⟩:=o;obtain⟨t,pa,qa⟩:=ha;refine⟨_,mj ho hg hm hv (au pa aM he) hn hdb he rfl,λ σ H Hv ρ Q e s w=>?_⟩;exact qa.step e (.refl s) w λ v d fr Hv1 H1 _ x1 _ rp1 n1 q1=>hr v d fr H Hv H1 Hv1 _ Q x1 rp1 n1 q1
theorem sL:C1S C (.builtin "len") Dv.lenD:=by
 refine⟨_,eK,λ x d fr H Hv H1 Hv1 W Q e rx n q=>?_⟩;cases d with
 | lst ds=>
  unfold Rp at rx;obtain⟨l,vs,rfl,h1,h2⟩:=rx;refine⟨l,vs,rfl,.inl (h1.same e.vh).seq,?_⟩;rw[h2.length];exact Ok.at (d:=.int ds.length) (fr:=true) q e bp rfl
 | tup ds=>
  unfold Rp at rx;obtain⟨l,vs,rfl,h1,h2⟩:=rx;refine⟨l,vs,rfl,.inr (.inl (Rd.same e.vh h1)),?_⟩;rw[h2.length];exact Ok.at (d:=.int ds.length) (fr:=true) q e bp rfl
 | _=>exact Zf q
theorem pX:C1S C (.type "list") Dv.listD:=by
 refine⟨_,i3,λ x d fr H Hv H1 Hv1 W Q e rx n q=>?_⟩;cases d with
 | lst ds=>
  cases fr with
  | true=>
   have rn:=n rfl;unfold Rp at rn;obtain⟨l,vs,rfl,h1,h2⟩:=rn;have h1':SqX C.X.K H1 l vs:=by
    rcases h1 with h1|⟨its,n,e,_⟩
    ·exact .inl (Rd.same Hnew.sub h1)
    ·simp at e
   exact⟨l,vs,rfl,.inl h1'.seq,λ p hp=>Ok.newL q e ((RpL.frag h2).same e.news) (λ _=>h2) p hp⟩
  | false=>
   unfold Rp at rx;obtain⟨l,vs,rfl,h1,h2⟩:=rx;exact⟨l,vs,rfl,.inl (h1.same e.vh).seq,λ p hp=>Ok.newL q e h2 (λ z=>h2.flat (by simpa using z)) p hp⟩
 | tup ds=>
  cases fr with
  | true=>
   have rn:=n rfl;unfold Rp at rn;obtain⟨l,vs,rfl,h1,h2⟩:=rn;exact⟨l,vs,rfl,.inr (.inl (Rd.same Hnew.sub h1)),λ p hp=>Ok.newL q e ((RpL.frag h2).same e.news) (λ _=>h2) p hp⟩
  | false=>
   unfold Rp at rx;obtain⟨l,vs,rfl,h1,h2⟩:=rx;exact⟨l,vs,rfl,.inr (.inl (Rd.same e.vh h1)),λ p hp=>Ok.newL q e h2 (λ z=>h2.flat (by simpa using z)) p hp⟩
 | _=>exact Zf q
theorem gk (i:Int):∀ l:List Int,(Dv.ins i l).Perm (i::l)
 | []=>.refl _
 | j::r=>by
  unfold Dv.ins
  split
  ·exact .refl _
  ·exact((gk i r).cons j).trans (.swap i j r)
theorem dE:∀ l:List Int,(Dv.isort l).Perm l
 | []=>.refl _
 | i::r=>(gk i _).trans ((dE r).cons i)
theorem gm (i:Int):∀ l:List Int,l.Pairwise (·<=·)->(Dv.ins i l).Pairwise (·<=·)
 | [],_=>by simp[Dv.ins]
 | j::r,h=>by
  unfold Dv.ins
  split
  ·rename_i hij
   refine List.pairwise_cons.mpr ⟨λ x hx=>?_,h⟩
   rcases List.mem_cons.mp hx with rfl|hx
   ·exact hij
   ·exact Int.le_trans hij ((List.pairwise_cons.mp h).1 x hx)
  ·rename_i hij
   refine List.pairwise_cons.mpr ⟨λ x hx=>?_,gm i r (List.pairwise_cons.mp h).2⟩
   rcases List.mem_cons.mp ((gk i r).mem_iff.mp hx) with rfl|hx
   ·omega
   ·exact(List.pairwise_cons.mp h).1 x hx
theorem d7:∀ l:List Int,(Dv.isort l).Pairwise (·<=·)
 | []=>.nil
 | i::r=>gm i _ (d7 r)
theorem fC:∀ {a b:List Int},a.Perm b->a.Pairwise (·<=·)->b.Pairwise (·<=·)->a=b
 | [],b,p,_,_=>by simpa using p.symm.eq_nil
 | x::a,[],p,_,_=>absurd p.eq_nil (by simp)
 | x::a,y::b,p,ha,hb=>by
  have h1:=List.pairwise_cons.mp ha;have h2:=List.pairwise_cons.mp hb;have e:x=y:=by
   have hx:x∈y::b:=p.mem_iff.mp wc;have hy:y∈x::a:=p.mem_iff.mpr wc
   rcases List.mem_cons.mp hx with e|hx
   ·exact e
   rcases List.mem_cons.mp hy with e|hy
   ·exact e.symm
   exact yh (h1.1 y hy) (h2.1 x hx)
  subst e;rw[fC ((List.perm_cons x).mp p) h1.2 h2.2]
theorem iG {vs:List Value}{ns:List Int}(h:IntsAre vs ns):Vals (ns.map V.int) vs:=by
 induction h with
 | nil=>exact .nil
 | cons n t _ ih=>exact .cons ⟨t,rfl⟩ ih
theorem jN {X:Cx}:cb X (.builtin "sorted") (λ xs H Q=>∃ p ns,xs=[.ref p]/\SqX X.K H p (ns.map V.int)/\ns.length<64/\∀ l,H l=none->Q (.ref l) (upd H l (.lst ((Dv.isort ns).map V.int)))):=by
 intro pins s σ H xs us Q I r h;obtain⟨p,ns,rfl,hq,h64,q⟩:=h;obtain⟨u,rfl,rx⟩:=vals1 r;cases rx;obtain⟨its,n,rv,e,z⟩:=Inv.listX I hq;have hi:=intsAre_of rv;have hl:=rv.length;rw[wg] at hl;refine sorted_ints (ns:=ns) ⟨_,e,rfl,n,rfl⟩ hi ⋯ λ out ns' a1 a2 a3=>?_
 have e1:ns'=Dv.isort ns:=fC (a2.trans (dE ns).symm) a3 (d7 ns);subst e1;obtain⟨ep,hat⟩:=sortedAll_at s.heap its out;have hf:H (s.heap.objs.size+1)=none:=I.hok.fresh (xE _);refine⟨.ref (s.heap.objs.size+1),_,I.laid (t':=s.toks) (o:=.lst ((Dv.isort ns).map V.int)) (λ b u q=>sortedAll_old q) (xE _) ?_,rfl,q _ hf⟩;refine⟨?_,out.toList,ep,iG a1,by simpa[seqObj] using hat⟩;rw[wg,(dE ns).length_eq];rw[zt];omega
theorem mf:C1S C (.builtin "sorted") Dv.sortedD:=by
 refine⟨_,jN,λ x d fr H Hv H1 Hv1 W Q e rx n q=>?_⟩;cases d with
 | lst ds=>
  simp only[Dv.sortedD] at q;cases hi:Dv.intsOf ds with
  | none=>rw[hi] at q;exact Zf q
  | some ns=>
   rw[hi] at q;by_cases h64:ns.length<64
   ·simp only[h64,if_true] at q
    unfold Rp at rx;obtain⟨l,vs,rfl,h1,h2⟩:=rx;have e1:=RpL.ints hi h2;subst e1;exact⟨l,ns,rfl,h1.same e.vh,h64,λ p hp=>Ok.newL q e (RpL.ofInts _) (λ _=>RpL.ofInts _) p hp⟩
   ·simp only[h64,if_false] at q
    exact Zf q
 | _=>exact Zf q
end
open Dv (D R RL EE EL EI RI Sl Out SS)
def Nd (K:yy)(Hc:Hp):D->HO->Prop
 | .lst ds,o=>∃ vs,o=.lst vs/\RpL K Hc ds vs
 | .dct ks ds,o=>∃ vs,o=.dK ((ks.map Sum.inl).zip vs)/\ks.length=ds.length/\RpL K Hc ds vs
 | _,_=>False
theorem Nd.same {K:yy}{H H':Hp}{d:D}{o:HO}(e:Same H H')(h:Nd K H d o):Nd K H' d o:=by
 cases d with
 | lst ds=>obtain⟨vs,h1,h2⟩:=h;exact⟨vs,h1,h2.same e⟩
 | dct ks ds=>obtain⟨vs,h1,h2,h3⟩:=h;exact⟨vs,h1,h2,h3.same e⟩
 | _=>exact Zf h
theorem Nd.rp {K:yy}{H:Hp}{d:D}{o:HO}{a:Addr}(h:Nd K H d o)(ha:H a=some o):Rp K H d (.ref a):=by
 cases d with
 | lst ds=>obtain⟨vs,rfl,h2⟩:=h;unfold Rp;exact⟨a,vs,rfl,SqX.of ha,h2⟩
 | dct ks ds=>obtain⟨vs,rfl,h2,h3⟩:=h;unfold Rp;exact⟨a,vs,rfl,h2,.inl ha,h3⟩
 | _=>exact Zf h
def Jk (R:Hp)(n m:Nat)(v:V):Prop:=∃ t vs,v=.ref t/\(R t=some (.lst vs)\/R t=some (.tup vs))/\vs.length=n/\∀ x∈vs,∃ b ws,x=.ref b/\b≠t/\R b=some (.lst ws)/\ws.length<=m
structure RelC (K:yy)(Hv₀ H₀ Hc:Hp)(O:Nat->Hp)(st:Dv.St)(σ:St)(H:Hp):Prop where
 h0:Same H₀ H
 vc:Same Hv₀ Hc
 ch:Same Hc H
 new:∀ b o,Hc b=some o->Hv₀ b=none->H₀ b=none
 nf:∀ b o u,H₀ b=none->H b≠some (.frz o u)
 len:st.length=σ.length
 sh:∀ (i:Nat) (d:D),st[i]?=some (Sl.sh d)->∃ v,σ[i]?=some (some v)/\Rp K Hc d v
 ow:∀ (i:Nat) (d:D),st[i]?=some (Sl.ow d)->∃ (a:Addr) (o:HO),σ[i]?=some (some (V.ref a))/\O i a=some o/\Nd K Hc d o
 dp:∀ (i:Nat) (d:D),st[i]?=some (Sl.dp d)->∃ v,σ[i]?=some (some v)/\Rp [] (O i) d v
 jk:∀ (i n m:Nat),st[i]?=some (Sl.jk n m)->∃ v,σ[i]?=some (some v)/\Jk (O i) n m v
 oh:∀ (i:Nat) (b:Addr) (o:HO),O i b=some o->H b=some o/\Hc b=none/\H₀ b=none
 one:∀ (i j:Nat) (b:Addr) (o o':HO),O i b=some o->O j b=some o'->i=j
def Rel (K:yy)(Hv₀ H₀:Hp)(st:Dv.St)(σ:St)(H:Hp):Prop:=∃ Hc O,RelC K Hv₀ H₀ Hc O st σ H
section
variable {K:yy}{Hv₀ H₀ Hc:Hp}{O:Nat->Hp}{st:Dv.St}{σ:St}{H:Hp}
theorem RelC.less {Hv1:Hp}(r:RelC K Hc H₀ Hv1 O st σ H)(vc:Same Hv₀ Hc)(new:∀ b o,Hc b=some o->Hv₀ b=none->H₀ b=none):RelC K Hv₀ H₀ Hv1 O st σ H:=
 ⟨r.h0,vc.trans r.vc,r.ch,λ b o h n=>(by
  cases q:Hc b with
  | some u=>exact new b u q n
  | none=>exact r.new b o h q),r.nf,r.len,r.sh,r.ow,r.dp,r.jk,r.oh,r.one⟩
def qy (O:Nat->Hp)(b:Addr):Prop:=∃ (i:Nat) (o:HO),O i b=some o
open Classical in
def cQ (Hc:Hp)(O:Nat->Hp)(H:Hp):Hp:=λ b=>if qy O b then H b else Hc b
theorem RelC.cAll (r:RelC K Hv₀ H₀ Hc O st σ H):Same Hc (cQ Hc O H):=λ b o h=>by
 unfold cQ;by_cases q:qy O b
 ·obtain⟨i,u,h1⟩:=q
  rw[(r.oh i b u h1).2.1] at h;cases h
 ·rw[if_neg q];exact h
theorem RelC.oAll (r:RelC K Hv₀ H₀ Hc O st σ H)(i:Nat):Same (O i) (cQ Hc O H):=λ b o h=>by
 unfold cQ;rw[if_pos ⟨i,o,h⟩];exact(r.oh i b o h).1
theorem RelC.allH (r:RelC K Hv₀ H₀ Hc O st σ H):Same (cQ Hc O H) H:=λ b o h=>by
 unfold cQ at h;by_cases q:qy O b
 ·rw[if_pos q] at h;exact h
 ·rw[if_neg q] at h;exact r.ch b o h
theorem RelC.allNew (r:RelC K Hv₀ H₀ Hc O st σ H):∀ b o,cQ Hc O H b=some o->Hv₀ b=none->H₀ b=none:=λ b o h n=>by
 unfold cQ at h;by_cases q:qy O b
 ·obtain⟨i,u,h1⟩:=q
  exact(r.oh i b u h1).2.2
 ·rw[if_neg q] at h;exact r.new b o h n
theorem pP {i:Nat}{d:D}(h:(Dv.all st)[i]?=some (some d)):st[i]?=some (.sh d)\/st[i]?=some (.ow d)\/st[i]?=some (.dp d):=by
 unfold Dv.all at h;rw[wx] at h;cases q:st[i]? with
 | none=>rw[q] at h;cases h
 | some s=>
  rw[q] at h;cases s with
  | no=>cases h
  | sh x=>cases h;exact .inl rfl
  | ow x=>cases h;exact .inr (.inl rfl)
  | dp x=>cases h;exact .inr (.inr rfl)
  | jk n m=>cases h
theorem get_open {i:Nat}{d:D}(h:(Dv.open_ st)[i]?=some (some d)):st[i]?=some (.sh d):=by
 unfold Dv.open_ at h;rw[wx] at h;cases q:st[i]? with
 | none=>rw[q] at h;cases h
 | some s=>
  rw[q] at h;cases s with
  | sh x=>cases h;rfl
  | _=>cases h
theorem RelC.envAll (r:RelC K Hv₀ H₀ Hc O st σ H):EnvR K (cQ Hc O H) (Dv.all st) σ:=λ i d h=>by
 rcases pP h with h|h|h
 ·obtain⟨v,h1,h2⟩:=r.sh i d h
  exact⟨v,h1,h2.same r.cAll⟩
 ·obtain⟨a,o,h1,h2,h3⟩:=r.ow i d h
  exact⟨_,h1,(h3.same r.cAll).rp (r.oAll i a o h2)⟩
 ·obtain⟨v,h1,h2⟩:=r.dp i d h
  exact⟨v,h1,Rp.frag (h2.same (r.oAll i))⟩
theorem RelC.envOpen (r:RelC K Hv₀ H₀ Hc O st σ H):EnvR K Hc (Dv.open_ st) σ:=λ i d h=>r.sh i d (get_open h)
theorem RelC.grow {H':Hp}(r:RelC K Hv₀ H₀ Hc O st σ H)(hh:Same H H')(nf:∀ b o u,H b=none->H' b≠some (.frz o u)):RelC K Hv₀ H₀ Hc O st σ H':=
 ⟨r.h0.trans hh,r.vc,r.ch.trans hh,r.new,λ b o u h=>(by
  cases q:H b with
  | none=>exact nf b o u q
  | some w=>rw[hh b w q,<- q];exact r.nf b o u h),r.len,r.sh,r.ow,r.dp,r.jk,λ i b o h=>⟨hh _ _ (r.oh i b o h).1,(r.oh i b o h).2⟩,r.one⟩
theorem RelC.growC {Hc' H':Hp}(r:RelC K Hv₀ H₀ Hc O st σ H)(x:Ext Hc H Hc' H'):RelC K Hv₀ H₀ Hc' O st σ H':=by
 have g:=r.grow x.hh x.nf;refine⟨g.h0,r.vc.trans x.vv,x.vh,λ b o h n=>?_,g.nf,g.len,λ i d h=>?_,λ i d h=>?_,r.dp,r.jk,λ i b o h=>?_,g.one⟩
 ·cases q:Hc b with
  | some u=>exact r.new b u q n
  | none=>exact r.h0.free (x.new b o h q)
 ·obtain⟨v,h1,h2⟩:=r.sh i d h
  exact⟨v,h1,h2.same x.vv⟩
 ·obtain⟨a,o,h1,h2,h3⟩:=r.ow i d h
  exact⟨a,o,h1,h2,h3.same x.vv⟩
 ·obtain⟨h1,h2,h3⟩:=r.oh i b o h
  refine⟨x.hh _ _ h1,?_,h3⟩;cases q:Hc' b with
  | none=>rfl
  | some u=>
   have:=x.new b u q h2;rw[this] at h1;cases h1
theorem bX {α:Type}{l:List α}{i j:Nat}{x y:α}(h:(l.set i x)[j]?=some y):(j=i/\y=x/\i<l.length)\/(j≠i/\l[j]?=some y):=by
 by_cases e:j=i
 ·subst e
  by_cases hl:j<l.length
  ·rw[wC hl] at h
   exact .inl ⟨rfl,(Option.some.inj h).symm,hl⟩
  ·rw[xS (by rw[w5];omega)] at h
   cases h
 ·rw[wI (Ne.symm e)] at h
  exact .inr ⟨e,h⟩
theorem RelC.setAny {i:Nat}{s:Sl}{v:Option V}{H':Hp}{O':Nat->Hp}(r:RelC K Hv₀ H₀ Hc O st σ H)(h0:Same H₀ H')(ch:Same Hc H')(nf:∀ b o u,H₀ b=none->H' b≠some (.frz o u))(hO:∀ j,j≠i->O' j=O j)
  (sh:∀ d,s=.sh d->∃ w,v=some w/\Rp K Hc d w) (ow:∀ d,s=.ow d->∃ a o,v=some (.ref a)/\O' i a=some o/\Nd K Hc d o) (dp:∀ d,s=.dp d->∃ w,v=some w/\Rp [] (O' i) d w) (jk:∀ n m,s=.jk n m->∃ w,v=some w/\Jk (O' i) n m w)
  (oh:∀ j b o,O' j b=some o->H' b=some o/\Hc b=none/\H₀ b=none) (one:∀ j b o o',O' i b=some o->j≠i->O j b≠some o'):RelC K Hv₀ H₀ Hc O' (st.set i s) (σ.set i v) H':=by
 have at_:∀ {j:Nat},j=i->i<st.length->(σ.set i v)[j]?=some v:=λ {j} e hl=>by subst e;exact wC (by rw[<- r.len];exact hl)
 have no:∀ {j:Nat},j≠i->(σ.set i v)[j]?=σ[j]?:=λ hj=>wI (Ne.symm hj)
 refine⟨h0,r.vc,ch,r.new,nf,by rw[w5,w5];exact r.len,λ j x h=>?_,λ j x h=>?_,λ j x h=>?_,λ j n m h=>?_,oh,λ j k b o o' h1 h2=>?_⟩
 ·rcases bX h with ⟨e,e2,hl⟩|⟨hj,h⟩
  ·obtain⟨w,e3,rp⟩:=sh x e2.symm
   exact⟨w,by rw[at_ e hl,e3],rp⟩
  ·obtain⟨u,h1,h2⟩:=r.sh j x h
   exact⟨u,by rw[no hj];exact h1,h2⟩
 ·rcases bX h with ⟨e,e2,hl⟩|⟨hj,h⟩
  ·obtain⟨a,o,e3,e4,rp⟩:=ow x e2.symm
   exact⟨a,o,by rw[at_ e hl,e3],by rw[e];exact e4,rp⟩
  ·obtain⟨a,o,h1,h2,h3⟩:=r.ow j x h
   exact⟨a,o,by rw[no hj];exact h1,by rw[hO j hj];exact h2,h3⟩
 ·rcases bX h with ⟨e,e2,hl⟩|⟨hj,h⟩
  ·obtain⟨w,e3,rp⟩:=dp x e2.symm
   exact⟨w,by rw[at_ e hl,e3],by rw[e];exact rp⟩
  ·obtain⟨u,h1,h2⟩:=r.dp j x h
   exact⟨u,by rw[no hj];exact h1,by rw[hO j hj];exact h2⟩
 ·rcases bX h with ⟨e,e2,hl⟩|⟨hj,h⟩
  ·obtain⟨w,e3,rp⟩:=jk n m e2.symm
   exact⟨w,by rw[at_ e hl,e3],by rw[e];exact rp⟩
  ·obtain⟨u,h1,h2⟩:=r.jk j n m h
   exact⟨u,by rw[no hj];exact h1,by rw[hO j hj];exact h2⟩
 ·by_cases e1:j=i
  ·by_cases e2:k=i
   ·rw[e1,e2]
   ·rw[e1] at h1;rw[hO k e2] at h2;exact absurd h2 (one k b o o' h1 e2)
  ·by_cases e2:k=i
   ·rw[e2] at h2;rw[hO j e1] at h1;exact absurd h1 (one j b o' o h2 e1)
   ·rw[hO j e1] at h1;rw[hO k e2] at h2;exact r.one j k b o o' h1 h2
theorem RelC.setSh {i:Nat}{d:D}{v:V}(r:RelC K Hv₀ H₀ Hc O st σ H)(rp:Rp K Hc d v):RelC K Hv₀ H₀ Hc O (st.set i (.sh d)) (σ.set i (some v)) H:=
 r.setAny r.h0 r.ch r.nf (λ _ _=>rfl) (λ x e=>by cases e;exact⟨v,rfl,rp⟩) (λ x e=>nomatch e) (λ x e=>nomatch e) (λ n m e=>nomatch e) r.oh λ j b o o' h hj h2=>hj (r.one j i b o' o h2 h)
theorem RelC.setNo {i:Nat}{v:Option V}(r:RelC K Hv₀ H₀ Hc O st σ H):RelC K Hv₀ H₀ Hc O (st.set i .no) (σ.set i v) H:=
 r.setAny r.h0 r.ch r.nf (λ _ _=>rfl) (λ x e=>nomatch e) (λ x e=>nomatch e) (λ x e=>nomatch e) (λ n m e=>nomatch e) r.oh λ j b o o' h hj h2=>hj (r.one j i b o' o h2 h)
def fL (O:Nat->Hp)(i:Nat)(R:Hp):Nat->Hp:=λ j=>if j=i then R else O j
theorem aw {R:Hp}{i:Nat}:fL O i R i=R:=if_pos rfl
theorem aO {R:Hp}{i j:Nat}(h:j≠i):fL O i R j=O j:=if_neg h
def only (a:Addr)(o:HO):Hp:=λ b=>if b=a then some o else none
theorem lp {a:Addr}{o:HO}:only a o a=some o:=if_pos rfl
theorem kJ {a b:Addr}{o u:HO}(h:only a o b=some u):b=a/\u=o:=by
 unfold only at h;by_cases e:b=a
 ·rw[if_pos e] at h;exact⟨e,(Option.some.inj h).symm⟩
 ·rw[if_neg e] at h;cases h
theorem RelC.setOw {i:Nat}{d:D}{o:HO}{a:Addr}(r:RelC K Hv₀ H₀ Hc O st σ H)(ha:H a=some o)(hc:Hc a=none)(h0:H₀ a=none)(no:∀ j,j≠i->O j a=none)
  (nd:Nd K Hc d o):RelC K Hv₀ H₀ Hc (fL O i (only a o)) (st.set i (.ow d)) (σ.set i (some (.ref a))) H:=
 r.setAny r.h0 r.ch r.nf (λ j hj=>aO hj) (λ x e=>nomatch e) (λ x e=>by cases e;exact⟨a,o,rfl,by rw[aw];exact lp,nd⟩) (λ x e=>nomatch e) (λ n m e=>nomatch e)
  (λ j b u h=>by
   by_cases hj:j=i
   ·rw[hj,aw] at h
    obtain⟨rfl,rfl⟩:=kJ h;exact⟨ha,hc,h0⟩
   ·rw[aO hj] at h;exact r.oh j b u h)
  λ j b u u' h hj h2=>by
   rw[aw] at h;obtain⟨rfl,rfl⟩:=kJ h;rw[no j hj] at h2;cases h2
theorem RelC.setDp {i:Nat}{d:D}{v:V}{R:Hp}(r:RelC K Hv₀ H₀ Hc O st σ H)(hR:∀ b o,R b=some o->H b=some o/\Hc b=none/\H₀ b=none/\∀ j,j≠i->O j b=none)
  (rp:Rp [] R d v):RelC K Hv₀ H₀ Hc (fL O i R) (st.set i (.dp d)) (σ.set i (some v)) H:=
 r.setAny r.h0 r.ch r.nf (λ j hj=>aO hj) (λ x e=>nomatch e) (λ x e=>nomatch e) (λ x e=>by cases e;exact⟨v,rfl,by rw[aw];exact rp⟩) (λ n m e=>nomatch e)
  (λ j b u h=>by
   by_cases hj:j=i
   ·rw[hj,aw] at h
    exact⟨(hR b u h).1,(hR b u h).2.1,(hR b u h).2.2.1⟩
   ·rw[aO hj] at h;exact r.oh j b u h)
  λ j b u u' h hj h2=>by
   rw[aw] at h;rw[(hR b u h).2.2.2 j hj] at h2;cases h2
theorem gz {α:Type}{l:List α}{i:Nat}{x:α}(h:l[i]?=some x):l.set i x=l:=by
 refine List.ext_getElem? λ j=>?_
 by_cases hj:j=i
 ·subst hj;rw[wC (List.getElem?_eq_some_iff.mp h).1,h]
 ·rw[wI (Ne.symm hj)]
theorem RelC.putAny {i:Nat}{s:Sl}{v:V}{a:Addr}{u o:HO}(r:RelC K Hv₀ H₀ Hc O st σ H)(hσ:σ[i]?=some (some v))(ha:O i a=some u)(ho:∀ q w,o≠.frz q w)
  (ow:∀ d,s=.ow d->v=.ref a/\Nd K Hc d o) (jk:∀ n m,s=.jk n m->Jk (upd (O i) a o) n m v) (hs:∀ d,s≠.sh d/\s≠.dp d):
  RelC K Hv₀ H₀ Hc (fL O i (upd (O i) a o)) (st.set i s) σ (upd H a o):=by
 obtain⟨h1,h2,h3⟩:=r.oh i a u ha;have hset:σ.set i (some v)=σ:=gz hσ;have key:=r.setAny (i:=i) (s:=s) (v:=some v) (H':=upd H a o) (O':=fL O i (upd (O i) a o)) (λ b w h=>by rw[ai (ak h h3)];exact r.h0 b w h) (λ b w h=>by rw[ai (ak h h2)];exact r.ch b w h)
  (λ b q w h=>by
   by_cases hb:b=a
   ·subst hb;rw[ao];exact λ z=>ho q w (Option.some.inj z)
   ·rw[ai hb];exact r.nf b q w h)
  (λ j hj=>aO hj) (λ d e=>absurd e (hs d).1) (λ d e=>⟨a,o,by rw[(ow d e).1],by rw[aw,ao],(ow d e).2⟩) (λ d e=>absurd e (hs d).2) (λ n m e=>⟨v,rfl,by rw[aw];exact jk n m e⟩)
  (λ j b w h=>by
   by_cases hj:j=i
   ·rw[hj,aw] at h
    by_cases hb:b=a
    ·subst hb;rw[ao] at h ⊢;exact⟨h,h2,h3⟩
    ·rw[ai hb] at h ⊢;exact r.oh i b w h
   ·rw[aO hj] at h
    have hb:b≠a:=λ z=>hj (r.one j i b w u h (by rw[z];exact ha))
    rw[ai hb];exact r.oh j b w h)
  λ j b w w' h hj h4=>by
   rw[aw] at h;by_cases hb:b=a
   ·exact hj (r.one j i b w' u h4 (by rw[hb];exact ha))
   ·rw[ai hb] at h;exact hj (r.one j i b w' w h4 h)
 rw[hset] at key;exact key
theorem RelC.put {i:Nat}{d:D}{ds:List D}{ws:List V}{a:Addr}(r:RelC K Hv₀ H₀ Hc O st σ H)(hi:st[i]?=some (.ow d))(hσ:σ[i]?=some (some (.ref a)))(rp:RpL K Hc ds ws):
  ∃ O',RelC K Hv₀ H₀ Hc O' (st.set i (.ow (.lst ds))) σ (upd H a (.lst ws)):=by
 obtain⟨a',o,h1,h2,h3⟩:=r.ow i d hi;rw[hσ] at h1;cases h1;exact⟨_,r.putAny hσ h2 (by intro _ _ z;cases z) (λ x e=>by cases e;exact⟨rfl,ws,rfl,rp⟩) (λ n m e=>nomatch e) λ x=>⟨nofun,nofun⟩⟩
def cA (A B:Hp):Hp:=λ b=>match A b with
 | some o=>some o
 | none=>B b
theorem ee {A B:Hp}:Same A (cA A B):=λ b o h=>by unfold cA;rw[h]
theorem fT {A B:Hp}(d:∀ b o,B b=some o->A b=none):Same B (cA A B):=λ b o h=>by unfold cA;rw[d b o h];exact h
theorem cg {A B:Hp}{b:Addr}{o:HO}(h:cA A B b=some o):A b=some o\/(A b=none/\B b=some o):=by
 unfold cA at h;cases q:A b with
 | some u=>rw[q] at h;exact .inl h
 | none=>rw[q] at h;exact .inr ⟨rfl,h⟩
theorem RelC.give1 {i:Nat}(r:RelC K Hv₀ H₀ Hc O st σ H):∃ Hc' O',Same Hc Hc'/\RelC K Hv₀ H₀ Hc' O' (st.set i ((st[i]?.getD .no).give)) σ H:=by
 cases hi:st[i]? with
 | none=>
  refine⟨Hc,O,.refl _,?_⟩;rw[List.set_eq_of_length_le (by have:=List.getElem?_eq_none_iff.mp hi;omega)];exact r
 | some s=>
  have hs:st.set i s=st:=gz hi;have key:∀ (d:D) (v:V),σ[i]?=some (some v)->Rp K (cA Hc (O i)) d v->∃ Hc' O',Same Hc Hc'/\RelC K Hv₀ H₀ Hc' O' (st.set i (.sh d)) σ H:=λ d v hσ rp=>by
   have sm:Same Hc (cA Hc (O i)):=ee;have hset:σ.set i (some v)=σ:=gz hσ;have r1:RelC K Hv₀ H₀ (cA Hc (O i)) (fL O i λ _=>none) (st.set i .no) σ H:=by
    refine⟨r.h0,r.vc.trans sm,λ b o h=>?_,λ b o h n=>?_,r.nf,by rw[w5];exact r.len,λ j x h=>?_,λ j x h=>?_,λ j x h=>?_,λ j n m h=>?_,λ j b o h=>?_,λ j k b o o' h1 h2=>?_⟩
    ·rcases cg h with h|⟨_,h⟩
     ·exact r.ch b o h
     ·exact(r.oh i b o h).1
    ·rcases cg h with h|⟨_,h⟩
     ·exact r.new b o h n
     ·exact(r.oh i b o h).2.2
    ·rcases bX h with ⟨_,e,_⟩|⟨hj,h⟩
     ·cases e
     ·obtain⟨u,h1,h2⟩:=r.sh j x h
      exact⟨u,h1,h2.same sm⟩
    ·rcases bX h with ⟨_,e,_⟩|⟨hj,h⟩
     ·cases e
     ·obtain⟨a,o,h1,h2,h3⟩:=r.ow j x h
      exact⟨a,o,h1,by rw[aO hj];exact h2,h3.same sm⟩
    ·rcases bX h with ⟨_,e,_⟩|⟨hj,h⟩
     ·cases e
     ·obtain⟨u,h1,h2⟩:=r.dp j x h
      exact⟨u,h1,by rw[aO hj];exact h2⟩
    ·rcases bX h with ⟨_,e,_⟩|⟨hj,h⟩
     ·cases e
     ·obtain⟨u,h1,h2⟩:=r.jk j n m h
      exact⟨u,h1,by rw[aO hj];exact h2⟩
    ·by_cases hj:j=i
     ·rw[hj,aw] at h;cases h
     ·rw[aO hj] at h
      obtain⟨h1,h2,h3⟩:=r.oh j b o h;refine⟨h1,?_,h3⟩;cases q:cA Hc (O i) b with
      | none=>rfl
      | some u=>
       rcases cg q with q|⟨_,q⟩
       ·rw[h2] at q;cases q
       ·exact absurd (r.one j i b o u h q) hj
    ·by_cases hj:j=i
     ·rw[hj,aw] at h1;cases h1
     ·by_cases hk:k=i
      ·rw[hk,aw] at h2;cases h2
      ·rw[aO hj] at h1;rw[aO hk] at h2;exact r.one j k b o o' h1 h2
   have r2:=r1.setSh (i:=i) rp;rw[hset,yw] at r2;exact⟨_,_,sm,r2⟩
  cases s with
  | no=>exact⟨Hc,O,.refl _,by show RelC K Hv₀ H₀ Hc O (st.set i .no) σ H;rw[hs];exact r⟩
  | sh d=>exact⟨Hc,O,.refl _,by show RelC K Hv₀ H₀ Hc O (st.set i (.sh d)) σ H;rw[hs];exact r⟩
  | jk n m=>exact⟨Hc,O,.refl _,by show RelC K Hv₀ H₀ Hc O (st.set i (.jk n m)) σ H;rw[hs];exact r⟩
  | ow d=>
   obtain⟨a,o,h1,h2,h3⟩:=r.ow i d hi;exact key d _ h1 ((h3.same ee).rp (fT (λ b o h=>(r.oh i b o h).2.1) a o h2))
  | dp d=>
   obtain⟨v,h1,h2⟩:=r.dp i d hi;exact key d v h1 (Rp.frag (h2.same (fT λ b o h=>(r.oh i b o h).2.1)))
theorem RelC.give:∀ (is:List Nat) {st:Dv.St} {Hc:Hp} {O:Nat->Hp},RelC K Hv₀ H₀ Hc O st σ H->∃ Hc' O',Same Hc Hc'/\RelC K Hv₀ H₀ Hc' O' (Dv.give is st) σ H
 | [],st,Hc,O,r=>⟨Hc,O,.refl _,r⟩
 | i::is,st,Hc,O,r=>by
  obtain⟨Hc1,O1,s1,r1⟩:=r.give1 (i:=i);obtain⟨Hc2,O2,s2,r2⟩:=RelC.give is r1;exact⟨Hc2,O2,s1.trans s2,r2⟩
end
def OkS (C:Ctx)(Hv₀ H₀:Hp)(E:Ends)(o:Out):Prop:=match o with
 | .nx st=>∀ σ' H',Rel C.X.K Hv₀ H₀ st σ' H'->E.nx σ' H'
 | .ret d nw=>∀ v Hv' H',Ext Hv₀ H₀ Hv' H'->Rp C.X.K Hv' d v->(nw=true->Rp [] (Hnew H₀ H') d v)->E.rt v H'
 | .brk st=>∀ σ' H',Rel C.X.K Hv₀ H₀ st σ' H'->E.bk σ' H'
 | .cont st=>∀ σ' H',Rel C.X.K Hv₀ H₀ st σ' H'->E.ct σ' H'
 | .exc c st=>∀ σ' H',Rel C.X.K Hv₀ H₀ st σ' H'->C.W σ' (C.cls c) none H'
 | .bad=>False
def sP (C:Ctx)(t:TS)(f:SS):Prop:=∀ Hv₀ H₀ E σ H st,Rel C.X.K Hv₀ H₀ st σ H->OkS C Hv₀ H₀ E (f st)->t E σ H
def SSt (C:Ctx)(s:Stmt)(f:SS):Prop:=∃ t:TS,PS C.X s t/\sP C t f
def SSs (C:Ctx)(ss:List Stmt)(f:SS):Prop:=∃ t:TS,PSs C.X ss t/\sP C t f
section
variable {C:Ctx}{a b c:Expr}{e:Expr}{f g h:EE}{F G:SS}{s:Stmt}{ss:List Stmt}{pos pos':Pos}{E:Ends}
theorem OkS.now {Hv₀ H₀:Hp}{st:Dv.St}{σ:St}{H:Hp}(q:OkS C Hv₀ H₀ E (.nx st))(r:Rel C.X.K Hv₀ H₀ st σ H):E.nx σ H:=q σ H r
theorem aA:SSs C [] Dv.sNil:=⟨_,bW,λ Hv₀ H₀ E σ H st r q=>q σ H r⟩
theorem ah (h1:SSt C s F)(h2:SSs C ss G):SSs C (s::ss) (Dv.sCons F G):=by
 obtain⟨t,p,q⟩:=h1;obtain⟨u,p2,q2⟩:=h2;refine⟨_,aG p p2,λ Hv₀ H₀ E σ H st r w=>?_⟩;refine q Hv₀ H₀ { E with nx:=u E } σ H st r ?_
 have w':OkS C Hv₀ H₀ E ((F st).bind G):=w;cases hf:F st with
 | nx st'=>rw[hf] at w';exact λ σ' H' r'=>q2 Hv₀ H₀ E σ' H' st' r' w'
 | ret d nw=>rw[hf] at w';exact w'
 | brk st=>rw[hf] at w';exact w'
 | cont st=>rw[hf] at w';exact w'
 | exc c st=>rw[hf] at w';exact w'
 | bad=>rw[hf] at w';exact w'
theorem aq (h1:SSt C s F):SSs C [s] F:=by
 obtain⟨t,p,q⟩:=h1;exact⟨t,aS p,q⟩
theorem cV:SSs C ss Dv.sNever:=⟨_,dh,λ Hv₀ H₀ E σ H st r q=>q⟩
theorem Tak.all {t:TE}(q:Tak C t f){Hv₀ H₀ Hc H:Hp}{O:Nat->Hp}{σ:St}{st:Dv.St}(r:RelC C.X.K Hv₀ H₀ Hc O st σ H){T:VK}
  (hx:∀ c,f (Dv.all st)=.exc c->∀ H',RelC C.X.K Hv₀ H₀ Hc O st σ H'->C.W σ (C.cls c) none H') (hb:f (Dv.all st)≠.bad)
  (ok:∀ d fr v Hv' H',f (Dv.all st)=.ok d fr->Ext (cQ Hc O H) H Hv' H'->RelC C.X.K Hv₀ H₀ Hc O st σ H'->Rp C.X.K Hv' d v->(fr=true->Rp [] (Hnew H H') d v)->T v H'):t σ H T:=by
 refine q σ H (cQ Hc O H) (Dv.all st) T r.envAll r.allH ?_
 cases hf:f (Dv.all st) with
 | bad=>exact absurd hf hb
 | exc c=>exact λ Hv' H' x=>hx c hf H' (r.grow x.hh x.nf)
 | ok d fr=>exact λ v Hv' H' x rp n=>ok d fr v Hv' H' hf x (r.grow x.hh x.nf) rp n
theorem Tak.open {t:TE}(q:Tak C t f){Hv₀ H₀ Hc H:Hp}{O:Nat->Hp}{σ:St}{st:Dv.St}(r:RelC C.X.K Hv₀ H₀ Hc O st σ H){T:VK}
  (hx:∀ c,f (Dv.open_ st)=.exc c->∀ Hc' H',Ext Hc H Hc' H'->C.W σ (C.cls c) none H') (hb:f (Dv.open_ st)≠.bad)
  (ok:∀ d fr v Hc' H',f (Dv.open_ st)=.ok d fr->Ext Hc H Hc' H'->RelC C.X.K Hv₀ H₀ Hc' O st σ H'->Rp C.X.K Hc' d v->T v H'):t σ H T:=by
 refine q σ H Hc (Dv.open_ st) T r.envOpen r.ch ?_
 cases hf:f (Dv.open_ st) with
 | bad=>exact absurd hf hb
 | exc c=>exact λ Hv' H' x=>hx c hf Hv' H' x
 | ok d fr=>exact λ v Hv' H' x rp n=>ok d fr v Hv' H' hf x (r.growC x) rp
theorem aC (he:SE C e f)(hs:autoParam (swapsWith e none pos.line C.X.env=pure false) ZF._auto_1):SSt C (.Expr e pos) (Dv.sExpr f):=by
 obtain⟨t,p,q⟩:=he;refine⟨_,cE p hs,λ Hv₀ H₀ E σ H st ⟨Hc,O,r⟩ w=>?_⟩;unfold Dv.sExpr at w;refine q.all r (λ c hf H' r'=>?_) (λ hf=>?_) λ d fr v Hv' H' hf x r' rp n=>?_
 ·rw[hf] at w;exact w σ H' ⟨Hc,O,r'⟩
 ·rw[hf] at w;exact w
 ·rw[hf] at w;exact w σ H' ⟨Hc,O,r'⟩
theorem RelC.ret {Hv₀ H₀ Hc H Hv' H':Hp}{O:Nat->Hp}{σ:St}{st:Dv.St}{K:yy}(r:RelC K Hv₀ H₀ Hc O st σ H)(x:Ext (cQ Hc O H) H Hv' H'):∃ Hv2,Ext Hv₀ H₀ Hv2 H'/\Same Hv' Hv2:=by
 have key:∀ b o,Hv' b=some o->Hv₀ b=none->H₀ b=none:=λ b o h n=>by
  cases q:cQ Hc O H b with
  | some u=>exact r.allNew b u q n
  | none=>exact r.h0.free (x.new b o h q)
 refine⟨λ b=>match H₀ b with|none=>H' b|some _=>Hv' b,⟨r.h0.trans x.hh,λ b o h=>?_,λ b o h=>?_,λ b o h n=>?_,λ b h=>?_,λ b o u h=>?_⟩,λ b o h=>?_⟩
 ·have h2:Hv' b=some o:=x.vv _ _ (r.cAll _ _ (r.vc b o h))
  show (match H₀ b with|none=>H' b|some _=>Hv' b)=some o
  cases H₀ b with
  | none=>exact x.vh b o h2
  | some _=>exact h2
 ·have h':(match H₀ b with|none=>H' b|some _=>Hv' b)=some o:=h
  cases q:H₀ b with
  | none=>rw[q] at h';exact h'
  | some _=>rw[q] at h';exact x.vh b o h'
 ·have h':(match H₀ b with|none=>H' b|some _=>Hv' b)=some o:=h
  cases q:H₀ b with
  | none=>rfl
  | some u=>
   rw[q] at h';have:=key b o h' n;rw[q] at this;cases this
 ·show (match H₀ b with|none=>H' b|some _=>Hv' b)=H' b
  rw[h]
 ·exact(r.grow x.hh x.nf).nf b o u h
 ·show (match H₀ b with|none=>H' b|some _=>Hv' b)=some o
  cases H₀ b with
  | none=>exact x.vh b o h
  | some _=>exact h
theorem aR (he:SE C e f):SSt C (.Return (some e) pos) (Dv.sRet f):=by
 obtain⟨t,p,q⟩:=he;refine⟨_,cw p,λ Hv₀ H₀ E σ H st ⟨Hc,O,r⟩ w=>?_⟩;unfold Dv.sRet at w;refine q.all r (λ c hf H' r'=>?_) (λ hf=>?_) λ d fr v Hv' H' hf x r' rp n=>?_
 ·rw[hf] at w;exact w σ H' ⟨Hc,O,r'⟩
 ·rw[hf] at w;exact w
 ·rw[hf] at w
  obtain⟨Hv2,x2,s2⟩:=r.ret x;exact w v Hv2 H' x2 (rp.same s2) λ z=>(n z).same (Hnew.mono r.h0 (.refl _))
theorem dq (i:Nat){x:Str}(hN:autoParam (C.X.N[i]?=some x) ZF._auto_1)(hv:autoParam (Vis C.X.env.scope x) ZH._auto_1)(hd:autoParam ((x == ("__debug__":Str))=false) ZC._auto_1)
  (hcd:autoParam ((x == ("__classdict__":Str))=false) ZC._auto_1):SSt C (.Return (some (.Name x pos')) pos) (Dv.sRetO i):=by
 refine⟨_,cw (cJ hN hv hd hcd),λ Hv₀ H₀ E σ H st ⟨Hc,O,r⟩ w=>?_⟩;unfold Dv.sRetO at w;obtain⟨Hv2,x2,s2⟩:=r.ret (.refl r.allH);cases hi:st[i]? with
 | none=>rw[hi] at w;exact Zf w
 | some s=>
  rw[hi] at w;cases s with
  | no=>exact Zf w
  | sh d=>
   obtain⟨v,h1,h2⟩:=r.sh i d hi;exact⟨v,h1,w v Hv2 H x2 ((h2.same r.cAll).same s2) λ z=>h2.scal z⟩
  | jk n m=>exact Zf w
  | dp d=>
   obtain⟨v,h1,h2⟩:=r.dp i d hi;exact⟨v,h1,w v Hv2 H x2 ((Rp.frag (h2.same (r.oAll i))).same s2) λ _=>h2.same λ b o h=>by
    unfold Hnew;rw[(r.oh i b o h).2.2];exact(r.oh i b o h).1⟩
  | ow d=>
   obtain⟨a,o,h1,h2,h3⟩:=r.ow i d hi;have rp:Rp C.X.K Hv2 d (.ref a):=by
    obtain⟨v,h6,h7⟩:=r.envAll i d (by unfold Dv.all;rw[wx,hi];rfl);rw[h1] at h6;cases h6;exact h7.same s2
   cases d with
   | lst ds=>
    refine⟨_,h1,w (.ref a) Hv2 H x2 rp λ z=>?_⟩;obtain⟨vs,rfl,h5⟩:=h3;unfold Rp;refine⟨a,vs,rfl,SqX.of ?_,h5.flat z⟩;unfold Hnew;rw[(r.oh i a _ h2).2.2];exact(r.oh i a _ h2).1
   | dct ks ds=>exact⟨_,h1,w (.ref a) Hv2 H x2 rp λ z=>nomatch z⟩
   | _=>exact Zf h3
theorem aN {pa pb:List Stmt}(hc:SC C c f)(ha:SSs C pa F)(hb:SSs C pb G):SSt C (.If c pa pb pos) (Dv.sIf f F G):=by
 obtain⟨tc,pc,qc⟩:=hc;obtain⟨t,p,q⟩:=ha;obtain⟨u,p2,q2⟩:=hb;refine⟨_,eh pc p p2,λ Hv₀ H₀ E σ H st ⟨Hc,O,r⟩ w=>?_⟩;unfold Dv.sIf at w;refine qc σ H (cQ Hc O H) (Dv.all st) _ r.envAll r.allH ?_
 cases hf:f (Dv.all st) with
 | bad=>rw[hf] at w;exact w
 | exc c=>rw[hf] at w;exact λ Hv' H' x=>w σ H' ⟨Hc,O,r.grow x.hh x.nf⟩
 | ok d fr=>
  rw[hf] at w;intro v Hv' H' x rp n;cases d with
  | bl b=>
   unfold Rp at rp;refine⟨b,rp,?_⟩;cases b with
   | true=>exact oS (q Hv₀ H₀ E σ H' st ⟨Hc,O,r.grow x.hh x.nf⟩ w)
   | false=>exact oI (q2 Hv₀ H₀ E σ H' st ⟨Hc,O,r.grow x.hh x.nf⟩ w)
  | _=>exact Zf w
theorem pM {t:TE}(q:Tak C t f)(i:Nat){Hv₀ H₀ H:Hp}{σ:St}{st:Dv.St}(r:Rel C.X.K Hv₀ H₀ st σ H)(w:OkS C Hv₀ H₀ E (Dv.sSet i f st)):t σ H λ v H'=>E.nx (σ.set i (some v)) H':=by
 obtain⟨Hc,O,r⟩:=r;unfold Dv.sSet at w;refine q.all r (λ c hf H' r'=>?_) (λ hf=>?_) λ d fr v Hv' H' hf x r' rp n=>?_
 ·rw[hf] at w;exact w σ H' ⟨Hc,O,r'⟩
 ·rw[hf] at w;exact w
 ·rw[hf] at w
  cases d with
  | lst ds=>
   simp only[Dv.keepD] at w;by_cases z:(fr&&Dv.flatL ds)=true
   ·simp only[z,if_true] at w
    rw[v8] at z;have rn:=n z.1;unfold Rp at rn;obtain⟨a,vs,rfl,h1,h2⟩:=rn;have h1':Hnew H H' a=some (.lst vs):=by
     rcases h1 with (h1|⟨o,h1⟩)|⟨its,m,e,_⟩
     ·exact h1
     ·exfalso
      have hn:H a=none:=by
       unfold Hnew at h1;cases q:H a with
       | none=>rfl
       | some u=>rw[q] at h1;cases h1
      exact x.nf a o _ hn (Hnew.sub a _ h1)
     ·simp at e
    have hn:H a=none:=by
     unfold Hnew at h1';cases q:H a with
     | none=>rfl
     | some u=>rw[q] at h1';cases h1'
    refine w _ H' ⟨Hc,_,r'.setOw (Hnew.sub a _ h1') (r.ch.free hn) (r.h0.free hn) (λ j _=>?_) ⟨vs,rfl,h2.flat z.2⟩⟩;cases q:O j a with
    | none=>rfl
    | some u=>have:=(r.oh j a u q).1;rw[hn] at this;cases this
   ·simp only[z] at w
    exact Zf w
  | tup ds=>exact Zf w
  | exn c=>exact Zf w
  | raw _=>exact Zf w
  | ins _ _=>exact Zf w
  | tab _=>exact Zf w
  | dct ks ds=>
   simp only[Dv.keepD] at w;by_cases z:(fr&&ks.isEmpty&&ds.isEmpty)=true
   ·simp only[z,if_true] at w
    simp only[v8,List.isEmpty_iff] at z;obtain⟨⟨z1,z2⟩,z3⟩:=z;subst z2 z3;have rn:=n z1;unfold Rp at rn;obtain⟨a,vs,rfl,_,h1,h2⟩:=rn;unfold RpL at h2;subst h2;have h1':Hnew H H' a=some (.dK []):=by
     rcases h1 with h1|⟨o,h1⟩
     ·exact h1
     ·exfalso
      have hn:H a=none:=by
       unfold Hnew at h1;cases q:H a with
       | none=>rfl
       | some u=>rw[q] at h1;cases h1
      exact x.nf a o _ hn (Hnew.sub a _ h1)
    have hn:H a=none:=by
     unfold Hnew at h1';cases q:H a with
     | none=>rfl
     | some u=>rw[q] at h1';cases h1'
    refine w _ H' ⟨Hc,_,r'.setOw (Hnew.sub a _ h1') (r.ch.free hn) (r.h0.free hn) (λ j _=>?_) ⟨[],rfl,rfl,.nil⟩⟩;cases q:O j a with
    | none=>rfl
    | some u=>have:=(r.oh j a u q).1;rw[hn] at this;cases this
   ·simp only[z] at w
    exact Zf w
  | _=>exact w _ H' ⟨Hc,O,r'.setSh (Rp.scal rfl rp)⟩
theorem aI {i:Nat}{x:Str}(he:SE C e f)(hN:C.X.N.Nodup)(hi:C.X.N[i]?=some x)(hx:Loc C.X.env.scope x)(hs:autoParam (swapsWith e (some (.Name x pos')) pos.line C.X.env=pure false) ZF._auto_1)
  (hf:autoParam (C.X.fn x=true\/C.X.env.scope.names.lookup x=some .local) ZB._auto_1):SSt C (.Assign [.Name x pos'] e pos) (Dv.sSet i f):=by
 obtain⟨t,p,q⟩:=he;exact⟨_,dG hN hi hx p hs hf,λ Hv₀ H₀ E σ H st r w=>pM q i r w⟩
theorem mF {t:TE}(q:Tak C t f)(is:List Nat)(i:Nat){Hv₀ H₀ H:Hp}{σ:St}{st:Dv.St}(r:Rel C.X.K Hv₀ H₀ st σ H)(w:OkS C Hv₀ H₀ E (Dv.sSetG is i f st)):t σ H λ v H'=>E.nx (σ.set i (some v)) H':=by
 obtain⟨Hc0,O0,r0⟩:=r;obtain⟨Hc,O,_,r⟩:=r0.give is;unfold Dv.sSetG at w;refine q.open r (λ c hf Hc' H' x=>?_) (λ hf=>?_) λ d fr v Hc' H' hf x r' rp=>?_
 ·rw[hf] at w;exact w σ H' ⟨Hc0,O0,r0.grow x.hh x.nf⟩
 ·rw[hf] at w;exact w
 ·rw[hf] at w
  exact w _ H' ⟨Hc',O,r'.setSh rp⟩
theorem iM (is:List Nat){i:Nat}{x:Str}(he:SE C e f)(hN:C.X.N.Nodup)(hi:C.X.N[i]?=some x)(hx:Loc C.X.env.scope x)(hs:autoParam (swapsWith e (some (.Name x pos')) pos.line C.X.env=pure false) ZF._auto_1)
  (hf:autoParam (C.X.fn x=true\/C.X.env.scope.names.lookup x=some .local) ZB._auto_1):SSt C (.Assign [.Name x pos'] e pos) (Dv.sSetG is i f):=by
 obtain⟨t,p,q⟩:=he;exact⟨_,dG hN hi hx p hs hf,λ Hv₀ H₀ E σ H st r w=>mF q is i r w⟩
theorem RelC.own {Hv₀ H₀ Hc H:Hp}{O:Nat->Hp}{σ:St}{st:Dv.St}{K:yy}{i:Nat}{ds:List D}(r:RelC K Hv₀ H₀ Hc O st σ H)(hi:st[i]?=some (.ow (.lst ds))):
  ∃ a vs,σ[i]?=some (some (.ref a))/\H a=some (.lst vs)/\RpL K Hc ds vs:=by
 obtain⟨a,o,h1,h2,vs,rfl,h3⟩:=r.ow i _ hi;exact⟨a,vs,h1,(r.oh i a _ h2).1,h3⟩
end
section
variable {C:Ctx}{a b c e o k:Expr}{f g h:EE}{fl:EL}{F G:SS}{s:Stmt}{ss:List Stmt}{pos pos':Pos}{E:Ends}
def Wlk (K:yy)(J:It)(Hv:Hp)(ds:List D):Prop:=
 ∀ (i:Nat) (H:Hp),Same Hv H->(∀ d,ds[i]?=some d->J.go i H/\∀ x H',J.yld i H x H'->∃ Hv',Ext Hv H Hv' H'/\Rp K Hv' d x)/\(i=ds.length->J.stop i H)
def OkI (K:yy)(Hv H:Hp)(W:XK)(cls:String->Value)(r:RI)(T:It->Hp->Prop):Prop:=match r with
 | .ok ds _=>∀ J Hv' H',Ext Hv H Hv' H'->Wlk K J Hv' ds->T J H'
 | .exc c=>∀ Hv' H',Ext Hv H Hv' H'->W (cls c) none H'
 | .bad=>False
def SI (C:Ctx)(tg it:Expr)(f:EI):Prop:=
 ∃ wi:TI,PI C.X tg it wi/\∀ σ H Hv ρ T,EnvR C.X.K Hv ρ σ->Same Hv H->OkI C.X.K Hv H (C.W σ) C.cls (f ρ) T->wi σ H T
theorem bx {tg:Expr}(he:SE C e f):SI C tg e (Dv.iSeq f):=by
 obtain⟨t,p,q⟩:=he;refine⟨_,qD p,λ σ H Hv ρ T er s w=>?_⟩;refine q σ H Hv ρ _ er s ?_
 unfold Dv.iSeq at w;cases hf:f ρ with
 | bad=>rw[hf] at w;exact w
 | exc c=>rw[hf] at w;exact w
 | ok d fr=>
  rw[hf] at w;intro v Hv' H' x rp n;cases d with
  | lst ds=>
   unfold Rp at rp;obtain⟨l,vs,rfl,h1,h2⟩:=rp;refine⟨l,rfl,⟨vs,(h1.same x.vh).seq⟩,w _ Hv' H' x λ i H2 s2=>⟨λ d hd=>?_,λ hi=>?_⟩⟩
   ·obtain⟨u,h3,h4⟩:=h2.get hd
    refine⟨⟨vs,u,(h1.same s2).seq,h3⟩,λ x H3 ⟨e1,hy⟩=>?_⟩;subst e1;have:=hy vs (h1.same s2).seq;rw[h3] at this;cases this;exact⟨Hv',.refl s2,h4⟩
   ·exact⟨vs,(h1.same s2).seq,by rw[h2.length,hi];exact wm _⟩
  | _=>exact Zf w
theorem lG (lo:Int):∀ (n i:Nat) (d:D),(Dv.rangeL lo n)[i]?=some d->i<n/\d=.int (lo+i):=by
 intro n
 induction n generalizing lo with
 | zero=>intro i d h;simp[Dv.rangeL] at h
 | succ n ih=>
  intro i d h;cases i with
  | zero=>simp[Dv.rangeL] at h;subst h;exact⟨⋯,by simp⟩
  | succ i=>
   simp only[Dv.rangeL,wR] at h;obtain⟨h1,h2⟩:=ih (lo+1) i d h;exact⟨⋯,by rw[h2];congr 1;omega⟩
theorem lQ (lo:Int):∀ n:Nat,(Dv.rangeL lo n).length=n:=by
 intro n
 induction n generalizing lo with
 | zero=>rfl
 | succ n ih=>simp[Dv.rangeL,ih]
theorem hU {K:yy}{Hv:Hp}(lo:Int)(n:Nat):Wlk K (Itr lo n) Hv (Dv.rangeL lo n):=λ i H s=>⟨λ d hd=>by
  obtain⟨h1,rfl⟩:=lG lo n i d hd;refine⟨h1,λ x H' ⟨e1,e2⟩=>?_⟩;subst e1 e2;exact⟨Hv,.refl s,bp⟩,λ hi=>by rw[lQ] at hi;subst hi;exact wm _⟩
theorem om {j:Int}(h:Dv.rngOk j=true):-(2 ^ 62)<=j/\j<2 ^ 62:=by
 unfold Dv.rngOk at h;simp only[v8,decide_eq_true_eq] at h;omega
theorem cR {tg:Expr}{p:Pos}(hg:Gl C.X "range")(hm:C.X.mg "range"=none)(he:SE C e f)(hs:autoParam (starEach [e] C.X.env=[(false,eval e C.X.env)]) ZF._auto_1):
  SI C tg (.Call (.Name "range" p) [e] [] pos) (Dv.iRange f):=by
 obtain⟨t,pe,q⟩:=he;refine⟨_,mz hg hm (au pe aM hs) hs,λ σ H Hv ρ T er s w=>?_⟩;refine q σ H Hv ρ _ er s ?_
 unfold Dv.iRange at w;cases hf:f ρ with
 | bad=>rw[hf] at w;exact w
 | exc c=>rw[hf] at w;exact w
 | ok d fr=>
  rw[hf] at w;intro v Hv' H' x rp n;cases d with
  | int j=>
   unfold Rp at rp;subst rp;by_cases hr:Dv.rngOk j=true
   ·simp only[hr,if_true] at w
    obtain⟨h1,h2⟩:=om hr;exact⟨j,rfl,h1,h2,w _ Hv' H' x (hU 0 j.toNat)⟩
   ·simp only[hr] at w
    exact Zf w
  | _=>exact Zf w
theorem lq {tg:Expr}{p:Pos}(hg:Gl C.X "range")(hm:C.X.mg "range"=none)(he:SE C e f)(hb:SE C b g)(hs:autoParam (starEach [e,b] C.X.env=[(false,eval e C.X.env),(false,eval b C.X.env)]) ZF._auto_1)
  (hs2:autoParam (starEach [b] C.X.env=[(false,eval b C.X.env)]) ZF._auto_1):SI C tg (.Call (.Name "range" p) [e,b] [] pos) (Dv.iRange2 f g):=by
 obtain⟨t,pe,q⟩:=he;obtain⟨t2,pe2,q2⟩:=hb;refine⟨_,mn hg hm (au pe (au pe2 aM hs2) (by rw[hs,hs2])) hs hs2,λ σ H Hv ρ T er s w=>?_⟩;refine q σ H Hv ρ _ er s ?_
 unfold Dv.iRange2 at w;cases hf:f ρ with
 | bad=>rw[hf] at w;exact w
 | exc c=>rw[hf] at w;exact w
 | ok d fr=>
  rw[hf] at w;intro v Hv' H' x rp n;cases d with
  | int i=>
   unfold Rp at rp;subst rp;refine q2 σ H' Hv' ρ _ (er.same x.vv) x.vh ?_
   cases hg':g ρ with
   | bad=>simp only[hg'] at w;exact w
   | exc c=>simp only[hg'] at w;exact λ Hv2 H2 y=>w Hv2 H2 (x.trans y)
   | ok d2 fr2=>
    simp only[hg'] at w;intro v2 Hv2 H2 y rp2 n2;cases d2 with
    | int j=>
     unfold Rp at rp2;subst rp2;by_cases hr:(Dv.rngOk i&&Dv.rngOk j)=true
     ·simp only[hr,if_true] at w
      rw[v8] at hr;obtain⟨h1,h2⟩:=om hr.1;obtain⟨h3,h4⟩:=om hr.2;exact⟨i,j,rfl,⟨h1,h2,h3,h4⟩,w _ Hv2 H2 (x.trans y) (hU i _)⟩
     ·simp only[hr] at w
      exact Zf w
    | _=>exact Zf w
  | _=>exact Zf w
def SG (C:Ctx)(tg:Expr)(st:D->Dv.St->Option Dv.St):Prop:=
 ∃ g:TG,PG C.X tg g/\∀ Hv₀ H₀ Hc O H σ s s' d v T,RelC C.X.K Hv₀ H₀ Hc O s σ H->Rp C.X.K Hc d v->st d s=some s'->(∀ σ' ,RelC C.X.K Hv₀ H₀ Hc O s' σ' H->T σ' H)->g v σ H T
theorem la {i:Nat}{x:Str}(hN:C.X.N.Nodup)(hi:C.X.N[i]?=some x)(hx:Loc C.X.env.scope x)(hf:autoParam (C.X.fn x=true\/C.X.env.scope.names.lookup x=some .local) ZB._auto_1):
  SG C (.Name x pos) (λ d s=>some (s.set i (.sh d))):=by
 refine⟨_,eB hN hi hx hf,λ Hv₀ H₀ Hc O H σ s s' d v T r rp e h=>?_⟩;cases e;exact h _ (r.setSh rp)
theorem RelC.self {K:yy}{Hv₀ H₀ Hc H:Hp}{O:Nat->Hp}{st:Dv.St}{σ:St}(r:RelC K Hv₀ H₀ Hc O st σ H):RelC K Hc H₀ Hc O st σ H:=
 ⟨r.h0,.refl _,r.ch,λ b o h n=>(by rw[n] at h;cases h),r.nf,r.len,r.sh,r.ow,r.dp,r.jk,r.oh,r.one⟩
theorem OkS.less {Hv₀ Hc H₀:Hp}{o:Out}(h:OkS C Hv₀ H₀ E o)(vc:Same Hv₀ Hc)(new:∀ b o,Hc b=some o->Hv₀ b=none->H₀ b=none):OkS C Hc H₀ E o:=by
 have rl:∀ {st σ H},Rel C.X.K Hc H₀ st σ H->Rel C.X.K Hv₀ H₀ st σ H:=λ⟨Hd,O,r⟩=>⟨Hd,O,r.less vc new⟩
 cases o with
 | nx st=>exact λ σ H r=>h σ H (rl r)
 | ret d nw=>
  refine λ v Hv' H' x rp n=>h v Hv' H' ⟨x.hh,vc.trans x.vv,x.vh,λ b o q m=>?_,x.all,x.nf⟩ rp n
  cases z:Hc b with
  | some u=>exact new b u z m
  | none=>exact x.new b o q z
 | brk st=>exact λ σ H r=>h σ H (rl r)
 | cont st=>exact λ σ H r=>h σ H (rl r)
 | exc c st=>exact λ σ H r=>h σ H (rl r)
 | bad=>exact h
theorem nu {tgt:D->Dv.St->Option Dv.St}{g:TG}{tb:TS}{J:It}{ds:List D}{Hc H₀ H:Hp}{σ:St}{st:Dv.St}
  (qg:∀ Hv₀ H₀ Hc O H σ s s' d v T,RelC C.X.K Hv₀ H₀ Hc O s σ H->Rp C.X.K Hc d v->tgt d s=some s'->(∀ σ' ,RelC C.X.K Hv₀ H₀ Hc O s' σ' H->T σ' H)->g v σ H T)
  (qb:sP C tb F) (wl:Wlk C.X.K J Hc ds) (r:Rel C.X.K Hc H₀ st σ H) (w:OkS C Hc H₀ E (Dv.forGoT tgt F ds st)):
  ∃ W:Nat->Nat->St->Hp->Prop,(∃ m,W 0 m σ H)/\∀ i m σ H,W i m σ H ->
   (J.stop i H/\E.nx σ H)\/(J.go i H/\∃ N:St->Hp->Prop,(∀ σ' H',N σ' H'->∃ m',m'<m/\W (i+1) m' σ' H')/\∀ x H',J.yld i H x H'->g x σ H' λ σ2 H2=>tb { E with nx:=N,ct:=N,bk:=E.nx } σ2 H2):=by
 refine⟨λ i m σ H=>m=ds.length-i/\i<=ds.length/\∃ st,Rel C.X.K Hc H₀ st σ H/\OkS C Hc H₀ E (Dv.forGoT tgt F (ds.drop i) st),⟨_,rfl,xD _,st,r,w⟩,?_⟩
 rintro i m σ H ⟨rfl,hi,st,⟨Hd,O,r⟩,w⟩
 obtain⟨w1,w2⟩:=wl i H (r.vc.trans r.ch);by_cases hlt:i<ds.length
 ·have hd:ds[i]?=some ds[i]:=by simp[hlt]
  have e1:ds.drop i=ds[i]::ds.drop (i+1):=wW hlt;rw[e1] at w;generalize ds[i]=d at hd e1 w;obtain⟨go,yl⟩:=w1 d hd;refine .inr ⟨go,λ σ' H'=>∃ st,Rel C.X.K Hc H₀ st σ' H'/\OkS C Hc H₀ E (Dv.forGoT tgt F (ds.drop (i+1)) st),λ σ' H' h=>⟨ds.length-(i+1),⋯,rfl,hlt,h⟩,λ x H' hy=>?_⟩;obtain⟨Hv',x1,rp⟩:=yl x H' hy;unfold Dv.forGoT at w;cases ht:tgt d st with
  | none=>simp only[ht] at w;exact Zf w
  | some st1=>
   simp only[ht] at w;have x2:Ext Hd H (λ b=>match H b with|none=>H' b|some _=>Hd b) H':=by
    refine⟨x1.hh,λ b o q=>?_,λ b o q=>?_,λ b o q n=>?_,λ b q=>?_,x1.nf⟩
    ·show (match H b with|none=>H' b|some _=>Hd b)=some o
     cases z:H b with
     | none=>rw[r.ch b o q] at z;cases z
     | some _=>exact q
    ·have q':(match H b with|none=>H' b|some _=>Hd b)=some o:=q
     cases z:H b with
     | none=>rw[z] at q';exact q'
     | some u=>rw[z] at q';exact x1.hh _ _ (r.ch b o q')
    ·have q':(match H b with|none=>H' b|some _=>Hd b)=some o:=q
     cases z:H b with
     | none=>rfl
     | some u=>rw[z] at q';rw[n] at q';cases q'
    ·show (match H b with|none=>H' b|some _=>Hd b)=H' b
     rw[q]
   have r2:=r.growC x2;have sub:Same Hv' (λ b=>match H b with|none=>H' b|some _=>Hd b):=λ b o q=>by
    show (match H b with|none=>H' b|some _=>Hd b)=some o
    cases z:H b with
    | none=>exact x1.vh b o q
    | some u=>
     cases z2:Hc b with
     | none=>have:=x1.new b o q z2;rw[z] at this;cases this
     | some u'=>
      have h1:=x1.vv b u' z2;rw[q] at h1;cases h1;exact r.vc b o z2
   refine qg Hc H₀ _ _ H' σ st st1 d x _ r2 (rp.same sub) ht λ σ2 r3=>?_
   refine qb Hc H₀ _ σ2 H' st1 ⟨_,_,r3⟩ ?_
   cases hb:F st1 with
   | nx st'=>simp only[hb] at w;exact λ σ' H' r'=>⟨st',r',w⟩
   | cont st'=>simp only[hb] at w;exact λ σ' H' r'=>⟨st',r',w⟩
   | brk st'=>simp only[hb] at w;exact w
   | ret d nw=>simp only[hb] at w;exact w
   | exc c st'=>simp only[hb] at w;exact w
   | bad=>simp only[hb] at w;exact w
 ·have e:i=ds.length:=⋯
  refine .inl ⟨w2 e,?_⟩;rw[e,xH] at w;exact w σ H ⟨Hd,O,r⟩
theorem lg (is:List Nat){tg it:Expr}{body:List Stmt}{tgt:D->Dv.St->Option Dv.St}{fi:EI}(hi:SI C tg it fi)(hg:SG C tg tgt)(hb:SSs C body F)(hcalm:autoParam (C.X.calm=true) ZF._auto_1)
  (hs:autoParam (∀ x,foldedSetIterable it C.X.env x=pure x) ZE._auto_1):SSt C (.For tg it body [] pos) (Dv.sForT is tgt fi F):=by
 obtain⟨wi,pi,qi⟩:=hi;obtain⟨g,pg,qg⟩:=hg;obtain⟨tb,pb,qb⟩:=hb;refine⟨_,km C.own hcalm pi pg pb hs,λ Hv₀ H₀ E σ H st ⟨Hc0,O0,r0⟩ w=>?_⟩;obtain⟨Hc,O,_,r⟩:=r0.give is;unfold Dv.sForT at w;refine qi σ H Hc (Dv.open_ (Dv.give is st)) _ r.envOpen r.ch ?_
 cases hf:fi (Dv.open_ (Dv.give is st)) with
 | bad=>simp only[hf] at w;exact w
 | exc c=>simp only[hf] at w;exact λ Hv' H' x=>w σ H' ⟨Hc0,O0,r0.grow x.hh x.nf⟩
 | ok ds fr=>
  simp only[hf] at w;intro J Hc' H' x wl;have r1:=r.growC x;exact nu qg qb wl ⟨Hc',O,r1.self⟩ (w.less r1.vc r1.new)
theorem fZ (x:Nat)(body:SS):∀ (ds:List D) (st:Dv.St),Dv.forGoT (λ d s=>some (s.set x (.sh d))) body ds st=Dv.forGo x body ds st
 | [],st=>rfl
 | d::r,st=>by
  unfold Dv.forGoT Dv.forGo;cases h:body (st.set x (.sh d)) with
  | nx st'=>simp only[h];exact fZ x body r st'
  | cont st'=>simp only[h];exact fZ x body r st'
  | _=>simp only[h]
theorem dS (is:List Nat){i:Nat}{x:Str}{it:Expr}{body:List Stmt}{fi:EI}(hi:SI C (.Name x pos') it fi)(hb:SSs C body F)(hN:C.X.N.Nodup)(hn:C.X.N[i]?=some x)(hx:Loc C.X.env.scope x)
  (hf:autoParam (C.X.fn x=true\/C.X.env.scope.names.lookup x=some .local) ZB._auto_1) (hs:autoParam (∀ x,foldedSetIterable it C.X.env x=pure x) ZE._auto_1) (hcalm:autoParam (C.X.calm=true) ZF._auto_1):
  SSt C (.For (.Name x pos') it body [] pos) (Dv.sFor is i fi F):=by
 obtain⟨t,p,q⟩:=lg (pos:=pos) is hi (la (pos:=pos') hN hn hx hf) hb hcalm hs;refine⟨t,p,λ Hv₀ H₀ E σ H st r w=>q Hv₀ H₀ E σ H st r ?_⟩;unfold Dv.sForT;unfold Dv.sFor at w;cases hf:fi (Dv.open_ (Dv.give is st)) with
 | bad=>simp only[hf] at w ⊢;exact w
 | exc c=>simp only[hf] at w ⊢;exact w
 | ok ds fr=>simp only[hf] at w ⊢;rw[fZ];exact w
theorem oZ (n:Nat){body:List Stmt}(hc:SC C c f)(hb:SSs C body F):SSt C (.While c body [] pos) (Dv.sWhile n f F):=by
 obtain⟨tc,pc,qc⟩:=hc;obtain⟨tb,pb,qb⟩:=hb;refine⟨_,mW C.own pc pb,λ Hv₀ H₀ E σ H st r w=>?_⟩;refine⟨λ m σ H=>∃ st,Rel C.X.K Hv₀ H₀ st σ H/\OkS C Hv₀ H₀ E (Dv.whileGo f F m st),⟨n,st,r,w⟩,?_⟩
 rintro m σ H ⟨st,⟨Hc,O,r⟩,w⟩
 cases m with
 | zero=>exact Zf w
 | succ m=>
  unfold Dv.whileGo at w;refine qc σ H (cQ Hc O H) (Dv.all st) _ r.envAll r.allH ?_
  cases hf:f (Dv.all st) with
  | bad=>simp only[hf] at w;exact w
  | exc c=>simp only[hf] at w;exact λ Hv' H' x=>w σ H' ⟨Hc,O,r.grow x.hh x.nf⟩
  | ok d fr=>
   intro v Hv' H' x rp nn;cases d with
   | bl b=>
    unfold Rp at rp;refine⟨b,rp,?_⟩;cases b with
    | true=>
     simp only[hf] at w;refine oS ⟨λ σ' H'=>∃ st,Rel C.X.K Hv₀ H₀ st σ' H'/\OkS C Hv₀ H₀ E (Dv.whileGo f F m st),λ σ' H' h=>⟨m,wN m,h⟩,?_⟩;refine qb Hv₀ H₀ _ σ H' st ⟨Hc,O,r.grow x.hh x.nf⟩ ?_
     cases hb:F st with
     | nx st'=>simp only[hb] at w;exact λ σ' H' r'=>⟨st',r',w⟩
     | cont st'=>simp only[hb] at w;exact λ σ' H' r'=>⟨st',r',w⟩
     | brk st'=>simp only[hb] at w;exact w
     | ret d nw=>simp only[hb] at w;exact w
     | exc c st'=>simp only[hb] at w;exact w
     | bad=>simp only[hb] at w;exact w
    | false=>
     simp only[hf] at w;exact oI (w σ H' ⟨Hc,O,r.grow x.hh x.nf⟩)
   | _=>simp only[hf] at w;exact Zf w
def spD (K:yy)(cls:String->Value)(F:List D->R)(n:Nat):Sp:=λ vs H Q E=>∃ ds Hv,ds.length=n/\Same Hv H/\RpL K Hv ds vs/\Ok K Hv H E cls (F ds) Q
theorem lh {K:yy}{cls:String->Value}{F:List D->R}{n:Nat}{vs:List V}{H:Hp}{Q:VK}{E:XK}(h:spD K cls F n vs H Q E):vs.length=n:=by
 obtain⟨ds,Hv,h1,_,h2,_⟩:=h;rw[h2.length,h1]
theorem mB {N:List Str}{vs:List V}{i:Nat}{v:V}(h:vs[i]?=some v):(L2.start N vs)[i]?=some (some v):=by
 have hl:i<vs.length:=(List.getElem?_eq_some_iff.mp h).1;unfold L2.start;rw[wF (by simpa using hl),wx,h];rfl
theorem ip {K:yy}{Hv H:Hp}{ds:List D}{vs:List V}{N:List Str}(s:Same Hv H)(rp:RpL K Hv ds vs)(hN:ds.length<=N.length):
  RelC K Hv H Hv (λ _ _=>none) (ds.map Sl.sh++List.replicate (N.length-ds.length) Sl.no) (L2.start N vs) H:=by
 have hl:=rp.length;have get:∀ {i:Nat} {x:Sl},(ds.map Sl.sh++List.replicate (N.length-ds.length) Sl.no)[i]?=some x->(∃ d,x=.sh d/\ds[i]?=some d)\/x=.no:=λ {i x} h=>by
  by_cases hi:i<ds.length
  ·rw[wF (by simpa using hi),wx] at h
   cases q:ds[i]? with
   | none=>rw[q] at h;cases h
   | some d=>rw[q] at h;cases h;exact .inl ⟨d,rfl,rfl⟩
  ·rw[wJ (by simpa using hi),xo] at h
   split at h
   ·cases h;exact .inr rfl
   ·cases h
 refine⟨.refl _,.refl _,s,λ b o h n=>(by rw[n] at h;cases h),λ b o u h=>(by rw[h];intro z;cases z),?_,λ i d h=>?_,λ i d h=>?_,λ i d h=>?_,λ i n m h=>?_,(λ i b o h=>nomatch h),(λ i j b o o' h=>nomatch h)⟩
 ·unfold L2.start
  simp only[wy,wg,w8];omega
 ·rcases get h with ⟨d',e,h2⟩|e
  ·cases e
   obtain⟨v,h3,h4⟩:=rp.get h2;exact⟨v,mB h3,h4⟩
  ·cases e
 ·rcases get h with ⟨d',e,_⟩|e <;>cases e
 ·rcases get h with ⟨d',e,_⟩|e <;>cases e
 ·rcases get h with ⟨d',e,_⟩|e <;>cases e
theorem nA {Hv H:Hp}{ds:List D}{Q:VK}{W:XK}{n:Nat}{body:SS}(hW:C.W=λ _=>W)(h:Ok C.X.K Hv H W C.cls (Dv.fn n body ds) Q):
  OkS C Hv H { nx:=λ _ H'=>Q .non H',rt:=Q } (body (ds.map Sl.sh++List.replicate (n-ds.length) Sl.no)):=by
 unfold Dv.fn at h;have ext:∀ {st σ' H'},Rel C.X.K Hv H st σ' H'->∃ Hv2,Ext Hv H Hv2 H':=λ {st σ' H'} ⟨Hc,O,r⟩=>by
  obtain⟨Hv2,x,_⟩:=r.ret (.refl r.allH);exact⟨Hv2,x⟩
 cases hb:body (ds.map Sl.sh++List.replicate (n-ds.length) Sl.no) with
 | nx st=>
  simp only[hb] at h;intro σ' H' r;obtain⟨Hv2,x⟩:=ext r;exact h .non Hv2 H' x oG λ _=>oG
 | ret d nw=>simp only[hb] at h;exact λ v Hv' H' x rp nn=>h v Hv' H' x rp nn
 | brk st=>simp only[hb] at h;exact Zf h
 | cont st=>simp only[hb] at h;exact Zf h
 | exc c st=>
  simp only[hb] at h;intro σ' H' r;obtain⟨Hv2,x⟩:=ext r;rw[hW];exact h Hv2 H' x
 | bad=>simp only[hb] at h;exact Zf h
end
structure CXok (P:Program)(w:World)(CX:CXT):Prop where
 no:∀ (outer:List yF) (H:Hp) (s:Shared) (e:Value) (s':Shared),CX outer H s (λ _ _ _=>False) e s'->False
 leave:∀ (K:yy) (mg:Str->Option Value) (base:Heap) (N:List Str) (qual:Str) (scope:Scope) (f:Addr) (cd:Value) (A:Around) (outer:List yF) (s:Shared) (H:Hp) (E:XK)
  (pins:List (Addr×Obj)) (σ:St) (H1:Hp) (s1:Shared) (e:Value) (s':Shared),Inv (bJ CX P w K mg base N qual scope f cd A outer s H E) pins σ H1 s1 ->
  CX (bJ CX P w K mg base N qual scope f cd A outer s H E).stack H1 s1 E e s'->(bJ CX P w K mg base N qual scope f cd A outer s H E).xe e s'
section
variable {P:Program}{w:World}{K:yy}{mg:Str->Option Value}{base:Heap}{CX:CXT}
def bh {P:Program}{w:World}(hC:CXok P w CX)(cls:String->Value)(K:yy)(mg:Str->Option Value)(base:Heap)(N:List Str)(qual:Str)(scope:Scope)(f:Addr)(cd:Value)(A:Around)(outer:List yF)(s:Shared)(H:Hp)(E:XK)
  {k:Nat} (hr:Room k (A.deeper (envOfC qual scope s.heap.objs.size f cd))):Ctx where
 X:=bJ CX P w K mg base N qual scope f cd A outer s H E
 W:=λ _=>E
 cls:=cls
 CX:=CX
 un:=hr.units
 own:=BJ
 pass:=λ pins σ H1 s1 e s' I h=>hC.leave K mg base N qual scope f cd A outer s H E pins σ H1 s1 e s' I h
 cxF:=hC.no
theorem uy (hC:CXok P w CX)(cls:String->Value){x qual:Str}{st:Stmt}{f:Addr}{N ps:List Str}{k:Nat}{body:SS}(oc:Value)(od:Option Addr)(dV kV doc pm:Value)(an:Option Addr)(cdv ct:Value)(osl:Array (Option Value))
  (lk:K.lookup f=some ⟨oc,od,.func (yJ x qual (aE st) (ax st) (ae st) dV kV doc pm an cdv ct),osl⟩) (hcd:zc K cdv qual=true) (S:FnScope N ps (ae st))
  (hbody:∀ (A:Around) (outer:List yF) (s:Shared) (H:Hp) (E:XK) (hr:Room k (A.deeper (envOfC qual (ae st) s.heap.objs.size f cdv))),
   SSs (bh hC cls K mg base N qual (ae st) f cdv A outer s H E hr) (ax st) body):
  FnOk P w K mg base CX (k+1) f (yJ x qual (aE st) (ax st) (ae st) dV kV doc pm an cdv ct) ps (spD K cls (Dv.fn N.length body) ps.length):=by
 refine rA lk hcd S (λ vs H Q E h=>lh h) λ A outer s H vs Q E hr h=>?_
 obtain⟨ds,Hv,hl,sv,rp,ok⟩:=h;obtain⟨t,p,q⟩:=hbody A outer s H E hr;have hpl:ps.length<=N.length:=by
  have:=congrArg List.length S.pre;rw[xq] at this;omega
 exact⟨t,p,q Hv H _ (L2.start N vs) H _ ⟨Hv,_,ip sv rp ⋯⟩ (nA (C:=bh hC cls K mg base N qual (ae st) f cdv A outer s H E hr) rfl ok)⟩
end
section
variable {C:Ctx}{a b c e o:Expr}{es:List Expr}{f g h:EE}{fl:EL}{F G:SS}{pos pos':Pos}{E:Ends}
theorem ni {X:Cx}{CX:CXT}{W:St->XK}{k:Nat}{fa:Addr}{fd:FuncData}{ps:List Str}{sp:Sp}{dvs:List V}{ds:List Value}{x:Str}{p:Pos}{t:TA}(Fn:FnOk X.prog X.w X.K X.mg X.base CX k fa fd ps sp)(hr:Room k X.A)(hg:Gl X x)(hm:X.mg x=some (.ref fa))(hk:yR X.K (.ref fa)=true)
  (hb:Binds X.K fd ps ds) (hd:Vals dvs ds) (hx:∀ (pins:List (Addr×Obj)) (σ:St) (H:Hp) (s:Shared) (e:Value) (s':Shared),Inv X pins σ H s->CX X.stack H s (W σ) e s'->X.xe e s')
  (ha:PA X (e::es) t) (hdb:(x == ("__debug__":Str))=false) (he:starEach (e::es) X.env=(false,eval e X.env)::starEach es X.env) (hpl:(backTo pos (starEach es X.env)).any (·.1)=false):
  PE X (.Call (.Name x p) (e::es) [] pos) (λ σ H Q=>t σ H λ vs H1=>sp (vs++dvs) H1 Q (W σ)):=by
 intro pins s σ H Q I h;refine y9 (cI I hg hm ?_ hdb);refine zT (h₀:=X.base) I.ok.mod.kin hk (thn (ha pos pins s σ H _ I h) λ us s1 ⟨vs,H1,I1,r,q⟩=>⟨I1.kIn,?_⟩) he hpl;have r2:Vals (vs++dvs) (us++ds):=r.append hd;have hl:(us++ds).length=ps.length:=by rw[<- r2.length];exact Fn.len _ _ _ _ q
 refine Bd (zJ (Fn.run X.A X.stack s1 H1 ⟨us,[]⟩ (us++ds) (vs++dvs) Q (W σ) hr I1.env0 (hb s1 us I1.kIn hl) r2 q) λ rr s' hq=>?_);cases rr with
 | error e=>exact hx pins σ H1 s1 e s' I1 hq
 | ok fl=>
  cases fl with
  | ret u=>exact I1.after hq
  | next=>exact yN hq
  | brk=>exact yN hq
  | cont=>exact yN hq
theorem qO {k j:Nat}{fa:Addr}{fd:FuncData}{ps:List Str}{Fm:List D->R}{dds:List D}{dvs:List V}{dus:List Value}{x:Str}{p:Pos}(Fn:FnOk C.X.prog C.X.w C.X.K C.X.mg C.X.base C.CX j fa fd ps (spD C.X.K C.cls Fm ps.length))(hr:Room k C.X.A)(hj:j<=k)
  (hg:Gl C.X x) (hm:C.X.mg x=some (.ref fa)) (hk:yR C.X.K (.ref fa)=true) (hb:Binds C.X.K fd ps dus) (hd:Vals dvs dus) (hdd:∀ K H,RpL K H dds dvs) (ha:SL C (e::es) fl) (hlen:autoParam ((e::es).length+dds.length=ps.length) ZF._auto_1)
  (hdb:autoParam ((x == ("__debug__":Str))=false) ZC._auto_1) (he:autoParam (starEach (e::es) C.X.env=(false,eval e C.X.env)::starEach es C.X.env) ZF._auto_1) (hpl:autoParam ((backTo pos (starEach es C.X.env)).any (·.1)=false) ZF._auto_1):
  SE C (.Call (.Name x p) (e::es) [] pos) (Dv.eCall (λ ds=>Fm (ds++dds)) fl):=by
 obtain⟨t,pa,qa,hl⟩:=ha;refine⟨_,ni (W:=C.W) (Fn.mono hj) hr hg hm hk hb hd C.pass pa hdb he hpl,λ σ H Hv ρ Q er s w=>?_⟩;refine qa.step er (.refl s) w λ vs ds fr Hv1 H1 hf x1 _ rp _ w1=>?_
 refine⟨ds++dds,Hv1,?_,x1.vh,rp.append (hdd _ _),Ok.later x1 w1⟩;rw[wy,hl ρ ds fr hf];exact hlen
def aH (X:Cx)(N:List Str)(scope:Scope)(cl:List (Str×Addr))(L:Addr)(s₀:Shared)(H₀:Hp)(ex:List Addr):Cx:=
 { X with N:=N,s₀:=s₀,H₀:=H₀,env:=compEnvC scope cl L X.env,outer:=X.stack,ex:=ex,fn:=λ _=>false,pn:=[],xe:=λ _ _=>False }
def cq (C:Ctx)(N:List Str)(scope:Scope)(cl:List (Str×Addr))(L:Addr)(s₀:Shared)(H₀:Hp)(ex:List Addr):Ctx where
 X:=aH C.X N scope cl L s₀ H₀ ex
 W:=λ _ _ _ _=>False
 cls:=C.cls
 CX:=C.CX
 un:=C.un
 own:=AW
 pass:=λ _ _ _ _ _ _ _ h=>C.cxF _ _ _ _ _ h
 cxF:=C.cxF
theorem dF {env:yF}:∀ (names:List (Str×NameKind)) (acc:List (Str×Addr)),(∀ y∈names,y.2=.free->∃ c,env.cells.lookup y.1=some c) ->
  ∃ cl,(forIn names acc λ (x:Str×NameKind) (cs:List (Str×Addr))=>(if (x.2 == .free)=true then do let a <- cellOf env x.1;pure (zE ((x.1,a)::cs)) else pure (zE cs):Sem (ForInStep (List (Str×Addr)))))=pure cl /\
   (∀ x c,cl.lookup x=some c->acc.lookup x=some c\/env.cells.lookup x=some c)/\(∀ y∈names,y.2=.free->∃ c,cl.lookup y.1=some c)/\(∀ x c,acc.lookup x=some c->∃ c',cl.lookup x=some c')
 | [],acc,_=>⟨acc,rfl,λ _ _ h=>.inl h,(λ _ h=>nomatch h),λ x c h=>⟨c,h⟩⟩
 | (n,k)::r,acc,h=>by
  simp only[xQ];by_cases hk:(k == yX)=true
  ·obtain⟨c,hc⟩:=h (n,k) wc (by simpa using hk)
   obtain⟨cl,e,h1,h2,h3⟩:=dF r ((n,c)::acc) λ y hy=>h y (v7 _ hy)
   refine⟨cl,?_,λ x d hx=>?_,λ y hy hf=>?_,λ x d hx=>?_⟩
   ·simp only[hk,if_true]
    have e2:cellOf env n=pure c:=by unfold cellOf;rw[hc]
    rw[e2];exact e
   ·rcases h1 x d hx with q|q
    ·rw[wA] at q
     cases z:x == n with
     | true=>
      rw[z] at q;have:x=n:=by simpa using z
      subst this;cases q;exact .inr hc
     | false=>rw[z] at q;exact .inl q
    ·exact .inr q
   ·rcases List.mem_cons.mp hy with rfl|hy
    ·exact h3 n c (by simp[wA])
    ·exact h2 y hy hf
   ·by_cases z:(x == n)=true
    ·exact h3 x c (by simp[wA,z])
    ·exact h3 x d (by rw[wA];simp only[Bool.not_eq_true] at z;rw[z];exact hx)
  ·obtain⟨cl,e,h1,h2,h3⟩:=dF r acc λ y hy=>h y (v7 _ hy)
   refine⟨cl,?_,h1,λ y hy hf=>?_,h3⟩
   ·simp only[hk]
    exact e
   ·rcases List.mem_cons.mp hy with rfl|hy
    ·exact absurd (by simpa using hf) hk
    ·exact h2 y hy hf
theorem f9 {env:yF}{scope:Scope}(h:∀ y∈scope.names,y.2=.free->∃ c,env.cells.lookup y.1=some c):
  ∃ cl,closureFor scope env=pure cl/\(∀ x c,cl.lookup x=some c->env.cells.lookup x=some c)/\∀ y∈scope.names,y.2=.free->∃ c,cl.lookup y.1=some c:=by
 obtain⟨cl,e,h1,h2,_⟩:=dF scope.names [] h;refine⟨cl,?_,λ x c hx=>?_,h2⟩
 ·unfold closureFor
  exact(congrArg (λ m:Sem (List (Str×Addr))=>m >>= λ s=>pure s) e).trans rfl
 ·rcases h1 x c hx with q|q
  ·simp at q
  ·exact q
end
theorem kh {prog:Program}{w:World}{A:Around}{T:Result->Shared->Prop}{s:Shared}{elt target iter:Expr}{ifs:List Expr}{scope:Scope}{pos:Pos}{it acc:Value}{env:yF}(J:Nat->Shared->Prop)
  (turn:∀ n s,J n s->wpAny (model prog w) A (pyNext it) (λ r s1=>match r with
   | none=>T (.ok .next) s1
   | some v=>wpAny (model prog w) A (letOwnedTupleGo target it v) (λ _ s2=>wpAny (model prog w) A (assign target env v) (λ _ s3=>
     wpAny (model prog w) A (forIn ifs true λ c r=>if r=true then do let ok <- isTrue c env (eval c env);pure (zE ok) else pure (zE r)) (λ ok s4=>
      if ok=true then wpAny (model prog w) A (eval elt env) (λ x s5=>wpAny (model prog w) A (call (.builtin "list.append") [acc,x]) (λ _ s6=>∃ m,m<n/\J m s6) (λ _ _=>False) s5) (λ _ _=>False) s4
      else ∃ m,m<n/\J m s4) (λ _ _=>False) s3) (λ _ _=>False) s2) (λ _ _=>False) s1) (λ _ _=>False) s)
  (n:Nat) (h:J n s):codeAny (model prog w) A (.compLoop (.ListComp elt [⟨target,iter,ifs,0⟩] scope pos) 0 it acc env) T s:=by
 refine codeAny_loop rfl J (λ n s hJ=>?_) n h;show wpAny _ A ((compTurn (.ListComp elt [⟨target,iter,ifs,0⟩] scope pos) 0 it acc env).onRaise (λ x=>do noteFrame x env;theTreesLotGoes x)) _ _ s
 refine wpAny_noted ?_
 rw[compTurn_list];refine yz (Aa (yz (yC (turn n s hJ) (λ r s1 h1=>?_) λ _ _ z=>z.elim)));cases r with
 | none=>exact yE h1
 | some v=>
  refine yz (yC h1 (λ _ s2 h2=>yz (yC h2 (λ _ s3 h3=>yz (yC h3 (λ ok s4 h4=>?_) λ _ _ z=>z.elim)) λ _ _ z=>z.elim)) λ _ _ z=>z.elim);cases ok with
  | false=>exact yE ⟨rfl,h4⟩
  | true=>
   refine yz (yz (yC h4 (λ x s5 h5=>yz (yC h5 (λ _ s6 h6=>?_) λ _ _ z=>z.elim)) λ _ _ z=>z.elim));exact yE (yE ⟨rfl,h6⟩)
theorem eg {env:yF}:∀ {names:List (Str×NameKind)} {x:Str},names.lookup x=some .free ->
  (names.map λ (n,k)=>if (k == yX&&env.scope.kind == .function&&env.kindOf n == some .cell) then (n,Bl) else (n,k)).lookup x=some .cell \/
  (names.map λ (n,k)=>if (k == yX&&env.scope.kind == .function&&env.kindOf n == some .cell) then (n,Bl) else (n,k)).lookup x=some .free
 | [],_,h=>by simp at h
 | (n,k)::r,x,h=>by
  have ih:=@eg env r x;simp only[we];cases hx:x == n with
  | true=>
   simp only[wA,hx] at h;cases h;by_cases hc:(yX == yX&&env.scope.kind == .function&&env.kindOf n == some .cell)=true
   ·rw[if_pos hc];left;simp[wA,hx]
   ·rw[if_neg hc];right;simp[wA,hx]
  | false=>
   simp only[wA,hx] at h;by_cases hc:(k == yX&&env.scope.kind == .function&&env.kindOf n == some .cell)=true
   ·rw[if_pos hc];simp only[wA,hx];exact ih h
   ·rw[if_neg hc];simp only[wA,hx];exact ih h
theorem dU {env:yF}:∀ {names:List (Str×NameKind)} {x:Str} {kd:NameKind},(∀ y∈names,y.2≠.cell)->kd=.cell\/kd=.free ->
  (names.map λ (n,k)=>if (k == yX&&env.scope.kind == .function&&env.kindOf n == some .cell) then (n,Bl) else (n,k)).lookup x=some kd->(x,yX)∈names
 | [],_,_,_,_,h=>by simp at h
 | (n,k)::r,x,kd,nc,hk,h=>by
  have ih:=@dU env r x kd (λ y hy=>nc y (v7 _ hy)) hk;simp only[we] at h;cases hx:x == n with
  | true=>
   have e:x=n:=by simpa using hx
   subst e;by_cases hc:(k == yX&&env.scope.kind == .function&&env.kindOf x == some .cell)=true
   ·have:k=.free:=by
     simp only[v8,beq_iff_eq] at hc;exact hc.1.1
    subst this;exact wc
   ·rw[if_neg hc] at h
    simp only[wA,hx] at h;have e2:k=kd:=by simpa using h
    subst e2
    rcases hk with rfl|rfl
    ·exact absurd rfl (nc (x,.cell) wc)
    ·exact wc
  | false=>
   refine v7 _ (ih ?_);by_cases hc:(k == yX&&env.scope.kind == .function&&env.kindOf n == some .cell)=true
   ·rw[if_pos hc] at h;simp only[wA,hx] at h;exact h
   ·rw[if_neg hc] at h;simp only[wA,hx] at h;exact h
theorem mem_lookup {α β:Type}[BEq α][LawfulBEq α]:∀ {l:List (α×β)} {x:α} {y:β},l.lookup x=some y->(x,y)∈l
 | [],_,_,h=>by simp at h
 | (a,b)::r,x,y,h=>by
  rw[wA] at h;cases hx:x == a with
  | true=>
   rw[hx] at h;have e:x=a:=by simpa using hx
   subst e;cases h;exact wc
  | false=>rw[hx] at h;exact v7 _ (mem_lookup h)
def STs (C:Ctx)(ifs:List Expr)(f:EE):Prop:=
 ∃ t:TT,(∀ (pins:List (Addr×Obj)) (s:Shared) (σ:St) (H:Hp) (Q:Bool->Hp->Prop),Inv C.X pins σ H s->t σ H Q ->
  wpAny (model C.X.prog C.X.w) C.X.A (forIn ifs true λ c r=>if r=true then do let ok <- isTrue c C.X.env (eval c C.X.env);pure (zE ok) else pure (zE r)) (TP C.X pins σ Q) C.X.xe s)/\TakC C t f
theorem eT {C:Ctx}:STs C [] (Dv.eBl true):=
 ⟨λ _ H Q=>Q true H,λ pins s σ H Q I h=>wpAny_tests_nil ⟨H,I,h⟩,λ σ H Hv ρ Q e s q=>by
  obtain⟨b,e1,q⟩:=q.now (v:=.bl true) s bI rfl;cases e1;exact q⟩
theorem eU {C:Ctx}{c:Expr}{f:EE}(h:SC C c f):STs C [c] f:=by
 obtain⟨t,p,q⟩:=h;exact⟨t,λ pins s σ H Q I h=>wpAny_tests_one (p pins s σ H Q I h),q⟩
theorem b7 {P:Program}{w:World}{H:Hp}{h:Heap}{a:Addr}{o:HO}(x:HOk P w H h)(hn:H a=none)(new:ObjOk P w (upd H a o) h a o):HOk P w (upd H a o) h:=λ b u e=>by
 by_cases hb:b=a
 ·subst hb;rw[ao] at e;cases e;exact new
 ·rw[ai hb] at e
  exact(x b u e).stay (λ c v _ q=>q) (λ c q=>by rw[ai (ak q hn)];exact q) λ c xs q=>by rw[ai (ak q hn)];exact q
theorem qd {P:Program}{w:World}{H:Hp}{h h':Heap}{a:Addr}(x:HOk P w H h)(hn:H a=none)(k:∀ b o,b≠a->h.get? b=some o->h'.get? b=some o):HOk P w H h':=λ b u e=>by
 refine(x b u e).stay (λ c v hc q=>k c v ?_ q) (λ c q=>q) λ c xs q=>q
 rcases hc with rfl|hc
 ·exact ak e hn
 ·exact ak hc hn
section
variable {C:Ctx}
theorem nD {ρ:Dv.Env}{is:List Nat}{j:Nat}{d:D}(h:(Dv.pick ρ is)[j]?=some (some d)):∃ i,is[j]?=some i/\ρ[i]?=some (some d):=by
 unfold Dv.pick at h;rw[wx] at h;cases q:is[j]? with
 | none=>rw[q] at h;cases h
 | some i=>
  rw[q] at h;have h':(ρ[i]?).getD none=some d:=Option.some.inj h;refine⟨i,rfl,?_⟩;cases z:ρ[i]? with
  | none=>rw[z] at h';cases h'
  | some o=>rw[z] at h';exact congrArg some h'
def bq (σ:St)(is:List Nat):St:=is.map λ i=>(σ[i]?).getD none
theorem l6 {σ:St}{is:List Nat}{j i:Nat}{v:V}(hi:is[j]?=some i)(h:σ[i]?=some (some v)):(bq σ is)[j]?=some (some v):=by
 unfold bq;rw[wx,hi];show some ((σ[i]?).getD none)=_
 rw[h];rfl
theorem nF {σ:St}{is:List Nat}{j:Nat}{v:V}(h:(bq σ is)[j]?=some (some v)):∃ i,is[j]?=some i/\σ[i]?=some (some v):=by
 unfold bq at h;rw[wx] at h;cases q:is[j]? with
 | none=>rw[q] at h;cases h
 | some i=>
  rw[q] at h;have h':(σ[i]?).getD none=some v:=Option.some.inj h;refine⟨i,rfl,?_⟩;cases z:σ[i]? with
  | none=>rw[z] at h';cases h'
  | some o=>rw[z] at h';exact congrArg some h'
end
theorem l9 {Hv1 H1 Hvn Hn Hv' H':Hp}(x:Ext Hv1 H1 Hvn Hn)(y:Ext Hv1 Hn Hv' H'):∃ Hvm,Ext Hvn Hn Hvm H'/\Same Hv' Hvm:=by
 refine⟨λ b=>match Hn b with|none=>H' b|some _=>Hvn b,⟨y.hh,λ b o q=>?_,λ b o q=>?_,λ b o q n=>?_,λ b q=>?_,y.nf⟩,λ b o q=>?_⟩
 ·show (match Hn b with|none=>H' b|some _=>Hvn b)=some o
  cases z:Hn b with
  | none=>rw[x.vh b o q] at z;cases z
  | some _=>exact q
 ·have q':(match Hn b with|none=>H' b|some _=>Hvn b)=some o:=q
  cases z:Hn b with
  | none=>rw[z] at q';exact q'
  | some u=>rw[z] at q';exact y.hh _ _ (x.vh b o q')
 ·have q':(match Hn b with|none=>H' b|some _=>Hvn b)=some o:=q
  cases z:Hn b with
  | none=>rfl
  | some u=>rw[z] at q';rw[n] at q';cases q'
 ·show (match Hn b with|none=>H' b|some _=>Hvn b)=H' b
  rw[q]
 ·show (match Hn b with|none=>H' b|some _=>Hvn b)=some o
  cases z:Hn b with
  | none=>exact y.vh b o q
  | some u=>
   cases z2:Hv1 b with
   | none=>have:=y.new b o q z2;rw[z] at this;cases this
   | some u'=>
    have h1:=y.vv b u' z2;rw[q] at h1;cases h1;exact x.vv b o z2
section
variable {C:Ctx}{elt iter:Expr}{x:Str}{px pos:Pos}{ifs:List Expr}{scope:Scope}{fs:List Str}{is:List Nat}{fi:EI}{fe fc:EE}
def i0 (C:Ctx)(pins:List (Addr×Obj))(σ:St)(Q:VK)(Da L:Addr)(s5:Shared):Prop:=
 (∃ m,s5.heap.Ns L m)/\L≠C.X.env.locals/\(∀ x c,C.X.env.cells.lookup x=some c->c≠L)/\C.X.s₀.heap.objs.size<=L/\(∀ p∈C.X.pn++pins,p.1≠L) /\
  ∃ H',H' L=none/\Q (.ref Da) H'/\∀ h',(∀ b,b≠L->h'.get? b=s5.heap.get? b)->Inv C.X pins σ H' { s5 with heap:=h' }
end
section
variable {C:Ctx}{a b c e o k:Expr}{es:List Expr}{f g h:EE}{fl:EL}{F G:SS}{pos pos':Pos}{E:Ends}
theorem fQ (n d:Nat)(o:Option Int):Dv.cutI n d o=HT.sIx n d o:=by cases o <;>rfl
theorem RpL.drop {K:yy}{H:Hp}:∀ {ds:List D} {vs:List V} (n:Nat),RpL K H ds vs->RpL K H (ds.drop n) (vs.drop n)
 | _,_,0,h=>h
 | [],_,n+1,h=>by unfold RpL at h;subst h;exact .nil
 | d::r,vs,n+1,h=>by
  unfold RpL at h;obtain⟨v,ws,rfl,_,h3⟩:=h;exact RpL.drop n h3
theorem RpL.take {K:yy}{H:Hp}:∀ {ds:List D} {vs:List V} (n:Nat),RpL K H ds vs->RpL K H (ds.take n) (vs.take n)
 | _,_,0,_=>.nil
 | [],_,n+1,h=>by unfold RpL at h;subst h;exact .nil
 | d::r,vs,n+1,h=>by
  unfold RpL at h;obtain⟨v,ws,rfl,h2,h3⟩:=h;exact .cons h2 (RpL.take n h3)
theorem RpL.cut {K:yy}{H:Hp}{ds:List D}{vs:List V}(h:RpL K H ds vs)(lo hi:Option Int):RpL K H (Dv.cutL ds lo hi) (lV vs lo hi):=by
 unfold Dv.cutL lV;rw[h.length,fQ,fQ];exact(h.drop _).take _
def SO (C:Ctx)(e:Option Expr)(f:Option EE):Prop:=
 ∃ t:TO,PO C.X e t/\∀ σ H Hv ρ (Q:VK) (T:Option Int->Hp->Prop) (k:Option Int->R) Hv1 H1,EnvR C.X.K Hv ρ σ->Ext Hv H Hv1 H1->Ok C.X.K Hv H (C.W σ) C.cls (Dv.ePart f ρ k) Q ->
  (∀ i Hv2 H2,Ext Hv H Hv2 H2->Ext Hv1 H1 Hv2 H2->Ok C.X.K Hv H (C.W σ) C.cls (k i) Q->T i H2)->t σ H1 T
theorem bP:SO C none none:=⟨_,qj,λ σ H Hv ρ Q T k Hv1 H1 e x q n=>n none Hv1 H1 x (.refl x.vh) q⟩
theorem bO (he:SE C e f):SO C (some e) (some f):=by
 obtain⟨t,p,q⟩:=he;refine⟨_,qL p,λ σ H Hv ρ Q T k Hv1 H1 er x w n=>?_⟩;refine Tak.step q er x w λ v d fr Hv2 H2 hf x2 y2 rp _ w2=>?_
 cases d with
 | int i=>
  unfold Rp at rp;exact⟨i,rp,n (some i) Hv2 H2 x2 y2 w2⟩
 | _=>exact Zf w2
theorem bQ {lo hi:Option Expr}{fl fh:Option EE}{p2:Pos}(he:SE C e f)(hl:SO C lo fl)(hh:SO C hi fh):SE C (.Subscript e (.Slice lo hi none p2) pos) (Dv.eSlice f fl fh):=by
 obtain⟨t,p,q⟩:=he;obtain⟨tl,pl,ql⟩:=hl;obtain⟨th,ph,qh⟩:=hh;refine⟨_,jm qU p pl ph,λ σ H Hv ρ Q er s w=>?_⟩;refine Tak.step q er (.refl s) w λ v d fr Hv1 H1 _ x1 _ rp1 n1 w1=>?_
 refine ql σ H Hv ρ Q _ _ Hv1 H1 er x1 w1 λ i Hv2 H2 x2 y2 w2=>?_
 refine qh σ H Hv ρ Q _ _ Hv2 H2 er x2 w2 λ j Hv3 H3 x3 y3 w3=>?_
 have y13:=y2.trans y3;cases d with
 | lst ds=>
  cases fr with
  | true=>
   have rn:=(n1 rfl).same (Hnew.mono (.refl _) y13.hh);unfold Rp at rn;obtain⟨l,vs,rfl,h1,h2⟩:=rn;have h1':SqX C.X.K H3 l vs:=by
    rcases h1 with h1|⟨its,n,e,_⟩
    ·exact .inl (Rd.same Hnew.sub h1)
    ·simp at e
   exact⟨l,vs,rfl,h1'.seq,λ p hp=>Ok.newL (fr:=true || Dv.flatL (Dv.cutL ds i j)) w3 x3 (((RpL.frag h2).same x3.news).cut i j) (λ _=>h2.cut i j) p hp⟩
  | false=>
   have rp:=rp1.same y13.vv;unfold Rp at rp;obtain⟨l,vs,rfl,h1,h2⟩:=rp;exact⟨l,vs,rfl,(h1.same x3.vh).seq,λ p hp=>Ok.newL (fr:=false || Dv.flatL (Dv.cutL ds i j)) w3 x3 (h2.cut i j) (λ z=>(h2.cut i j).flat (by simpa using z)) p hp⟩
 | _=>exact Zf w3
def tyD:D->String
 | .non=>"NoneType"
 | .bl _=>"bool"
 | .int _=>"int"
 | .str _=>"str"
 | .lst _=>"list"
 | .tup _=>"tuple"
 | .exn _=>"BaseException"
 | .raw _=>"BaseException"
 | .tab _=>"BaseException"
 | .ins _ _=>"BaseException"
 | .dct _ _=>"dict"
theorem m7 {X:Cx}:cb X (.builtin "isinstance") (λ xs H Q=>∃ x d T b,xs=[x,.ty T]/\Rp X.K H d x/\Dv.noTy d=false/\yU X.K (.type (tyD d)) (.type T)=some b/\Q (.bl b) H):=by
 intro pins s σ H xs us Q I r h;obtain⟨x,d,T,b,rfl,rp,hnx,hk,q⟩:=h;obtain⟨u,w',rfl,ru,rw'⟩:=vals2 r;have rw2:w'=yP T:=rw';subst rw2;have fin:∀ tk,EP X pins σ Q (.bool b) { s with toks:=tk }:=λ tk=>⟨.bl b,H,I.tok tk,rfl,q⟩
 cases d with
 | non=>unfold Rp at rp;subst rp;cases ru;exact yZ PySem.W.kitx_none I.kIn zm hk (λ z=>nomatch z) fin
 | bl y=>unfold Rp at rp;subst rp;cases ru;exact yZ PySem.W.kitx_bool I.kIn zm hk (λ z=>nomatch z) fin
 | int i=>unfold Rp at rp;subst rp;obtain⟨t,rfl⟩:=ru;exact yZ PySem.W.kitx_int I.kIn zm hk (λ z=>nomatch z) fin
 | str y=>unfold Rp at rp;subst rp;obtain⟨t,rfl⟩:=ru;exact yZ PySem.W.kitx_str I.kIn zm hk (λ z=>nomatch z) fin
 | lst ds=>
  unfold Rp at rp;obtain⟨l,vs,rfl,h1,h2⟩:=rp;cases ru;obtain⟨its,n,rv,e,_⟩:=Inv.listX I h1;exact yZ PySem.W.kitx_list I.kIn ⟨_,e,rfl⟩ hk (λ z=>nomatch z) fin
 | tup ds=>
  unfold Rp at rp;obtain⟨l,vs,rfl,h1,h2⟩:=rp;cases ru;obtain⟨_,its,rv,ob,e,hc,n,hd⟩:=h1.ok I.hok;exact yZ PySem.W.kitx_tuple I.kIn ⟨ob,e,hc⟩ hk (λ z=>nomatch z) fin
 | exn c=>exact absurd hnx (by simp[Dv.noTy])
 | raw c=>exact absurd hnx (by simp[Dv.noTy])
 | ins c d=>exact absurd hnx (by simp[Dv.noTy])
 | tab c=>exact absurd hnx (by simp[Dv.noTy])
 | dct ks ds=>
  unfold Rp at rp;obtain⟨l,vs,rfl,h0,h1,h2⟩:=rp;cases ru;exact yZ PySem.W.kitx_dict I.kIn (sA I (.inl ⟨_,h1⟩)).1 hk (λ z=>nomatch z) fin
theorem sJ {x:Str}{T:String}{p p2:Pos}{F:D->Bool->R}(β:D->Bool)(hF:∀ d fr,Dv.noTy d=false->F d fr=.ok (.bl (β d)) true)(hX:∀ d fr,Dv.noTy d=true->F d fr=.bad)(hβ:∀ K d,yU K (.type (tyD d)) (.type T)=some (β d))(hg:Gl C.X "isinstance")(hm:C.X.mg "isinstance"=none)(hgx:Gl C.X x)(hmx:C.X.mg x=none)
  (hvx:bootBuiltins x=some (.type T)) (ha:SE C a f) (hn:autoParam (x≠"__name__") ZC._auto_1) (hdb:autoParam ((x == ("__debug__":Str))=false) ZC._auto_1) (he:autoParam (starEach [a,.Name x p2] C.X.env=(false,eval a C.X.env)::starEach [.Name x p2] C.X.env) ZF._auto_1)
  (he2:autoParam (starEach [.Name x p2] C.X.env=[(false,eval (.Name x p2) C.X.env)]) ZF._auto_1):SE C (.Call (.Name "isinstance" p) [a,.Name x p2] [] pos) (Dv.eB1 F f):=by
 obtain⟨t,pa,qa⟩:=ha;refine⟨_,cB m7 hg hm (by decide +kernel) (au pa (au (ko (v:=.ty T) hgx hmx hvx rfl hn hdb) aM he2) he) (by decide) (by decide) he (by rw[he2];rfl),λ σ H Hv ρ Q e s w=>?_⟩;refine qa.step e (.refl s) w λ v d fr Hv1 H1 _ x1 _ rp1 _ q1=>?_
 by_cases hd:Dv.noTy d=true
 ·rw[hX d fr hd] at q1
  exact q1.elim
 ·have hd':Dv.noTy d=false:=by simpa using hd
  rw[hF d fr hd'] at q1;exact⟨v,d,T,β d,rfl,rp1.same x1.vh,hd',hβ _ d,q1.at x1 bI rfl⟩
theorem lE {X:Cx}:vw X (λ x y H Q=>∃ p xs i v,x=.ref p/\y=.int i/\0<=i/\SqL X.K H p xs/\atI xs i=some v/\Q v H):=by
 intro pins s σ H o i ov iv Q I ro ri h;obtain⟨p,xs,k,v,rfl,rfl,h0,hq,he,q⟩:=h;cases ro;obtain⟨t,rfl⟩:=ri;obtain⟨its,r,pl,hz⟩:=I.list hq;obtain⟨j,h1,h2,h3,h4,h5⟩:=dY he;obtain⟨w,ew,rw'⟩:=r.get h2;have hn:=dH;have hj:k.toNat=j:=by
  rw[A1 h0 h5] at h1;exact Option.some.inj h1
 exact wpAny_getItem_list pl.isList h0 ⋯ (by rw[hj];simpa using ew) ⟨v,H,I,rw',q⟩
theorem mQ {i:Nat}{x:Str}{px kpos:Pos}(he:SE C e f)(hk:SE C k g)(hN:autoParam (C.X.N[i]?=some x) ZF._auto_1)(hv:autoParam (Vis C.X.env.scope x) ZH._auto_1)
    (hd:autoParam ((x == ("__debug__":Str))=false) ZC._auto_1) (hcd:autoParam ((x == ("__classdict__":Str))=false) ZC._auto_1)
    (ha:autoParam (∀ v,assign (.Subscript (.Name x px) k kpos) C.X.env v=(do
      let ov <- holding [v] (eval (.Name x px) C.X.env)
      let iv <- holding [v,ov] (eval k C.X.env)
      standAt kpos
      holding [v,ov,iv] (setItem ov iv v)
      release [v,ov,iv] [])) ZE._auto_1)
    (hs:autoParam (swapsWithSole [.Subscript (.Name x px) k kpos] e pos.line C.X.env=pure false) ZF._auto_1) (hw:autoParam (swappedStores [.Subscript (.Name x px) k kpos] e C.X.env=pure none) ZF._auto_1)
    (h1:autoParam ((assignEach [.Subscript (.Name x px) k kpos] C.X.env).map (·.2)=[assign (.Subscript (.Name x px) k kpos) C.X.env]) ZF._auto_1):SSt C (.Assign [.Subscript (.Name x px) k kpos] e pos) (Dv.sPut i g f):=by
  obtain⟨t,p,q⟩:=he;obtain⟨t2,p2,q2⟩:=hk;refine⟨_,sU p (tG (cJ hN hv hd hcd) p2 set_list ha) hs hw h1,λ Hv₀ H₀ E σ H st ⟨Hc,O,r⟩ w=>?_⟩;unfold Dv.sPut at w;cases hi:st[i]? with
  | none=>rw[hi] at w;exact Zf w
  | some s=>
    rw[hi] at w;cases s with
    | no=>exact Zf w
    | sh d=>exact Zf w
    | dp d=>exact Zf w
    | jk n m=>exact Zf w
    | ow d0=>
     cases d0 with
     | non=>exact Zf w
     | bl _=>exact Zf w
     | int _=>exact Zf w
     | str _=>exact Zf w
     | tup _=>exact Zf w
     | exn _=>exact Zf w
     | raw _=>exact Zf w
     | ins _ _=>exact Zf w
     | tab _=>exact Zf w
     | dct _ _=>exact Zf w
     | lst ds=>
      obtain⟨a,vs,h1,h2,h5⟩:=r.own hi;refine q.all r (λ c hf H' r'=>?_) (λ hf=>?_) λ d fr v Hv' H' hf x r' rp n=>?_
      · simp only[hf] at w;exact w σ H' ⟨Hc,O,r'⟩
      · simp only[hf] at w;exact w
      · simp only[hf] at w
        refine⟨_,h1,?_⟩;refine q2.all r' (λ c hg H2 r2=>?_) (λ hg=>?_) λ d2 fr2 v2 Hv2 H2 hg x2 r2 rp2 n2=>?_
        · simp only[hg] at w;exact w σ H2 ⟨Hc,O,r2⟩
        · simp only[hg] at w;exact w
        · simp only[hg] at w
          cases d2 with
          | int j=>
            unfold Rp at rp2;by_cases z:(Dv.scal d&&decide (0<=j)&&decide (j<ds.length))=true
            · simp only[z,if_true] at w
              simp only[v8,decide_eq_true_eq] at z;have hl:=h5.length;obtain⟨O',r3⟩:=r2.put hi h1 (h5.set (rp.scal z.1.1) j.toNat);refine⟨a,vs,j,j.toNat,rfl,rp2,x2.hh _ _ (x.hh _ _ h2),?_,w σ _ ⟨Hc,O',r3⟩⟩;unfold ixN;rw[if_pos z.1.2,if_pos (by rw[hl];exact z.2)]
            · simp only[z] at w
              exact Zf w
          | _=>exact Zf w
def SGs (C:Ctx)(ts:List Expr)(xs:List Nat):Prop:=
 ∃ t:TGs,PGs C.X ts t/\∀ Hv₀ H₀ Hc O H σ s ds vs T,RelC C.X.K Hv₀ H₀ Hc O s σ H->RpL C.X.K Hc ds vs->ds.length=xs.length->(∀ σ',RelC C.X.K Hv₀ H₀ Hc O (Dv.setAll xs ds s) σ' H->T σ' H)->t vs σ H T
theorem sF:SGs C [] []:=⟨_,kL,λ Hv₀ H₀ Hc O H σ s ds vs T r rp hl h=>by
 cases ds with
 | nil=>unfold RpL at rp;exact⟨rp,h σ r⟩
 | cons d ds=>cases hl⟩
theorem kR {i:Nat}{x:Str}{ts:List Expr}{xs:List Nat}(hs:SGs C ts xs)(hN:C.X.N.Nodup)(hi:C.X.N[i]?=some x)(hx:Loc C.X.env.scope x)(hf:autoParam (C.X.fn x=true\/C.X.env.scope.names.lookup x=some .local) ZB._auto_1)
  (ha:autoParam ((assignEach (.Name x pos::ts) C.X.env).map (·.2)=assign (.Name x pos) C.X.env::(assignEach ts C.X.env).map (·.2)) ZF._auto_1):SGs C (.Name x pos::ts) (i::xs):=by
 obtain⟨t,p,q⟩:=hs;refine⟨_,ju (eB hN hi hx hf) p ha,λ Hv₀ H₀ Hc O H σ s ds vs T r rp hl h=>?_⟩;cases ds with
 | nil=>cases hl
 | cons d ds=>
  unfold RpL at rp;obtain⟨v,ws,rfl,h1,h2⟩:=rp;exact⟨v,ws,rfl,q Hv₀ H₀ Hc O H _ _ ds ws T (r.setSh h1) h2 (by simpa using hl) h⟩
end
theorem Inv.but {X:Cx}{pins:List (Addr×Obj)}{σ:St}{H:Hp}{s:Shared}{ch:List Addr}{h':Heap}(I:Inv X pins σ H s)(hf:∀ b∈ch,eG X pins H b)(k:∀ b o,b∉ch->s.heap.get? b=some o->h'.get? b=some o):Inv X pins σ H { s with heap:=h' }:=by
 have nch:∀ b u,H b=some u->b∉ch:=λ b u e hb=>by rw[(hf b hb).1] at e;cases e
 refine I.step (g':=s.gens) (d':=s.drawn) (t':=s.toks) (ch:=ch) (λ b hb=>⟨(hf b hb).2.2.2.1,(hf b hb).2.1,(hf b hb).2.2.2.2.1,(hf b hb).2.2.2.2.2⟩) (λ b o _ _ hc e _=>k b o hc e) (λ b o _ _ hc e _=>⟨o.slots,k b o hc e⟩) (λ _ _ _ _ n=>n)
  (λ b o hc e=>⟨o,k b o hc e⟩) (λ _ _ e=>e) (λ _ _ _ e=>e) (λ b ps e=>⟨#[],by rw[e];simp⟩) (λ m hm=>?_) (λ b u e=>?_) I.bare
 ·obtain⟨o,es,ep,ho,r⟩:=hm
  exact⟨o,es,ep,k _ _ (λ hb=>(hf _ hb).2.1 rfl) ho,r⟩
 ·refine(I.hok b u e).stay (λ c v hc q=>k c v ?_ q) (λ c q=>q) λ c xs q=>q
  rcases hc with rfl|hc
  ·exact nch _ u e
  ·exact nch _ _ hc
theorem zip_get {xs ys:List D}{i:Nat}{d:D}(h:(List.zipWith (λ x y=>D.tup [x,y]) xs ys)[i]?=some d):∃ x y,xs[i]?=some x/\ys[i]?=some y/\d=.tup [x,y]:=by
 rw[List.getElem?_zipWith] at h;cases h1:xs[i]? with
 | none=>rw[h1] at h;cases h
 | some x=>
  cases h2:ys[i]? with
  | none=>rw[h1,h2] at h;cases h
  | some y=>rw[h1,h2] at h;cases h;exact⟨x,y,rfl,rfl,rfl⟩
theorem rP {C:Ctx}{ts:List Expr}{xs:List Nat}{kt:Nat}{tpos:Pos}(hg:SGs C ts xs)(hl:ts.length=xs.length)(hn:autoParam ((assignEach ts C.X.env).length=ts.length) ZF._auto_1)(hst:autoParam ((assignEach ts C.X.env).findIdx? (·.1)=none) ZF._auto_1)(hcl:autoParam (C.X.calm=true) ZF._auto_1):
  SG C (.Tuple ts kt tpos) (Dv.tupTo xs):=by
 obtain⟨g,pg,qg⟩:=hg;refine⟨_,o6 hcl pg hn hst,λ Hv₀ H₀ Hc O H σ s s' d v T r rp e h=>?_⟩;unfold Dv.tupTo at e;cases d with
 | tup ds=>
  by_cases hz:ds.length=xs.length
  ·simp only[hz,if_true] at e
   cases e;unfold Rp at rp;obtain⟨a,vs,rfl,h2,h3⟩:=rp;exact⟨a,vs,rfl,.inl (Rd.same r.ch h2),by rw[h3.length,hz,hl],qg Hv₀ H₀ Hc O H σ s ds vs _ r h3 hz h⟩
  ·simp only[hz,if_false] at e
   cases e
 | _=>cases e
section
variable {C:Ctx}{a b c e k:Expr}{f g h:EE}{pos pos':Pos}
theorem kH {H H' Hv Hv':Hp}{es:List D}{v:V}(x:Ext Hv H Hv' H')(rn:Rp [] (Hnew H H') (.lst es) v):∃ b zs,v=.ref b/\H' b=some (.lst zs)/\H b=none/\RpL [] (Hnew H H') es zs:=by
 unfold Rp at rn;obtain⟨a,vs,rfl,h1,h2⟩:=rn;have h1':Hnew H H' a=some (.lst vs):=by
  rcases h1 with (h1|⟨o,h1⟩)|⟨its,m,e,_⟩
  ·exact h1
  ·exfalso
   have hn:H a=none:=by
    unfold Hnew at h1;cases q:H a with
    | none=>rfl
    | some u=>rw[q] at h1;cases h1
   exact x.nf a o _ hn (Hnew.sub a _ h1)
  ·simp at e
 have hn:H a=none:=by
  unfold Hnew at h1';cases q:H a with
  | none=>rfl
  | some u=>rw[q] at h1';cases h1'
 exact⟨a,vs,rfl,Hnew.sub a _ h1',hn,h2⟩
end
section
variable {C:Ctx}{a b c e:Expr}{f g h:EE}{pos:Pos}
theorem aK (ha:SE C a f)(hb:SE C b g):SE C (.BinOp a .Add b pos) (Dv.eOp .add f g):=cX tO ha hb
theorem dO (ha:SE C a f)(hb:SE C b g):SE C (.BinOp a .Sub b pos) (Dv.eOp .sub f g):=cX sZ ha hb
theorem bN (ha:SE C a f)(hb:SE C b g):SE C (.BinOp a .Mult b pos) (Dv.eOp .mul f g):=cX rT ha hb
theorem bG (ha:SE C a f)(hb:SE C b g):SE C (.BinOp a .Mod b pos) (Dv.eOp .mod f g):=cX tW ha hb
theorem kX (ha:SE C a f)(hb:SE C b g):SE C (.BinOp a .FloorDiv b pos) (Dv.eOp .fdiv f g):=cX pU ha hb
theorem sI (ha:SE C a f)(hb:SE C b g):SE C (.BinOp a .Pow b pos) (Dv.eOp .pow f g):=cX sN ha hb
theorem iu (ha:SE C a f)(hb:SE C b g):SE C (.Compare a [.Eq] [b] pos) (Dv.eCm .eq f g):=oH os_eq ha hb (nomark _)
theorem gg (ha:SE C a f)(hb:SE C b g):SC C (.Compare a [.Lt] [b] pos) (Dv.eCm .lt f g):=cF uX ha hb (nomark _)
theorem u9 (ha:SE C a f)(hb:SE C b g):SC C (.Compare a [.LtE] [b] pos) (Dv.eCm .le f g):=cF uk ha hb (nomark _)
theorem fm (ha:SE C a f)(hb:SE C b g):SC C (.Compare a [.Gt] [b] pos) (Dv.eCm .gt f g):=cF ve ha hb (nomark _)
theorem uu (ha:SE C a f)(hb:SE C b g):SC C (.Compare a [.GtE] [b] pos) (Dv.eCm .ge f g):=cF uM ha hb (nomark _)
theorem bj (ha:SE C a f)(hb:SE C b g):SC C (.Compare a [.Eq] [b] pos) (Dv.eCm .eq f g):=cF os_eq ha hb (nomark _)
theorem ij (ha:SE C a f)(hb:SE C b g):SC C (.Compare a [.NotEq] [b] pos) (Dv.eCm .ne f g):=cF uR ha hb (nomark _)
theorem uh (ha:SE C a f)(hb:SE C b g)(hm:autoParam (behindInMarks .In b=false) ZL._auto_1):SC C (.Compare a [.In] [b] pos) (Dv.eCm .isin f g):=cF uT ha hb hm
theorem dQ {x:Str}{i:Int}{t:Tok}(hg:Gl C.X x)(hm:C.X.mg x=some (.int i t))(hd:autoParam ((x == ("__debug__":Str))=false) ZC._auto_1):SE C (.Name x pos) (Dv.eInt i):=
 ⟨_,cm (v:=.int i) hg hm ⟨t,rfl⟩ hd,λ _ _ _ _ _ _ s q=>q.now (v:=.int i) s bp rfl⟩
theorem bA {p:Pos}(hm:C.X.mg "len"=none)(hg:Gl C.X "len")(ha:SE C a f)(he:autoParam (starEach [a] C.X.env=[(false,eval a C.X.env)]) ZF._auto_1):SE C (.Call (.Name "len" p) [a] [] pos) (Dv.eB1 Dv.lenD f):=ik sL hg hm Ar ha (by decide) (by decide) he
theorem lC {p:Pos}(hm:C.X.mg "sorted"=none)(hg:Gl C.X "sorted")(ha:SE C a f)(he:autoParam (starEach [a] C.X.env=[(false,eval a C.X.env)]) ZF._auto_1):SE C (.Call (.Name "sorted" p) [a] [] pos) (Dv.eB1 Dv.sortedD f):=ik mf hg hm PyProof.Rows.boot_sorted ha (by decide) (by decide) he
theorem pf {p:Pos}(hm:C.X.mg "list"=none)(hg:Gl C.X "list")(ha:SE C a f)(he:autoParam (starEach [a] C.X.env=[(false,eval a C.X.env)]) ZF._auto_1):SE C (.Call (.Name "list" p) [a] [] pos) (Dv.eB1 Dv.listD f):=rH pX hg hm (by decide +kernel) ha (by decide) (by decide) he
end
structure Df (K:yy)(mg:Str->Option Value)(x:Str)(st:Stmt)(ps:List Str)(f:Addr)(fd:FuncData):Prop where
 m:mg x=some (.ref f)
 kp:yR K (.ref f)=true
 ex:∃ (oc:Value) (od:Option Addr) (dV kV doc pm:Value) (an:Option Addr) (cdv ct:Value) (osl:Array (Option Value)),
  fd=yJ x x (aE st) (ax st) (ae st) dV kV doc pm an cdv ct/\K.lookup f=some ⟨oc,od,.func fd,osl⟩/\zc K cdv x=true
 bd:Binds K fd ps []
section
variable {P:Program}{w:World}{K:yy}{mg:Str->Option Value}{base:Heap}{CX:CXT}{cls:String->Value}
theorem Df.ok (hC:CXok P w CX){x:Str}{st:Stmt}{f:Addr}{fd:FuncData}{N ps:List Str}{k:Nat}{body:SS}(d:Df K mg x st ps f fd)(S:FnScope N ps (ae st))
  (hbody:∀ (cdv:Value) (A:Around) (outer:List yF) (s:Shared) (H:Hp) (E:XK) (hr:Room k (A.deeper (envOfC x (ae st) s.heap.objs.size f cdv))),SSs (bh hC cls K mg base N x (ae st) f cdv A outer s H E hr) (ax st) body):
  FnOk P w K mg base CX (k+1) f fd ps (spD K cls (Dv.fn N.length body) ps.length):=by
 obtain⟨oc,od,dV,kV,doc,pm,an,cdv,ct,osl,rfl,lk,hcd⟩:=d.ex;exact uy hC cls oc od dV kV doc pm an cdv ct osl lk hcd S (hbody cdv)
theorem rq {x:Str}{st:Stmt}{ps:List Str}{f:Addr}{oc:Value}{od an:Option Addr}{osl:Array (Option Value)}{dV kV doc pm cdv ct:Value}(m:mg x=some (.ref f))(l:K.lookup f=some ⟨oc,od,.func (yJ x x (aE st) (ax st) (ae st) dV kV doc pm an cdv ct),osl⟩)
  (c:zc K cdv x=true) (k:yR K (.ref f)=true)
  (h:∀ (kV doc pm:Value) (an:Option Addr) (cdv ct:Value) (us:List Value),us.length=ps.length->bindArgs (yJ x x (aE st) (ax st) (ae st) dV kV doc pm an cdv ct) ⟨us,[]⟩=pure (ps.zip us)):
  Df K mg x st ps f (yJ x x (aE st) (ax st) (ae st) dV kV doc pm an cdv ct):=⟨m,k,⟨oc,od,dV,kV,doc,pm,an,cdv,ct,osl,rfl,l,c⟩,.all (h kV doc pm an cdv ct)⟩
end
theorem av {C:Ctx}{e:Expr}{es:List Expr}{fl:EL}{k j:Nat}{fa:Addr}{fd:FuncData}{st:Stmt}{ps:List Str}{Fm:List D->R}{x:Str}{p pos:Pos}(d:Df C.X.K C.X.mg x st ps fa fd)(Fn:FnOk C.X.prog C.X.w C.X.K C.X.mg C.X.base C.CX j fa fd ps (spD C.X.K C.cls Fm ps.length))(hr:Room k C.X.A)(hj:j<=k)
  (hg:Gl C.X x) (ha:SL C (e::es) fl) (hlen:autoParam ((e::es).length=ps.length) ZF._auto_1) (hdb:autoParam ((x == ("__debug__":Str))=false) ZC._auto_1) (he:autoParam (starEach (e::es) C.X.env=(false,eval e C.X.env)::starEach es C.X.env) ZF._auto_1) (hpl:autoParam ((backTo pos (starEach es C.X.env)).any (·.1)=false) ZF._auto_1):
  SE C (.Call (.Name x p) (e::es) [] pos) (Dv.eCall Fm fl):=by
 have q:=qO (pos:=pos) (p:=p) (dds:=[]) (dvs:=[]) (dus:=[]) Fn hr hj hg d.m d.kp d.bd .nil (λ _ _=>.nil) ha (by simpa using hlen) hdb he hpl;have e1:(λ ds=>Fm (ds++[]))=Fm:=by funext ds;rw[wV]
 rw[e1] at q;exact q
theorem Df.is {P:Program}{w:World}{K:yy}{mg:Str->Option Value}{base:Heap}{CX:CXT}{cls:String->Value}(hC:CXok P w CX){x:Str}{st:Stmt}{f:Addr}{fd:FuncData}{ps:List Str}{F:List D->R}{m j:Nat}(N:List Str)(k:Nat)(body:SS)(d:Df K mg x st ps f fd)(S:FnScope N ps (ae st))
  (hj:j=k+1) (hm:m=ps.length) (hF:F=Dv.fn N.length body)
  (hbody:∀ (cdv:Value) (A:Around) (outer:List yF) (s:Shared) (H:Hp) (E:XK) (hr:Room k (A.deeper (envOfC x (ae st) s.heap.objs.size f cdv))),SSs (bh hC cls K mg base N x (ae st) f cdv A outer s H E hr) (ax st) body):
  FnOk P w K mg base CX j f fd ps (spD K cls F m):=by
 subst hj hm hF;exact d.ok hC S hbody
structure Fly (P:Program)(w:World)(outer:List yF)(H:Hp)(s:Shared)(a:Addr)(cls:Value)(H':Hp)(B:Heap)(t:Addr)(s':Shared):Prop where
 os:s'.os=s.os
 bare:AllBare s'.gens
 fl:Heap.FlyingW B outer a cls (.ref t) s'.heap
 keepB:∀ b o,s.heap.get? b=some o->H b=none->b∉frs outer->B.get? b=some o
 thereB:∀ b o,s.heap.get? b=some o->b∉frs outer->∃ o',B.get? b=some o'
 slot:∀ b o,s.heap.get? b=some o->H b=none->b∈frs outer->∃ sl,s'.heap.get? b=some { o with slots:=sl }
 free:∀ b o,s.heap.get? b=some o->H b=none->H' b=none
 tups:∀ b xs,H b=some (.tup xs)->H' b=some (.tup xs)
 frzs:∀ b o u,H b=some (.frz o u)->H' b=some (.frz o u)
 tbls:∀ b ps,H b=some (.tbl ps)->∃ more,H' b=some (.tbl (ps++more))
 hokB:HOk P w H' B
def CXe (P:Program)(w:World):CXT:=λ outer H s E e s'=>∃ a cls H' B t,e=.ref a/\Fly P w outer H s a cls H' B t s'/\E cls none H'
theorem iB {P:Program}{w:World}{H:Hp}{h h':Heap}(x:HOk P w H h)(k:∀ b u,H b≠none->h.get? b=some u->h'.get? b=some u):HOk P w H h':=λ a o e=>
 (x a o e).stay (λ b u hb q=>k b u (by
  rcases hb with rfl|hb
  ·rw[e];exact λ z=>nomatch z
  ·rw[hb];exact λ z=>nomatch z) q) (λ _ q=>q) λ _ _ q=>q
theorem bD {B h:Heap}{l:List yF}{b:Addr}{o:Obj}(f:h.FunFrames B l)(hb:b∈frs l)(e:h.get? b=some o):∀ vs,o.data≠.fields vs:=by
 obtain⟨_,o',e',n⟩:=f.mem hb;rw[e] at e';cases e';exact n
section
variable {P:Program}{w:World}{K:yy}{mg:Str->Option Value}{base:Heap}{N:List Str}{qual:Str}{scope:Scope}{f:Addr}{cd:Value}{A:Around}{outer:List yF}{s:Shared}{H:Hp}{E:XK}
theorem be {b:Addr}{o:Obj}(e:s.heap.get? b=some o)(hb:b∉frs outer):b∉frs (envOfC qual scope s.heap.objs.size f cd::outer):=λ m=>by
 have m':b∈s.heap.objs.size::frs outer:=m
 rcases List.mem_cons.mp m' with rfl|m'
 ·exact absurd (yA e) (wH _)
 ·exact hb m'
theorem cS {b:Addr}(hb:b∈frs outer):b∈frs (envOfC qual scope s.heap.objs.size f cd::outer):=v7 (s.heap.objs.size) hb
theorem mh (pins:List (Addr×Obj))(σ:St)(H1:Hp)(s1:Shared)(e:Value)(s':Shared)(I:Inv (bJ (CXe P w) P w K mg base N qual scope f cd A outer s H E) pins σ H1 s1)
  (h:CXe P w (bJ (CXe P w) P w K mg base N qual scope f cd A outer s H E).stack H1 s1 E e s'):(bJ (CXe P w) P w K mg base N qual scope f cd A outer s H E).xe e s':=by
 obtain⟨a,cls,H',B,t,rfl,F,q⟩:=h;have noex:∀ b:Addr,b∉(bJ (CXe P w) P w K mg base N qual scope f cd A outer s H E).ex:=λ b z=>absurd (show b∈([]:List Addr) from z) (by simp)
 refine wpAny_leaves_onW (L:=s.heap.objs.size) I.ok.frames rfl F.fl λ h' x1 x2=>?_
 refine⟨a,cls,H',B,t,rfl,⟨F.os.trans I.os,F.bare,x1,λ b o e n hb=>?_,λ b o e hb=>?_,λ b o e n hb=>?_,λ b o e n=>?_,λ b xs e=>?_,λ b o u e=>?_,λ b ps e=>?_,F.hokB⟩,q⟩
 ·exact F.keepB b o (I.base.keep b o e n hb (noex b)) (I.base.free b o e n (noex b)) (be e hb)
 ·obtain⟨o1,e1⟩:=I.base.there b o e (noex b)
  exact F.thereB b o1 e1 (be e hb)
 ·obtain⟨sl,e1⟩:=I.base.slot b o e n hb (noex b)
  obtain⟨sl2,e2⟩:=F.slot b _ e1 (I.base.free b o e n (noex b)) (cS hb);obtain⟨sl3,e3⟩:=x2 b _ e2 (bD F.fl.2.2.1 (cS hb) e2);exact⟨sl3,e3⟩
 ·obtain⟨o1,e1⟩:=I.base.there b o e (noex b)
  exact F.free b o1 e1 (I.base.free b o e n (noex b))
 ·exact F.tups b xs (I.base.tups b xs e)
 ·exact F.frzs b o u (I.base.frzs b o u e)
 ·obtain⟨m1,e1⟩:=I.base.tbls b ps e
  obtain⟨m2,e2⟩:=F.tbls b _ e1;exact⟨m1++m2,by rw[e2,Ax]⟩
theorem cxe_ok {P:Program}{w:World}:CXok P w (CXe P w):=⟨λ _ _ _ _ _ ⟨_,_,_,_,_,_,_,q⟩=>q,λ _ _ _ _ _ _ _ _ _ _ _ _ _ pins σ H1 s1 e s' I h=>mh pins σ H1 s1 e s' I h⟩
theorem je {pins:List (Addr×Obj)}{σ:St}{H1:Hp}{s1:Shared}{h':Heap}{e:Addr}{cls:Value}{vs:List Value}(I:Inv (bJ (CXe P w) P w K mg base N qual scope f cd A outer s H E) pins σ H1 s1)
  (hx:Heap.MadeExcOf s1.heap h' e cls vs) (hE:E cls none H1):(bJ (CXe P w) P w K mg base N qual scope f cd A outer s H E).xe (.ref e) { s1 with heap:=h' }:=by
 have noex:∀ b:Addr,b∉(bJ (CXe P w) P w K mg base N qual scope f cd A outer s H E).ex:=λ b z=>absurd (show b∈([]:List Addr) from z) (by simp)
 have hfr:s1.heap.FunFrames (Ae s1.heap (frs (envOfC qual scope s.heap.objs.size f cd::outer))) (envOfC qual scope s.heap.objs.size f cd::outer):=
  PySem.W.funFrames_hide I.stack λ env he b hb=>List.mem_filterMap.mpr ⟨env,he,hb⟩
 refine wpAny_leaves_madeW (L:=s.heap.objs.size) (base:=Ae s1.heap (frs (envOfC qual scope s.heap.objs.size f cd::outer))) I.ok.frames rfl (λ b o q=>Aw _ q) hfr hx λ h2 t x1 x2 x3 x4=>?_
 refine⟨e,cls,H1,_,t,rfl,⟨I.os,I.bare,x1,λ b o q n hb=>?_,λ b o q hb=>?_,λ b o q n hb=>?_,λ b o q n=>I.base.free b o q n (noex b),λ b xs q=>I.base.tups b xs q,λ b o u q=>I.base.frzs b o u q,λ b ps q=>I.base.tbls b ps q,?_⟩,hE⟩
 ·exact zy _ (I.base.keep b o q n hb (noex b)) (be q hb)
 ·obtain⟨o1,e1⟩:=I.base.there b o q (noex b)
  exact⟨o1,zy _ e1 (be q hb)⟩
 ·obtain⟨sl,e1⟩:=I.base.slot b o q n hb (noex b)
  obtain⟨sl2,e2⟩:=x4 b _ (hx.keeps _ _ e1) (bD hfr (cS hb) e1);exact⟨sl2,e2⟩
 ·refine iB I.hok λ b u hb q=>zy _ q λ m=>hb ?_
  exact I.stkFree b m
end
structure XCls (K:yy)(mg:Str->Option Value)(c:String)(C:Addr):Prop where
 m:mg (yG c)=some (.ref C)
 ns:yH K mainGlobals (yG c)=some (some (.ref C))
 ex:AE K C [.type "ValueError",.type "Exception",.type "BaseException",.type "object"] "ValueError.__new__"=true
 lk:∃ bm N nm qn bs hd sn sub ab col dd k0 k1 k2 k3 k5,K.lookup C=some (excClassObj nm qn C N bs bm hd sn sub ab col dd k0 k1 k2 k3 k5 "ValueError.__new__")
theorem bK {K:yy}{C:Addr}{bm0:List Value}{newId:String}(q:AE K C bm0 newId=true)(l:∃ bm N nm qn bs hd sn sub ab col dd k0 k1 k2 k3 k5,K.lookup C=some (excClassObj nm qn C N bs bm hd sn sub ab col dd k0 k1 k2 k3 k5 newId)):
  ∃ bm N nm qn bs hd sn sub ab col dd k0 k1 k2 k3 k5,K.lookup C=some (excClassObj nm qn C N bs bm hd sn sub ab col dd k0 k1 k2 k3 k5 newId)/\As K N=true/\yH K N "__init__"=some none/\BS K bm0 bm=true:=by
 obtain⟨bm,N,nm,qn,bs,hd,sn,sub,ab,col,dd,k0,k1,k2,k3,k5,l⟩:=l;unfold AE at q;rw[l] at q;have q:(C == C&&newId == newId&&!false&&BS K bm0 bm&&As K N&&yH K N "__init__" == some none)=true:=q;simp only[v8,beq_iff_eq] at q;exact⟨bm,N,nm,qn,bs,hd,sn,sub,ab,col,dd,k0,k1,k2,k3,k5,l,q.1.2,q.2,q.1.1.2⟩
theorem pO {K:yy}{h h':Heap}{N:Addr}{m:Str->Option Value}(X:K.In h)(X':K.In h')(e:As K N=true)(n:h.Ns N m):h'.Ns N m:=by
 obtain⟨o,es,ep,ho,hd,r⟩:=n;unfold As at e
 split at e
 ·rename_i a b c d q
  have:=X _ _ q;rw[ho] at this;cases this;exact⟨_,es,ep,X' _ _ q,hd,r⟩
 ·cases e
theorem gA {P:Program}{w:World}{K:yy}{mg:Str->Option Value}{base:Heap}{N:List Str}{qual:Str}{scope:Scope}{f:Addr}{cd:Value}{A:Around}{outer:List yF}{s:Shared}{H:Hp}{E:XK}{c:String}{Ca:Addr}{tx:Str}{j:Nat}{np p2 cpos pos:Pos}
  (x:XCls K mg c Ca) (hg:Gl (bJ (CXe P w) P w K mg base N qual scope f cd A outer s H E) (yG c)) (hd:(yG c == ("__debug__":Str))=false) (hh:(A.deeper (envOfC qual scope s.heap.objs.size f cd)).handled=none):
  PS (bJ (CXe P w) P w K mg base N qual scope f cd A outer s H E) (.Raise (some (.Call (.Name (yG c) np) [.Constant (.str tx) j p2] [] cpos)) none pos) (λ _ _ H1=>E (.ref Ca) none H1):=by
 intro pins s1 σ H1 D I hE;obtain⟨bm,Na,nm,qn,bs,hdd,sn,sub,ab,col,dd,k0,k1,k2,k3,k5,hC,hN,hni,hT⟩:=bK x.ex x.lk;have T:=zF I.kIn hT;refine wpAny_Raise_call_subT (C:=Ca) (nm:=nm) (q:=qn) (N:=Na) (bs:=bs) (bm:=bm) (hdct:=hdd) (sn:=sn) (sub:=sub) (ab:=ab) (col:=col) (dd:=dd) (k0:=k0) (k1:=k1) (k2:=k2) (k3:=k3) (k5:=k5) PySem.F.excBase_ValueError (mN:=s1.heap.nsMap Na) (T.hasType (by decide)) hh rfl (PySem.W.nsMap_none_of_in I.kIn hN hni) ?_
 have pn:=cm (X:=bJ (CXe P w) P w K mg base N qual scope f cd A outer s H E) (v:=.ref Ca) (pos:=np) hg x.m rfl hd;refine thn (pn pins s1 σ H1 (λ v H2=>v=.ref Ca/\H2=H1) I ⟨rfl,rfl⟩) ?_
 rintro u s2 ⟨v,H2,I2,r2,rfl,rfl⟩
 obtain rfl:u=yK Ca:=r2;refine⟨rfl,Be ?_⟩;have pa:=au (X:=bJ (CXe P w) P w K mg base N qual scope f cd A outer s H E) (e:=.Constant (.str tx) j p2) jY aM;refine thn (pa cpos pins s2 σ H2 (λ vs H3=>vs=[.str tx]/\H3=H2) I2 ⟨rfl,rfl⟩) ?_
 rintro us s3 ⟨vs,H3,I3,r3,rfl,rfl⟩
 have hl:us.length=1:=r3.length.symm;refine⟨rfl,by rw[hl];decide,I3.kIn _ _ hC,pO I.kIn I3.kIn hN (.of_isNs (PySem.W.isNs_of_in I.kIn hN)),zF I3.kIn hT,λ h' e hx=>?_⟩;exact je I3 hx hE
theorem aJ {P:Program}{w:World}{K:yy}{mg:Str->Option Value}{base:Heap}{cls:String->Value}{N:List Str}{qual:Str}{scope:Scope}{f:Addr}{cd:Value}{A:Around}{outer:List yF}{s:Shared}{H:Hp}{E:XK}{k:Nat}{hr:Room k (A.deeper (envOfC qual scope s.heap.objs.size f cd))}{c:String}{Ca:Addr}{tx:Str}{j:Nat}{np p2 cpos pos:Pos}
  (x:XCls K mg c Ca) (hcls:cls c=.ref Ca) (hg:Gl (bJ (CXe P w) P w K mg base N qual scope f cd A outer s H E) (yG c)) (hd:autoParam ((yG c == ("__debug__":Str))=false) ZC._auto_1):
  SSs (bh (cxe_ok (P:=P) (w:=w)) cls K mg base N qual scope f cd A outer s H E hr) [.Raise (some (.Call (.Name (yG c) np) [.Constant (.str tx) j p2] [] cpos)) none pos] (Dv.sRaise c):=by
 refine⟨_,aS (gA x hg hd hr.hd),λ Hv₀ H₀ E' σ H' st r q=>?_⟩;have q':E (cls c) none H':=q σ H' r;rw[hcls] at q';exact q'
structure XLook (K:yy)(C:Addr):Prop where
 ex:AE K C [.type "ValueError",.type "Exception",.type "BaseException",.type "object"] "ValueError.__new__"=true
 lk:∃ bm N nm qn bs hd sn sub ab col dd k0 k1 k2 k3 k5,K.lookup C=some (excClassObj nm qn C N bs bm hd sn sub ab col dd k0 k1 k2 k3 k5 "ValueError.__new__")
 ga:yI K (.ref C) "__getattribute__"=some (some (.builtin "BaseException.__getattribute__"))
 gn:yI K (.ref C) "__getattr__"=some none
 kc:yI K (.ref C) "__class__"=some (some (.builtin "object.__class__"))
section
variable {prog:Program}{w:World}{A:Around}{E:Value->Shared->Prop}{K:yy}{h:Heap}{g:Array GenState}{d:Drawn}{t:Nat}{os:OsState}{a C:Addr}{o:Obj}
theorem rR {R:Result->Shared->Prop}(X:K.In h)(x:XLook K C)(hx:h.get? a=some o)(hc:o.cls=.ref C)(hq:R (.ok (.ret (.ref C))) ⟨h,g,d,t,os⟩):
  codeAny (model prog w) A (.call (.builtin "getset_descriptor.__get__") ⟨[.builtin "object.__class__",.ref a,.ref C],[]⟩) R ⟨h,g,d,t,os⟩:=by
 obtain⟨bm,Na,nm,qn,bs,hdd,sn,sub,ab,col,dd,k0,k1,k2,k3,k5,kC,_,_,hT⟩:=bK x.ex x.lk;have hC:=X _ _ kC;have TL:=zF X hT;have own:(yK C::bm).contains (.type (".".intercalate ("object.__class__".cutAt '.').dropLast))=true:=by
  rw[F.owner_object_class,xC,TL.hasType (show List.contains [yP "ValueError",yP "Exception",yP "BaseException",yP "object"] (yP "object")=true by decide)];rfl
 refine Bf F.slot_gs_get.plain F.entry_gs_get (F.slot_gs_get.check _ _ _ _ _ _ _ _ (show (⟨h,g,d,t,os⟩:Shared).TypeIs (.builtin "object.__class__") "getset_descriptor" from zK) (F.args_gs_get _ _ _) ?_);have ty0:(⟨h,g,d,t,os⟩:Shared).TypeIs (.builtin "object.__class__") "getset_descriptor":=zK
 repeat (any_goals (first
  | assumption
  | (with_reducible refine zi hx ?_;rw[hc])
  | (with_reducible refine zQ hC ?_;rw[own])
  | wp_step))
 refine⟨Code.quiet_builtin _ (by decide +kernel),codeAny_builtin F.entry_object_class ?_⟩
 repeat (any_goals (first
  | assumption
  | (with_reducible refine zi hx ?_;rw[hc])
  | wp_step))
theorem nr {tk:Tok}{Q:Fin->Shared->Prop}(X:K.In h)(x:XLook K C)(hx:h.get? a=some o)(hc:o.cls=.ref C)(hq:Q (.done (.ret (.ref C))) ⟨h,g,d,t,os⟩):
  wpAny (model prog w) A (Builtin.«object.__getattribute__» ⟨[.ref a,.str "__class__" tk],[]⟩) Q E ⟨h,g,d,t,os⟩:=by
 have ty0:(⟨h,g,d,t,os⟩:Shared).TypeIs (.builtin "object.__class__") "getset_descriptor":=zK;have ty1:=zK;have lk1:=F.slot_gs_get.lookup;have lk2:=F.slot_gs_set.lookup;have L:=zM (M:=model prog w) X x.kc
 repeat (any_goals (first
  | assumption
  | (with_reducible refine zi hx ?_;rw[hc])
  | with_reducible refine L.at ?_
  | wp_step))
 refine rR X x hx hc ?_
 repeat (any_goals (first
  | assumption
  | wp_step))
theorem nE {M:Model}{nameV:Value}{Q:Unit->Shared->Prop}(X:K.In h)(x:XLook K C)(hx:h.get? a=some o)(hc:o.cls=.ref C)(hq:Q () ⟨h,g,d,t,os⟩):
  wpAny M A (checkBuiltinCall "BaseException.__getattribute__" ⟨[.ref a,nameV],[]⟩) Q E ⟨h,g,d,t,os⟩:=by
 obtain⟨bm,Na,nm,qn,bs,hdd,sn,sub,ab,col,dd,k0,k1,k2,k3,k5,kC,_,_,hT⟩:=bK x.ex x.lk;have hC:=X _ _ kC;have TL:=zF X hT;have own:(yK C::bm).contains (.type "BaseException")=true:=by
  rw[xC,TL.hasType (show List.contains [yP "ValueError",yP "Exception",yP "BaseException",yP "object"] (yP "BaseException")=true by decide)];rfl
 have bk:builtinKind "BaseException.__getattribute__"=some .slot:=by decide +kernel
 have bsp:splitId "BaseException.__getattribute__"=some ("BaseException","__getattribute__"):=by decide +kernel
 have ba:=F.args_bexc_ga (.ref a) nameV;simp only[checkBuiltinCall,bk,bsp];refine yz ?_
 unfold isInstance
 repeat (first
  | (with_reducible refine zi hx ?_;rw[hc])
  | (with_reducible refine zQ hC ?_;rw[own])
  | wp_step)
 exact hq
theorem p5 {tk:Tok}{R:Result->Shared->Prop}(X:K.In h)(x:XLook K C)(hx:h.get? a=some o)(hc:o.cls=.ref C)(hq:R (.ok (.ret (.ref C))) ⟨h,g,d,t,os⟩):
  codeAny (model prog w) A (.call (.builtin "BaseException.__getattribute__") ⟨[.ref a,.str "__class__" tk],[]⟩) R ⟨h,g,d,t,os⟩:=
 Bf F.attr_ValueError.ga.plain F.entry_bexc_ga (nE X x hx hc (nr X x hx hc hq))
theorem vB {tk:Tok}{Q:Value->Shared->Prop}(X:K.In h)(x:XLook K C)(hx:h.get? a=some o)(hc:o.cls=.ref C)(hq:Q (.ref C) ⟨h,g,d,t,os⟩):
  wpAny (model prog w) A (getAttrBy (.ref a) (.str "__class__" tk) false) Q E ⟨h,g,d,t,os⟩:=by
 have bd:=F.attr_ValueError.ga.bind (.ref a);have n2:(AF "BaseException.__getattribute__" == AF "object.__getattribute__")=false:=by decide +kernel
 have n1:(onTheHeap (yK C)&&AF "BaseException.__getattribute__" == AF "object.__getattribute__")=false:=by rw[n2];rfl
 have L:=zM (M:=model prog w) X x.ga;have L2:=zM (M:=model prog w) X x.gn
 repeat (any_goals (first
  | assumption
  | (with_reducible refine zi hx ?_;rw[hc])
  | with_reducible refine L.at ?_
  | with_reducible refine L2.at ?_
  | wp_step))
 refine p5 X x hx hc ?_
 repeat (any_goals (first
  | assumption
  | wp_step))
theorem qT {Q:Option Value->Shared->Prop}(X:K.In h)(x:XLook K C)(hx:h.get? a=some o)(hc:o.cls=.ref C)(hq:Q (some (.ref C)) ⟨h,g,d,t+1,os⟩):
  wpAny (model prog w) A (getAttr? (.ref a) "__class__") Q E ⟨h,g,d,t,os⟩:=by
 unfold getAttr? getAttrBy?
 repeat (any_goals (first
  | assumption
  | with_reducible apply vB X x hx hc
  | wp_step))
end
theorem jL {K:yy}{a C:Addr}(x:XLook K C):PySem.W.KitX K (.ref a) (.ref C) (g8 a C) where
 ty:=λ M h _ p=>by
  obtain⟨o,vs,h1,h2,_⟩:=p;intro A Q E s k q;unfold typeOf;exact yz (A6 (k _ _ h1) (yE (by rw[h2];exact q)))
 it:=λ M h X _=>by
  obtain⟨bm,Na,nm,qn,bs,hdd,sn,sub,ab,col,dd,k0,k1,k2,k3,k5,kC,_,_,hT⟩:=bK x.ex x.lk;intro A Q E s k q;unfold isType loadHead;exact yz (A6 (k _ _ (X _ _ kC)) (yE q))
 ne:=λ h tp dd its n sl X htp=>by
  obtain⟨bm,Na,nm,qn,bs,hdd,sn,sub,ab,col,dd',k0,k1,k2,k3,k5,kC,_,_,hT⟩:=bK x.ex x.lk;refine Bool.eq_false_iff.mpr λ q=>?_
  have e:C=tp:=Value.ref.inj (beq_iff_eq.mp q);subst e;have z:=congrArg (Option.map Obj.cls) ((X _ _ kC).symm.trans htp);simp[excClassObj] at z
 ca:=λ {prog w A E Q s} X p k=>by
  obtain⟨o,vs,h1,h2,_⟩:=p;obtain⟨h,g,d,t,os⟩:=s;exact qT X x h1 h2 k
structure XAll (K:yy)(mg:Str->Option Value)(ad:String->Option Addr):Prop where
 cl:∀ c C,ad c=some C->XCls K mg c C/\XLook K C
 sub:∀ c C k C',ad c=some C->ad k=some C'->yU K (.ref C) (.ref C')=some (Dv.subX c k)
 val:∀ c C,ad c=some C->yU K (.ref C) (.type "ValueError")=some true
theorem m3 {X:Cx}{ad:String->Option Addr}(xa:XAll X.K X.mg ad){k:String}{C':Addr}(hk:ad k=some C'):
  cb X (.builtin "isinstance") (λ xs H Q=>∃ x c,xs=[x,.ref C']/\(∃ C,ad c=some C)/\Rp X.K H (.exn c) x/\Q (.bl (Dv.subX c k)) H):=by
 intro pins s σ H xs us Q I r h;obtain⟨x,c,rfl,⟨C,hc⟩,rp,q⟩:=h;obtain⟨u,w',rfl,ru,rw'⟩:=vals2 r;obtain rfl:w'=yK C':=rw';unfold Rp at rp;obtain⟨a,C2,rfl,n2,h2⟩:=rp;obtain⟨x1,x2⟩:=xa.cl c C hc;have e:C2=C:=by
  have:=n2.symm.trans x1.ns;simpa using this
 subst e;cases ru;obtain⟨p,_⟩:=I.hok a _ h2;exact yZ (jL x2) I.kIn p (xa.sub c _ k C' hc hk) (λ z=>nomatch z) λ tk=>⟨.bl (Dv.subX c k),H,I.tok tk,rfl,q⟩
theorem nX {X:Cx}{ad:String->Option Addr}(xa:XAll X.K X.mg ad):
  cb X (.builtin "isinstance") (λ xs H Q=>∃ x c,xs=[x,.ty "ValueError"]/\(∃ C,ad c=some C)/\Rp X.K H (.exn c) x/\Q (.bl true) H):=by
 intro pins s σ H xs us Q I r h;obtain⟨x,c,rfl,⟨C,hc⟩,rp,q⟩:=h;obtain⟨u,w',rfl,ru,rw'⟩:=vals2 r;obtain rfl:w'=yP "ValueError":=rw';unfold Rp at rp;obtain⟨a,C2,rfl,n2,h2⟩:=rp;obtain⟨x1,x2⟩:=xa.cl c C hc;have e:C2=C:=by
  have:=n2.symm.trans x1.ns;simpa using this
 subst e;cases ru;obtain⟨p,_⟩:=I.hok a _ h2;exact yZ (jL x2) I.kIn p (xa.val c _ hc) (λ z=>nomatch z) λ tk=>⟨.bl true,H,I.tok tk,rfl,q⟩
theorem Fly.un {P:Program}{w:World}{outer:List yF}{H H':Hp}{s s':Shared}{a t:Addr}{cls:Value}{B h:Heap}(F:Fly P w outer H s a cls H' B t s')(sb:B.StaysIn h)(sm:s'.heap.UpToSlots h)(hf:∀ b∈frs outer,H b=none):
  Un (frs outer) [] H H' s.heap h where
 keep:=λ b o e n hb _=>sb b o (F.keepB b o e n hb)
 slot:=λ b o e n hb _=>by
  obtain⟨sl,e1⟩:=F.slot b o e n hb;obtain⟨sl2,e2⟩:=sm b _ e1 (bD F.fl.2.2.1 hb e1);exact⟨sl2,e2⟩
 free:=λ b o e n _=>F.free b o e n
 there:=λ b o e _=>by
  by_cases hb:b∈frs outer
  ·obtain⟨sl,e1⟩:=F.slot b o e (hf b hb) hb
   obtain⟨sl2,e2⟩:=sm b _ e1 (bD F.fl.2.2.1 hb e1);exact⟨_,e2⟩
  ·obtain⟨o1,e1⟩:=F.thereB b o e hb
   exact⟨o1,sb b o1 e1⟩
 tups:=F.tups
 frzs:=F.frzs
 tbls:=F.tbls
theorem Fly.none {P:Program}{w:World}{outer:List yF}{H H':Hp}{s s':Shared}{a t:Addr}{cls:Value}{B:Heap}(F:Fly P w outer H s a cls H' B t s'):H' a=Option.none:=by
 cases q:H' a with
 | none=>rfl
 | some o=>
  have e:=F.fl.2.1;obtain⟨o',h1⟩:∃ o',B.get? a=some o':=by
   have:=(F.hokB a o q).lt;have k:=F.hokB a o q;cases o with
   | lst xs=>obtain⟨_,_,_,_,z⟩:=k;exact⟨_,z⟩
   | tup xs=>obtain⟨_,_,_,_,z,_⟩:=k;exact⟨_,z⟩
   | dK kvs=>obtain⟨_,_,_,_,o,_,_,z,_⟩:=k;exact⟨_,z⟩
   | dT kvs=>obtain⟨_,_,_,_,o,_,_,z,_⟩:=k;exact⟨_,z⟩
   | set S n=>obtain⟨o,_,_,_,z,_⟩:=k;exact⟨_,z⟩
   | ins C dx fs=>obtain⟨_,_,_,z,_⟩:=k;exact⟨_,z⟩
   | own y=>obtain⟨_,z⟩:=k;exact⟨_,z⟩
   | xd fs=>obtain⟨_,⟨_,_,_,z,_⟩,_⟩:=k;exact⟨_,z⟩
   | rng lo hi=>obtain⟨_,_,_,z⟩:=k;exact⟨_,z⟩
   | frz ob u=>obtain⟨z,_⟩:=k;exact⟨_,z⟩
   | tbl ps=>exact⟨_,(show B.get? a=some _ from k)⟩
   | met f y=>exact⟨_,(show B.get? a=some _ from k)⟩
   | ext φ=>obtain⟨_,⟨_,z⟩,_⟩:=k;exact⟨_,z⟩
  rw[e] at h1;cases h1
def oY (X:Cx)(pins:List (Addr×Obj))(xe:Value->Shared->Prop):Cx:={ X with pn:=X.pn++pins,xe:=xe }
def hdX (X:Cx)(pins:List (Addr×Obj))(e:Addr):Cx:={ X with A:=X.A.mark (some (.ref e)),calm:=false,pn:=X.pn++pins,xe:=λ _ _=>False }
section
variable {X:Cx}{pins pins':List (Addr×Obj)}{σ:St}{H:Hp}{s:Shared}{xe:Value->Shared->Prop}{e:Addr}
theorem Inv.toTry (I:Inv X pins σ H s):Inv (oY X pins xe) [] σ H s:=
 ⟨⟨I.ok.mod,I.ok.kind,I.ok.glob,I.ok.blt,I.ok.above,I.ok.inj,I.ok.has,I.ok.cab,I.ok.hd,I.ok.frames,I.ok.stk,I.ok.exf,I.ok.bs,I.ok.bsz,I.ok.noex,I.ok.exfs,I.ok.funs,I.ok.frf⟩,I.os,I.bare,I.base,I.loc,I.cell,I.free,I.freeC,λ p hp=>I.pin p (by
  have hp':p∈(X.pn++pins)++[]:=hp
  rwa [wV] at hp'),I.hok,I.len⟩
theorem Inv.ofTry (I:Inv (oY X pins xe) pins' σ H s):Inv X pins σ H s:=
 ⟨⟨I.ok.mod,I.ok.kind,I.ok.glob,I.ok.blt,I.ok.above,I.ok.inj,I.ok.has,I.ok.cab,I.ok.hd,I.ok.frames,I.ok.stk,I.ok.exf,I.ok.bs,I.ok.bsz,I.ok.noex,I.ok.exfs,I.ok.funs,I.ok.frf⟩,I.os,I.bare,I.base,I.loc,I.cell,I.free,I.freeC,λ p hp=>I.pin p (wB _ hp),I.hok,I.len⟩
theorem Inv.toHd (I:Inv X pins σ H s):Inv (hdX X pins e) [] σ H s:=
 ⟨⟨I.ok.mod,I.ok.kind,I.ok.glob,I.ok.blt,I.ok.above,I.ok.inj,I.ok.has,I.ok.cab,(λ z=>nomatch z),I.ok.frames,I.ok.stk,I.ok.exf,I.ok.bs,I.ok.bsz,I.ok.noex,I.ok.exfs,I.ok.funs,I.ok.frf⟩,I.os,I.bare,I.base,I.loc,I.cell,I.free,I.freeC,λ p hp=>I.pin p (by
  have hp':p∈(X.pn++pins)++[]:=hp
  rwa [wV] at hp'),I.hok,I.len⟩
theorem Inv.ofHd (hd:X.calm=true->X.A.handled=none)(I:Inv (hdX X pins e) pins' σ H s):Inv X pins σ H s:=
 ⟨⟨I.ok.mod,I.ok.kind,I.ok.glob,I.ok.blt,I.ok.above,I.ok.inj,I.ok.has,I.ok.cab,hd,I.ok.frames,I.ok.stk,I.ok.exf,I.ok.bs,I.ok.bsz,I.ok.noex,I.ok.exfs,I.ok.funs,I.ok.frf⟩,I.os,I.bare,I.base,I.loc,I.cell,I.free,I.freeC,λ p hp=>I.pin p (wB _ hp),I.hok,I.len⟩
theorem SP.ofTry {D:Ends}{f:Flow}(h:SP (oY X pins xe) pins' D f s):SP X pins D f s:=by
 cases f with
 | next=>obtain⟨σ',H',I,q⟩:=h;exact⟨σ',H',Inv.ofTry I,q⟩
 | brk=>obtain⟨σ',H',I,q⟩:=h;exact⟨σ',H',Inv.ofTry I,q⟩
 | cont=>obtain⟨σ',H',I,q⟩:=h;exact⟨σ',H',Inv.ofTry I,q⟩
 | ret u=>obtain⟨v,σ',H',I,r,q⟩:=h;exact⟨v,σ',H',Inv.ofTry I,r,q⟩
end
def o8 (C:Ctx)(pins:List (Addr×Obj))(xe:Value->Shared->Prop)(W:St->XK)(own:PassesOwn (model C.X.prog C.X.w) C.X.A C.X.env xe)
  (pass:∀ (pins':List (Addr×Obj)) (σ:St) (H:Hp) (s:Shared) (e:Value) (s':Shared),Inv (oY C.X pins xe) pins' σ H s->C.CX C.X.stack H s (W σ) e s'->xe e s'):Ctx where
 X:=oY C.X pins xe
 W:=W
 cls:=C.cls
 CX:=C.CX
 un:=C.un
 own:=own
 pass:=pass
 cxF:=C.cxF
def rD (C:Ctx)(pins:List (Addr×Obj))(e:Addr):Ctx where
 X:=hdX C.X pins e
 W:=λ _ _ _ _=>False
 cls:=C.cls
 CX:=C.CX
 un:=C.un
 own:=AW
 pass:=λ _ _ _ _ _ _ _ h=>C.cxF _ _ _ _ _ h
 cxF:=C.cxF
theorem RelC.unset {K:yy}{Hv₀ H₀ Hc H:Hp}{O:Nat->Hp}{st:Dv.St}{σ:St}{i:Nat}(r:RelC K Hv₀ H₀ Hc O st σ H):RelC K Hv₀ H₀ Hc O (st.set i .no) (σ.set i none) H:=r.setNo
theorem dm {X:Cx}{pins:List (Addr×Obj)}{σ:St}{H:Hp}{s:Shared}{A:Around}{E:Value->Shared->Prop}{i:Nat}{n:Str}{pos:Pos}{Q:Unit->Shared->Prop}{M:Model}(I:Inv X pins σ H s)(hN:X.N.Nodup)(hi:X.N[i]?=some n)(hl:X.env.scope.names.lookup n=some .local)
  (h:∀ s',Inv X pins (σ.set i none) H s'->Q () s'):wpAny M A (do bindName X.env n .none;unbindBehindTheSuite X.env n pos) Q E s:=by
 obtain⟨m,hn,hm⟩:=id I.loc;have kf:(X.env.scope.kind == .class || (X.env.scope.kind == .module&&X.env.locals != X.env.globals))=false:=by rw[I.ok.kind];rfl
 refine wpAny_nameGoes_keeps hl hn kf λ h' v hn' hs=>h _ ?_
 obtain⟨oL,_,_,hoL,_⟩:=id hn;have old:∀ {b:Addr} {o:Obj},X.s₀.heap.get? b=some o->b≠X.env.locals:=λ {b o} e=>wb (wq (yA e) I.ok.above)
 have cne:=I.cne;refine⟨I.ok,I.os,I.bare,⟨λ b o e n' hb hx=>(hs.2 b (old e)).trans (I.base.keep b o e n' hb hx),λ b o e n' hb hx=>?_,I.base.free,λ b o e hx=>?_,I.base.tups,I.base.frzs,I.base.tbls⟩,⟨_,hn',λ j y v' e1 e2 e3=>?_⟩,λ y c e=>?_,I.free,I.freeC,λ p hp=>?_,?_,by rw[w5];exact I.len⟩
 ·obtain⟨sl,e1⟩:=I.base.slot b o e n' hb hx
  exact⟨sl,(hs.2 b (old e)).trans e1⟩
 ·obtain⟨o',e1⟩:=I.base.there b o e hx
  exact⟨o',(hs.2 b (old e)).trans e1⟩
 ·rcases bX e2 with ⟨_,z,_⟩|⟨hj,e2⟩
  ·cases z
  ·obtain⟨u,r,q⟩:=hm j y v' e1 e2 e3
   refine⟨u,r,?_⟩;have hyn:y≠n:=λ z=>by
    subst z;have hjl:j<X.N.length:=(List.getElem?_eq_some_iff.mp e1).1;have hil:i<X.N.length:=(List.getElem?_eq_some_iff.mp hi).1;have e3':X.N[j]=X.N[i]:=by
     have a1:=(List.getElem?_eq_some_iff.mp e1).2;have a2:=(List.getElem?_eq_some_iff.mp hi).2;rw[a1,a2]
    exact hj ((ya (h₀:=hjl) (h₁:=hil) hN).mp e3')
   rcases q with ⟨q1,q2⟩|⟨q1,c,q2,q3⟩
   ·exact .inl ⟨q1,(if_neg hyn).trans q2⟩
   ·refine .inr ⟨q1,c,q2,?_⟩
    exact q3.sameBut hs (cne y c q2)
 ·obtain⟨v,hv⟩:=I.cell y c e
  exact⟨v,hv.sameBut hs (cne y c e)⟩
 ·obtain⟨p1,p2,p3,p4⟩:=I.pin p hp
  exact⟨(hs.2 p.1 p3).trans p1,p2,p3,p4⟩
 ·exact iB I.hok λ b u hb q=>(hs.2 b λ z=>hb (by rw[z];exact I.free)).trans q
theorem nN {M:Model}{A:Around}{E:Value->Shared->Prop}{K:yy}{h:Heap}{g:Array GenState}{d:Drawn}{t:Nat}{os:OsState}{a C Ck:Addr}{o:Obj}{Q:Bool->Shared->Prop}(X:K.In h)(xk:XLook K Ck)(hx:h.get? a=some o)(hc:o.cls=.ref C)
  (sub:BW M h (isSubtype (.ref C) (.ref Ck)) true) (hq:Q true ⟨h,g,d,t,os⟩):wpAny M A (excMatches (.ref a) (.ref Ck)) Q E ⟨h,g,d,t,os⟩:=by
 obtain⟨bm,Na,nm,qn,bs,hdd,sn,su,ab,col,dd,k0,k1,k2,k3,k5,kC,_,_,hT⟩:=bK xk.ex xk.lk;have hC:=X _ _ kC;have TL:=zF X hT;have own:(yK Ck::bm).contains (.type "BaseException")=true:=by
  rw[xC,TL.hasType (show List.contains [yP "ValueError",yP "Exception",yP "BaseException",yP "object"] (yP "BaseException")=true by decide)];rfl
 have nt:=tc_notTuple;unfold excMatches
 repeat (first
  | (with_reducible refine zi hx ?_;rw[hc])
  | with_reducible refine zi hC ?_
  | with_reducible refine sub.at ?_
  | (with_reducible refine zQ hC ?_;rw[own])
  | wp_step)
 exact hq
theorem lB {M:Model}{K:yy}{h:Heap}{C Ck:Addr}(X:K.In h)(x:XLook K C)(e:yU K (.ref C) (.ref Ck)=some true):BW M h (isSubtype (.ref C) (.ref Ck)) true:=by
 unfold yU at e
 split at e
 ·rename_i q
  have z:yK C=yK Ck:=beq_iff_eq.mp q;rw[<- z];obtain⟨bm,Na,nm,qn,bs,hdd,sn,su,ab,col,dd,k0,k1,k2,k3,k5,kC,_,_,hT⟩:=bK x.ex x.lk;intro A Q E s k hq;have hC:=k _ _ (X _ _ kC);obtain⟨hh,g,d,t,os⟩:=s;refine zQ hC ?_
  have own:(yK C::bm).contains (yK C)=true:=by simp
  rw[own];exact hq
 ·exact(PySem.W.kit_cls X e).2.2
theorem qY {C C':Ctx}{Hv₀ H₀:Hp}{D:Ends}{o o':Out}(hK:C'.X.K=C.X.K)(w:OkS C Hv₀ H₀ D o')(hx:∀ c st2,o=.exc c st2->∀ σ H,Rel C.X.K Hv₀ H₀ st2 σ H->C'.W σ (C'.cls c) none H)(ho:(∀ c st2,o≠.exc c st2)->o'=o):OkS C' Hv₀ H₀ D o:=by
 have nx:∀ {st:Dv.St} {σ:St} {H:Hp},Rel C'.X.K Hv₀ H₀ st σ H->Rel C.X.K Hv₀ H₀ st σ H:=λ {st σ H} r=>by rw[<- hK];exact r
 cases o with
 | exc c st2=>exact λ σ H r=>hx c st2 rfl σ H (nx r)
 | nx st2=>rw[ho (λ _ _ z=>nomatch z)] at w;exact λ σ H r=>w σ H (nx r)
 | brk st2=>rw[ho (λ _ _ z=>nomatch z)] at w;exact λ σ H r=>w σ H (nx r)
 | cont st2=>rw[ho (λ _ _ z=>nomatch z)] at w;exact λ σ H r=>w σ H (nx r)
 | ret d nw=>
  rw[ho (λ _ _ z=>nomatch z)] at w;have e:C'.X.K=C.X.K:=hK;unfold OkS at w ⊢;rw[e];exact w
 | bad=>rw[ho (λ _ _ z=>nomatch z)] at w;exact w
section
variable {C:Ctx}{ad:String->Option Addr}{kn:List String}{k:String}{Ck:Addr}{body suite:List Stmt}{b₀:Stmt}{F G:SS}{np hpos pos:Pos}
theorem o9 (xa:XAll C.X.K C.X.mg ad)(hkn:∀ c∈kn,∃ Ca,ad c=some Ca/\C.cls c=.ref Ca)(hk:ad k=some Ck){i:Nat}{n:Str}(hN:C.X.N.Nodup)(hi:C.X.N[i]?=some n)(hg:Gl C.X (yG k))
  (hb:∀ pins xe W own pass,SSs (o8 C pins xe W own pass) body F) (hh:∀ pins e,SSs (rD C pins e) (b₀::suite) G)
  (hl:autoParam (C.X.env.scope.names.lookup n=some .local) ZF._auto_1) (hd:autoParam ((yG k == ("__debug__":Str))=false) ZC._auto_1) (hCX:autoParam (C.CX=CXe C.X.prog C.X.w) ZF._auto_1) (hstk:autoParam (C.X.stack=C.X.env::C.X.outer) ZF._auto_1) (hfr:autoParam (C.X.env.frame=some C.X.env.locals) ZF._auto_1):
  SSt C (.Try body [.ExceptHandler (some (.Name (yG k) np)) (some n) (b₀::suite) hpos] [] [] pos) (Dv.sTryAs kn i k F G):=by
 refine⟨λ D σ H=>∃ Hv₀ H₀ st,Rel C.X.K Hv₀ H₀ st σ H/\OkS C Hv₀ H₀ D (Dv.sTryAs kn i k F G st),?_,λ Hv₀ H₀ E σ H st r w=>⟨Hv₀,H₀,st,r,w⟩⟩
 rintro pins s σ H D I ⟨Hv₀,H₀,st,r,w⟩
 refine wpAny_Try_except ?_
 have hhd:=I.ok.hd;unfold Dv.sTryAs at w;have key:∀ (pins':List (Addr×Obj)) (σ':St) (H':Hp) (s':Shared) (e:Value) (s'':Shared),Inv C.X pins σ' H' s' ->
   C.CX C.X.stack H' s' (λ cv _ H2=>∃ c st',F st=.exc c st'/\cv=C.cls c/\Rel C.X.K Hv₀ H₀ st' σ' H2) e s'' ->
   wpAny (model C.X.prog C.X.w) C.X.A (noteFrame e C.X.env) (λ _ s₂=>wpAny (model C.X.prog C.X.w) C.X.A (setFlight e none) (λ _ s₃=>wpAny (model C.X.prog C.X.w) C.X.A (handleBy e C.X.env [.ExceptHandler (some (.Name (yG k) np)) (some n) (b₀::suite) hpos]) (SP C.X pins D) C.X.xe s₃) C.X.xe s₂) C.X.xe s'':=by
  rintro pins' σ' H' s' e s'' I0 hx
  rw[hCX] at hx;obtain⟨a,cv,H2,B,t,rfl,Fl,c,st',hF,rfl,Hc,O,rel⟩:=hx;rw[hF] at w;by_cases hs:(kn.contains c&&Dv.subX c k)=true
  case neg=>simp only[hs] at w;exact Zf w
  simp only[hs,if_true] at w;rw[v8] at hs;obtain⟨Ca,hca,hcv⟩:=hkn c (List.contains_iff_mem.mp hs.1);obtain⟨x1,x2⟩:=xa.cl c Ca hca;obtain⟨y1,y2⟩:=xa.cl k Ck hk;have hsub:=xa.sub c Ca k Ck hca hk;rw[hs.2] at hsub;have hfl:=Fl.fl;rw[hcv,hstk] at hfl;have frames:C.X.A.frames=some (C.X.env::C.X.outer):=by rw[<- hstk];exact I0.ok.frames
  refine wpAny_looks_onW frames hfr hfl λ h4 held4 sm4=>?_
  refine wpAny_landsW held4 λ h5 fl5 sm5=>?_
  have ff:∀ b∈frs C.X.stack,H' b=none:=λ b hb=>I0.stkFree b hb
  have inv:∀ h,B.StaysIn h->s''.heap.UpToSlots h->Inv C.X pins σ' H2 { s'' with heap:=h }:=λ h sb sm=>
   I0.call' (s':={ s'' with heap:=h }) (ch:=[]) Fl.os (Fl.un sb sm ff) (Fl.hokB.kept λ b u q=>sb b u q) Fl.bare λ b hb=>absurd hb (by simp)
  have I5:=inv h5 fl5.1 (sm4.trans sm5);refine wpAny_handleBy_cons (codeAny_handlers_test ?_) (by intro q;cases q);refine cI (X:=hdX C.X pins a) (Inv.toHd I5) hg y1.m ?_ hd
  obtain⟨oe,vs,T,oT,ts,e1,e2,e3,_⟩:=fl5.2.2.2;refine nN (h:=h5) I5.kIn y2 e1 e2.1 (lB I5.kIn x2 hsub) ?_
  refine codeAny_handlers_suite_as (lands_againW fl5 λ h6 fl6 sm6=>?_);have I6:=inv h6 fl6.1 ((sm4.trans sm5).trans sm6);have hna:H2 a=Option.none:=Fl.none;obtain⟨oe6,vs6,T6,oT6,ts6,f1,f2,f3,_⟩:=fl6.2.2.2;have hok6:HOk C.X.prog C.X.w (upd H2 a (.ext (g8 a Ca))) h6:=b7 I6.hok hna ⟨⟨oe6,vs6,f1,f2.1,f3⟩,⟨oe6,f1⟩,λ h1 h2 ⟨o,ws,z1,z2,z3⟩ kp=>⟨o,ws,kp o z1,z2,z3⟩⟩;have na:∀ {b:Addr} {o:Obj},s'.heap.get? b=some o->b≠a:=λ {b o} e z=>by
   subst z;by_cases hb:b∈frs C.X.stack
   ·obtain⟨sl,q1⟩:=Fl.slot b o e (ff b hb) hb
    obtain⟨sl2,q2⟩:=(sm4.trans sm5).trans sm6 b _ q1 (bD Fl.fl.2.2.1 hb q1);have fr6:=fl6.2.2.1;rw[<- hstk] at fr6;exact bD fr6 hb f1 vs6 f3
   ·obtain⟨o1,q1⟩:=Fl.thereB b o e hb
    rw[Fl.fl.2.1] at q1;cases q1
  have I7:Inv C.X pins σ' (upd H2 a (.ext (g8 a Ca))) { s'' with heap:=h6 }:=by
   have u6:=Fl.un fl6.1 ((sm4.trans sm5).trans sm6) ff;refine I0.call' (s':={ s'' with heap:=h6 }) (ch:=[]) Fl.os ⟨u6.keep,u6.slot,λ b o e q hx=>?_,u6.there,λ b xs e=>?_,λ b o u e=>?_,λ b ps e=>?_⟩ hok6 Fl.bare λ b hb=>absurd hb (by simp)
   ·rw[ai (na e)];exact u6.free b o e q hx
   ·rw[ai (ak (u6.tups b xs e) hna)];exact u6.tups b xs e
   ·rw[ai (ak (u6.frzs b o u e) hna)];exact u6.frzs b o u e
   ·obtain⟨more,z⟩:=u6.tbls b ps e
    exact⟨more,by rw[ai (ak z hna)];exact z⟩
  refine d8 (X:=hdX C.X pins a) (v:=.ref a) (Inv.toHd I7) hN hi (.inl hl) rfl (λ s8 I8=>?_) (.inr hl);obtain⟨tg,pg,qg⟩:=hh pins a;have rel8:Rel C.X.K Hv₀ H₀ (st'.set i (.sh (.exn c))) (σ'.set i (some (.ref a))) (upd H2 a (.ext (g8 a Ca))):=by
   have x8:=Ext.new1 rel.ch hna (.ext (g8 a Ca));refine⟨_,O,(rel.growC x8).setSh ?_⟩;unfold Rp;exact⟨a,Ca,rfl,x1.ns,ao⟩
  have ok8:OkS (rD C pins a) Hv₀ H₀ { nx:=λ σ2 H3=>D.nx (σ2.set i none) H3,rt:=D.rt,bk:=λ σ2 H3=>D.bk (σ2.set i none) H3,ct:=λ σ2 H3=>D.ct (σ2.set i none) H3 } (G (st'.set i (.sh (.exn c)))):=by
   cases hG:G (st'.set i (.sh (.exn c))) with
   | nx st2=>rw[hG] at w;exact λ σ2 H3 ⟨Hc3,O3,r3⟩=>w _ H3 ⟨Hc3,O3,r3.unset⟩
   | brk st2=>rw[hG] at w;exact λ σ2 H3 ⟨Hc3,O3,r3⟩=>w _ H3 ⟨Hc3,O3,r3.unset⟩
   | cont st2=>rw[hG] at w;exact λ σ2 H3 ⟨Hc3,O3,r3⟩=>w _ H3 ⟨Hc3,O3,r3.unset⟩
   | ret d nw=>rw[hG] at w;exact w
   | exc c2 st2=>rw[hG] at w;exact Zf w
   | bad=>rw[hG] at w;exact w
  refine yC (pg [] s8 _ _ _ I8 (qg Hv₀ H₀ _ _ _ _ rel8 ok8)) (λ fl s9 h9=>?_) λ _ _ z=>z.elim
  cases fl with
  | next=>
   obtain⟨σ9,H9,I9,q9⟩:=h9;exact dm (Inv.ofHd hhd I9) hN hi hl λ s10 I10=>⟨_,H9,I10,q9⟩
  | brk=>
   obtain⟨σ9,H9,I9,q9⟩:=h9;exact dm (Inv.ofHd hhd I9) hN hi hl λ s10 I10=>⟨_,H9,I10,q9⟩
  | cont=>
   obtain⟨σ9,H9,I9,q9⟩:=h9;exact dm (Inv.ofHd hhd I9) hN hi hl λ s10 I10=>⟨_,H9,I10,q9⟩
  | ret u=>
   obtain⟨v,σ9,H9,I9,r9,q9⟩:=h9;exact dm (Inv.ofHd hhd I9) hN hi hl λ s10 I10=>⟨v,_,H9,I10,r9,q9⟩
 obtain⟨tb,pb,qb⟩:=hb pins _ (λ σ' cv _ H2=>∃ c st',F st=.exc c st'/\cv=C.cls c/\Rel C.X.K Hv₀ H₀ st' σ' H2) (BK (K:=λ e s₂=>wpAny (model C.X.prog C.X.w) C.X.A (setFlight e none) (λ _ s₃=>wpAny (model C.X.prog C.X.w) C.X.A (handleBy e C.X.env [.ExceptHandler (some (.Name (yG k) np)) (some n) (b₀::suite) hpos]) (SP C.X pins D) C.X.xe s₃) C.X.xe s₂) (E₁:=C.X.xe))
  λ pins' σ' H' s' e s'' I' h'=>key pins' σ' H' s' e s'' (Inv.ofTry I') h'
 have okb:OkS (o8 C pins _ (λ σ' cv _ H2=>∃ c st',F st=.exc c st'/\cv=C.cls c/\Rel C.X.K Hv₀ H₀ st' σ' H2) (BK (K:=λ e s₂=>wpAny (model C.X.prog C.X.w) C.X.A (setFlight e none) (λ _ s₃=>wpAny (model C.X.prog C.X.w) C.X.A (handleBy e C.X.env [.ExceptHandler (some (.Name (yG k) np)) (some n) (b₀::suite) hpos]) (SP C.X pins D) C.X.xe s₃) C.X.xe s₂) (E₁:=C.X.xe))
  λ pins' σ' H' s' e s'' I' h'=>key pins' σ' H' s' e s'' (Inv.ofTry I') h') Hv₀ H₀ D (F st):=by
  refine qY (C:=C) rfl w (λ c st2 h σ2 H2 r2=>⟨c,st2,h,rfl,r2⟩) λ h=>?_
  generalize F st=o at h;cases o with
  | exc c st2=>exact absurd rfl (h c st2)
  | _=>rfl
 refine yC (pb [] s σ H D (Inv.toTry I) (qb Hv₀ H₀ D σ H st r okb)) (λ fl s1 h1=>?_) λ e s1 h1=>h1
 have h2:=SP.ofTry h1;cases fl with
 | next=>obtain⟨σ2,H2,I2,q2⟩:=h2;exact zR ⟨σ2,H2,I2,q2⟩
 | brk=>exact h2
 | cont=>exact h2
 | ret u=>exact h2
end
section
variable {C:Ctx}{ad:String->Option Addr}{kn:List String}{a:Expr}{f:EE}{pos:Pos}
theorem aP (xa:XAll C.X.K C.X.mg ad)(hkn:∀ c∈kn,∃ Ca,ad c=some Ca){k:String}{Ck:Addr}(hk:ad k=some Ck){p p2:Pos}(hm:C.X.mg "isinstance"=none)(hg:Gl C.X "isinstance")(hgk:Gl C.X (yG k))(ha:SE C a f)
  (hd:autoParam ((yG k == ("__debug__":Str))=false) ZC._auto_1) (he:autoParam (starEach [a,.Name (yG k) p2] C.X.env=(false,eval a C.X.env)::starEach [.Name (yG k) p2] C.X.env) ZF._auto_1)
  (he2:autoParam (starEach [.Name (yG k) p2] C.X.env=[(false,eval (.Name (yG k) p2) C.X.env)]) ZF._auto_1):SE C (.Call (.Name "isinstance" p) [a,.Name (yG k) p2] [] pos) (Dv.eB1 (Dv.isXD kn [k]) f):=by
 obtain⟨t,pa,qa⟩:=ha;obtain⟨y1,y2⟩:=xa.cl k Ck hk;refine⟨_,cB (m3 xa hk) hg hm (by decide +kernel) (au pa (au (cm (v:=.ref Ck) hgk y1.m rfl hd) aM he2) he) (by decide) (by decide) he (by rw[he2];rfl),λ σ H Hv ρ Q e s w=>?_⟩;refine qa.step e (.refl s) w λ v d fr Hv1 H1 _ x1 _ rp1 _ q1=>?_
 cases d with
 | exn c=>
  by_cases hc:kn.contains c=true
  ·have q2:Ok C.X.K Hv H (C.W σ) C.cls (.ok (.bl ([k].any (Dv.subX c))) true) Q:=by
    have:Dv.isXD kn [k] (.exn c) fr=.ok (.bl ([k].any (Dv.subX c))) true:=if_pos hc;rw[this] at q1;exact q1
   obtain⟨Ca,hca⟩:=hkn c (List.contains_iff_mem.mp hc);refine⟨v,c,rfl,⟨Ca,hca⟩,rp1.same x1.vh,?_⟩;have:=q2.at (v:=.bl ([k].any (Dv.subX c))) x1 bI rfl;simpa using this
  ·have:Dv.isXD kn [k] (.exn c) fr=.bad:=if_neg hc
   rw[this] at q1;exact q1.elim
 | _=>exact Zf q1
theorem n8 (xa:XAll C.X.K C.X.mg ad)(hkn:∀ c∈kn,∃ Ca,ad c=some Ca){p p2:Pos}(hm:C.X.mg "isinstance"=none)(hmx:C.X.mg "ValueError"=none)(hg:Gl C.X "isinstance")(hgk:Gl C.X "ValueError")(ha:SE C a f)
  (he:autoParam (starEach [a,.Name "ValueError" p2] C.X.env=(false,eval a C.X.env)::starEach [.Name "ValueError" p2] C.X.env) ZF._auto_1)
  (he2:autoParam (starEach [.Name "ValueError" p2] C.X.env=[(false,eval (.Name "ValueError" p2) C.X.env)]) ZF._auto_1):SE C (.Call (.Name "isinstance" p) [a,.Name "ValueError" p2] [] pos) (Dv.eB1 (Dv.isXD kn ["ValueError"]) f):=by
 obtain⟨t,pa,qa⟩:=ha;refine⟨_,cB (nX xa) hg hm (by decide +kernel) (au pa (au (ko (v:=.ty "ValueError") hgk hmx (by decide +kernel) rfl (by decide) (by decide)) aM he2) he) (by decide) (by decide) he (by rw[he2];rfl),λ σ H Hv ρ Q e s w=>?_⟩;refine qa.step e (.refl s) w λ v d fr Hv1 H1 _ x1 _ rp1 _ q1=>?_
 cases d with
 | exn c=>
  by_cases hc:kn.contains c=true
  ·have q2:Ok C.X.K Hv H (C.W σ) C.cls (.ok (.bl true) true) Q:=by
    have:Dv.isXD kn ["ValueError"] (.exn c) fr=.ok (.bl true) true:=(if_pos hc).trans (by simp[Dv.subX]);rw[this] at q1;exact q1
   obtain⟨Ca,hca⟩:=hkn c (List.contains_iff_mem.mp hc);exact⟨v,c,rfl,⟨Ca,hca⟩,rp1.same x1.vh,q2.at (v:=.bl true) x1 bI rfl⟩
  ·have:Dv.isXD kn ["ValueError"] (.exn c) fr=.bad:=if_neg hc
   rw[this] at q1;exact q1.elim
 | _=>exact Zf q1
end
open PySem PySem.W PySem.Calls PyProof.Rows
theorem gJ:∀ {ns:List Int} {x:Int},x∈ns->(zU x).weight<=AX (ns.map zU)
 | [],_,h=>by simp at h
 | n::r,x,h=>by
  rw[we];unfold AX
  rcases List.mem_cons.mp h with rfl|h
  ·omega
  ·have:=gJ h
   omega
theorem rh {ns:List Int}(h:WData.layableAll [BR (ns.map zU)]=true):∀ x∈ns,Dv.bits x<=1048576:=λ x hx=>by
 have h1:=layableW_arg h _ (wc ..);obtain⟨_,_,h2⟩:=layableW_iff.mp h1;have h3:BF (BR (ns.map zU))=AX (ns.map zU):=by unfold BF;rfl
 have h4:=gJ hx;have h5:(zU x).weight=Dv.bits x:=by
  unfold BF Dv.bits;by_cases e:x=0
  ·simp[e]
  ·simp[e]
 rw[h3] at h2;omega
theorem qP {l:OpenLaw}{n:Nat}{q:Program}{loose:List Str}{XP:(Str->Option Value)->Heap->Prop}{YP:World->Heap->Prop}{d:DefRec}(hn:l.most=some n)(hdf:d.params.defaults=[])
  (run:∀ (w:World) (s₀ s₁:Shared) (mg mb:Str->Option Value) (fa:Addr) (a:Addr) (vs:List Value) (ns:List Int),Ground q loose [] XP w s₀ mg mb s₁.heap->YP w s₁.heap->mg d.name=some (.ref fa) ->
   s₁.heap.get? a=some { cls:=.type "list",data:=.seq vs.toArray }->IntsAre vs ns->ns.length<=n->(∀ x∈ns,Dv.bits x<=1048576)->s₁.gens=#[] ->
   codeAny (model l.prog w) callerA (.call (.ref fa) ⟨[.ref a],[]⟩) (λ r s'=>r=.ok (.ret (.bool true))/\OldK s₁.heap s'.heap/\s'.os=s₁.os/\AllBare s'.gens) s₁):
  WalkO q loose XP YP l.row.toRowW d [] (λ f vs=>PySem.call f vs):=by
 intro w s₀ s₁ mg mb G Y fa o pm cd doc dV kV ho hd hcd hD hmg hg args vals as hpre hlay hrd hwl hlo;obtain⟨a,vs,ns,rfl,rfl,hobj,hints,hlen⟩:=Att.script_of hn hpre hwl;have hbits:=rh hlay;refine enter_call (zJ (run w s₀ s₁ mg mb fa a vs ns G Y hmg hobj hints hlen hbits hg) ?_)
 rintro r s' ⟨rfl,h2,h3,h4⟩
 exact⟨.inl ⟨.bool true,.bool true,[],rfl,λ _=>rfl,.bool true,Att.post_true l _,λ _=>⟨List.Pairwise.nil,λ _ hm=>(nomatch hm)⟩⟩,h2,h3,h4⟩
theorem walkD {l:OpenLaw}{k:Nat}{q:Program}{loose:List Str}{XP:(Str->Option Value)->Heap->Prop}{YP:World->Heap->Prop}{d:DefRec}{K:Params->Frag}{CX:World->L2.CXT}{x:Str}{Fl:List Dv.D->Dv.R}
  (hn:l.most=some 63) (hdf:d.params.defaults=[]) (hr:L2.Room k callerA) (hY:∀ (w:World) (h:Heap),YP w h->(K w.params).In h) (hC:∀ w,CXok l.prog w (CX w))
  (F:∀ (w:World) (mg:Str->Option Value) (fa:Addr) (h:Heap),(K w.params).In h->h.Ns mainGlobals mg->mg d.name=some (.ref fa) ->
   ∃ (fd:FuncData) (cls:String->Value),(∀ (s:Shared) (u:Value),BindsTo s fd ⟨[u],[]⟩ [(x,u)])/\∀ base:Heap,(K w.params).In base->base.Ns mainGlobals mg->L2.FnOk l.prog w (K w.params) mg base (CX w) k fa fd [x] (spD (K w.params) cls Fl 1))
  (hF:∀ ns:List Int,ns.length<=63->(∀ x∈ns,Dv.bits x<=1048576)->Fl [.lst (ns.map .int)]=.ok (.bl true) true):
  WalkO q loose XP YP l.row.toRowW d [] (λ f vs=>PySem.call f vs):=by
 refine qP hn hdf λ w s₀ s₁ mg mb fa a vs ns G Y hmg hobj hints hlen hbits hg=>?_
 have KX:=hY w _ Y;obtain⟨fd,cls,hb,hFn⟩:=F w mg fa _ KX G.T.g hmg;have hK:∀ o,(K w.params).lookup a=some o->o={ cls:=.type "list",data:=.seq vs.toArray }:=λ o e=>by
  have:=KX a o e;rw[hobj] at this;exact(Option.some.inj this).symm
 have hl:ns.length<=sizeLine:=wK hlen (by decide);refine L2.law_call KX G.T.g G.T.b G.T.builtins G.T.nolimit hg hobj hints hl hr hFn hb (λ H hO hS=>?_) λ H e s'=>(hC w).no [] H s₁ e s'
 refine⟨[.lst (ns.map .int)],H,rfl,.refl _,?_,?_⟩
 ·refine .cons ?_ .nil
  unfold Rp;refine⟨a,ns.map L2.V.int,rfl,?_,RpL.ofInts ns⟩
  rcases hS with hS|⟨o,its,m,e,_,_,e2,z,v⟩
  ·exact .inl hS
  ·have e3:=hK o e
   subst e3;cases e2;exact .inr ⟨vs,_,e,by rw[wg];exact hl,by simpa using v⟩
 ·rw[hF ns hlen hbits]
  intro v Hv' H' _ rp _;unfold Rp at rp;exact rp
open Dv in
def ar (ad:String->Option Addr)(c:String):Value:=match ad c with
 | some C=>.ref C
 | none=>.none
theorem aB {ad:String->Option Addr}{c:String}{C:Addr}(h:ad c=some C):ar ad c=.ref C:=by unfold ar;rw[h]
theorem kn2 {ad:String->Option Addr}{kn:List String}(h:∀ c∈kn,∃ Ca,ad c=some Ca):∀ c∈kn,∃ Ca,ad c=some Ca/\ar ad c=.ref Ca:=λ c hc=>let ⟨Ca,e⟩:=h c hc;⟨Ca,e,aB e⟩
def ls (l:List (String×Addr))(c:String):Option Addr:=l.lookup c
theorem c7:∀ {l:List (String×Addr)} {c:String} {C:Addr},ls l c=some C->(c,C)∈l
 | [],c,C,h=>by simp[ls] at h
 | (k,v)::r,c,C,h=>by
  unfold ls at h;rw[wA] at h
  split at h
  ·rename_i q
   cases h;rw[beq_iff_eq.mp q];exact wc ..
  ·exact v7 _ (c7 (l:=r) h)
theorem qS {K:Frag}{mg:Str->Option Value}(l:List (String×Addr))(h1:∀ p∈l,XCls K mg p.1 p.2/\XLook K p.2/\kitOne K (.ref p.2) (.type "ValueError")=some true)(h2:∀ p∈l,∀ q∈l,kitOne K (.ref p.2) (.ref q.2)=some (Dv.subX p.1 q.1)):XAll K mg (ls l) where
 cl:=λ c C h=>let z:=h1 _ (c7 h);⟨z.1,z.2.1⟩
 sub:=λ c C k C' h h'=>h2 _ (c7 h) _ (c7 h')
 val:=λ c C h=>(h1 _ (c7 h)).2.2
theorem fm_nil {α:Type}{p:α->Prop}:∀ x∈([]:List α),p x:=λ x h=>absurd h (by simp)
theorem aU {α:Type}{p:α->Prop}{a:α}{l:List α}(h:p a)(r:∀ x∈l,p x):∀ x∈a::l,p x:=λ x m=>by
 rcases List.mem_cons.mp m with rfl|m
 ·exact h
 ·exact r x m
end Sd
namespace Sd
open PySem PySem.Spec PyProof.Rows L2 HT
open Dv (D R RL EE EL EI RI Sl Out SS)
section
open PySem.SeqAt
open PySem.AutoSeq1 (wpAny_loadPart')
open PySem.MeetsSeq PySem.MeetsSeq2 PySem.MeetsSeq3
end
end Sd
namespace Dv
def eqsD:List D->D->Option (List Bool)
 | [],_=>some []
 | d::r,b=>match eqD d b,eqsD r b with
  | some p,some q=>some (p::q)
  | _,_=>none
end Dv
namespace Dv
def look:List Int->List D->Int->Option D
 | k::ks,d::ds,j=>if k=j then some d else look ks ds j
 | _,_,_=>none
def replL:List Int->List D->Int->D->List D
 | k::ks,d::ds,j,x=>(if k=j then x else d)::replL ks ds j x
 | _,ds,_,_=>ds
def putL (ks:List Int)(ds:List D)(j:Int)(x:D):List D:=if j∈ks then replL ks ds j x else ds++[x]
def putKs (ks:List Int)(j:Int):List Int:=if j∈ks then ks else ks++[j]
def eDict0:EE:=λ _=>.ok (.dct [] []) true
def eDix (a k:EE):EE:=λ ρ=>(a ρ).bind λ x f=>(k ρ).bind λ y _=>match x,y with
 | .dct ks ds,.int j=>match look ks ds j with
  | some d=>.ok d (f || scal d)
  | none=>.bad
 | _,_=>.bad
def kG (is:List Nat)(i:Nat)(k e:EE):SS:=λ st=>match (give is st)[i]? with
 | some (.ow (.dct ks ds))=>match e (open_ (give is st)) with
  | .ok d _=>match k (open_ (give is st)) with
   | .ok (.int j) _=>if decide (ks.length<mx)&&decide (ks.length=ds.length) then .nx ((give is st).set i (.ow (.dct (putKs ks j) (putL ks ds j d)))) else .bad
   | .exc c=>.exc c st
   | _=>.bad
  | .exc c=>.exc c st
  | .bad=>.bad
 | _=>.bad
def lstsFlat:List D->Bool
 | []=>true
 | .lst es::r=>flatL es&&lstsFlat r
 | _::_=>false
def sDMove (i y:Nat)(k:EE):SS:=λ st=>match st[i]?,st[y]? with
 | some (.dp (.dct ks ds)),some (.ow (.lst es))=>match k (all st) with
  | .ok (.int j) _=>if flatL es&&lstsFlat ds&&decide (ks.length<mx)&&decide (ks.length=ds.length)&&decide (i≠y) then .nx ((st.set y .no).set i (.dp (.dct (putKs ks j) (putL ks ds j (.lst es))))) else .bad
  | .exc c=>.exc c st
  | _=>.bad
 | _,_=>.bad
def enumL:Nat->List D->List D
 | _,[]=>[]
 | i,d::r=>.tup [.int i,d]::enumL (i+1) r
def iEnum (a:EE):EI:=λ ρ=>match a ρ with
 | .ok (.lst xs) _=>.ok (enumL 0 xs) true
 | .exc c=>.exc c
 | _=>.bad
def downL (hi:Int):Nat->List D
 | 0=>[]
 | n+1=>.int hi::downL (hi-1) n
def iDown (a b:EE):EI:=λ ρ=>match a ρ with
 | .ok (.int i) _=>match b ρ with
  | .ok (.int j) _=>if rngOk i&&rngOk j then .ok (downL i (i-j).toNat) true else .bad
  | .exc c=>.exc c
  | _=>.bad
 | .exc c=>.exc c
 | _=>.bad
def sForR (x:Nat)(it:EI)(body:SS):SS:=λ st=>match it (all st) with
 | .ok ds _=>forGo x body ds st
 | .exc c=>.exc c st
 | .bad=>.bad
def blsOf:List D->Option (List Bool)
 | []=>some []
 | .bl b::r=>(blsOf r).map (b::·)
 | _::_=>none
def allD:D->Bool->R
 | .lst ds,_=>match blsOf ds with
  | some bs=>.ok (.bl (bs.all id)) true
  | none=>.bad
 | _,_=>.bad
def minI:Int->List Int->Int
 | a,[]=>a
 | a,b::r=>minI (if b<a then b else a) r
def sAug (i:Nat)(o:Op)(e:EE):SS:=λ st=>match st[i]? with
 | some (.sh (.int x))=>match e (all st) with
  | .ok (.int y) _=>match opD o (.int x) (.int y) with
   | .ok (.int z) _=>.nx (st.set i (.sh (.int z)))
   | _=>.bad
  | .exc c=>.exc c st
  | _=>.bad
 | _=>.bad
def sSetD (i:Nat)(e:EE):SS:=λ st=>match e (all st) with
 | .ok d true=>.nx (st.set i (.dp d))
 | .ok _ false=>.bad
 | .exc c=>.exc c st
 | .bad=>.bad
def sRetT (i:Nat)(e:EE):SS:=λ st=>match st[i]? with
 | some (.ow (.lst ds))=>match e (all st) with
  | .ok (.lst es) true=>if flatL ds&&flatL es then .ret (.tup [.lst ds,.lst es]) true else .bad
  | .exc c=>.exc c st
  | _=>.bad
 | _=>.bad
end Dv
namespace Sd
open PySem PySem.Spec PyProof.Rows L2
open Dv (D R RL EE EL EI RI Sl Out SS)
section
variable {C:Ctx}{a b c e k:Expr}{f g h:EE}{F G:SS}{pos pos':Pos}{E:Ends}
def ipC (P:Int->Int->Prop)(f:Int->Int->Int):TIp:=λ x y H Q=>∃ i j,x=.int i/\y=.int j/\P i j/\Q (.int (f i j)) H
theorem qk {X:Cx}:PIp X .Mult (ipC (λ i j=>Dv.mulOk i j=true) λ i j=>i*j):=by
 intro pins s σ H x y v u Q I r1 r2 h;obtain⟨i,j,e1,e2,hc,q⟩:=h;subst e1;subst e2;obtain⟨t,rfl⟩:=r1;obtain⟨t',rfl⟩:=r2;refine PyProof.Rows.imul_int ⟨.int _,H,I.tok _,⟨_,rfl⟩,q⟩ ?_
 unfold Dv.mulOk at hc;simp only[xw,v8,decide_eq_true_eq,<- ku] at hc
 rcases hc with (hc|hc)|hc
 ·exact .of_left hc
 ·exact .of_right hc
 ·exact .of_bits (by simpa using hc.1) (by simpa using hc.2)
theorem kW {op:Operator}{o:Dv.Op}{ti:TIp}(ho:PIp C.X op ti)(hop:∀ x y z fr H Q,Dv.opD o (.int x) (.int y)=.ok (.int z) fr->Q (.int z) H->ti (.int x) (.int y) H Q)
  {i:Nat} {x:Str} (he:SE C e f) (hN:C.X.N.Nodup) (hi:C.X.N[i]?=some x) (hx:Loc C.X.env.scope x) (hf:autoParam (C.X.fn x=true\/C.X.env.scope.names.lookup x=some .local) ZB._auto_1):
  SSt C (.AugAssign (.Name x pos') op e pos) (Dv.sAug i o f):=by
 obtain⟨t,p,q⟩:=he;refine⟨_,tU hN hi hx p ho hf,λ Hv₀ H₀ E σ H st ⟨Hc,O,r⟩ w=>?_⟩;unfold Dv.sAug at w;cases hs:st[i]? with
 | none=>rw[hs] at w;exact Zf w
 | some s=>
  rw[hs] at w;cases s with
  | sh d=>
   cases d with
   | int x0=>
    obtain⟨v,h1,h2⟩:=r.sh i _ hs;unfold Rp at h2;subst h2;refine⟨_,h1,?_⟩;refine q.all r (λ c hf H' r'=>?_) (λ hf=>?_) λ d fr v Hv' H' hf x r' rp n=>?_
    ·simp only[hf] at w;exact w σ H' ⟨Hc,O,r'⟩
    ·simp only[hf] at w;exact w
    ·cases d with
     | int y=>
      simp only[hf] at w;unfold Rp at rp;subst rp;cases ho':Dv.opD o (.int x0) (.int y) with
      | ok d2 fr2=>
       cases d2 with
       | int z=>simp only[ho'] at w;exact hop _ _ _ _ _ _ ho' (w _ H' ⟨Hc,O,r'.setSh bp⟩)
       | _=>simp only[ho'] at w;exact Zf w
      | _=>simp only[ho'] at w;exact Zf w
     | _=>simp only[hf] at w;exact Zf w
   | _=>exact Zf w
  | _=>exact Zf w
theorem lR {i:Nat}{x:Str}(he:SE C e f)(hN:C.X.N.Nodup)(hi:C.X.N[i]?=some x)(hx:Loc C.X.env.scope x)(hf:autoParam (C.X.fn x=true\/C.X.env.scope.names.lookup x=some .local) ZB._auto_1):
  SSt C (.AugAssign (.Name x pos') .Sub e pos) (Dv.sAug i .sub f):=kW o7 (λ x y z fr H Q h q=>by cases h;exact⟨x,y,rfl,rfl,q⟩) he hN hi hx hf
theorem l7 {i:Nat}{x:Str}(he:SE C e f)(hN:C.X.N.Nodup)(hi:C.X.N[i]?=some x)(hx:Loc C.X.env.scope x)(hf:autoParam (C.X.fn x=true\/C.X.env.scope.names.lookup x=some .local) ZB._auto_1):
  SSt C (.AugAssign (.Name x pos') .Mult e pos) (Dv.sAug i .mul f):=kW qk (λ x y z fr H Q h q=>by
   simp only[Dv.opD_ai,Dv.opD_al,Dv.opD_su,Dv.opD_mi,Dv.opD_ml,Dv.opD_mo,Dv.opD_fd,Dv.opD_po,Dv.opD_ba,Dv.opD_sh] at h;by_cases hm:Dv.mulOk x y=true
   ·simp only[hm,if_true] at h;cases h;exact⟨x,y,rfl,rfl,hm,q⟩
   ·simp only[hm] at h;cases h) he hN hi hx hf
theorem mq {i:Nat}{x:Str}{px kpos:Pos}(he:SE C e f)(hk:SE C k g)(hN:autoParam (C.X.N[i]?=some x) ZF._auto_1)(hv:autoParam (Vis C.X.env.scope x) ZH._auto_1)
    (hd:autoParam ((x == ("__debug__":Str))=false) ZC._auto_1) (hcd:autoParam ((x == ("__classdict__":Str))=false) ZC._auto_1)
    (ha:autoParam (∀ ov iv new,augStore k ov iv new=(do holding [new,ov,iv] (setItem ov iv new);release [new,ov,iv] [];pure .next)) ZG._auto_1):
    SSt C (.AugAssign (.Subscript (.Name x px) k kpos) .Sub e pos) (Dv.sAugIx i .sub g f):=by
  obtain⟨t,p,q⟩:=he;obtain⟨t2,p2,q2⟩:=hk;refine⟨_,pK (cJ hN hv hd hcd) p2 lE p o7 set_list ha,λ Hv₀ H₀ E σ H st ⟨Hc,O,r⟩ w=>?_⟩;unfold Dv.sAugIx at w;cases hi:st[i]? with
  | none=>rw[hi] at w;exact Zf w
  | some s=>
    rw[hi] at w;cases s with
    | ow d0=>
     cases d0 with
     | lst ds=>
      obtain⟨a,vs,h1,h2,h5⟩:=r.own hi;refine⟨_,h1,?_⟩;refine q2.all r (λ c hf H' r'=>?_) (λ hf=>?_) λ d fr v Hv' H' hf x r' rp n=>?_
      · simp only[hf] at w;exact w σ H' ⟨Hc,O,r'⟩
      · simp only[hf] at w;exact w
      · simp only[hf] at w
        cases d with
        | int j=>
          unfold Rp at rp;by_cases z:0<=j
          · simp only[z,if_true] at w
            cases hat:Dv.at? ds j with
            | none=>simp only[hat] at w;exact Zf w
            | some d0=>
              simp only[hat] at w;obtain⟨v0,g1,g2⟩:=gF h5 hat;refine⟨a,vs,j,v0,rfl,rp,z,SqL.of (x.hh _ _ h2),g1,?_⟩;refine q.all r' (λ c hg H2 r2=>?_) (λ hg=>?_) λ d2 fr2 v2 Hv2 H2 hg x2 r2 rp2 n2=>?_
              · simp only[hg] at w;exact w σ H2 ⟨Hc,O,r2⟩
              · simp only[hg] at w;exact w
              · simp only[hg] at w
                cases d0 with
                | int y0=>
                  cases d2 with
                  | int y2=>
                    unfold Rp at rp2 g2;subst g2 rp2;obtain⟨O',r3⟩:=r2.put hi h1 (h5.set (bp (i:=y0-y2)) j.toNat);refine⟨y0,y2,rfl,rfl,a,vs,j,j.toNat,rfl,rp,x2.hh _ _ (x.hh _ _ h2),?_,OkS.now (st:=st.set i (.ow (.lst (ds.set j.toNat (.int (y0-y2)))))) w ⟨Hc,O',r3⟩⟩;unfold ixN;obtain⟨_,_,_,_,_,hlt⟩:=dY g1;rw[if_pos z,if_pos hlt]
                  | _=>exact Zf w
                | _=>exact Zf w
          · simp only[z,if_false] at w;exact Zf w
        | _=>exact Zf w
     | _=>exact Zf w
    | _=>exact Zf w
theorem lD {X:Cx}(hc:X.calm=true):cb X (.builtin "all") (λ xs H Q=>∃ p,∃ bs:List Bool,xs=[.ref p]/\SqX X.K H p (bs.map V.bl)/\Q (.bl (bs.all id)) H):=by
 intro pins s σ H xs us Q I r h;obtain⟨p,bs,rfl,hq,q⟩:=h;obtain⟨u,rfl,rx⟩:=vals1 r;cases rx;obtain⟨its,n,rv,e,z⟩:=Inv.listX I hq;have hl:s.heap.IsList p its.toArray:=⟨_,e,rfl,n,rfl⟩;have hlt:p<s.heap.objs.size:=yA e;have hlen:its.length=bs.length:=by have:=rv.length;rw[wg] at this;exact this.symm
 refine call_all_walk (zY hl ?_);refine⟨s.heap.objs.size,[s.heap.objs.size,p],[s.heap.objs.size],its.toArray.size,_,_,λ i=>(bs[i]?).getD true,rfl,Walks.list (A:=X.A.in1) (I.ok.hd hc) _ p (wb hlt) its.toArray,
  ⟨⟨_,yD _ rfl,rfl,rfl⟩,hl.push _⟩,λ i v s' Q' E' hP hQ=>?_,λ h' tk hk=>?_⟩
 ·have hP':its[i]?=some v:=by simpa using hP
  have hi:i<bs.length:=by rw[<- hlen];exact(List.getElem?_eq_some_iff.mp hP').1
  obtain⟨u,e1,e2⟩:=rv.get (show (bs.map V.bl)[i]?=some (V.bl bs[i]) by simp[hi]);rw[hP'] at e1;cases e1;have e3:v=AL bs[i]:=e2;subst e3;have e4:(bs[i]?).getD true=bs[i]:=by simp[hi]
  have hQ':Q' bs[i] s':=by rw[<- e4];exact hQ
  exact zG hQ'
 ·have e5:((List.range its.toArray.size).all λ i=>(bs[i]?).getD true)=bs.all id:=by
   rw[wj,hlen,wL,yc,yc]
   constructor
   ·intro hh b hb
    obtain⟨i,hi,e⟩:=xi hb;have:=hh i (List.mem_range.mpr hi);simp only[wD hi,wY,e] at this;exact this
   ·intro hh i hi
    have hi':=List.mem_range.mp hi;simp only[wD hi',wY];exact hh _ (xt hi')
  rw[e5];exact⟨.bl _,H,I.kept (t':=tk) λ b x e=>hk b x (λ hm=>by rw[List.mem_singleton.mp hm] at e;exact wH _ (yA e)) (yB _ e),rfl,q⟩
theorem RpL.bls {K:yy}{H:Hp}:∀ {ds:List D} {vs:List V} {bs:List Bool},Dv.blsOf ds=some bs->RpL K H ds vs->vs=bs.map V.bl
 | [],vs,bs,e,h=>by
  simp[Dv.blsOf] at e;subst e;unfold RpL at h;exact h
 | d::r,vs,bs,e,h=>by
  unfold RpL at h;obtain⟨v,ws,rfl,h2,h3⟩:=h;cases d with
  | bl i=>
   simp only[Dv.blsOf,xp] at e;obtain⟨ms,e1,rfl⟩:=e;unfold Rp at h2;subst h2;rw[RpL.bls e1 h3,we]
  | _=>simp[Dv.blsOf] at e
theorem rS (hc:C.X.calm=true):C1S C (.builtin "all") Dv.allD:=by
 refine⟨_,lD hc,λ x d fr H Hv H1 Hv1 W Q e rx n q=>?_⟩;cases d with
 | lst ds=>
  simp only[Dv.allD] at q;cases hi:Dv.blsOf ds with
  | none=>rw[hi] at q;exact Zf q
  | some bs=>
   rw[hi] at q;unfold Rp at rx;obtain⟨l,vs,rfl,h1,h2⟩:=rx;have e1:=RpL.bls hi h2;subst e1;exact⟨l,bs,rfl,h1.same e.vh,Ok.at (d:=.bl (bs.all id)) (fr:=true) q e bI rfl⟩
 | _=>exact Zf q
theorem oU {p:Pos}(hm:C.X.mg "all"=none)(hg:Gl C.X "all")(ha:SE C a f)(he:autoParam (starEach [a] C.X.env=[(false,eval a C.X.env)]) ZF._auto_1)(hcl:autoParam (C.X.calm=true) ZF._auto_1):SE C (.Call (.Name "all" p) [a] [] pos) (Dv.eB1 Dv.allD f):=
 ik (rS hcl) hg hm (by decide +kernel) ha (by decide) (by decide) he
end
def ItD (hi:Int)(n:Nat):It:=⟨λ i _=>i<n,λ i H v H'=>v=.int (hi-i)/\H'=H,λ i _=>n<=i⟩
theorem ma {P:Program}{w:World}{K:yy}{tg:Expr}(it:Addr)(lo:Int)(n:Nat):Turn P w K tg (ItD lo n) [it] it (λ i h=>IsRangeIter h it (lo+(i:Nat)*(-1)) ((n:Int)-(i:Nat)) (-1)) where
 mem:=by simp
 obj:=λ i h st b hb=>by
  have e:b=it:=by simpa using hb
  subst e;exact⟨_,st,λ v z=>by
   have z':Data.fields _=Data.cell v:=z;cases z'⟩
 keep:=λ i h h' st k=>k it (by simp) _ st
 item:=by
  intro X hP hw hK hc i pins s σ H E I hf st hg;subst hP hw hK;obtain⟨f0,f1,f2,f3,f4,f5⟩:=hf it (by simp);have W:=Walks.range (prog:=X.prog) (w:=X.w) (I.ok.hd hc) it lo (-1) n;refine W.item i s _ _ hg st λ v h' tk hv st' kk=>?_
  obtain⟨t,rfl⟩:=hv;have I1:Inv X pins σ H { s with heap:=h',toks:=tk }:=I.turned (λ b o hb e=>kk b o (by simpa using hb) e) f0 f1 f3 f4 f5;refine⟨_,rfl,kK (s:={ s with heap:=h',toks:=tk }) (n:="range_iterator") st' rfl rfl (by decide) ⟨.int (lo-i),H,I1,⟨t,?_⟩,⟨rfl,rfl⟩,st',λ b hb=>(hf b hb).1⟩⟩;have:lo+(i:Nat)*(-1)=lo-i:=⋯
  rw[this]
 done:=by
  intro X hP hw hK hc i pins s σ H E I hf st hg;subst hP hw hK;obtain⟨f0,f1,f2,f3,f4,f5⟩:=hf it (by simp);exact AZ (I.ok.hd hc) st (by have:n<=i:=hg;omega) λ h' eb=>⟨rfl,I.turned (t':=s.toks) (λ b o hb e=>eb b o hb e) f0 f1 f3 f4 f5⟩
 self:=λ _ _ _ _ _ st h=>A0 st h
theorem et (a b:Int):zB a b (-1)=((a-b).toNat:Int):=by
 unfold zB;by_cases h:a > b
 ·simp[h];omega
 ·simp[h];omega
def ur (ta:TA):TI:=λ σ H R=>ta σ H λ vs H1=>∃ i j:Int,vs=[.int i,.int j,.int (-1)]/\Dv.rngOk i=true/\Dv.rngOk j=true/\R (ItD i (i-j).toNat) H1
theorem m6 {i j:Int}(h1:Dv.rngOk i=true)(h2:Dv.rngOk j=true):Bq i j (-1)=true:=by
 simp only[Dv.rngOk,v8,decide_eq_true_eq] at h1 h2;have hz:=et i j;unfold Bq;rw[hz];simp only[Builtin.Range.rangeFitsLong,v8,xw,decide_eq_true_eq,beq_iff_eq,show ¬ ((-1:Int) > 0) by decide,if_false];omega
theorem lF {X:Cx}{tg:Expr}{a b c:Expr}{ta:TA}{p pos:Pos}(hg:Gl X "range")(hm:X.mg "range"=none)(ha:PA X [a,b,c] ta)(hs:starEach [a,b,c] X.env=(false,eval a X.env)::starEach [b,c] X.env)(hpl:(backTo pos (starEach [b,c] X.env)).any (·.1)=false):
  PI X tg (.Call (.Name "range" p) [a,b,c] [] pos) (ur ta):=by
 intro pins s σ H R I h;refine Call_ (cD I hg hm boot_range (yQ (thn (ha pos pins s σ H _ I h) λ us s1 ⟨vs,H1,I1,r1,q1⟩=>?_) hs hpl));obtain⟨i,j,e,q1,q2,q⟩:=q1;subst e;cases r1 with
 | cons r rr=>
  cases rr with
  | cons r' rr=>
   cases rr with
   | cons r'' rr=>
   cases rr;obtain⟨t,rfl⟩:=r;obtain⟨t',rfl⟩:=r';obtain⟨t'',rfl⟩:=r'';refine call_range_3 (by decide) ?_ (Or.inl (AQ (by decide +kernel)))
   refine BA (BX ..) (m6 q1 q2) ?_
   have I2:Inv X pins σ H1 { s1 with heap:=s1.heap.push { cls:=.type "range",data:=.fields #[.int i t,.int j t',.int (-1) t''] } }:=I1.kept (t':=s1.toks) λ b o e=>yB _ e
   refine⟨(s1.heap.push { cls:=.type "range",data:=.fields #[.int i t,.int j t',.int (-1) t''] }).objs.size,[(s1.heap.push { cls:=.type "range",data:=.fields #[.int i t,.int j t',.int (-1) t''] }).objs.size],_,_,H1,rfl,
    I2.kept (t':=s1.toks) λ b o e=>yB _ e,ma _ i (i-j).toNat,?_,λ b hb=>?_,q⟩
   ·have e1:i+((0:Nat):Int)*(-1)=i:=by simp
    have e2:(((i-j).toNat:Nat):Int)-((0:Nat):Int)=zB i j (-1):=by rw[et];omega
    show IsRangeIter _ _ (i+((0:Nat):Int)*(-1)) ((((i-j).toNat:Nat):Int)-((0:Nat):Int)) (-1)
    rw[e1,e2];exact yD _ rfl
   ·have e:b=(s1.heap.push { cls:=.type "range",data:=.fields #[.int i t,.int j t',.int (-1) t''] }).objs.size:=by simpa using hb
    subst e;exact I2.fpOk (wm _) (I2.hok.fresh (wm _))
theorem jg (hi:Int):∀ (n i:Nat) (d:D),(Dv.downL hi n)[i]?=some d->i<n/\d=.int (hi-i)
 | 0,i,d,h=>by simp[Dv.downL] at h
 | n+1,0,d,h=>by simp[Dv.downL] at h;subst h;simp
 | n+1,i+1,d,h=>by
  have:=jg (hi-1) n i d (by simpa[Dv.downL] using h);refine⟨⋯,?_⟩;rw[this.2];congr 1;omega
theorem jo:∀ (n:Nat) (hi:Int),(Dv.downL hi n).length=n
 | 0,hi=>rfl
 | n+1,hi=>by unfold Dv.downL;rw[wt,jo n]
theorem mH {K:yy}{Hv:Hp}(hi:Int)(n:Nat):Wlk K (ItD hi n) Hv (Dv.downL hi n):=λ i H s=>⟨λ d hd=>by
 obtain⟨h1,rfl⟩:=jg hi n i d hd;exact⟨h1,λ v H' ⟨e1,e2⟩=>by subst e1 e2;exact⟨Hv,.refl s,bp⟩⟩,λ e=>by
 rw[jo] at e;show n<=i
 omega⟩
def OkR (K:yy)(Hv H:Hp)(W:XK)(cls:String->Value)(r:RI)(T:It->Hp->Prop):Prop:=match r with
 | .ok ds _=>∀ J Hv' H',Ext Hv H Hv' H'->(∀ Hc,Wlk K J Hc ds)->T J H'
 | .exc c=>∀ Hv' H',Ext Hv H Hv' H'->W (cls c) none H'
 | .bad=>False
def SR (C:Ctx)(tg it:Expr)(f:EI):Prop:=
 ∃ t:TI,PI C.X tg it t/\∀ σ H Hv ρ T,EnvR C.X.K Hv ρ σ->Same Hv H->OkR C.X.K Hv H (C.W σ) C.cls (f ρ) T->t σ H T
section
variable {C:Ctx}{a b c e:Expr}{f g h:EE}{F:SS}{pos pos':Pos}
theorem pL {tg:Expr}{p:Pos}(hg:Gl C.X "range")(hm:C.X.mg "range"=none)(he:SE C e f)(hb:SE C b g)(hc:SE C c (Dv.eNeg (Dv.eInt 1)))(hs:autoParam (starEach [e,b,c] C.X.env=(false,eval e C.X.env)::starEach [b,c] C.X.env) ZF._auto_1)
  (hs2:autoParam (starEach [b,c] C.X.env=(false,eval b C.X.env)::starEach [c] C.X.env) ZF._auto_1) (hs3:autoParam (starEach [c] C.X.env=[(false,eval c C.X.env)]) ZF._auto_1):SR C tg (.Call (.Name "range" p) [e,b,c] [] pos) (Dv.iDown f g):=by
 obtain⟨t,pe,q⟩:=he;obtain⟨t2,pe2,q2⟩:=hb;obtain⟨t3,pe3,q3⟩:=hc;refine⟨_,lF hg hm (au pe (au pe2 (au pe3 aM hs3) hs2) hs) hs (by rw[hs2,hs3];rfl),λ σ H Hv ρ T er s w=>?_⟩;refine q σ H Hv ρ _ er s ?_
 unfold Dv.iDown at w;cases hf:f ρ with
 | bad=>rw[hf] at w;exact w
 | exc c=>rw[hf] at w;exact w
 | ok d fr=>
  rw[hf] at w;intro v Hv' H' x rp n;cases d with
  | int i=>
   refine q2 σ H' Hv' ρ _ (er.same x.vv) x.vh ?_
   cases hg':g ρ with
   | bad=>simp only[hg'] at w;exact w
   | exc c=>simp only[hg'] at w;exact λ Hv2 H2 y=>w Hv2 H2 (x.trans y)
   | ok d2 fr2=>
    simp only[hg'] at w;intro v2 Hv2 H2 y rp2 n2;cases d2 with
    | int j=>
     by_cases hr:(Dv.rngOk i&&Dv.rngOk j)=true
     ·simp only[hr,if_true] at w
      rw[v8] at hr;refine q3 σ H2 Hv2 ρ _ ((er.same x.vv).same y.vv) y.vh ?_
      intro v3 Hv3 H3 z rp3 n3;unfold Rp at rp rp2 rp3;subst rp rp2 rp3;exact⟨i,j,rfl,hr.1,hr.2,w _ Hv3 H3 ((x.trans y).trans z) λ _=>mH i _⟩
     ·simp only[hr] at w;exact Zf w
    | _=>exact Zf w
  | _=>exact Zf w
theorem qZ {i:Nat}{x:Str}{it:Expr}{body:List Stmt}{fi:EI}(hi:SR C (.Name x pos') it fi)(hb:SSs C body F)(hN:C.X.N.Nodup)(hn:C.X.N[i]?=some x)(hx:Loc C.X.env.scope x)
  (hf:autoParam (C.X.fn x=true\/C.X.env.scope.names.lookup x=some .local) ZB._auto_1) (hs:autoParam (∀ x,foldedSetIterable it C.X.env x=pure x) ZE._auto_1) (hcalm:autoParam (C.X.calm=true) ZF._auto_1):
  SSt C (.For (.Name x pos') it body [] pos) (Dv.sForR i fi F):=by
 obtain⟨wi,pi,qi⟩:=hi;obtain⟨g,pg,qg⟩:=la (C:=C) (pos:=pos') hN hn hx hf;obtain⟨tb,pb,qb⟩:=hb;refine⟨_,km C.own hcalm pi pg pb hs,λ Hv₀ H₀ E σ H st ⟨Hc,O,r⟩ w=>?_⟩;unfold Dv.sForR at w;refine qi σ H (cQ Hc O H) (Dv.all st) _ r.envAll r.allH ?_
 cases hf:fi (Dv.all st) with
 | bad=>simp only[hf] at w;exact w
 | exc c=>simp only[hf] at w;exact λ Hv' H' x=>w σ H' ⟨Hc,O,r.grow x.hh x.nf⟩
 | ok ds fr=>
  simp only[hf] at w;intro J Hv' H' x wl;have r1:=r.grow x.hh x.nf;rw[<- fZ] at w;exact nu qg qb (wl Hc) ⟨Hc,O,r1.self⟩ (w.less r1.vc r1.new)
end
def ItE (K:yy)(l:Addr):It:=
  ⟨λ i H=>∃ (xs:List V) (x:V),SqL K H l xs/\xs[i]?=some x,
   λ i H v H'=>∃ p,H p=none/\v=.ref p/\∀ xs,SqL K H l xs->∃ x,xs[i]?=some x/\H'=upd H p (.tup [.int i,x]),
   λ i H=>∃ xs,SqL K H l xs/\xs.length<=i⟩
theorem lL {P:Program}{w:World}{K:yy}{es:List Expr}{kt:Nat}{tpos:Pos}{z i1 l:Addr}(hne:z≠i1)(hl1:l≠z)(hl2:l≠i1):
  Turn P w K (.Tuple es kt tpos) (ItE K l) [z,i1] z (λ i h=>(∃ old,IsEnum h z i1 i old)/\h.IsListIter i1 l i) where
 mem:=by simp
 obj:=λ i h ⟨⟨old,a1⟩,⟨o4,e4,_,d4⟩⟩ b hb=>by
  simp only[wz,wu,or_false] at hb
  rcases hb with rfl|rfl
  ·exact⟨_,a1,λ v q=>by cases q⟩
  ·exact⟨_,e4,λ v q=>by rw[d4] at q;cases q⟩
 keep:=λ i h h' ⟨⟨old,a1⟩,a4⟩ k=>⟨⟨old,k z (by simp) _ a1⟩,a4.at λ o e=>k i1 (by simp) o e⟩
 item:=by
  intro X hP hw hK hc i pins s σ H E I hf ⟨⟨old,a1⟩,a4⟩ hg;subst hP hw hK;obtain⟨xs,x,hq1,hx⟩:=hg;obtain⟨its1,r1,p1,z1⟩:=I.list hq1;obtain⟨u1,e1,ru1⟩:=r1.get hx;refine wpAny_pyNext_enum_item a1 a4 p1.isList (x:=u1) (by simpa using e1) hne λ h' b1 b3 b5 b6 kk=>?_
  refine⟨_,rfl,AG b1 λ h2 hz sb=>?_⟩;have hf0:H s.heap.objs.size=none:=I.hok.fresh (wm _);have ltz:s.heap.objs.size≠z:=w9 (yA a1);have kept:∀ b o,b∉[z,i1]->s.heap.get? b=some o->h2.get? b=some o:=λ b o hb e=>by
   simp only[wz,wu,or_false,not_or] at hb;exact(sb.2 b hb.1).trans (kk b o hb.1 hb.2 e)
  have I0:Inv X pins σ H { s with toks:=s.toks+1 }:=I.tok _;have I2:Inv X pins σ H { s with heap:=h2,toks:=s.toks+1 }:=Inv.but I0 hf kept;have tp:IsTup h2 s.heap.objs.size #[.int i s.toks,u1]:=⟨_,(sb.2 _ ltz).trans b5,rfl,_,rfl⟩;have I3:Inv X pins σ (upd H s.heap.objs.size (.tup [.int i,x])) { s with heap:=h2,toks:=s.toks+1 }:=by
   have hk2:HOk X.prog X.w (upd H s.heap.objs.size (.tup [.int i,x])) h2:=b7 I2.hok hf0 ⟨by show 2<=sizeLine;decide,[.int i s.toks,u1],.cons ⟨_,rfl⟩ (.cons ru1 .nil),tp⟩;have nsz:∀ b o,s.heap.get? b=some o->b≠s.heap.objs.size:=λ b o e=>wb (yA e)
   refine I.step (g':=s.gens) (d':=s.drawn) (t':=s.toks+1) (ch:=[z,i1]) (λ b hb=>⟨(hf b hb).2.2.2.1,(hf b hb).2.1,(hf b hb).2.2.2.2.1,(hf b hb).2.2.2.2.2⟩) (λ b o _ _ hc e _=>kept b o hc e) (λ b o _ _ hc e _=>⟨o.slots,kept b o hc e⟩) (λ b o _ e n=>by rw[ai (nsz b o e)];exact n)
    (λ b o hc e=>⟨o,kept b o hc e⟩) (λ b us e=>by rw[ai (ak e hf0)];exact e) (λ b ob us e=>by rw[ai (ak e hf0)];exact e) (λ b ps e=>⟨#[],by rw[ai (ak e hf0),e];simp⟩) (λ m hm=>?_) hk2 I.bare
   obtain⟨o,es,ep,ho,r⟩:=hm;exact⟨o,es,ep,kept _ _ (λ hb=>(hf _ hb).2.1 rfl) ho,r⟩
  have c4:h2.IsListIter i1 l (i+1):=b3.extBut sb.extBut (Ne.symm hne);refine⟨.ref s.heap.objs.size,_,I3,rfl,⟨s.heap.objs.size,hf0,rfl,λ as h1=>?_⟩,⟨⟨u1,by exact_mod_cast hz⟩,c4⟩,λ b hb=>?_⟩
  ·exact⟨x,by rw[I.list_inj h1 hq1];exact hx,rfl⟩
  ·have hbs:b≠s.heap.objs.size:=by
    simp only[wz,wu,or_false] at hb
    rcases hb with rfl|rfl
    ·exact wb (yA a1)
    ·obtain⟨o,e,_⟩:=a4;exact wb (yA e)
   rw[ai hbs];exact(hf b hb).1
 done:=by
  intro X hP hw hK hc i pins s σ H E I hf ⟨⟨old,a1⟩,a4⟩ hg;subst hP hw hK;obtain⟨xs,hq1,hx⟩:=hg;obtain⟨its1,r1,p1,z1⟩:=I.list hq1;have n1:=r1.length;refine wpAny_pyNext_enum_end (I.ok.hd hc) a1 a4 p1.isList (by simp;omega) λ h' kk=>⟨rfl,Inv.but I hf λ b o hb e=>?_⟩
  simp only[wz,wu,or_false,not_or] at hb;exact kk b o hb.2 e
 self:=λ _ _ _ _ _ st h=>zI st.1.choose_spec h
def tm (K:yy)(ta:TA):TI:=λ σ H T=>ta σ H λ vs H1=>∃ l xs,vs=[.ref l]/\SqL K H1 l xs/\T (ItE K l) H1
theorem pJ {X:Cx}{a:Expr}{ta:TA}{es:List Expr}{kt:Nat}{tpos p pos:Pos}(hg:Gl X "enumerate")(hm:X.mg "enumerate"=none)(ha:PA X [a] ta)(hs:starEach [a] X.env=[(false,eval a X.env)]):
  PI X (.Tuple es kt tpos) (.Call (.Name "enumerate" p) [a] [] pos) (tm X.K ta):=by
 intro pins s σ H R I h;refine Call_ (cD I hg hm (by decide +kernel:bootBuiltins "enumerate"=some (.type "enumerate")) (yQ (thn (ha pos pins s σ H _ I h) λ us s1 ⟨vs,H1,I1,r1,q1⟩=>?_) hs rfl));obtain⟨l,xs,rfl,hq1,q⟩:=q1;obtain⟨u1,rfl,e1⟩:=vals1 r1;cases e1;obtain⟨its1,rr1,p1,z1⟩:=I1.list hq1;refine call_enumerate_list p1.isList λ h' c1 c4 c6 kk=>?_
 have lt1:l<s1.heap.objs.size:=by obtain⟨o,e,_⟩:=p1.isList;exact yA e
 have I2:Inv X pins σ H1 { s1 with heap:=h' }:=I1.kept (t':=s1.toks) kk;refine zI c1 ⟨s1.heap.objs.size+1,[s1.heap.objs.size+1,s1.heap.objs.size],_,_,H1,rfl,I2,lL (xI _) (wb (wX lt1)) (wb lt1),⟨⟨.none,c1⟩,c4⟩,λ b hb=>?_,q⟩;have hb':s1.heap.objs.size<=b:=by
  simp only[wz,wu,or_false] at hb
  rcases hb with rfl|rfl
  ·exact wU _ _
  ·exact wm _
 exact I1.fpOk hb' (I1.hok.fresh hb')
theorem gG:∀ {xs:List D} {k i:Nat} {d:D},(Dv.enumL k xs)[i]?=some d->∃ x,xs[i]?=some x/\d=.tup [.int ((k+i:Nat):Int),x]
 | [],k,i,d,h=>by simp[Dv.enumL] at h
 | x::r,k,0,d,h=>by simp[Dv.enumL] at h;subst h;exact⟨x,rfl,by simp⟩
 | x::r,k,i+1,d,h=>by
  obtain⟨y,h1,h2⟩:=gG (k:=k+1) (i:=i) (d:=d) (xs:=r) (by simpa[Dv.enumL] using h);refine⟨y,by simpa using h1,?_⟩;rw[h2];have:k+1+i=k+(i+1):=⋯
  rw[this]
theorem f6:∀ (xs:List D) (k:Nat),(Dv.enumL k xs).length=xs.length
 | [],k=>rfl
 | x::r,k=>by unfold Dv.enumL;rw[wt,wt,f6 r]
theorem qu {C:Ctx}{a:Expr}{f:EE}{es:List Expr}{kt:Nat}{tpos p pos:Pos}(hg:Gl C.X "enumerate")(hm:C.X.mg "enumerate"=none)(ha:SE C a f)(hs:autoParam (starEach [a] C.X.env=[(false,eval a C.X.env)]) ZF._auto_1):
  SI C (.Tuple es kt tpos) (.Call (.Name "enumerate" p) [a] [] pos) (Dv.iEnum f):=by
 obtain⟨t,pe,q⟩:=ha;refine⟨_,pJ hg hm (au pe aM hs) hs,λ σ H Hv ρ T er s w=>?_⟩;refine q σ H Hv ρ _ er s ?_
 unfold Dv.iEnum at w;cases hf:f ρ with
 | bad=>rw[hf] at w;exact w
 | exc c=>rw[hf] at w;exact w
 | ok d fr=>
  rw[hf] at w;intro v Hv' H' x rp n;cases d with
  | lst xs=>
   unfold Rp at rp;obtain⟨l1,vs,rfl,h1,h2⟩:=rp;refine⟨l1,vs,rfl,(h1.same x.vh).seq,w _ Hv' H' x λ i H3 s3=>⟨λ d hd=>?_,λ hi=>?_⟩⟩
   ·obtain⟨dx,g1,rfl⟩:=gG hd
    obtain⟨vx,k1,k2⟩:=h2.get g1;refine⟨⟨vs,vx,(h1.same s3).seq,k1⟩,λ u H4 ⟨p,hp,e1,hh⟩=>?_⟩;obtain⟨x',m1,rfl⟩:=hh vs (h1.same s3).seq;rw[k1] at m1;cases m1;subst e1;have nx:=Ext.new1 s3 hp (.tup [.int i,vx]);refine⟨_,nx,?_⟩;unfold Rp;refine⟨p,_,rfl,.inl ao,.cons ?_ (.cons (k2.same nx.vv) .nil)⟩;unfold Rp;simp
   ·refine⟨vs,(h1.same s3).seq,?_⟩
    rw[h2.length];rw[f6] at hi;omega
  | _=>exact Zf w
theorem e8 {K:yy}{H:Hp}{j:Int}{d:D}:∀ {ks:List Int} {ds:List D} {vs:List V},RpL K H ds vs->Dv.look ks ds j=some d->∃ v,eQ ((ks.map (Sum.inl:Int->Key)).zip vs) (Sum.inl j)=some v/\Rp K H d v
 | [],ds,vs,h,e=>by simp[Dv.look] at e
 | k::ks,[],vs,h,e=>by simp[Dv.look] at e
 | k::ks,x::ds,vs,h,e=>by
  unfold RpL at h;obtain⟨v,ws,rfl,h1,h2⟩:=h;unfold Dv.look at e;rw[we,xl];by_cases hk:k=j
  ·rw[if_pos hk] at e
   cases e;exact⟨v,eA (by rw[hk]),h1⟩
  ·rw[if_neg hk] at e
   obtain⟨u,h3,h4⟩:=e8 h2 e;exact⟨u,by rw[eI (λ z=>hk (AY z))];exact h3,h4⟩
theorem gT {K:yy}{H:Hp}{j:Int}{x:D}{v:V}(rx:Rp K H x v):∀ {ks:List Int} {ds:List D} {vs:List V},ks.length=ds.length->RpL K H ds vs ->
  ∃ ws,((ks.map (Sum.inl:Int->Key)).zip vs).map (λ kv=>if kv.1=Sum.inl j then (kv.1,v) else kv)=(ks.map (Sum.inl:Int->Key)).zip ws/\RpL K H (Dv.replL ks ds j x) ws/\(Dv.replL ks ds j x).length=ds.length
 | [],[],vs,_,h=>⟨[],rfl,by unfold Dv.replL;exact .nil,rfl⟩
 | [],_::_,vs,hl,h=>by cases hl
 | _::_,[],vs,hl,h=>by cases hl
 | k::ks,d::ds,vs,hl,h=>by
  unfold RpL at h;obtain⟨u,us,rfl,h1,h2⟩:=h;obtain⟨ws,e1,e2,e3⟩:=gT rx (by simpa using hl) h2;unfold Dv.replL;rw[we,xl,we,e1];by_cases hk:k=j
  ·subst hk
   exact⟨v::ws,by simp,by rw[if_pos rfl];exact .cons rx e2,by simp[e3]⟩
  ·have:¬ ((Sum.inl k:Key)=Sum.inl j):=λ z=>hk (AY z)
   exact⟨u::ws,by simp[hk],by rw[if_neg hk];exact .cons h1 e2,by simp[e3]⟩
theorem ll {j:Int}:∀ {ks:List Int} {vs:List V},ks.length=vs.length->(((ks.map (Sum.inl:Int->Key)).zip vs).any λ kv=>decide (kv.1=Sum.inl j))=decide (j∈ks)
 | [],[],_=>by simp
 | [],_::_,h=>by cases h
 | _::_,[],h=>by cases h
 | k::ks,v::vs,h=>by
  rw[we,xl,w6,ll (by simpa using h)];by_cases hk:k=j
  ·subst hk;simp
  ·have h1:¬ ((Sum.inl k:Key)=Sum.inl j):=λ z=>hk (AY z)
   have h2:¬ j=k:=λ z=>hk z.symm
   simp[h1,h2]
theorem qK {K:yy}{H:Hp}{j:Int}{x:D}{v:V}{ks:List Int}{ds:List D}{vs:List V}(rx:Rp K H x v)(hl:ks.length=ds.length)(h:RpL K H ds vs):
  ∃ ws,putK ((ks.map (Sum.inl:Int->Key)).zip vs) (Sum.inl j) v=((Dv.putKs ks j).map (Sum.inl:Int->Key)).zip ws/\RpL K H (Dv.putL ks ds j x) ws/\(Dv.putKs ks j).length=(Dv.putL ks ds j x).length:=by
 have hv:=h.length;unfold putK Dv.putKs Dv.putL;rw[ll ⋯];by_cases hj:j∈ks
 ·rw[if_pos (decide_eq_true hj),if_pos hj,if_pos hj]
  obtain⟨ws,e1,e2,e3⟩:=gT (j:=j) rx hl h;exact⟨ws,e1,e2,by rw[e3,hl]⟩
 ·rw[if_neg (by simp[hj]),if_neg hj,if_neg hj]
  refine⟨vs++[v],?_,h.append (.cons rx .nil),by simp[hl]⟩;rw[xR,List.zip_append (by simp;omega)];rfl
section
variable {C:Ctx}{a b c e k:Expr}{f g h:EE}{F G:SS}{pos pos':Pos}{E:Ends}
theorem nH:SE C (.Dict [] [] pos) Dv.eDict0:=⟨_,jh,λ σ H Hv ρ Q e s w p hp=>by
 refine w (.ref p) _ _ (Ext.new1 s hp (.dK [])) ?_ λ _=>?_
 ·unfold Rp;exact⟨p,[],rfl,rfl,.inl ao,.nil⟩
 ·unfold Rp;exact⟨p,[],rfl,rfl,.inl (Hnew.at hp _),.nil⟩⟩
theorem rC (C:Ctx):C.X.A.units+1<cLine:=by have:=C.un;omega
theorem jT (ha:SE C a f)(hb:SE C b g)(hs:autoParam (lK b) ZK._auto_1):SE C (.Subscript a b pos) (Dv.eDix f g):=by
 obtain⟨ta,pa,qa⟩:=ha;obtain⟨tb,pb,qb⟩:=hb;refine⟨_,kq (rC C) pa pb hs,λ σ H Hv ρ Q e s w=>?_⟩;refine qa.step e (.refl s) w λ v d fr Hv1 H1 _ x1 _ rp1 n1 q1=>qb.step e x1 q1 λ v2 d2 fr2 Hv2 H2 _ x2 y2 rp2 _ q2=>?_
 have rp:=rp1.same y2.vv;have rn:fr=true->Rp [] (Hnew H H2) d v:=λ z=>(n1 z).same (Hnew.mono (.refl _) y2.hh)
 cases d with
 | dct ks ds=>
  cases d2 with
  | int j=>
   unfold Rp at rp2;cases hk:Dv.look ks ds j with
   | none=>simp only[hk] at q2;exact Zf q2
   | some d0=>
    simp only[hk] at q2;cases fr with
    | true=>
     have rp:=rn rfl;unfold Rp at rp;obtain⟨a,vs,rfl,hl,h1,h2⟩:=rp;obtain⟨v0,e1,e2⟩:=e8 h2 hk;exact⟨a,v0,rfl,.inl ⟨_,Sum.inl j,Rd.same Hnew.sub h1,rp2,e1.symm⟩,q2 v0 Hv2 H2 x2 (Rp.frag (e2.same x2.news)) λ z=>e2⟩
    | false=>
     unfold Rp at rp;obtain⟨a,vs,rfl,hl,h1,h2⟩:=rp;obtain⟨v0,e1,e2⟩:=e8 h2 hk;exact⟨a,v0,rfl,.inl ⟨_,Sum.inl j,Rd.same x2.vh h1,rp2,e1.symm⟩,q2 v0 Hv2 H2 x2 e2 λ z=>Rp.scal z e2⟩
  | _=>exact Zf q2
 | _=>exact Zf q2
theorem jG {R R':Hp}{a:Addr}{kvs:List (Key×V)}(ha:R a=some (.dK kvs))(hR:∀ b o,b≠a->R b=some o->R' b=some o):∀ {ds:List D} {vs:List V},Dv.lstsFlat ds=true->RpL [] R ds vs->RpL [] R' ds vs
 | [],vs,_,h=>by unfold RpL at h ⊢;exact h
 | d::r,vs,f,h=>by
  unfold RpL at h;obtain⟨v,ws,rfl,h1,h2⟩:=h;cases d with
  | lst es=>
   simp only[Dv.lstsFlat,v8] at f;refine .cons ?_ (jG ha hR f.2 h2)
   unfold Rp at h1 ⊢;obtain⟨b,us,rfl,h3,h4⟩:=h1;refine⟨b,us,rfl,?_,h4.flat f.1⟩
   rcases h3 with (h3|⟨u,h3⟩)|⟨its,n,e,_⟩
   ·exact .inl (.inl (hR b _ (λ z=>by rw[z,ha] at h3;cases h3) h3))
   ·exact .inl (.inr ⟨u,hR b _ (λ z=>by rw[z,ha] at h3;cases h3) h3⟩)
   ·simp at e
  | _=>simp[Dv.lstsFlat] at f
theorem nC {i y:Nat}{x yn:Str}{px py:Pos}(hk:SE C k g)(hN:autoParam (C.X.N[i]?=some x) ZF._auto_1)(hv:autoParam (Vis C.X.env.scope x) ZH._auto_1)
  (hd:autoParam ((x == ("__debug__":Str))=false) ZC._auto_1) (hcd:autoParam ((x == ("__classdict__":Str))=false) ZC._auto_1) (hNy:autoParam (C.X.N[y]?=some yn) ZF._auto_1) (hvy:autoParam (Vis C.X.env.scope yn) ZH._auto_1)
  (hdy:autoParam ((yn == ("__debug__":Str))=false) ZC._auto_1) (hcdy:autoParam ((yn == ("__classdict__":Str))=false) ZC._auto_1)
  (hs:autoParam (swapsWith (.Name yn py) (some (.Subscript (.Name x px) k pos')) pos.line C.X.env=pure false) ZF._auto_1):SSt C (.Assign [.Subscript (.Name x px) k pos'] (.Name yn py) pos) (Dv.sDMove i y g):=by
 obtain⟨t2,p2,q2⟩:=hk;refine⟨_,kx (rC C) (cJ hN hv hd hcd) p2 (cJ hNy hvy hdy hcdy) hs,λ Hv₀ H₀ E σ H st ⟨Hc,O,r⟩ w=>?_⟩;unfold Dv.sDMove at w;cases hi:st[i]? with
 | none=>simp only[hi] at w;exact Zf w
 | some si=>
  cases hy:st[y]? with
  | none=>simp only[hi,hy] at w;cases si <;>first|exact Zf w|(rename_i d;cases d <;>exact Zf w)
  | some sy=>
   simp only[hi,hy] at w;cases si with
   | dp d=>
    cases d with
    | dct ks ds=>
     cases sy with
     | ow d2=>
      cases d2 with
      | lst es=>
       obtain⟨b,ob,b1,b2,us,rfl,b3⟩:=r.ow y _ hy;obtain⟨v,h1,h2⟩:=r.dp i _ hi;refine⟨_,b1,_,h1,?_⟩;refine q2.all r (λ c hf H' r'=>?_) (λ hf=>?_) λ d fr v2 Hv' H' hf x r' rp n=>?_
       ·simp only[hf] at w;exact w σ H' ⟨Hc,O,r'⟩
       ·simp only[hf] at w;exact w
       ·cases d with
        | int j=>
         simp only[hf] at w;by_cases z:(Dv.flatL es&&Dv.lstsFlat ds&&decide (ks.length<Dv.mx)&&decide (ks.length=ds.length)&&decide (i≠y))=true
         ·simp only[z,if_true] at w
          simp only[v8,decide_eq_true_eq] at z;obtain⟨⟨⟨⟨z1,z2⟩,z3⟩,z4⟩,z5⟩:=z;unfold Rp at rp;subst rp;unfold Rp at h2;obtain⟨a,vs,rfl,hl,h3,h4⟩:=h2;have ha:O i a=some (.dK ((ks.map Sum.inl).zip vs)):=by
           rcases h3 with h3|⟨u,h3⟩
           ·exact h3
           ·exact absurd (r.oh i a _ h3).1 (r.nf a _ _ (r.oh i a _ h3).2.2)
          have hba:b≠a:=λ z=>z5 (r.one i y a _ _ ha (by rw[<- z];exact b2))
          have n1:∀ c o,O y c=some o->O i c=none:=λ c o h=>by
           cases q:O i c with
           | none=>rfl
           | some u=>exact absurd (r.one i y c u o q h) z5
          let R0:Hp:=cA (O i) (O y)
          have hR:∀ kvs c o,c≠a->O i c=some o->upd R0 a (.dK kvs) c=some o:=λ kvs c o hc h=>by
           rw[ai hc];exact ee c o h
          have rb:∀ kvs,Rp [] (upd R0 a (.dK kvs)) (.lst es) (.ref b):=λ kvs=>by
           unfold Rp;exact⟨b,us,rfl,SqX.of (by rw[ai hba];exact fT (λ c o h=>n1 c o h) b _ b2),b3.flat z1⟩
          obtain⟨ws,e1,e2,e3⟩:=qK (K:=[]) (j:=j) (H:=upd R0 a (.dK (putK ((ks.map Sum.inl).zip vs) (Sum.inl j) (.ref b)))) (rb _) hl (jG ha (hR _) z2 h4);refine⟨a,_,rfl,.inl ⟨_,Sum.inl j,x.hh _ _ (r.oh i a _ ha).1,rfl,?_,rfl⟩,w σ (upd H' a (.dK (putK ((ks.map Sum.inl).zip vs) (Sum.inl j) (.ref b)))) ⟨Hc,fL (fL O y λ _=>none) i (upd R0 a (.dK (putK ((ks.map Sum.inl).zip vs) (Sum.inl j) (.ref b)))),?_⟩⟩
          ·have z6:ks.length<100000:=z3
           have:=zt;simp only[yi,wg];omega
          ·have hσ:σ.set y (some (.ref b))=σ:=gz b1
           have r1:RelC C.X.K Hv₀ H₀ Hc (fL O y λ _=>none) (st.set y .no) (σ.set y (some (.ref b))) H':=
            r'.setAny r'.h0 r'.ch r'.nf (λ j hj=>aO hj) (λ _ e=>nomatch e) (λ _ e=>nomatch e) (λ _ e=>nomatch e) (λ _ _ e=>nomatch e)
             (λ j c o h=>by
              by_cases hj:j=y
              ·rw[hj,aw] at h;cases h
              ·rw[aO hj] at h;exact r'.oh j c o h)
             (λ j c o o' h=>by rw[aw] at h;cases h)
           rw[hσ] at r1;have hσi:σ.set i (some (.ref a))=σ:=gz h1;have oo:∀ c o,R0 c=some o->H' c=some o/\Hc c=none/\H₀ c=none:=λ c o h=>by
            rcases cg h with h|⟨_,h⟩
            ·exact r'.oh i c o h
            ·exact r'.oh y c o h
           have haH:=r'.oh i a _ ha;have r2:=r1.setAny (i:=i) (s:=.dp (.dct (Dv.putKs ks j) (Dv.putL ks ds j (.lst es)))) (v:=some (.ref a)) (H':=upd H' a (.dK (putK ((ks.map Sum.inl).zip vs) (Sum.inl j) (.ref b)))) (O':=fL (fL O y λ _=>none) i (upd R0 a (.dK (putK ((ks.map Sum.inl).zip vs) (Sum.inl j) (.ref b)))))
            (λ c o h=>by rw[ai (ak h haH.2.2)];exact r1.h0 c o h) (λ c o h=>by rw[ai (ak h haH.2.1)];exact r1.ch c o h)
            (λ c q u h=>by
             by_cases hc:c=a
             ·subst hc;rw[ao];intro z;cases z
             ·rw[ai hc];exact r1.nf c q u h)
            (λ j hj=>aO hj) (λ _ e=>nomatch e) (λ _ e=>nomatch e)
            (λ d e=>by
             cases e;refine⟨_,rfl,?_⟩;rw[aw];unfold Rp;exact⟨a,ws,rfl,e3,.inl (by rw[ao,e1]),e2⟩)
            (λ _ _ e=>nomatch e)
            (λ j' c o h=>by
             by_cases hj:j'=i
             ·rw[hj,aw] at h
              by_cases hc:c=a
              ·subst hc;rw[ao] at h ⊢;exact⟨h,haH.2⟩
              ·rw[ai hc] at h ⊢;exact oo c o h
             ·rw[aO hj] at h
              have hc:c≠a:=λ z=>by
               have h':=h;by_cases hjy:j'=y
               ·rw[hjy,aw] at h';cases h'
               ·rw[aO hjy,z] at h';exact hj (r.one j' i a _ _ h' ha)
              rw[ai hc];exact r1.oh j' c o h)
            (λ j' c o o' h hj h'=>by
             rw[aw] at h;by_cases hjy:j'=y
             ·rw[hjy,aw] at h';cases h'
             ·rw[aO hjy] at h'
              by_cases hc:c=a
              ·rw[hc] at h';exact hj (r.one j' i a _ _ h' ha)
              ·rw[ai hc] at h
               rcases cg h with h|⟨_,h⟩
               ·exact hj (r.one j' i c _ _ h' h)
               ·exact hjy (r.one j' y c _ _ h' h))
           rw[hσi] at r2;exact r2
         ·simp only[z] at w;exact Zf w
        | _=>simp only[hf] at w;exact Zf w
      | _=>exact Zf w
     | _=>exact Zf w
    | _=>cases sy <;>first|exact Zf w|(rename_i d;cases d <;>exact Zf w)
   | _=>cases sy <;>first|exact Zf w|(rename_i d;cases d <;>exact Zf w)
theorem cK {H H':Hp}{b:Addr}{o:HO}(h:Hnew H H' b=some o):H b=none:=by
 unfold Hnew at h;cases q:H b with
 | none=>rfl
 | some u=>rw[q] at h;cases h
theorem kY {i:Nat}{x:Str}(he:SE C e f)(hN:C.X.N.Nodup)(hi:C.X.N[i]?=some x)(hx:Loc C.X.env.scope x)(hs:autoParam (swapsWith e (some (.Name x pos')) pos.line C.X.env=pure false) ZF._auto_1)
  (hf:autoParam (C.X.fn x=true\/C.X.env.scope.names.lookup x=some .local) ZB._auto_1):SSt C (.Assign [.Name x pos'] e pos) (Dv.sSetD i f):=by
 obtain⟨t,p,q⟩:=he;refine⟨_,dG hN hi hx p hs hf,λ Hv₀ H₀ E σ H st ⟨Hc,O,r⟩ w=>?_⟩;unfold Dv.sSetD at w;refine q.all r (λ c hf H' r'=>?_) (λ hf=>?_) λ d fr v Hv' H' hf x r' rp n=>?_
 ·rw[hf] at w;exact w σ H' ⟨Hc,O,r'⟩
 ·rw[hf] at w;exact w
 ·rw[hf] at w
  cases fr with
  | false=>exact Zf w
  | true=>
   refine w _ H' ⟨Hc,_,r'.setDp (R:=Hnew H H') (λ b o h=>⟨Hnew.sub b o h,r.ch.free (cK h),r.h0.free (cK h),λ j _=>?_⟩) (n rfl)⟩;cases z:O j b with
   | none=>rfl
   | some u=>have:=(r.oh j b u z).1;rw[cK h] at this;cases this
theorem qC {i:Nat}{x:Str}{px pt:Pos}{kt:Nat}(he:SE C e f)(hN:autoParam (C.X.N[i]?=some x) ZF._auto_1)(hv:autoParam (Vis C.X.env.scope x) ZH._auto_1)(hd:autoParam ((x == ("__debug__":Str))=false) ZC._auto_1)
    (hcd:autoParam ((x == ("__classdict__":Str))=false) ZC._auto_1) (h1:autoParam (starEach [.Name x px,e] C.X.env=(false,eval (.Name x px) C.X.env)::starEach [e] C.X.env) ZF._auto_1) (h2:autoParam (starEach [e] C.X.env=[(false,eval e C.X.env)]) ZF._auto_1):
    SSt C (.Return (some (.Tuple [.Name x px,e] kt pt)) pos) (Dv.sRetT i f):=by
  obtain⟨t,p,q⟩:=he;refine⟨_,cw (oz (au (cJ hN hv hd hcd) (au p aM h2) h1)),λ Hv₀ H₀ E σ H st ⟨Hc,O,r⟩ w=>?_⟩;unfold Dv.sRetT at w;cases hi:st[i]? with
  | none=>rw[hi] at w;exact Zf w
  | some s=>
    rw[hi] at w;cases s with
    | ow d0=>
     cases d0 with
     | lst ds=>
      obtain⟨a,o,g1,g2,vs,rfl,g3⟩:=r.ow i _ hi;refine⟨_,g1,?_⟩;refine q.all r (λ c hf H' r'=>?_) (λ hf=>?_) λ d fr v Hv' H' hf x r' rp n=>?_
      · simp only[hf] at w;exact w σ H' ⟨Hc,O,r'⟩
      · simp only[hf] at w;exact w
      · cases d with
        | lst es=>
          cases fr with
          | false=>simp only[hf] at w;exact Zf w
          | true=>
            simp only[hf] at w;by_cases z:(Dv.flatL ds&&Dv.flatL es)=true
            · simp only[z,if_true] at w
              rw[v8] at z;obtain⟨b,zs,rfl,hb,hbn,rl⟩:=kH x (n rfl);refine⟨by show 2<=sizeLine;decide,λ tt ht=>?_⟩;have y:=x.trans (Ext.new1 x.vh ht (.tup [.ref a,.ref b]));obtain⟨Hv2,x2,s2⟩:=r.ret y;have ha:H a=some (.lst vs):=(r.oh i a _ g2).1;have na:a≠tt:=λ z=>by rw[<- z,x.hh _ _ ha] at ht;cases ht
              have nb:b≠tt:=λ z=>by rw[<- z,hb] at ht;cases ht
              have h0t:H₀ tt=none:=(r.h0.trans x.hh).free ht;refine w (.ref tt) Hv2 _ x2 ?_ λ _=>?_
              · unfold Rp
                refine⟨tt,_,rfl,.inl (s2 _ _ ao),.cons ?_ (.cons ?_ .nil)⟩
                · unfold Rp
                  exact⟨a,vs,rfl,SqX.of (s2 _ _ (y.vv _ _ (r.oAll i a _ g2))),g3.flat z.1⟩
                · have:=(rp.same (Ext.new1 x.vh ht (.tup [.ref a,.ref b])).vv).same s2
                  exact this
              · unfold Rp
                refine⟨tt,[.ref a,.ref b],rfl,.inl ?_,.cons ?_ (.cons ?_ .nil)⟩
                · unfold Hnew;rw[h0t];exact ao
                · unfold Rp
                  refine⟨a,vs,rfl,SqX.of ?_,g3.flat z.1⟩;unfold Hnew;rw[(r.oh i a _ g2).2.2];show upd H' tt _ a=_
                  rw[ai na];exact x.hh _ _ ha
                · unfold Rp
                  refine⟨b,zs,rfl,SqX.of ?_,rl.flat z.2⟩;unfold Hnew;rw[r.h0.free hbn];show upd H' tt _ b=_
                  rw[ai nb];exact hb
            · simp only[z] at w;exact Zf w
        | _=>simp only[hf] at w;exact Zf w
     | _=>exact Zf w
    | _=>exact Zf w
end
structure RoomH (k:Nat)(A:Around):Prop where
 dp:A.depth+3*k+5<recursionLimit
 un:A.units+16*k+200<cLine
theorem RoomH.mono {j k:Nat}{A:Around}(r:RoomH k A)(h:j<=k):RoomH j A:=⟨by have:=r.dp;omega,by have:=r.un;omega⟩
theorem RoomH.deeper {k:Nat}{A:Around}(r:RoomH (k+1) A)(env:yF):RoomH k (A.deeper env):=
 ⟨by have:=r.dp;show A.depth+1+3*k+5<_;omega,by have:=r.un;show A.units+3+16*k+200<_;omega⟩
theorem RoomH.depth {k:Nat}{A:Around}(r:RoomH k A):A.depth<recursionLimit:=by have:=r.dp;omega
theorem RoomH.units {k:Nat}{A:Around}(r:RoomH k A):A.units+64<cLine:=by have:=r.un;omega
theorem uY {k:Nat}{A:Around}{e:Option Value}(r:Room k A):RoomH k (A.mark e):=⟨r.dp,r.un⟩
def cxH (P:Program)(w:World)(K:yy)(mg:Str->Option Value)(base:Heap)(N:List Str)(qual:Str)(scope:Scope)(f:Addr)(cd:Value)(A:Around)(outer:List yF)(s:Shared)(H:Hp):Cx:=
 { bJ CX0 P w K mg base N qual scope f cd A outer s H E0 with calm:=false,xe:=λ _ _=>False }
theorem ki {P:Program}{w:World}{K:yy}{mg:Str->Option Value}{base:Heap}{N ps:List Str}{qual:Str}{scope:Scope}{f:Addr}{cd:Value}{A:Around}{outer:List yF}{s s1:Shared}{H:Hp}{us:List Value}{vs:List V}
  (S:FnScope N ps scope) (e0:Env0 P w K mg base A outer s H) (hl:vs.length=ps.length) (r:Vals vs us)
  (x:InCallC s s.heap.objs.size (bindL (envOfC qual scope s.heap.objs.size f cd).kindOf (ps.zip us) λ _=>none) (cellsFrom (s.heap.objs.size+1) scope.names []) (bindC (envOfC qual scope s.heap.objs.size f cd).kindOf (ps.zip us) λ _=>none) s1):
  Inv (cxH P w K mg base N qual scope f cd A outer s H) [] (start N vs) H s1:=by
 have e1:Env0 P w K mg base { A with handled:=none } outer s H:=⟨e0.frames,e0.mod,e0.bs,e0.bsz,e0.funs,e0.frf,e0.hok,e0.bare⟩;have I:=iw (CX:=CX0) (E:=E0) (A:={ A with handled:=none }) S rfl e1 hl r x;exact⟨⟨I.ok.mod,I.ok.kind,I.ok.glob,I.ok.blt,I.ok.above,I.ok.inj,I.ok.has,I.ok.cab,(λ z=>nomatch z),I.ok.frames,I.ok.stk,I.ok.exf,I.ok.bs,I.ok.bsz,I.ok.noex,I.ok.exfs,I.ok.funs,I.ok.frf⟩,I.os,I.bare,I.base,I.loc,I.cell,I.free,I.freeC,I.pin,I.hok,I.len⟩
structure FnOkH (P:Program)(w:World)(K:yy)(mg:Str->Option Value)(base:Heap)(k:Nat)(f:Addr)(fd:FuncData)(ps:List Str)(sp:Sp):Prop where
 len:∀ vs H Q E,sp vs H Q E->vs.length=ps.length
 run:∀ (A:Around) (outer:List yF) (s:Shared) (H:Hp) (args:Args) (us:List Value) (vs:List V) (Q:VK),RoomH k A->Env0 P w K mg base A outer s H->BindsTo s fd args (ps.zip us)->Vals vs us->sp vs H Q E0 ->
  codeAny (model P w) A (.call (.ref f) args) (CR CX0 outer P w H s Q E0) s
theorem FnOkH.mono {P:Program}{w:World}{K:yy}{mg:Str->Option Value}{base:Heap}{j k:Nat}{f:Addr}{fd:FuncData}{ps:List Str}{sp:Sp}(F:FnOkH P w K mg base j f fd ps sp)(h:j<=k):
  FnOkH P w K mg base k f fd ps sp:=⟨F.len,λ A outer s H args us vs Q hr=>F.run A outer s H args us vs Q (hr.mono h)⟩
section
variable {P:Program}{w:World}{K:yy}{mg:Str->Option Value}{base:Heap}{CX:CXT}
def r8 {P:Program}{w:World}(hC:CXok P w CX)(cls:String->Value)(K:yy)(mg:Str->Option Value)(base:Heap)(N:List Str)(qual:Str)(scope:Scope)(f:Addr)(cd:Value)(A:Around)(outer:List yF)(s:Shared)(H:Hp)
  {k:Nat} (hr:RoomH k (A.deeper (envOfC qual scope s.heap.objs.size f cd))):Ctx where
 X:=cxH P w K mg base N qual scope f cd A outer s H
 W:=λ _=>E0
 cls:=cls
 CX:=CX
 un:=hr.units
 own:=AW
 pass:=λ pins σ H1 s1 e s' I h=>hC.no _ _ _ _ _ h
 cxF:=hC.no
theorem sD (hC:CXok P w CX)(cls:String->Value){x qual:Str}{st:Stmt}{f:Addr}{N ps:List Str}{k:Nat}{body:SS}(oc:Value)(od:Option Addr)(dV kV doc pm:Value)(an:Option Addr)(cdv ct:Value)(osl:Array (Option Value))
  (lk:K.lookup f=some ⟨oc,od,.func (yJ x qual (aE st) (ax st) (ae st) dV kV doc pm an cdv ct),osl⟩) (hcd:zc K cdv qual=true) (S:FnScope N ps (ae st))
  (hbody:∀ (A:Around) (outer:List yF) (s:Shared) (H:Hp) (hr:RoomH k (A.deeper (envOfC qual (ae st) s.heap.objs.size f cdv))),
   SSs (r8 hC cls K mg base N qual (ae st) f cdv A outer s H hr) (ax st) body):
  FnOkH P w K mg base (k+1) f (yJ x qual (aE st) (ax st) (ae st) dV kV doc pm an cdv ct) ps (spD K cls (Dv.fn N.length body) ps.length):=by
 have len:∀ vs H Q E,spD K cls (Dv.fn N.length body) ps.length vs H Q E->vs.length=ps.length:=λ vs H Q E h=>lh h
 refine⟨len,λ A outer s H args us vs Q hr e0 hb r hsp=>?_⟩;have hl:=len _ _ _ _ hsp;have KX:K.In s.heap:=e0.mod.kin.keeps λ b o e=>(e0.bs b o e).1
 have lim:s.heap.NoLimit:=e0.mod.nolimit.keeps λ b o e=>(e0.bs b o e).1
 have hkind:∀ y∈ps.zip us,(ae st).names.lookup y.1=some .local\/((ae st).names.lookup y.1=some .cell/\((cellsFrom (s.heap.objs.size+1) (ae st).names []).lookup y.1).isSome=true):=λ⟨n,v⟩ hy=>by
  rcases S.par n (xu hy).1 with q|q
  ·exact .inl q
  ·exact .inr ⟨q,z9 _ _ _ (.inl q)⟩
 refine A7 hr.depth (KX _ _ lk) rfl S.co S.gen rfl (BD KX hcd) (hb _ _ _ _ ?_);refine AD S.kind hkind λ env he s1 x=>?_
 subst he;refine⟨lim.keeps x.toInCall.keep,codeAny_func ?_⟩;obtain⟨ds,Hv,hld,sv,rp,ok⟩:=hsp;obtain⟨t,ht,q⟩:=hbody A outer s H (hr.deeper _);have hpl:ps.length<=N.length:=by
  have:=congrArg List.length S.pre;rw[xq] at this;omega
 have hq:=q Hv H { nx:=λ _ H'=>Q .non H',rt:=Q } (start N vs) H _ ⟨Hv,_,ip sv rp ⋯⟩ (nA (C:=r8 hC cls K mg base N qual (ae st) f cdv A outer s H (hr.deeper _)) rfl ok);have I:Inv (cxH P w K mg base N qual (ae st) f cdv A outer s H) [] (start N vs) H s1:=ki S e0 hl r x;refine yC (ht [] s1 (start N vs) H _ I hq) (λ fl s' hs=>?_) λ e s' hs=>Zf hs
 have fin:∀ {σ':St} {H':Hp} {v:V} {u:Value},Inv (cxH P w K mg base N qual (ae st) f cdv A outer s H) [] σ' H' s'->RelV v u->Q v H'->CE outer P w H s Q u s':=
  λ {σ' H' v u} J rv q=>⟨v,H',J.os,J.bare,J.base,J.hok,rv,q⟩
 cases fl with
 | ret u=>
  obtain⟨v,σ',H',J,rv,q⟩:=hs;exact fin J rv q
 | next=>
  obtain⟨σ',H',J,q⟩:=hs;exact fin (v:=V.non) (u:=zX) J rfl q
 | brk=>
  obtain⟨_,_,_,q⟩:=hs;exact yN q
 | cont=>
  obtain⟨_,_,_,q⟩:=hs;exact yN q
theorem Df.isH {cls:String->Value}(hC:CXok P w CX){x:Str}{st:Stmt}{f:Addr}{fd:FuncData}{ps:List Str}{F:List D->R}{m j:Nat}(N:List Str)(k:Nat)(body:SS)(d:Df K mg x st ps f fd)(S:FnScope N ps (ae st))
  (hj:j=k+1) (hm:m=ps.length) (hF:F=Dv.fn N.length body)
  (hbody:∀ (cdv:Value) (A:Around) (outer:List yF) (s:Shared) (H:Hp) (hr:RoomH k (A.deeper (envOfC x (ae st) s.heap.objs.size f cdv))),SSs (r8 hC cls K mg base N x (ae st) f cdv A outer s H hr) (ax st) body):
  FnOkH P w K mg base j f fd ps (spD K cls F m):=by
 subst hj hm hF;obtain⟨oc,od,dV,kV,doc,pm,an,cdv,ct,osl,rfl,lk,hcd⟩:=d.ex;exact sD hC cls oc od dV kV doc pm an cdv ct osl lk hcd S (hbody cdv)
end
section
variable {C:Ctx}{e:Expr}{es:List Expr}{fl:EL}{pos:Pos}
theorem tX {k j:Nat}{fa:Addr}{fd:FuncData}{st:Stmt}{ps:List Str}{Fm:List D->R}{x:Str}{p:Pos}(d:Df C.X.K C.X.mg x st ps fa fd)(Fn:FnOkH C.X.prog C.X.w C.X.K C.X.mg C.X.base j fa fd ps (spD C.X.K C.cls Fm ps.length))(hr:RoomH k C.X.A)(hj:j<=k)(hW:C.W=λ _=>E0)
  (hg:Gl C.X x) (ha:SL C (e::es) fl) (hlen:autoParam ((e::es).length=ps.length) ZF._auto_1) (hdb:autoParam ((x == ("__debug__":Str))=false) ZC._auto_1) (he:autoParam (starEach (e::es) C.X.env=(false,eval e C.X.env)::starEach es C.X.env) ZF._auto_1) (hpl:autoParam ((backTo pos (starEach es C.X.env)).any (·.1)=false) ZF._auto_1):
  SE C (.Call (.Name x p) (e::es) [] pos) (Dv.eCall Fm fl):=by
 obtain⟨t,pa,qa,hl⟩:=ha;have F:=Fn.mono hj;refine⟨λ σ H Q=>t σ H λ vs H1=>spD C.X.K C.cls Fm ps.length vs H1 Q E0,?_,λ σ H Hv ρ Q er s w=>?_⟩
 ·intro pins s σ H Q I h
  refine y9 (cI I hg d.m ?_ hdb);refine zT (h₀:=C.X.base) I.ok.mod.kin d.kp (thn (pa pos pins s σ H _ I h) λ us s1 ⟨vs,H1,I1,r,q⟩=>⟨I1.kIn,?_⟩) he hpl;have hl2:us.length=ps.length:=by rw[<- r.length];exact F.len _ _ _ _ q
  have hb:=d.bd s1 us I1.kIn (by rw[wV];exact hl2);rw[wV] at hb;refine Bd (zJ (F.run C.X.A C.X.stack s1 H1 ⟨us,[]⟩ us vs Q hr I1.env0 hb r q) λ rr s' hq=>?_);cases rr with
  | error e=>exact yN hq
  | ok fl=>
   cases fl with
   | ret u=>exact I1.after hq
   | next=>exact yN hq
   | brk=>exact yN hq
   | cont=>exact yN hq
 ·rw[hW] at w
  have qa':TakL C t fl:=qa;refine qa σ H Hv ρ _ er s ?_
  unfold Dv.eCall at w;cases hf:fl ρ with
  | bad=>rw[hf] at w;exact w
  | exc c=>rw[hf] at w;exact λ Hv' H' x=>(show False from w Hv' H' x).elim
  | ok ds fr=>
   rw[hf] at w;intro vs Hv1 H1 x1 rp n;exact⟨ds,Hv1,by rw[hl ρ ds fr hf];exact hlen,x1.vh,rp,Ok.later x1 w⟩
end
end Sd
namespace Dv
def eu (m:Nat)(elt:EE)(cond:EE)(free:Env):List D->RL
 | []=>.ok [] true
 | d::r=>match d with
  | .tup es=>if es.length=m then match cond (es.map some++free) with
   | .ok (.bl true) _=>match elt (es.map some++free) with
    | .ok x f=>match eu m elt cond free r with
     | .ok xs g=>.ok (x::xs) (f&&g)
     | _=>.bad
    | _=>.bad
   | .ok (.bl false) _=>eu m elt cond free r
   | _=>.bad
   else .bad
  | _=>.bad
def eCompT (m:Nat)(elt cond:EE)(is:List Nat)(it:EI):EE:=λ ρ=>match it ρ with
 | .ok ds _=>if ds.length<=mx then match eu m elt cond (pick ρ is) ds with
   | .ok xs f=>.ok (.lst xs) f
   | _=>.bad
  else .bad
 | .exc c=>.exc c
 | .bad=>.bad
end Dv
namespace Sd
open PySem PySem.Spec PyProof.Rows L2
open Dv (D R RL EE EL EI RI Sl Out SS)
inductive NamesAre:List Expr->List Str->Prop
 | nil:NamesAre [] []
 | cons {x:Str} {p:Pos} {es:List Expr} {ts:List Str}:NamesAre es ts->NamesAre (.Name x p::es) (x::ts)
theorem NamesAre.length {es:List Expr}{ts:List Str}(h:NamesAre es ts):es.length=ts.length:=by
 induction h with
 | nil=>rfl
 | cons _ ih=>rw[wt,wt,ih]
def tgN:Nat->Nat->TGs
 | _,0=>u7
 | k,n+1=>rm (gp k) (tgN (k+1) n)
theorem mX:∀ (n k:Nat) (vs:List V) (pre os fr:St) (H:Hp) (Q:St->Hp->Prop),vs.length=n->os.length=n->pre.length=k->Q (pre++vs.map some++fr) H->tgN k n vs (pre++os++fr) H Q
 | 0,k,vs,pre,os,fr,H,Q,h1,h2,h3,q=>by
  have e1:=wM h1;have e2:=wM h2;subst e1 e2;exact⟨rfl,q⟩
 | n+1,k,v::vs,pre,o::os,fr,H,Q,h1,h2,h3,q=>by
  refine⟨v,vs,rfl,?_⟩;show tgN (k+1) n vs ((pre++(o::os)++fr).set k (some v)) H Q
  have e:(pre++(o::os)++fr).set k (some v)=(pre++[some v])++os++fr:=by
   subst h3;simp[List.set_append]
  rw[e];exact mX n (k+1) vs (pre++[some v]) os fr H Q (by simpa using h1) (by simpa using h2) (by simp[h3]) (by simpa using q)
 | n+1,k,[],pre,os,fr,H,Q,h1,h2,h3,q=>by cases h1
 | n+1,k,v::vs,pre,[],fr,H,Q,h1,h2,h3,q=>by cases h2
theorem lx {X:Cx}(hN:X.N.Nodup){es:List Expr}{ts:List Str}(na:NamesAre es ts):∀ k:Nat,(∀ (j:Nat) (t:Str),ts[j]?=some t->X.N[k+j]?=some t/\X.env.scope.names.lookup t=some .local)->PGs X es (tgN k es.length):=by
 induction na with
 | nil=>intro k _;exact kL
 | @cons x p es ts na ih=>
  intro k h;obtain⟨h1,h2⟩:=h 0 x rfl;exact ju (eB hN h1 (.inl h2) (.inr h2)) (ih (k+1) λ j t ht=>by
   have:=h (j+1) t (by simpa using ht);have e:k+1+j=k+(j+1):=⋯
   rw[e];exact this) rfl
structure CompNamesT (X:Cx)(scope:Scope)(ts:List Str)(fs:List Str)(is:List Nat):Prop where
 kind:scope.kind=.function
 cell:∀ y∈scope.names,y.2≠.cell
 names:∀ y∈scope.names,y.2=.local->scope.names.lookup y.1=some .local
 tgt:∀ t∈ts,scope.names.lookup t=some .local
 nd:(ts++fs).Nodup
 free:∀ y∈scope.names,y.2=.free->X.env.kindOf y.1=some .cell\/X.env.kindOf y.1=some .free
 fsf:∀ y∈fs,scope.names.lookup y=some .free
 len:is.length=fs.length
 at':∀ (j:Nat) (y:Str),fs[j]?=some y->∃ i,is[j]?=some i/\X.N[i]?=some y
theorem lN {K:yy}{Hv:Hp}{ρ:Dv.Env}{σ:St}{is:List Nat}{ds:List D}{vs:List V}(e:EnvR K Hv ρ σ)(r:RpL K Hv ds vs):EnvR K Hv (ds.map some++Dv.pick ρ is) (vs.map some++bq σ is):=λ j x h=>by
 have hl:=r.length;by_cases hj:j<ds.length
 ·rw[wF (by simpa using hj),wx] at h
  cases q:ds[j]? with
  | none=>rw[q] at h;cases h
  | some d=>
   rw[q] at h;cases h;obtain⟨v,h1,h2⟩:=r.get q;exact⟨v,by rw[wF (by simp;omega),wx,h1];rfl,h2⟩
 ·rw[wJ (by simp;omega),wg] at h
  obtain⟨i,h1,h2⟩:=nD h;obtain⟨u,h3,h4⟩:=e i x h2;exact⟨u,by rw[wJ (by simp;omega),wg,hl];exact l6 h1 h3,h4⟩
theorem jO {X:Cx}{pins:List (Addr×Obj)}{σ:St}{H1:Hp}{s2:Shared}{scope:Scope}{ts:List Str}{fs:List Str}{is:List Nat}{cl:List (Str×Addr)}{fp:List Addr}{L:Addr}(I:Inv X pins σ H1 s2)(S:CompNamesT X scope ts fs is)
  (clsub:∀ x c,cl.lookup x=some c->X.env.cells.lookup x=some c) (clhas:∀ y∈scope.names,y.2=.free->∃ c,cl.lookup y.1=some c) (f2:∀ b∈fp,eG X pins H1 b) (fin:∀ b∈fp,b<s2.heap.objs.size) (hL:s2.heap.objs.size<=L):
  (aH X (ts++fs) scope cl L s2 H1 fp).Ok:=by
 refine⟨I.ok.mod,S.kind,I.ok.glob,I.ok.blt,hL,λ y z c h1 h2=>I.ok.inj y z c (clsub y c h1) (clsub z c h2),λ y hy=>?_,λ y c h=>(by cases h),I.ok.hd,I.ok.frames,.inl rfl,λ b hb=>⟨?_,λ y c h=>?_⟩,I.bs,wK I.ok.bsz I.sz,λ b o e hb=>?_,λ b hb hf=>?_,I.stack,I.stkFree⟩
 ·have:(y,yX)∈scope.names:=by
   rcases hy with hy|hy
   ·exact dU (env:=X.env) S.cell (.inl rfl) hy
   ·exact dU (env:=X.env) S.cell (.inr rfl) hy
  exact clhas _ this rfl
 ·exact wb (wq (fin b hb) hL)
 ·exact(f2 b hb).2.2.2.2.1 y c (clsub y c h)
 ·obtain⟨_,_,_,h4,_⟩:=f2 b hb
  rcases h4 with h4|h4
  ·exact I.ok.noex b o e h4
  ·exact absurd (yA (I.ok.bs b o e).1) (Nat.not_lt.mpr h4)
 ·obtain⟨_,h2,h3,_⟩:=f2 b hb
  rcases List.mem_cons.mp (I.stkSub b hf) with e|e
  ·exact h2 e
  ·exact h3 e
theorem ir {X:Cx}{pins:List (Addr×Obj)}{σ:St}{H1:Hp}{s2:Shared}{scope:Scope}{ts:List Str}{fs:List Str}{is:List Nat}{cl:List (Str×Addr)}{fp:List Addr}{L:Addr}{h1:Heap}{t1:Nat}{m:Str->Option Value}(I:Inv X pins σ H1 s2)(S:CompNamesT X scope ts fs is)
  (clsub:∀ x c,cl.lookup x=some c->X.env.cells.lookup x=some c) (clhas:∀ y∈scope.names,y.2=.free->∃ c,cl.lookup y.1=some c) (f2:∀ b∈fp,eG X pins H1 b) (fin:∀ b∈fp,b<s2.heap.objs.size) (hL:s2.heap.objs.size<=L)
  (old:∀ b o,s2.heap.get? b=some o->h1.get? b=some o) (hn:h1.Ns L m):Inv (aH X (ts++fs) scope cl L s2 H1 fp) [] (List.replicate ts.length none++bq σ is) H1 { s2 with heap:=h1,toks:=t1 }:=by
 refine⟨jO I S clsub clhas f2 fin hL,rfl,I.bare,Un.kept old,⟨m,hn,λ i y v e1 e2 e3=>?_⟩,λ y c e=>?_,I.hok.fresh hL,λ y c e=>I.freeC y c (clsub y c e),λ p hp=>absurd (show p∈([]:List (Addr×Obj)) from hp) (by simp),I.hok.kept old,?_⟩
 ·by_cases hi:i<ts.length
  ·have e2':(List.replicate ts.length none++bq σ is)[i]?=some (some v):=e2
   rw[wF (by simpa using hi),xo,if_pos hi] at e2';cases e2'
  ·have e1':fs[i-ts.length]?=some y:=by
    have e1'':(ts++fs)[i]?=some y:=e1
    rw[wJ ⋯] at e1'';exact e1''
   have e2':(List.replicate ts.length none++bq σ is)[i]?=some (some v):=e2
   rw[wJ (by simp;omega),w8] at e2';generalize i-ts.length=j at e1' e2';obtain⟨i,h1',h2'⟩:=nF e2';obtain⟨i',h3,h4⟩:=S.at' j y e1';rw[h1'] at h3;cases h3;have hfr:=S.fsf y (xc e1');have hk:=S.free (y,.free) (mem_lookup hfr) rfl;obtain⟨mm,hm,hl⟩:=I.loc;have vis:Vis X.env.scope y:=by
    rcases hk with k|k
    ·exact .inr (.inl k)
    ·exact .inr (.inr k)
   obtain⟨u,r,l⟩:=hl i y v h4 h2' vis;refine⟨u,r,?_⟩
   rcases l with ⟨k,_⟩|⟨_,c,hc,hcell⟩
   ·have k:X.env.kindOf y=some .local:=k
    rcases hk with k' | k' <;>rw[k] at k' <;>cases k'
   ·obtain⟨c',hc'⟩:=clhas (y,.free) (mem_lookup hfr) rfl
    have:=clsub y c' hc';rw[hc] at this;cases this;obtain⟨oc,hoc,hod⟩:=hcell;refine .inr ⟨?_,c,hc',oc,old c oc hoc,hod⟩;exact eg (env:=X.env) hfr
 ·obtain⟨v,oc,hoc,hod⟩:=I.cell y c (clsub y c e)
  exact⟨v,oc,old c oc hoc,hod⟩
 ·show (List.replicate ts.length none++bq σ is).length=(ts++fs).length
  rw[wy,wy,w8];unfold bq;rw[wg,S.len]
def kI (fsc:Scope)(N:List Str)(scope:Scope)(ts:List Str)(fs:List Str)(is:List Nat):Bool:=
 scope.kind == .function&&scope.names.all (λ y=>!(y.2 == .cell))&&scope.names.all (λ y=>!(y.2 == .local) || scope.names.lookup y.1 == some .local)&&ts.all (λ x=>scope.names.lookup x == some .local)&&decide (ts++fs).Nodup &&
 scope.names.all (λ y=>!(y.2 == .free) || (fsc.names.lookup y.1 == some .cell || fsc.names.lookup y.1 == some .free))&&fs.all (λ y=>scope.names.lookup y == some .free)&&is.length == fs.length&&(fs.zip is).all (λ p=>N[p.2]? == some p.1)
theorem az {X:Cx}{fsc:Scope}{N:List Str}{scope:Scope}{ts:List Str}{fs:List Str}{is:List Nat}(h1:X.env.scope=fsc)(h2:X.N=N)(h:kI fsc N scope ts fs is=true):CompNamesT X scope ts fs is:=by
 subst h1 h2;unfold kI at h;simp only[v8] at h;obtain⟨⟨⟨⟨⟨⟨⟨⟨a1,a2⟩,a3⟩,a4⟩,a5⟩,a6⟩,a7⟩,a8⟩,a9⟩:=h;refine⟨by simpa using a1,λ y hy=>?_,λ y hy hl=>?_,λ t ht=>(by simpa using List.all_eq_true.mp a4 t ht),by simpa using a5,λ y hy hf=>?_,λ y hy=>?_,by simpa using a8,λ j y hj=>?_⟩
 ·have:=List.all_eq_true.mp a2 y hy
  simpa using this
 ·have:=List.all_eq_true.mp a3 y hy
  simpa[hl] using this
 ·have:=List.all_eq_true.mp a6 y hy
  show X.env.scope.names.lookup y.1=some .cell\/X.env.scope.names.lookup y.1=some .free
  simpa[hf] using this
 ·have:=List.all_eq_true.mp a7 y hy
  simpa using this
 ·have hl:is.length=fs.length:=by simpa using a8
  have hjl:j<fs.length:=(List.getElem?_eq_some_iff.mp hj).1;refine⟨is[j]'⋯,by simp,?_⟩;have hm:(y,is[j]'⋯)∈fs.zip is:=by
   have e1:fs[j]=y:=(List.getElem?_eq_some_iff.mp hj).2;have:(fs.zip is)[j]'(by rw[yi];omega)=(y,is[j]'⋯):=by rw[List.getElem_zip,e1]
   rw[<- this];exact xt _
  have:=List.all_eq_true.mp a9 _ hm;simpa using this
section
variable {C:Ctx}{a b c e k:Expr}{f g h:EE}{F G:SS}{pos pos':Pos}{E:Ends}
theorem rQ {l:List Int}{i:Nat}(h:i<l.length):l.getD i 0∈l:=by
 rw[xg,wD h];exact xt h
theorem tK {l:List Int}{a:Int}(h:a∈l):∃ j,j<l.length/\l.getD j 0=a:=by
 obtain⟨j,hj,rfl⟩:=xi h;exact⟨j,hj,by rw[xg,wD hj];rfl⟩
theorem iF:∀ (r:List Int) (a:Int),Dv.minI a r∈a::r/\∀ b∈a::r,Dv.minI a r<=b
 | [],a=>⟨wc ..,λ b hb=>by simp at hb;subst hb;exact Int.le_refl _⟩
 | x::r,a=>by
  unfold Dv.minI;by_cases hx:x<a
  ·rw[if_pos hx]
   obtain⟨h1,h2⟩:=iF r x;refine⟨v7 _ h1,λ b hb=>?_⟩;have h0:=h2 _ (wc ..)
   rcases List.mem_cons.mp hb with rfl|hb
   ·omega
   ·exact h2 b hb
  ·rw[if_neg hx]
   obtain⟨h1,h2⟩:=iF r a;refine⟨?_,λ b hb=>?_⟩
   ·rcases List.mem_cons.mp h1 with h|h
    ·rw[h];exact wc ..
    ·exact v7 _ (v7 _ h)
   ·have h0:=h2 _ (wc ..)
    rcases List.mem_cons.mp hb with rfl|hb
    ·exact h0
    ·rcases List.mem_cons.mp hb with rfl|hb
     ·omega
     ·exact h2 b (v7 _ hb)
end
end Sd
namespace Dv
def iRev (a:EE):EI:=λ ρ=>match a ρ with
 | .ok (.lst xs) _=>.ok xs.reverse true
 | .exc c=>.exc c
 | _=>.bad
def inG (neg:Bool):D->D->R
 | a,.lst ds=>if decide (depthL ds<=8)&&decide (depthD a<=8)&&decide (ds.length<=mx) then match eqsD ds a with
   | some bs=>.ok (.bl (if neg then !(bs.any id) else bs.any id)) true
   | none=>.bad
  else .bad
 | _,_=>.bad
end Dv
namespace Sd
open PySem PySem.Spec PyProof.Rows L2
open Dv (D R RL EE EL EI RI Sl Out SS)
section
variable {C:Ctx}{a b c e:Expr}{f g h:EE}{F:SS}{pos pos':Pos}
theorem kU:∀ {ds:List D} {d:D} {bs:List Bool},Dv.eqsD ds d=some bs->(pdL ds).any (λ y=>zO y (pd d))=bs.any id
 | [],d,bs,h=>by simp[Dv.eqsD] at h;subst h;simp[pdL]
 | x::r,d,bs,h=>by
  unfold Dv.eqsD at h;cases h1:Dv.eqD x d with
  | none=>rw[h1] at h;cases h
  | some p=>
   cases h2:Dv.eqsD r d with
   | none=>rw[h1,h2] at h;cases h
   | some q=>
    rw[h1,h2] at h;cases h;simp only[pdL,w6,iD x d p h1,kU h2,id]
def uU (K:yy)(neg:Bool):R2:=λ x y H Q=>∃ d ds bs,Rp K H d x/\Rp K H (.lst ds) y/\Dv.depthD d<=8/\Dv.depthL ds<=8/\Dv.eqsD ds d=some bs/\Q (.bl (if neg then !(bs.any id) else bs.any id)) H
theorem sq (hu:C.X.A.units+64<cLine):OpR C.X (compareOp .In) (uU C.X.K false):=by
 intro pins s σ H x y v u Q I rx ry h;obtain⟨d,ds,bs,h1,h2,z1,z2,e,q⟩:=h;obtain⟨as,ra⟩:=b9 I d x v h1 rx ⋯;obtain⟨bs',rb⟩:=b9 I (.lst ds) y u h2 ry (by unfold Dv.depthD;omega);unfold pd at rb;refine SeqAt.in_list_reads rb ra (fU ds) (eS d) ?_ ⟨.bl _,H,I,?_,q⟩
 ·have:=df ds
  have:=xP (Ah (pdL ds)) (pd d).depth;omega
 ·rw[kU e];rfl
theorem nQ {neg:Bool}{x y:V}{d d':D}{H Hv H1 Hv1:Hp}{W:XK}{Q:VK}(e:Ext Hv H Hv1 H1)(rx:Rp C.X.K Hv1 d x)(ry:Rp C.X.K Hv1 d' y)(q:Ok C.X.K Hv H W C.cls (Dv.inG neg d d') Q):uU C.X.K neg x y H1 Q:=by
 cases d' with
 | lst ds=>
  simp only[Dv.inG] at q;by_cases hz:(decide (Dv.depthL ds<=8)&&decide (Dv.depthD d<=8)&&decide (ds.length<=Dv.mx))=true
  ·simp only[hz,if_true] at q
   simp only[v8,decide_eq_true_eq] at hz;cases he:Dv.eqsD ds d with
   | none=>rw[he] at q;exact Zf q
   | some bs=>
    rw[he] at q;exact⟨d,ds,bs,rx.same e.vh,ry.same e.vh,hz.1.2,hz.1.1,he,Ok.at (d:=.bl _) (fr:=true) q e bI rfl⟩
  ·simp only[hz] at q
   exact Zf q
 | _=>exact Zf q
theorem rX:OpS C (compareOp .In) (Dv.inG false):=⟨_,sq C.un,λ x y d d' H Hv H1 Hv1 W Q e rx ry q=>nQ e rx ry q⟩
theorem rZ (ha:SE C a f)(hb:SE C b g)(hm:autoParam (behindInMarks .In b=false) ZL._auto_1):SC C (.Compare a [.In] [b] pos) (Dv.eB2 (Dv.inG false) f g):=cF rX ha hb hm
end
def rE (xs:List D):Prop:=∀ x∈xs,∃ r:List Int,x=.lst (r.map .int)
end Sd
namespace Dv
def addSD:D->D->R
 | .str a,.str b=>if a.length+b.length<=mx then .ok (.str (a++b)) true else .bad
 | _,_=>.bad
def optS:Option Nat->R
 | some c=>.ok (.str [c]) true
 | none=>.bad
def ixSD:D->D->R
 | .str z,.int i=>if decide (0<=i)&&decide (z.length<=mx) then optS z[i.toNat]? else .bad
 | _,_=>.bad
def lenSD:D->Bool->R
 | .str z,_=>if z.length<=mx then .ok (.int z.length) true else .bad
 | _,_=>.bad
def isStrD:D->Bool->R
 | .exn _,_=>.bad
 | .ins _ _,_=>.bad
 | .raw _,_=>.bad
 | .tab _,_=>.bad
 | .str _,_=>.ok (.bl true) true
 | _,_=>.ok (.bl false) true
def inSD (neg:Bool):D->D->R
 | .str [c],.str z=>.ok (.bl (if neg then !(decide (c%1114112∈clipS z)) else decide (c%1114112∈clipS z))) true
 | _,_=>.bad
def sliceSD (a:D)(lo hi:Option Int):R:=match a with
 | .str z=>if z.length<=mx then .ok (.str (cutL z lo hi)) true else .bad
 | _=>.bad
def eSliceS (a:EE)(lo hi:Option EE):EE:=λ ρ=>(a ρ).bind λ x _=>ePart lo ρ λ i=>ePart hi ρ λ j=>sliceSD x i j
def signsD (z:List Nat):List D:=z.map λ c=>.str [c]
def iStr (a:EE):EI:=λ ρ=>match a ρ with
 | .ok (.str z) _=>.ok (signsD z) true
 | .exc c=>.exc c
 | _=>.bad
def iEnumS (a:EE):EI:=λ ρ=>match a ρ with
 | .ok (.str z) _=>.ok (enumL 0 (signsD z)) true
 | .exc c=>.exc c
 | _=>.bad
end Dv
namespace Sd
open PySem PySem.Spec PyProof.Rows L2
open Dv (D R RL EE EL EI RI Sl Out SS)
section
variable {C:Ctx}{a b c e o k:Expr}{es:List Expr}{f g h:EE}{fl:EL}{F G:SS}{pos pos':Pos}{E:Ends}
theorem bT {K:yy}{H:Hp}{x:List Nat}:Rp K H (.str x) (.str ⟨(Dv.clipS x).toArray⟩):=by unfold Rp;rfl
theorem ji (x:List Nat):(Dv.clipS x).length=x.length:=by simp[Dv.clipS]
theorem str_len (x:List Nat):zD ⟨(Dv.clipS x).toArray⟩=x.length:=by simp[zD,ji]
theorem qE (x y:List Nat):((⟨(Dv.clipS x).toArray⟩:Str)++(⟨(Dv.clipS y).toArray⟩:Str))=⟨(Dv.clipS (x++y)).toArray⟩:=by
 show (⟨(Dv.clipS x).toArray++(Dv.clipS y).toArray⟩:Str)=_
 simp[Dv.clipS]
theorem qR:OpS C (binaryOp .Add) Dv.addSD:=by
 refine⟨_,jP,λ x y d d' H Hv H1 Hv1 W Q e rx ry q=>?_⟩;cases d with
 | str i=>
  cases d' with
  | str j=>
   unfold Rp at rx ry;by_cases hz:i.length+j.length<=Dv.mx
   ·have q':Ok C.X.K Hv H W C.cls (.ok (.str (i++j)) true) Q:=by simpa[Dv.addSD,hz] using q
    refine⟨_,_,rx,ry,by rw[str_len,str_len];exact aX hz,?_⟩;rw[qE];exact q'.at e bT rfl
   ·have q':False:=by simpa[Dv.addSD,hz,Ok] using q
    exact q'.elim
  | _=>exact Zf q
 | _=>exact Zf q
theorem de (ha:SE C a f)(hb:SE C b g):SE C (.BinOp a .Add b pos) (Dv.eB2 Dv.addSD f g):=cX qR ha hb
theorem uc:OpS C (compareOp .In) (Dv.inSD false):=by
 refine⟨_,lr,λ x y d d' H Hv H1 Hv1 W Q e rx ry q=>?_⟩
 match d,d',q with
 | .str [c],.str z,q=>
  unfold Rp at rx ry;refine⟨_,_,rx,ry,?_⟩;have:=BL ⟨(Dv.clipS z).toArray⟩ (c%1114112);have e2:(⟨(Dv.clipS [c]).toArray⟩:Str)=⟨#[c%1114112]⟩:=rfl;rw[e2,this];exact(show Ok C.X.K Hv H W C.cls (.ok (.bl (decide (c%1114112∈Dv.clipS z))) true) Q from q).at e bI rfl
theorem lP:OpS C (compareOp .NotIn) (Dv.inSD true):=by
 refine⟨_,ix,λ x y d d' H Hv H1 Hv1 W Q e rx ry q=>?_⟩
 match d,d',q with
 | .str [c],.str z,q=>
  unfold Rp at rx ry;refine⟨_,_,rx,ry,?_⟩;have:=BL ⟨(Dv.clipS z).toArray⟩ (c%1114112);have e2:(⟨(Dv.clipS [c]).toArray⟩:Str)=⟨#[c%1114112]⟩:=rfl;rw[e2,this];exact(show Ok C.X.K Hv H W C.cls (.ok (.bl (!(decide (c%1114112∈Dv.clipS z)))) true) Q from q).at e bI rfl
theorem lz (ha:SE C a f)(hb:SE C b g)(hm:autoParam (behindInMarks .NotIn b=false) ZL._auto_1):SC C (.Compare a [.NotIn] [b] pos) (Dv.eB2 (Dv.inSD true) f g):=cF lP ha hb hm
theorem rM (ha:SE C a f)(hb:SE C b g)(hm:autoParam (behindInMarks .In b=false) ZL._auto_1):SE C (.Compare a [.In] [b] pos) (Dv.eB2 (Dv.inSD false) f g):=oH uc ha hb hm
theorem sY (ha:SE C a f)(hb:SE C b g)(hs:autoParam (jb b) ZK._auto_1):SE C (.Subscript a b pos) (Dv.eB2 Dv.ixSD f g):=by
 obtain⟨ta,pa,qa⟩:=ha;obtain⟨tb,pb,qb⟩:=hb;refine⟨_,nW tP pa pb hs,λ σ H Hv ρ Q e s w=>?_⟩;refine qa.step e (.refl s) w λ v d fr Hv1 H1 _ x1 _ rp1 n1 q1=>qb.step e x1 q1 λ v2 d2 fr2 Hv2 H2 _ x2 y2 rp2 _ q2=>?_
 have rp:=rp1.same y2.vv;cases d with
 | str z=>
  cases d2 with
  | int i=>
   unfold Rp at rp rp2;by_cases h0:0<=i
   ·by_cases hz:z.length<=Dv.mx
    ·have q3:Ok C.X.K Hv H (C.W σ) C.cls (Dv.optS z[i.toNat]?) Q:=by simpa[Dv.ixSD,h0,hz] using q2
     cases hk:z[i.toNat]? with
     | none=>rw[hk] at q3;exact Zf q3
     | some c=>
      rw[hk] at q3;obtain⟨n,rfl⟩:∃ n:Nat,i=n:=⟨i.toNat,⋯⟩;refine⟨_,n,c%1114112,rp,rp2,by rw[str_len];exact aX hz,kS ?_,q3.at x2 bT rfl⟩;have hk':z[n]?=some c:=by simpa using hk
      show (Dv.clipS z).toArray.toList[n]?=_
      simp[Dv.clipS,hk']
    ·have q':False:=by simpa[Dv.ixSD,hz,Ok] using q2
     exact q'.elim
   ·have q':False:=by simpa[Dv.ixSD,h0,Ok] using q2
    exact q'.elim
  | _=>exact Zf q2
 | _=>exact Zf q2
theorem pR:C1S C (.builtin "len") Dv.lenSD:=by
 refine⟨_,iA,λ x d fr H Hv H1 Hv1 W Q e rx n q=>?_⟩;cases d with
 | str z=>
  unfold Rp at rx;subst rx;by_cases hz:z.length<=Dv.mx
  ·have q':Ok C.X.K Hv H W C.cls (.ok (.int z.length) true) Q:=by simpa[Dv.lenSD,hz] using q
   refine⟨_,rfl,by rw[str_len];exact aX hz,?_⟩;rw[str_len];exact q'.at e bp rfl
  ·have q':False:=by simpa[Dv.lenSD,hz,Ok] using q
   exact q'.elim
 | _=>exact Zf q
theorem da {p:Pos}(hm:C.X.mg "len"=none)(hg:Gl C.X "len")(ha:SE C a f)(he:autoParam (starEach [a] C.X.env=[(false,eval a C.X.env)]) ZF._auto_1):SE C (.Call (.Name "len" p) [a] [] pos) (Dv.eB1 Dv.lenSD f):=ik pR hg hm Ar ha (by decide) (by decide) he
def uS:D->Bool
 | .str _=>true
 | _=>false
theorem pZ (K:yy)(d:D):yU K (.type (tyD d)) (.type "str")=some (uS d):=by cases d <;>rfl
theorem mi (d:D)(fr:Bool)(h:Dv.noTy d=false):Dv.isStrD d fr=.ok (.bl (uS d)) true:=by cases d <;>first|rfl|exact absurd h (by simp[Dv.noTy])
theorem jA {p p2:Pos}(hm:C.X.mg "isinstance"=none)(hmx:C.X.mg "str"=none)(hg:Gl C.X "isinstance")(hgx:Gl C.X "str")(ha:SE C a f)(he:autoParam (starEach [a,.Name "str" p2] C.X.env=(false,eval a C.X.env)::starEach [.Name "str" p2] C.X.env) ZF._auto_1)
  (he2:autoParam (starEach [.Name "str" p2] C.X.env=[(false,eval (.Name "str" p2) C.X.env)]) ZF._auto_1):SE C (.Call (.Name "isinstance" p) [a,.Name "str" p2] [] pos) (Dv.eB1 Dv.isStrD f):=sJ _ mi (λ d fr h=>by cases d <;>first|rfl|exact absurd h (by simp[Dv.noTy])) pZ hg hm hgx hmx (by decide +kernel) ha (by decide) (by decide) he he2
end
theorem sE (n:Nat)(o:Option Int):HT.sIx n n o<=n:=by
 cases o with
 | none=>exact wm _
 | some i=>
  show (if i<0 then (i+(n:Int)).toNat else min i.toNat n)<=n
  by_cases h:i<0
  ·rw[if_pos h];omega
  ·rw[if_neg h];omega
theorem eN (n d:Nat)(i:Int):max (0:Int) (min (if i<0 then i+(n:Int) else i) (n:Int))=((HT.sIx n d (some i):Nat):Int):=by
 show _=(((if i<0 then (i+(n:Int)).toNat else min i.toNat n:Nat)):Int)
 by_cases h:i<0
 ·rw[if_pos h,if_pos h];omega
 ·rw[if_neg h,if_neg h];omega
theorem gE (lo hi:Option Int)(n:Nat):zL lo hi 1 n=(List.range (HT.sIx n n hi-HT.sIx n 0 lo)).map (HT.sIx n 0 lo+·):=by
 rw[<- sliceRange_one];cases lo with
 | none=>
  cases hi with
  | none=>rfl
  | some j=>rw[<- eN];rfl
 | some i=>
  cases hi with
  | none=>rw[<- eN];rfl
  | some j=>rw[<- eN,<- eN];rfl
theorem lY (x:Str)(lo hi:Option Int):BG x lo hi=⟨(Dv.cutL x.cps.toList lo hi).toArray⟩:=by
 have e1:x.cps.toList.length=x.length:=by simp[zD]
 have hp:(zL lo hi 1 x.length).filterMap (x.cps[·]?)=Dv.cutL x.cps.toList lo hi:=by
  rw[gE,pick_run];unfold Dv.cutL;rw[fQ,fQ,e1]
 unfold BG
 split
 ·rename_i h
  rw[<- hp];have hl:(zL lo hi 1 x.length).length=x.length:=by simpa using h
  rw[gE] at hl;simp only[wg,List.length_range] at hl;rw[gE,pick_run,hl];have h3:=sE x.length hi;have:HT.sIx x.length 0 lo=0\/x.length=0:=⋯
  rcases this with h0|h0
  ·rw[h0,List.drop_zero,<- e1,List.take_length]
  ·have:x.cps.toList=[]:=wM (by rw[e1,h0])
   rw[this,List.drop_nil,List.take_nil,<- this]
 ·rw[hp]
theorem t8 {X:Cx}:SlR X (λ x lo hi H Q=>∃ z,x=.str z/\z.length<=sizeLine/\Q (.str (BG z lo hi)) H):=by
 intro pins s σ H x v vl vu lo hi sl Q I rx hs pl pu h;obtain⟨z,rfl,hz,q⟩:=h;obtain⟨t,rfl⟩:=rx;refine⟨"str",_,F.slot_str_getitem.lookup,Ag _ _ _,?_⟩;have go:∀ (l u:Option (Int×Tok)),vl=partValue l->vu=partValue u->l.map (·.1)=lo->u.map (·.1)=hi->wpAny (model X.prog X.w) X.A (getItem (.str z t) (.ref sl)) (EP X pins σ Q) X.xe s:=by
  intro l u e1 e2 e3 e4;subst e3 e4 e1 e2;refine wpAny_getItem_str_slice (l:=l) (u:=u) (st:=none) hs rfl ?_
  exact post_val_or_str ⟨wK (Txt.slice_le z _ _) hz,λ t' k=>⟨.str (BG z (l.map (·.1)) (u.map (·.1))),H,I.tok _,⟨_,rfl⟩,q⟩⟩
 cases pl with
 | none=>
  cases pu with
  | none=>exact go none none rfl rfl rfl rfl
  | int j tj=>exact go none (some (j,tj)) rfl rfl rfl rfl
 | int i ti=>
  cases pu with
  | none=>exact go (some (i,ti)) none rfl rfl rfl rfl
  | int j tj=>exact go (some (i,ti)) (some (j,tj)) rfl rfl rfl rfl
theorem nk (z:List Nat)(lo hi:Option Int):Dv.cutL (Dv.clipS z) lo hi=Dv.clipS (Dv.cutL z lo hi):=by
 unfold Dv.cutL Dv.clipS;simp
section
variable {C:Ctx}{a b c e o k:Expr}{es:List Expr}{f g h:EE}{fl:EL}{F G:SS}{pos pos':Pos}{E:Ends}
theorem il {lo hi:Option Expr}{fl fh:Option EE}{p2:Pos}(he:SE C e f)(hl:SO C lo fl)(hh:SO C hi fh):SE C (.Subscript e (.Slice lo hi none p2) pos) (Dv.eSliceS f fl fh):=by
 obtain⟨t,p,q⟩:=he;obtain⟨tl,pl,ql⟩:=hl;obtain⟨th,ph,qh⟩:=hh;refine⟨_,jm t8 p pl ph,λ σ H Hv ρ Q er s w=>?_⟩;refine Tak.step q er (.refl s) w λ v d fr Hv1 H1 _ x1 _ rp1 n1 w1=>?_
 refine ql σ H Hv ρ Q _ _ Hv1 H1 er x1 w1 λ i Hv2 H2 x2 y2 w2=>?_
 refine qh σ H Hv ρ Q _ _ Hv2 H2 er x2 w2 λ j Hv3 H3 x3 y3 w3=>?_
 cases d with
 | str z=>
  unfold Rp at rp1;by_cases hz:z.length<=Dv.mx
  ·have q':Ok C.X.K Hv H (C.W σ) C.cls (.ok (.str (Dv.cutL z i j)) true) Q:=by simpa[Dv.sliceSD,hz] using w3
   refine⟨_,rp1,by rw[str_len];exact aX hz,?_⟩;rw[lY];have e1:(⟨(Dv.clipS z).toArray⟩:Str).cps.toList=Dv.clipS z:=rfl;rw[e1,nk];exact q'.at x3 bT rfl
  ·have q':False:=by simpa[Dv.sliceSD,hz,Ok] using w3
   exact q'.elim
 | _=>exact Zf w3
end
def Its (x:Str):It:=⟨λ i _=>i<x.cps.size,λ i H v H'=>H'=H/\∃ c,x.cps[i]?=some c/\v=.str ⟨#[c]⟩,λ i _=>i=x.cps.size⟩
theorem js {P:Program}{w:World}{K:yy}{tg:Expr}{x:Str}{t:Tok}{it:Addr}{ty:String}(hty:["enumerate","zip","dict_itemiterator","dict_reverseitemiterator","odict_iterator","itertools.zip_longest","itertools.pairwise"].contains ty=false)
  (W:∀ A:Around,A.handled=none->Walks P w A it [it] [it] x.cps.size (SignAt x) (λ i h=>h.IsStrIter it ty x t i))
  (Z:∀ (A:Around) (i:Nat) (s:Shared) (Q:Value->Shared->Prop) (E:Value->Shared->Prop),s.heap.IsStrIter it ty x t i->Q (.ref it) s->wpAny (model P w) A (pyIter (.ref it)) Q E s):
  Turn P w K tg (Its x) [it] it (λ i h=>h.IsStrIter it ty x t i) where
 mem:=by simp
 obj:=λ i h st b hb=>by
  have e:b=it:=by simpa using hb
  subst e;obtain⟨o,e,c,d⟩:=st;exact⟨o,e,λ v z=>by rw[d] at z;cases z⟩
 keep:=λ i h h' ⟨o,e,r⟩ k=>⟨o,k it (by simp) o e,r⟩
 item:=by
  intro X hP hw hK hc i pins s σ H E I hf st hg;subst hP hw hK;obtain⟨f0,f1,f2,f3,f4,f5⟩:=hf it (by simp);refine(W _ (I.ok.hd hc)).item i s _ _ hg st λ v h' tk hv st' kk=>?_
  obtain⟨c,u,hc',rfl⟩:=hv;have I1:Inv X pins σ H { s with heap:=h',toks:=tk }:=I.turned (λ b o hb e=>kk b o (by simpa using hb) e) f0 f1 f3 f4 f5;obtain⟨o,e,c1,d⟩:=id st';exact⟨_,rfl,kK (s:={ s with heap:=h',toks:=tk }) e c1 d hty ⟨.str ⟨#[c]⟩,H,I1,⟨u,rfl⟩,⟨rfl,c,hc',rfl⟩,st',λ b hb=>(hf b hb).1⟩⟩
 done:=by
  intro X hP hw hK hc i pins s σ H E I hf st hg;subst hP hw hK;have hg:i=x.cps.size:=hg;subst hg;obtain⟨f0,f1,f2,f3,f4,f5⟩:=hf it (by simp);exact(W _ (I.ok.hd hc)).done s _ _ st λ h' tk kk=>⟨rfl,I.turned (λ b o hb e=>kk b o (by simpa using hb) e) f0 f1 f3 f4 f5⟩
 self:=λ A i s Q E st h=>Z A i s Q E st h
def uw (tl:TE):TI:=λ σ H R=>tl σ H λ x H1=>∃ z,x=.str z/\R (Its z) H1
theorem rL {X:Cx}{tg l:Expr}{tl:TE}(hl:PE X l tl):PI X tg l (uw tl):=by
 intro pins s σ H R I h;refine thn (hl pins s σ H _ I h) λ v s1 ⟨x,H1,I1,r1,q1⟩=>?_
 obtain⟨z,rfl,q⟩:=q1;obtain⟨t,rfl⟩:=r1;have fin:∀ b∈[s1.heap.objs.size],eG X pins H1 b:=λ b hb=>by
  have e:b=s1.heap.objs.size:=by simpa using hb
  subst e;exact I1.fpOk (wm _) (I1.hok.fresh (wm _))
 cases ha:z.cps.all (·<128)
 ·exact wpAny_pyIter_wide ha ⟨s1.heap.objs.size,[s1.heap.objs.size],_,_,H1,rfl,I1.kept (t':=s1.toks) λ b o e=>yB _ e,js (by decide) (λ A hA=>Walks.strWide hA _ z t) (λ A i s Q E st h=>wpAny_pyIter_striter_wide st h),⟨_,yD _ rfl,rfl,rfl⟩,fin,q⟩
 ·exact wpAny_pyIter_ascii ha ⟨s1.heap.objs.size,[s1.heap.objs.size],_,_,H1,rfl,I1.kept (t':=s1.toks) λ b o e=>yB _ e,js (by decide) (λ A hA=>Walks.strAscii hA _ z t) (λ A i s Q E st h=>wpAny_pyIter_striter_ascii st h),⟨_,yD _ rfl,rfl,rfl⟩,fin,q⟩
theorem signs_at {z:List Nat}{i:Nat}{d:D}(h:(Dv.signsD z)[i]?=some d):∃ c,z[i]?=some c/\d=.str [c]:=by
 unfold Dv.signsD at h;rw[wx] at h;cases hz:z[i]? with
 | none=>rw[hz] at h;cases h
 | some c=>rw[hz] at h;exact⟨c,rfl,(Option.some.inj h).symm⟩
theorem m9 {z:List Nat}{i c:Nat}(h:z[i]?=some c):(⟨(Dv.clipS z).toArray⟩:Str).cps[i]?=some (c%1114112):=by
 show (Dv.clipS z).toArray[i]?=_
 simp[Dv.clipS,h]
theorem eE (z:List Nat):(⟨(Dv.clipS z).toArray⟩:Str).cps.size=z.length:=by simp[ji]
theorem sO {C:Ctx}{tg e:Expr}{f:EE}(he:SE C e f):SI C tg e (Dv.iStr f):=by
 obtain⟨t,p,q⟩:=he;refine⟨_,rL p,λ σ H Hv ρ T er s w=>?_⟩;refine q σ H Hv ρ _ er s ?_
 unfold Dv.iStr at w;cases hf:f ρ with
 | bad=>rw[hf] at w;exact w
 | exc c=>rw[hf] at w;exact w
 | ok d fr=>
  rw[hf] at w;intro v Hv' H' x rp n;cases d with
  | str z=>
   unfold Rp at rp;refine⟨_,rp,w _ Hv' H' x λ i H2 s2=>⟨λ d hd=>?_,λ hi=>?_⟩⟩
   ·obtain⟨c,hz,rfl⟩:=signs_at hd
    refine⟨?_,λ x H3 ⟨e1,c',hy,e2⟩=>?_⟩
    ·show i<_
     rw[eE];exact(List.getElem?_eq_some_iff.mp hz).1
    ·subst e1
     rw[m9 hz] at hy;cases hy;subst e2;exact⟨Hv',.refl s2,bT⟩
   ·show i=_
    rw[eE,hi];simp[Dv.signsD]
  | _=>exact Zf w
def vd (x:Str):It:=
  ⟨λ i _=>i<x.cps.size,
   λ i H v H'=>∃ p,H p=none/\v=.ref p/\∃ c,x.cps[i]?=some c/\H'=upd H p (.tup [.int i,.str ⟨#[c]⟩]),
   λ i _=>i=x.cps.size⟩
theorem gI {P:Program}{w:World}{K:yy}{es:List Expr}{kt:Nat}{tpos:Pos}{x:Str}{t:Tok}{ty:String}{z i1:Addr}(hne:z≠i1)
  (D:∀ A:Around,A.handled=none->Draws P w A i1 [i1] x.cps.size (λ i v=>∃ c u,x.cps[i]?=some c/\v=.str ⟨#[c]⟩ u) (λ i h=>h.IsStrIter i1 ty x t i)):
  Turn P w K (.Tuple es kt tpos) (vd x) [z,i1] z (λ i h=>(∃ old,IsEnum h z i1 i old)/\h.IsStrIter i1 ty x t i) where
 mem:=by simp
 obj:=λ i h ⟨⟨old,a1⟩,⟨o4,e4,_,d4⟩⟩ b hb=>by
  simp only[wz,wu,or_false] at hb
  rcases hb with rfl|rfl
  ·exact⟨_,a1,λ v q=>by cases q⟩
  ·exact⟨_,e4,λ v q=>by rw[d4] at q;cases q⟩
 keep:=λ i h h' ⟨⟨old,a1⟩,⟨o,e,r⟩⟩ k=>⟨⟨old,k z (by simp) _ a1⟩,⟨o,k i1 (by simp) o e,r⟩⟩
 item:=by
  intro X hP hw hK hc i pins s σ H E I hf ⟨⟨old,a1⟩,a4⟩ hg;subst hP hw hK;refine wpAny_pyNext_enum_itemD (D X.A.in1 (I.ok.hd hc)) a1 a4 hg hne (by simp[hne]) λ u1 h' tk hu b1 b3 b5 b6 kk=>?_
  obtain⟨c,tu,hx,rfl⟩:=hu;refine⟨_,rfl,AG b1 λ h2 hz sb=>?_⟩;have hf0:H s.heap.objs.size=none:=I.hok.fresh (wm _);have ltz:s.heap.objs.size≠z:=w9 (yA a1);have kept:∀ b o,b∉[z,i1]->s.heap.get? b=some o->h2.get? b=some o:=λ b o hb e=>by
   simp only[wz,wu,or_false,not_or] at hb;exact(sb.2 b hb.1).trans (kk b o hb.1 hb.2 e)
  have I0:Inv X pins σ H { s with toks:=tk+1 }:=I.tok _;have I2:Inv X pins σ H { s with heap:=h2,toks:=tk+1 }:=Inv.but I0 hf kept;have tp:IsTup h2 s.heap.objs.size #[.int i tk,.str ⟨#[c]⟩ tu]:=⟨_,(sb.2 _ ltz).trans b5,rfl,_,rfl⟩;have I3:Inv X pins σ (upd H s.heap.objs.size (.tup [.int i,.str ⟨#[c]⟩])) { s with heap:=h2,toks:=tk+1 }:=by
   have hk2:HOk X.prog X.w (upd H s.heap.objs.size (.tup [.int i,.str ⟨#[c]⟩])) h2:=b7 I2.hok hf0 ⟨by show 2<=sizeLine;decide,[.int i tk,.str ⟨#[c]⟩ tu],.cons ⟨_,rfl⟩ (.cons ⟨_,rfl⟩ .nil),tp⟩;have nsz:∀ b o,s.heap.get? b=some o->b≠s.heap.objs.size:=λ b o e=>wb (yA e)
   refine I.step (g':=s.gens) (d':=s.drawn) (t':=tk+1) (ch:=[z,i1]) (λ b hb=>⟨(hf b hb).2.2.2.1,(hf b hb).2.1,(hf b hb).2.2.2.2.1,(hf b hb).2.2.2.2.2⟩) (λ b o _ _ hc e _=>kept b o hc e) (λ b o _ _ hc e _=>⟨o.slots,kept b o hc e⟩) (λ b o _ e n=>by rw[ai (nsz b o e)];exact n)
    (λ b o hc e=>⟨o,kept b o hc e⟩) (λ b us e=>by rw[ai (ak e hf0)];exact e) (λ b ob us e=>by rw[ai (ak e hf0)];exact e) (λ b ps e=>⟨#[],by rw[ai (ak e hf0),e];simp⟩) (λ m hm=>?_) hk2 I.bare
   obtain⟨o,es,ep,ho,r⟩:=hm;exact⟨o,es,ep,kept _ _ (λ hb=>(hf _ hb).2.1 rfl) ho,r⟩
  have c4:h2.IsStrIter i1 ty x t (i+1):=b3.extBut sb.extBut (Ne.symm hne);refine⟨.ref s.heap.objs.size,_,I3,rfl,⟨s.heap.objs.size,hf0,rfl,c,hx,rfl⟩,⟨⟨.str ⟨#[c]⟩ tu,by exact_mod_cast hz⟩,c4⟩,λ b hb=>?_⟩;have hbs:b≠s.heap.objs.size:=by
   simp only[wz,wu,or_false] at hb
   rcases hb with rfl|rfl
   ·exact wb (yA a1)
   ·obtain⟨o,e,_⟩:=a4;exact wb (yA e)
  rw[ai hbs];exact(hf b hb).1
 done:=by
  intro X hP hw hK hc i pins s σ H E I hf ⟨⟨old,a1⟩,a4⟩ hg;subst hP hw hK;have hg:i=x.cps.size:=hg;subst hg;refine wpAny_pyNext_enum_endD (D X.A.in1 (I.ok.hd hc)) a1 a4 λ h' kk=>⟨rfl,Inv.but I hf λ b o hb e=>?_⟩
  simp only[wz,wu,or_false,not_or] at hb;exact kk b o hb.2 e
 self:=λ _ _ _ _ _ st h=>zI st.1.choose_spec h
def qJ (ta:TA):TI:=λ σ H T=>ta σ H λ vs H1=>∃ z,vs=[.str z]/\T (vd z) H1
theorem nU {X:Cx}{a:Expr}{ta:TA}{es:List Expr}{kt:Nat}{tpos p pos:Pos}(hg:Gl X "enumerate")(hm:X.mg "enumerate"=none)(ha:PA X [a] ta)(hs:starEach [a] X.env=[(false,eval a X.env)]):
  PI X (.Tuple es kt tpos) (.Call (.Name "enumerate" p) [a] [] pos) (qJ ta):=by
 intro pins s σ H R I h;refine Call_ (cD I hg hm (by decide +kernel:bootBuiltins "enumerate"=some (.type "enumerate")) (yQ (thn (ha pos pins s σ H _ I h) λ us s1 ⟨vs,H1,I1,r1,q1⟩=>?_) hs rfl));obtain⟨z,rfl,q⟩:=q1;obtain⟨u1,rfl,t,rfl⟩:=vals1 r1;refine call_enumerate_str λ h' c1 c4 c6 kk=>?_
 have I2:Inv X pins σ H1 { s1 with heap:=h' }:=I1.kept (t':=s1.toks) kk;have fin:∀ b∈[s1.heap.objs.size+1,s1.heap.objs.size],eG X pins H1 b:=λ b hb=>by
  have hb':s1.heap.objs.size<=b:=by
   simp only[wz,wu,or_false] at hb
   rcases hb with rfl|rfl
   ·exact wU _ _
   ·exact wm _
  exact I1.fpOk hb' (I1.hok.fresh hb')
 cases ha:z.cps.all (·<128)
 ·have hit':h'.IsStrIter s1.heap.objs.size "str_iterator" z t 0:=by simpa[strIterType,ha] using c4
  exact zI c1 ⟨s1.heap.objs.size+1,[s1.heap.objs.size+1,s1.heap.objs.size],_,_,H1,rfl,I2,gI (xI _) (λ A hA=>Draws.strWide hA _ z t),⟨⟨.none,c1⟩,hit'⟩,fin,q⟩
 ·have hit':h'.IsStrIter s1.heap.objs.size "str_ascii_iterator" z t 0:=by simpa[strIterType,ha] using c4
  exact zI c1 ⟨s1.heap.objs.size+1,[s1.heap.objs.size+1,s1.heap.objs.size],_,_,H1,rfl,I2,gI (xI _) (λ A hA=>Draws.strAscii hA _ z t),⟨⟨.none,c1⟩,hit'⟩,fin,q⟩
theorem nT {C:Ctx}{a:Expr}{f:EE}{es:List Expr}{kt:Nat}{tpos p pos:Pos}(hg:Gl C.X "enumerate")(hm:C.X.mg "enumerate"=none)(ha:SE C a f)(hs:autoParam (starEach [a] C.X.env=[(false,eval a C.X.env)]) ZF._auto_1):
  SI C (.Tuple es kt tpos) (.Call (.Name "enumerate" p) [a] [] pos) (Dv.iEnumS f):=by
 obtain⟨t,pe,q⟩:=ha;refine⟨_,nU hg hm (au pe aM hs) hs,λ σ H Hv ρ T er s w=>?_⟩;refine q σ H Hv ρ _ er s ?_
 unfold Dv.iEnumS at w;cases hf:f ρ with
 | bad=>rw[hf] at w;exact w
 | exc c=>rw[hf] at w;exact w
 | ok d fr=>
  rw[hf] at w;intro v Hv' H' x rp n;cases d with
  | str z=>
   unfold Rp at rp;subst rp;refine⟨_,rfl,w _ Hv' H' x λ i H3 s3=>⟨λ d hd=>?_,λ hi=>?_⟩⟩
   ·obtain⟨dx,g1,rfl⟩:=gG hd
    obtain⟨c,hz,rfl⟩:=signs_at g1;refine⟨?_,λ u H4 ⟨p,hp,e1,c',hc,hh⟩=>?_⟩
    ·show i<_
     rw[eE];exact(List.getElem?_eq_some_iff.mp hz).1
    rw[m9 hz] at hc;cases hc;subst e1 hh;have nx:=Ext.new1 s3 hp (.tup [.int i,.str ⟨#[c%1114112]⟩]);refine⟨_,nx,?_⟩;unfold Rp;refine⟨p,_,rfl,.inl ao,.cons ?_ (.cons bT .nil)⟩;unfold Rp;simp
   ·show i=_
    rw[f6] at hi;rw[eE,hi];simp[Dv.signsD]
  | _=>exact Zf w
end Sd
namespace Sd
open PySem PySem.Spec PyProof.Rows L2
open Dv (D R RL EE EL EI RI Sl Out SS)
section
variable {C:Ctx}{a e:Expr}{f:EE}{pos:Pos}
theorem kg {X:Cx}:cb X (.builtin "len") (λ xs H Q=>∃ a kvs,xs=[V.ref a]/\Rd H a (.dK kvs)/\Q (.int kvs.length) H):=by
 intro pins s σ H xs us Q I r h;obtain⟨a,kvs,rfl,ha,q⟩:=h;obtain⟨u,rfl,ru⟩:=vals1 r;cases ru;exact vA I ha λ t s' I'=>⟨.int kvs.length,H,I',⟨t,rfl⟩,q⟩
end
theorem jl {H:Hp}{a b:Addr}{o:HO}(h:upd H a o b=none):b≠a/\H b=none:=by
 by_cases e:b=a
 ·subst e;rw[ao] at h;cases h
 ·rw[ai e] at h;exact⟨e,h⟩
theorem eM {A B:Prop}{c:Bool}(h:c=false)(b:B):if c=true then A else B:=by rw[if_neg (by rw[h];decide)];exact b
theorem dI {A B:Prop}{c:Bool}(h:c=true)(b:A):if c=true then A else B:=by rw[if_pos h];exact b
abbrev uV:List V->Hp->VK->Prop:=λ xs H Q=>∃ a kvs,xs=[V.ref a]/\Rd H a (.dK kvs)/\Q (.int kvs.length) H
theorem vP {K:yy}{H:Hp}{d1:D}{v1:V}{a0:Option V}{r:St}(h1:Rp K H d1 v1):EnvR K H [none,some d1] (a0::some v1::r):=by
 intro i d e
 match i with
 | 0=>simp at e
 | 1=>simp at e;subst e;exact⟨v1,rfl,h1⟩
 | i+2=>simp at e
theorem rJ {K:yy}{H:Hp}{d1 d2:D}{v1 v2:V}{a0:Option V}{r:St}(h1:Rp K H d1 v1)(h2:Rp K H d2 v2):EnvR K H [none,some d1,some d2] (a0::some v1::some v2::r):=by
 intro i d e
 match i with
 | 0=>simp at e
 | 1=>simp at e;subst e;exact⟨v1,rfl,h1⟩
 | 2=>simp at e;subst e;exact⟨v2,rfl,h2⟩
 | i+3=>simp at e
structure Bs (Hv₀ H₀ Hs H:Hp):Prop where
 vv:Same Hv₀ Hs
 nw:∀ b o,Hs b=some o->Hv₀ b=none->H₀ b=none
 nf:∀ b o u,H₀ b=none->H b≠some (.frz o u)
structure Mf (K:yy)(x qual:Str)(st:Stmt)(ps:List Str)(f:Addr)(fd:FuncData):Prop where
 ex:∃ (oc:Value) (od:Option Addr) (dV kV doc pm:Value) (an:Option Addr) (cdv ct:Value) (osl:Array (Option Value)),
  fd=yJ x qual (aE st) (ax st) (ae st) dV kV doc pm an cdv ct/\K.lookup f=some ⟨oc,od,.func fd,osl⟩/\zc K cdv qual=true
 bd:Binds K fd ps []
section
variable {P:Program}{w:World}{K:yy}{mg:Str->Option Value}{base:Heap}{CX:CXT}
theorem ib {x qual:Str}{st:Stmt}{ps:List Str}{f:Addr}{oc:Value}{od an:Option Addr}{osl:Array (Option Value)}{dV kV doc pm cdv ct:Value}(l:K.lookup f=some ⟨oc,od,.func (yJ x qual (aE st) (ax st) (ae st) dV kV doc pm an cdv ct),osl⟩)
  (c:zc K cdv qual=true)
  (h:∀ (kV doc pm:Value) (an:Option Addr) (cdv ct:Value) (us:List Value),us.length=ps.length->bindArgs (yJ x qual (aE st) (ax st) (ae st) dV kV doc pm an cdv ct) ⟨us,[]⟩=pure (ps.zip us)):
  Mf K x qual st ps f (yJ x qual (aE st) (ax st) (ae st) dV kV doc pm an cdv ct):=⟨⟨oc,od,dV,kV,doc,pm,an,cdv,ct,osl,rfl,l,c⟩,.all (h kV doc pm an cdv ct)⟩
theorem Mf.okL {x qual:Str}{st:Stmt}{f:Addr}{fd:FuncData}{ps:List Str}{sp:Sp}(N:List Str)(k:Nat)(d:Mf K x qual st ps f fd)(S:FnScope N ps (ae st))(len:∀ vs H Q E,sp vs H Q E->vs.length=ps.length)
  (hbody:∀ (cdv:Value) (A:Around) (outer:List yF) (s:Shared) (H:Hp) (vs:List V) (Q:VK) (E:XK) (hr:Room k (A.deeper (envOfC qual (ae st) s.heap.objs.size f cdv))),sp vs H Q E ->
   ∃ t,PSs (bJ CX P w K mg base N qual (ae st) f cdv A outer s H E) (ax st) t/\t { nx:=λ _ H'=>Q .non H',rt:=Q } (L2.start N vs) H):FnOk P w K mg base CX (k+1) f fd ps sp:=by
 obtain⟨oc,od,dV,kV,doc,pm,an,cdv,ct,osl,rfl,lk,hcd⟩:=d.ex;exact rA lk hcd S len λ A outer s H vs Q E hr hsp=>hbody cdv A outer s H vs Q E hr hsp
end
open PySem PySem.W PyProof.Rows
open PySem PySem.W PySem.Calls PyProof.Rows
end Sd
namespace Sd
open PySem PySem.Spec PySem.W PySem.Calls PyProof.Rows L2
open Dv (D R RL EE EL EI RI Sl Out SS)
open PySem PySem.Spec PyProof.Rows L2
section
variable {C:Ctx}{a b c e k:Expr}{f g h:EE}{pos:Pos}
theorem eX {R:Prop}(h:SE C e f)(k:∀ t,PE C.X e t->Tak C t f->R):R:=let ⟨t,p,q⟩:=h;k t p q
end
theorem gr {P:Program}{w:World}{K:yy}{mg:Str->Option Value}{base:Heap}{N:List Str}{qual:Str}{scope:Scope}{f:Addr}{cd:Value}{A:Around}{outer:List yF}{s:Shared}{H:Hp}{E:XK}:
  bC (CXe P w) (bJ (CXe P w) P w K mg base N qual scope f cd A outer s H E) E:=λ pins σ H1 s1 e s' I h=>(cxe_ok (P:=P) (w:=w)).leave K mg base N qual scope f cd A outer s H E pins σ H1 s1 e s' I h
end Sd
namespace Sts
open PySem PySem.SetTable
def Occ (t:SetTable)(j:Nat):Prop:=j∈t.place.toList
instance (t:SetTable)(j:Nat):Decidable (Occ t j):=inferInstanceAs (Decidable (j∈t.place.toList))
def own (o:Array (Option Nat))(j:Nat):Prop:=((o.getD j (some 0)).isNone)=false
instance (o:Array (Option Nat))(j:Nat):Decidable (own o j):=inferInstanceAs (Decidable (_=_))
open PySem PySem.SetTable PyProof.Rows
open PySem PySem.SetTable PyProof.Rows PySem.W
end Sts
namespace Sd
open PySem PySem.Spec PySem.W PySem.Calls PyProof.Rows L2 Sts
open Dv (D R RL EE EL EI RI Sl Out SS)
open PySem PySem.Spec PyProof.Rows L2
open Dv (D R)
structure Fo (P:Program)(w:World)(K:yy)(mg:Str->Option Value)(base:Heap)(n:Str)(st:Stmt)(ps:List Str)(k:Nat)(S:Sp) where
 f:Addr
 fd:FuncData
 d:Df K mg n st ps f fd
 o:FnOk P w K mg base (CXe P w) k f fd ps S
abbrev Fu (n:Str)(st:Stmt)(ps:List Str)(k:Nat)(F:List D->R)(m:Nat)(P:Program)(w:World)(K:yy)(mg:Str->Option Value)(base:Heap)(ad:String->Option Addr):=Fo P w K mg base n st ps k (spD K (ar ad) F m)
abbrev hD (K:yy)(n:Str)(s:Stmt):Prop:=∃ (f:Addr) (oc:Value) (od:Option Addr) (kV dc pm:Value) (an:Option Addr) (cd ct:Value) (sl:Array (Option Value)),yH K mainGlobals n=some (some (.ref f)) /\
 K.lookup f=some ⟨oc,od,.func (yJ n n (aE s) (ax s) (ae s) .none kV dc pm an cd ct),sl⟩/\zc K cd n=true/\yR K (.ref f)=true
theorem dfE {K:yy}{h:Heap}{mg:Str->Option Value}{n:Str}{st:Stmt}{ps:List Str}(X:K.In h)(G:h.Ns mainGlobals mg)(q:hD K n st)
  (b:∀ (kV doc pm:Value) (an:Option Addr) (cdv ct:Value) (us:List Value),us.length=ps.length->bindArgs (yJ n n (aE st) (ax st) (ae st) .none kV doc pm an cdv ct) ⟨us,[]⟩=pure (ps.zip us)):∃ f fd,Df K mg n st ps f fd:=
 let ⟨f,_,_,_,_,_,_,_,_,_,a,l,c,k⟩:=q
 ⟨f,_,rq (yL X G a) l c k b⟩
abbrev hX (K:yy)(c:String)(C:Addr):Prop:=yH K mainGlobals (yG c)=some (some (.ref C))/\yU K (.ref C) (.type "ValueError")=some true/\XLook K C
theorem hx_cons {K:yy}{c:String}{C:Addr}{l:List (String×Addr)}(h:hX K c C)(r:∀ p∈l,hX K p.1 p.2):∀ p∈(c,C)::l,hX K p.1 p.2:=aU h r
def sX (K:yy)(c:String)(C:Addr)(l:List (String×Addr)):Prop:=∀ p∈l,yU K (.ref C) (.ref p.2)=some (Dv.subX c p.1)
theorem sx_cons {K:yy}{c q:String}{C Q:Addr}{l:List (String×Addr)}(h:yU K (.ref C) (.ref Q)=some (Dv.subX c q))(r:sX K c C l):sX K c C ((q,Q)::l):=aU h r
theorem sxx_cons {K:yy}{c:String}{C:Addr}{l l0:List (String×Addr)}(h:sX K c C l0)(r:∀ p∈l,sX K p.1 p.2 l0):∀ p∈(c,C)::l,sX K p.1 p.2 l0:=aU h r
abbrev hXs (K:yy)(l:List (String×Addr)):Prop:=(∀ p∈l,hX K p.1 p.2)/\∀ p∈l,sX K p.1 p.2 l
theorem uK {K:yy}{h:Heap}{mg:Str->Option Value}(X:K.In h)(G:h.Ns mainGlobals mg){l:List (String×Addr)}(q:hXs K l):XAll K mg (ls l):=
 qS l (λ p hp=>let ⟨a,v,x⟩:=q.1 p hp;⟨⟨yL X G a,a,x.ex,x.lk⟩,x,v⟩) λ p hp q' hq=>q.2 p hp q' hq
end Sd
namespace Dv
def compGoG (bn:D->Option (List D))(elt:EE)(cond:EE)(free:Env):List D->RL
 | []=>.ok [] true
 | d::r=>match bn d with
  | some es=>match cond (es.map some++free) with
   | .ok (.bl true) _=>match elt (es.map some++free) with
    | .ok x f=>match compGoG bn elt cond free r with
     | .ok xs g=>.ok (x::xs) (f&&g)
     | _=>.bad
    | _=>.bad
   | .ok (.bl false) _=>compGoG bn elt cond free r
   | _=>.bad
  | none=>.bad
def eCompG (bn:D->Option (List D))(elt cond:EE)(is:List Nat)(it:EI):EE:=λ ρ=>match it ρ with
 | .ok ds _=>if ds.length<=mx then match compGoG bn elt cond (pick ρ is) ds with
   | .ok xs f=>.ok (.lst xs) f
   | _=>.bad
  else .bad
 | .exc c=>.exc c
 | .bad=>.bad
def bn1 (d:D):Option (List D):=some [d]
def bnT (m:Nat):D->Option (List D)
 | .tup es=>if es.length=m then some es else none
 | _=>none
theorem go1 (elt cond:EE)(free:Env):∀ l,compGoG bn1 elt cond free l=bS elt cond free l
 | []=>rfl
 | d::r=>by unfold compGoG bS;simp only[bn1,go1 elt cond free r];all_goals rfl
theorem goT (m:Nat)(elt cond:EE)(free:Env):∀ l,compGoG (bnT m) elt cond free l=eu m elt cond free l
 | []=>rfl
 | d::r=>by
  unfold compGoG eu;cases d with
  | tup es=>
   by_cases q:es.length=m
   ·simp only[bnT,q,if_true,goT m elt cond free r]
    all_goals rfl
   ·simp only[bnT,q,if_false]
  | _=>rfl
theorem eC1 (elt cond:EE)(is:List Nat)(it:EI):eCompG bn1 elt cond is it=eComp elt cond is it:=by funext ρ;unfold eCompG eComp;simp only[go1];all_goals rfl
theorem eCT (m:Nat)(elt cond:EE)(is:List Nat)(it:EI):eCompG (bnT m) elt cond is it=eCompT m elt cond is it:=by funext ρ;unfold eCompG eCompT;simp only[goT];all_goals rfl
end Dv
namespace Sd
open PySem PySem.Spec PyProof.Rows L2
open Dv (D R RL EE EL EI RI Sl Out SS)
section
variable {C:Ctx}{elt iter:Expr}{tg:Expr}{bn:D->Option (List D)}{T0:TG}{ts:List Str}{pos:Pos}{ifs:List Expr}{scope:Scope}{fs:List Str}{is:List Nat}{fi:EI}{fe fc:EE}
structure CompAtG (C:Ctx)(ts:List Str)(fs:List Str)(is:List Nat)(scope:Scope)(cl:List (Str×Addr))(L Da:Addr)(s2:Shared)(H1 Hv1:Hp)(fp:List Addr)(tn:Nat->Heap->Prop)(σ:St)(ds:List D)(i:Nat)(os:St)(vs:List V)(xs:List D)(f1:Bool)(Hn Hvn:Hp)(s:Shared):Prop where
 le:i<=ds.length
 ol:os.length=ts.length
 inv:Inv (aH C.X (ts++fs) scope cl L s2 H1 fp) [] (os++bq σ is) Hn s
 at_:tn i s.heap
 fpn:∀ b∈fp,Hn b=none
 obj:∃ (its:List Value) (ne:Nat),s.heap.get? Da=some { cls:=.type "list",data:=.seq its.toArray ne }/\Vals vs its
 dn:Hn Da=none
 few:vs.length<=i
 ext:Ext Hv1 H1 Hvn Hn
 rp:RpL C.X.K Hvn xs vs
 fr:f1=true->RpL [] (Hnew H1 Hn) xs vs
 nd:f1=true->rE xs->vs.Nodup
theorem gZ {cl:List (Str×Addr)}{L Da:Addr}{s2:Shared}{H1:Hp}{fp:List Addr}{σ:St}{pins:List (Addr×Obj)}{its:List Value}{ne:Nat}{vs:List V}{Hn:Hp}{s1:Shared}{os:St}{h':Heap}
  (I2:Inv C.X pins σ H1 s2) (f2:∀ b∈fp,eG C.X pins H1 b) (eD:Da=s2.heap.objs.size) (eL:L=s2.heap.objs.size+1)
  (I:Inv (aH C.X (ts++fs) scope cl L s2 H1 fp) [] (os++bq σ is) Hn s1) (obj:s1.heap.get? Da=some { cls:=.type "list",data:=.seq its.toArray ne }) (rv:Vals vs its) (dn:Hn Da=none) (few:vs.length<=sizeLine)
  (sb:∀ b,b≠L->h'.get? b=s1.heap.get? b):Inv C.X pins σ (upd Hn Da (.lst vs)) { s1 with heap:=h' }:=by
 have lt:∀ b o,s2.heap.get? b=some o->b≠Da/\b≠L:=λ b o e=>by
  have hlt:=yA e;rw[eD,eL];exact⟨wb hlt,wb (wX hlt)⟩
 have hDL:Da≠L:=by rw[eD,eL];exact wb (wN _)
 have kp:∀ b o,b≠L->s1.heap.get? b=some o->h'.get? b=some o:=λ b o hb e=>(sb b hb).trans e
 refine I2.call' (s':={ s1 with heap:=h' }) (ch:=fp) I.os ⟨λ b ob e n hb hx=>?_,λ b ob e n hb hx=>?_,λ b ob e n hx=>?_,λ b ob e hx=>?_,λ b us e=>?_,λ b ob u e=>?_,λ b ps e=>?_⟩ ?_ I.bare λ b hb=>⟨(f2 b hb).2.2.2.1,(f2 b hb).2.1,(f2 b hb).2.2.2.2.1,(f2 b hb).2.2.2.2.2⟩
 ·exact kp b ob (lt b ob e).2 (I.base.keep b ob e n hb hx)
 ·obtain⟨sl,h1⟩:=I.base.slot b ob e n hb hx
  exact⟨sl,kp b _ (lt b ob e).2 h1⟩
 ·rw[ai (lt b ob e).1];exact I.base.free b ob e n hx
 ·obtain⟨o',h1⟩:=I.base.there b ob e hx
  exact⟨o',kp b _ (lt b ob e).2 h1⟩
 ·have h1:=I.base.tups b us e
  rw[ai (ak h1 dn)];exact h1
 ·have h1:=I.base.frzs b ob u e
  rw[ai (ak h1 dn)];exact h1
 ·obtain⟨more,h1⟩:=I.base.tbls b ps e
  exact⟨more,by rw[ai (ak h1 dn)];exact h1⟩
 ·exact b7 (qd I.hok I.free kp) dn ⟨few,its,ne,rv,kp Da _ hDL obj⟩
theorem i4 {bn:D->Option (List D)}{elt cond:EE}{free:Dv.Env}{d:D}{r:List D}{xs:List D}{f:Bool}(h:Dv.compGoG bn elt cond free (d::r)=.ok xs f):
  ∃ es,bn d=some es/\((∃ g x fx xs' f',cond (es.map some++free)=.ok (.bl true) g/\elt (es.map some++free)=.ok x fx/\Dv.compGoG bn elt cond free r=.ok xs' f'/\xs=x::xs'/\f=(fx&&f')) \/
  (∃ g,cond (es.map some++free)=.ok (.bl false) g/\Dv.compGoG bn elt cond free r=.ok xs f)):=by
 unfold Dv.compGoG at h;cases hb:bn d with
 | none=>simp only[hb] at h;cases h
 | some es=>
  refine⟨es,rfl,?_⟩;simp only[hb] at h;cases hc:cond (es.map some++free) with
  | bad=>simp only[hc] at h;cases h
  | exc c=>simp only[hc] at h;cases h
  | ok v g=>
   cases v with
   | bl b=>
    cases b with
    | true=>
     simp only[hc] at h;cases he:elt (es.map some++free) with
     | bad=>simp only[he] at h;cases h
     | exc c=>simp only[he] at h;cases h
     | ok x fx=>
      simp only[he] at h;cases hr:Dv.compGoG bn elt cond free r with
      | bad=>simp only[hr] at h;cases h
      | exc c=>simp only[hr] at h;cases h
      | ok xs' f'=>
       simp only[hr] at h;cases h;exact .inl ⟨g,x,fx,xs',f',rfl,rfl,rfl,rfl,rfl⟩
    | false=>simp only[hc] at h;exact .inr ⟨g,rfl,h⟩
   | _=>simp only[hc] at h;cases h
structure TgR (C:Ctx)(tg:Expr)(ts fs:List Str)(scope:Scope)(bn:D->Option (List D))(T:TG):Prop where
 hg:∀ cl L s₀ H₀ ex,PG (aH C.X (ts++fs) scope cl L s₀ H₀ ex) tg T
 ht:∀ {K:yy} {d:D} {des:List D} {Hv H:Hp} {xv:V} {os fr:St} {Q:St->Hp->Prop},bn d=some des->os.length=ts.length->Same Hv H->Rp K Hv d xv->(∀ ws,ws.length=ts.length->RpL K Hv des ws->Q (ws.map some++fr) H)->T xv (os++fr) H Q
def jW (C:Ctx)(bn:D->Option (List D))(fe fc:EE)(is:List Nat)(fi:EI)(σ:St)(H Hv:Hp)(ρ:Dv.Env)(Q:VK):Prop:=
 ∃ Kp:List D->Bool->Prop,OkI C.X.K Hv H (C.W σ) C.cls (fi ρ) (λ J H1=>∃ Hv1 ds xs fr,Ext Hv H Hv1 H1/\Wlk C.X.K J Hv1 ds/\ds.length<=Dv.mx/\Dv.compGoG bn fe fc (Dv.pick ρ is) ds=.ok xs fr/\Kp xs fr) /\
  ∀ {xs fr vs Hvn Hn},Kp xs fr->Ext Hv H Hvn Hn->RpL C.X.K Hvn xs vs->(fr=true->RpL [] (Hnew H Hn) xs vs)->(fr=true->rE xs->vs.Nodup)->∀ Da,Hn Da=none->Q (.ref Da) (upd Hn Da (.lst vs))
theorem tS {σ:St}{H Hv:Hp}{ρ:Dv.Env}{Kp:List D->Bool->Prop}(ok:Ok C.X.K Hv H (C.W σ) C.cls (Dv.eCompG bn fe fc is fi ρ) λ _ _=>True)(hk:∀ xs fr,Dv.eCompG bn fe fc is fi ρ=.ok (.lst xs) fr->Kp xs fr):OkI C.X.K Hv H (C.W σ) C.cls (fi ρ) (λ J H1=>∃ Hv1 ds xs fr,Ext Hv H Hv1 H1/\Wlk C.X.K J Hv1 ds/\ds.length<=Dv.mx/\Dv.compGoG bn fe fc (Dv.pick ρ is) ds=.ok xs fr/\Kp xs fr):=by
 unfold Dv.eCompG at ok hk;cases hf:fi ρ with
 | bad=>simp only[hf] at ok;exact ok
 | exc c=>simp only[hf] at ok;exact ok
 | ok ds g=>
  simp only[hf] at ok hk;by_cases hz:ds.length<=Dv.mx
  ·simp only[hz,if_true] at ok hk
   cases hgo:Dv.compGoG bn fe fc (Dv.pick ρ is) ds with
   | bad=>simp only[hgo] at ok;exact Zf ok
   | exc c=>simp only[hgo] at ok;exact Zf ok
   | ok xs fr=>
    simp only[hgo] at hk;exact λ J Hv1 H1 x1 wl=>⟨Hv1,ds,xs,fr,x1,wl,hz,hgo,hk xs fr rfl⟩
  ·simp only[hz,if_false] at ok
   exact Zf ok
theorem Ok.tt {K:yy}{Hv H:Hp}{W:XK}{cls:String->Value}{r:R}{Q:VK}(ok:Ok K Hv H W cls r Q):Ok K Hv H W cls r λ _ _=>True:=by
 cases r with
 | ok d f=>exact λ _ _ _ _ _ _=>trivial
 | _=>exact ok
theorem jH {σ:St}{H Hv:Hp}{ρ:Dv.Env}{Q:VK}(ok:Ok C.X.K Hv H (C.W σ) C.cls (Dv.eCompG bn fe fc is fi ρ) Q):jW C bn fe fc is fi σ H Hv ρ Q:=
 ⟨λ xs fr=>Ok C.X.K Hv H (C.W σ) C.cls (.ok (.lst xs) fr) Q,tS (Ok.tt ok) λ xs fr e=>by rw[e] at ok;exact ok,λ okE x r f _ Da dn=>Ok.newL okE x r f Da dn⟩
theorem j2 {pins:List (Addr×Obj)}{s:Shared}{σ:St}{H Hv:Hp}{ρ:Dv.Env}{Q:VK}{use:Option (Value->Sem Unit)}{Q':Value->Shared->Prop}{pos':Pos}(hclm:C.X.calm=true)(S:CompNamesT C.X scope ts fs is)(hG:TgR C tg ts fs scope bn T0)(hi:SI C tg iter fi)(he:∀ cl L s₀ H₀ ex,SE (cq C (ts++fs) scope cl L s₀ H₀ ex) elt fe)(hc:∀ cl L s₀ H₀ ex,STs (cq C (ts++fs) scope cl L s₀ H₀ ex) ifs fc)
  (hs:∀ v,foldedSetIterable iter C.X.env v=pure v) (I:Inv C.X pins σ H s) (er:EnvR C.X.K Hv ρ σ) (sv:Same Hv H) (ok:jW C bn fe fc is fi σ H Hv ρ Q)
  (hfin:∀ Da L s5,i0 C pins σ Q Da L s5->compPost (model C.X.prog C.X.w) C.X.A C.X.xe use Q' (.ref Da) L (.ok .next) s5):
  wpAny (model C.X.prog C.X.w) C.X.A (comprehension (.ListComp elt [⟨tg,iter,ifs,0⟩] scope pos) scope C.X.env pos' (newList []) false (eval iter C.X.env) use) Q' C.X.xe s:=by
 obtain⟨wi,pi,qi⟩:=hi;obtain⟨cl,hcl,clsub,clhas⟩:=f9 (env:=C.X.env) (scope:=scope) λ y hy hf=>I.ok.has y.1 (S.free y hy hf)
 obtain⟨Kp,ok,hend⟩:=ok;have h0:=qi σ H Hv ρ _ er sv ok;refine wpAny_comprehension_free (use:=use) rfl hs hcl S.kind S.names (yC (pi pins s σ H _ I h0) (λ v s1 h1=>yC h1 (λ itv s2 h2=>?_) λ _ _ z=>z) λ _ _ z=>z);obtain⟨it,fp,tn,J,H1,rfl,I2,T,st2,f2,Hv1,ds,xs,fr,x1,wl,hz,hgo,okE⟩:=h2;clear ok;have fin:∀ b∈fp,b<s2.heap.objs.size:=λ b hb=>by
  obtain⟨o,e,_⟩:=T.obj 0 _ st2 b hb;exact yA e
 refine z0 (Bg S.cell (by intro y hy;simp at hy) (λ h1 hns hsb=>?_) S.kind);dsimp only at hns hsb ⊢;generalize hH2:s2.heap.push { cls:=.type "list",dict:=none,data:=.seq ([]:List Value).toArray }=G2 at hns hsb ⊢;have hL:G2.objs.size=s2.heap.objs.size+1:=by rw[<- hH2,y8]
 generalize eL:G2.objs.size=L at hns hsb ⊢;rw[eL] at hL;have old:∀ b o,s2.heap.get? b=some o->h1.get? b=some o:=λ b o e=>by
  have hlt:=yA e;exact hsb.extBut b o (by rw[hL];exact wb (wX hlt)) (yB _ (hH2▸yB _ e))
 have hacc:h1.get? s2.heap.objs.size=some { cls:=.type "list",data:=.seq ([]:List Value).toArray 0 }:=hsb.extBut _ _ (by rw[hL];exact wb (wN _)) (yB _ (hH2▸yD _ rfl));generalize eD:s2.heap.objs.size=Da at hacc hL ⊢;have hDfp:Da∉fp:=λ hb=>by
  have:=fin Da hb;rw[eD] at this;exact wH _ this
 have hDL:Da≠L:=by rw[hL];exact wb (wN _)
 have hsL:s2.heap.objs.size<=L:=by rw[hL,eD];exact xE _
 have hsD:s2.heap.objs.size<=Da:=xM eD;obtain⟨te,pe,qe⟩:=he cl L s2 H1 fp;obtain⟨tt,pt,qt⟩:=hc cl L s2 H1 fp;have hDfs:Da∉frs C.X.stack:=λ hb=>by
  obtain⟨_,ob,hob,_⟩:=I2.stack.mem hb;have:=yA hob;rw[eD] at this;exact wH _ this
 have hcalm:(aH C.X (ts++fs) scope cl L s2 H1 fp).calm=true:=hclm;have start:CompAtG C ts fs is scope cl L Da s2 H1 Hv1 fp tn σ ds 0 (List.replicate ts.length none) [] [] true H1 Hv1 { s2 with heap:=h1,toks:=s2.toks+([]:List (Str×Value)).length }:=
  ⟨xD _,by simp,ir I2 S clsub clhas f2 fin hsL old hns,T.keep 0 _ _ st2 λ b hb o e=>old b o e,λ b hb=>(f2 b hb).1,⟨[],0,hacc,.nil⟩,I2.hok.fresh hsD,wm _,.refl x1.vh,.nil,λ _=>.nil,λ _ _=>List.nodup_nil⟩
 have loop:∀ (T0:Result->Shared->Prop) (s4:Shared),(∀ s',i0 C pins σ Q Da L s'->T0 (.ok .next) s')->CompAtG C ts fs is scope cl L Da s2 H1 Hv1 fp tn σ ds 0 (List.replicate ts.length none) [] [] true H1 Hv1 s4 ->
   codeAny (model C.X.prog C.X.w) C.X.A (.compLoop (.ListComp elt [⟨tg,iter,ifs,0⟩] scope pos) 0 (.ref it) (.ref Da) (compEnvC scope cl L C.X.env)) T0 s4:=by
  intro T0 s4 hT hst';refine kh (λ n s=>∃ i os vs xs1 f1 xs2 fr2 Hn Hvn,n=ds.length-i/\CompAtG C ts fs is scope cl L Da s2 H1 Hv1 fp tn σ ds i os vs xs1 f1 Hn Hvn s/\Dv.compGoG bn fe fc (Dv.pick ρ is) (ds.drop i)=.ok xs2 fr2/\xs=xs1++xs2/\fr=(f1&&fr2)) ?_ ds.length ⟨0,List.replicate ts.length none,[],[],true,xs,fr,H1,Hv1,rfl,hst',hgo,rfl,by simp⟩
  rintro n s ⟨i,os,vs,xs1,f1,xs2,fr2,Hn,Hvn,rfl,A,hg2,hxs,hfr⟩
  obtain⟨its,ne,hob,rv⟩:=A.obj;have I1:Inv (aH C.X (ts++fs) scope cl L s2 H1 fp) [(Da,{ cls:=.type "list",data:=.seq its.toArray ne })] (os++bq σ is) Hn s:=A.inv.pins_of λ p hp=>by
   have e:p=(Da,({ cls:=.type "list",data:=.seq its.toArray ne }:Obj)):=by simpa using hp
   subst e;exact⟨hob,A.dn,hDL,hDfs,λ v z=>by cases z⟩
  have hfp:∀ Hx:Hp,(∀ b∈fp,Hx b=none)->∀ b∈fp,eG (aH C.X (ts++fs) scope cl L s2 H1 fp) [(Da,{ cls:=.type "list",data:=.seq its.toArray ne })] Hx b:=λ Hx hx b hb=>by
   refine⟨hx b hb,?_,λ hf=>?_,.inl hb,λ y c e=>(f2 b hb).2.2.2.2.1 y c (clsub y c e),λ p hp=>?_⟩
   ·have:=fin b hb
    exact λ z=>by
     have z':b=L:=z;rw[z'] at this;exact absurd this (Nat.not_lt.mpr hsL)
   ·obtain⟨_,ob,hob',_⟩:=I2.stack.mem hf
    rcases List.mem_cons.mp (I2.stkSub b hf) with e|e
    ·exact(f2 b hb).2.1 e
    ·exact(f2 b hb).2.2.1 e
   ·have e:p=(Da,({ cls:=.type "list",data:=.seq its.toArray ne }:Obj)):=by simpa using (show p∈[]++[(Da,({ cls:=.type "list",data:=.seq its.toArray ne }:Obj))] from hp)
    subst e;exact λ z=>hDfp (by rw[show Da=b from z];exact hb)
  obtain⟨w1,w2⟩:=wl i Hn (A.ext.vv.trans A.ext.vh);by_cases hlt:i<ds.length
  ·have hd:ds[i]?=some ds[i]:=by simp[hlt]
   have e1:ds.drop i=ds[i]::ds.drop (i+1):=wW hlt;rw[e1] at hg2;generalize ds[i]=d at hd e1 hg2;obtain⟨go,yl⟩:=w1 d hd;refine yC (T.item (aH C.X (ts++fs) scope cl L s2 H1 fp) rfl rfl rfl hcalm i _ s _ Hn (λ _ _=>False) I1 (hfp Hn A.fpn) A.at_ go) (λ r s5 h5=>?_) λ _ _ z=>z
   obtain⟨u,rfl,h5⟩:=h5;refine yC h5 (λ _ s6 h6=>?_) λ _ _ z=>z
   obtain⟨xv,H6,I6,ru,y6,tn6,fr6⟩:=h6;obtain⟨Hv6,x6,rp6⟩:=yl xv H6 y6;obtain⟨Hvm,xm,sm⟩:=l9 A.ext x6;have I6p:=I6.pinned (fp:=fp) (hfp H6 fr6) (T.obj _ _ tn6);have dn6:H6 Da=none:=(I6.pin (Da,{ cls:=.type "list",data:=.seq its.toArray ne }) (wk _ (by simp))).2.1;obtain⟨des,ed,hgo3⟩:=i4 hg2;refine yC (hG.hg cl L s2 H1 fp _ s6 _ H6 xv u (λ σ' H'=>∃ ws,ws.length=ts.length/\RpL C.X.K Hv6 des ws/\σ'=ws.map some++bq σ is/\H'=H6) I6p ru (hG.ht ed A.ol x6.vh rp6 λ ws h1 h2=>⟨ws,h1,h2,rfl,rfl⟩)) (λ _ s7 h7=>?_) λ _ _ z=>z
   obtain⟨σ7,H7,I7,ws,hwl,hws,e7,e7'⟩:=h7;subst e7 e7';have er7:EnvR C.X.K Hvm (des.map some++Dv.pick ρ is) (ws.map some++bq σ is):=lN (er.same ((x1.vv.trans A.ext.vv).trans xm.vv)) ((hws.same sm));have back:∀ {s':Shared} {H':Hp} {σ':St},Inv (aH C.X (ts++fs) scope cl L s2 H1 fp) ([(Da,{ cls:=.type "list",data:=.seq its.toArray ne })]++dJ fp s6.heap) σ' H' s'->tn (i+1) s'.heap/\(∀ b∈fp,H' b=none)/\s'.heap.get? Da=some { cls:=.type "list",data:=.seq its.toArray ne }/\H' Da=none:=λ {s' H' σ'} I'=>by
    refine⟨T.keep _ _ _ tn6 λ b hb o e=>(I'.pin (b,o) (wk _ (wk _ (bM hb e)))).1,λ b hb=>?_,?_,?_⟩
    ·obtain⟨o,e,_⟩:=T.obj _ _ tn6 b hb
     exact(I'.pin (b,o) (wk _ (wk _ (bM hb e)))).2.1
    ·exact(I'.pin (Da,{ cls:=.type "list",data:=.seq its.toArray ne }) (wk _ (wB _ (by simp)))).1
    ·exact(I'.pin (Da,{ cls:=.type "list",data:=.seq its.toArray ne }) (wk _ (wB _ (by simp)))).2.1
   rcases hgo3 with ⟨g,xd,fx,xs',f',hcond,helt,hrest,exs,ef⟩|⟨g,hcond,hrest⟩
   ·-- the item is taken
    refine yC (pt _ s7 _ H7 (λ b H'=>b=true/\∃ Hvq,Ext Hvm H7 Hvq H') I7 (qt _ H7 Hvm (des.map some++Dv.pick ρ is) _ er7 xm.vh ?_)) (λ okb s8 h8=>?_) λ _ _ z=>z
    ·rw[hcond]
     intro v Hv' H' xx rpb _;unfold Rp at rpb;exact⟨true,rpb,rfl,Hv',xx⟩
    obtain⟨H8,I8,rfl,Hv8,x8⟩:=h8;rw[if_pos rfl];refine yC (pe _ s8 _ H8 (λ v H'=>∃ Hv',Ext Hv8 H8 Hv' H'/\Rp C.X.K Hv' xd v/\(fx=true->Rp [] (Hnew H8 H') xd v)) I8 (qe _ H8 Hv8 (des.map some++Dv.pick ρ is) _ (er7.same x8.vv) x8.vh ?_)) (λ uv s9 h9=>?_) λ _ _ z=>z
    ·show Ok C.X.K Hv8 H8 _ C.cls (fe (des.map some++Dv.pick ρ is)) _
     rw[helt];exact λ v Hv' H' xx rpb nn=>⟨Hv',xx,rpb,nn⟩
    obtain⟨v9,H9,I9,r9,Hv9,x9,rp9,n9⟩:=h9;obtain⟨tn9,fpn9,ob9,dn9⟩:=back I9;have hlen:=rv.length;refine zN BH ⟨_,ob9,rfl⟩ Br (Bh _ _) (BM Da its.toArray ne uv (by rw[wj];have:=A.few;have:=aX hz;omega)) ⟨ob9,?_⟩;refine⟨ds.length-(i+1),⋯,i+1,ws.map some,vs++[v9],xs1++[xd],f1&&fx,xs',f',H9,Hv9,rfl,⟨hlt,by simp[hwl],?_,?_,fpn9,?_,dn9,?_,?_,?_,?_,?_⟩,hrest,by rw[hxs,exs];simp,by rw[hfr,ef,Bool.and_assoc]⟩
    ·have I9':Inv (aH C.X (ts++fs) scope cl L s2 H1 fp) [] (ws.map some++bq σ is) H9 s9:=I9.pins_of λ p hp=>absurd hp (by simp)
     exact I9'.turned (it:=Da) (λ b ob hb e=>(yS _ _ (Ne.symm hb)).trans e) dn9 hDL (.inr hsD) (λ y c e z=>by
      obtain⟨w',oc,hoc,_⟩:=I2.cell y c (clsub y c e);have:=yA hoc;rw[z] at this;exact absurd this (Nat.not_lt.mpr hsD)) (λ p hp=>absurd (show p∈([]:List (Addr×Obj)) from hp) (by simp))
    ·exact T.keep _ _ _ tn9 λ b hb ob e=>(yS _ _ (λ z=>hDfp (by rw[z];exact hb))).trans e
    ·have q:=AO ob9 (λ a=>a.push uv)
     exact⟨its++[uv],_,by simpa using q,rv.append (.cons r9 .nil)⟩
    ·rw[wy,xT];have:=A.few;omega
    ·exact A.ext.trans (xm.trans (x8.trans x9))
    ·exact(A.rp.same ((xm.vv.trans x8.vv).trans x9.vv)).append (.cons rp9 .nil)
    ·intro z
     rw[v8] at z;refine((A.fr z.1).same (Hnew.mono (.refl _) ((xm.hh.trans x8.hh).trans x9.hh))).append (.cons ((n9 z.2).same (Hnew.mono ((A.ext.hh.trans xm.hh).trans x8.hh) (.refl _))) .nil)
    ·intro z hri
     rw[v8] at z;have nd1:=A.nd z.1 λ y hy=>hri y (wB _ hy)
     obtain⟨r9,hr9⟩:=hri xd (by simp);have q9:=n9 z.2;rw[hr9] at q9;refine List.nodup_append.mpr ⟨nd1,by simp,λ a ha b hb e=>?_⟩;rw[List.mem_singleton] at hb;subst hb e;unfold Rp at q9;obtain⟨p9,ws9,e9,h9a,_⟩:=q9;have h9b:H8 p9=none:=by
      rcases h9a with (h|⟨u,h⟩)|⟨_,_,e,_⟩
      ·exact cK h
      ·exact cK h
      ·simp at e
     obtain⟨j,hj,hja⟩:=xi ha;have hrl:=A.fr z.1;have hlen2:=hrl.length;have hjx:xs1[j]?=some (xs1[j]'⋯):=by simp
     obtain⟨v',hv1,hv2⟩:=hrl.get hjx;have hv3:vs[j]?=some a:=by rw[wD hj,hja]
     rw[hv3] at hv1;cases hv1;obtain⟨rj,hrj⟩:=hri (xs1[j]'⋯) (by simp);rw[hrj,e9] at hv2;unfold Rp at hv2;obtain⟨pj,wsj,ej,hja2,_⟩:=hv2;cases ej;have hHn:Hn p9≠none:=by
      rcases hja2 with (h|⟨u,h⟩)|⟨_,_,e,_⟩
      ·have:=Hnew.sub _ _ h;rw[this];exact λ q=>nomatch q
      ·have:=Hnew.sub _ _ h;rw[this];exact λ q=>nomatch q
      ·simp at e
     cases hq:Hn p9 with
     | none=>exact hHn hq
     | some o=>
      have:=(xm.hh.trans x8.hh) _ _ hq;rw[h9b] at this;cases this
   ·-- the item is left out
    refine yC (pt _ s7 _ H7 (λ b H'=>b=false/\∃ Hvq,Ext Hvm H7 Hvq H') I7 (qt _ H7 Hvm (des.map some++Dv.pick ρ is) _ er7 xm.vh ?_)) (λ okb s8 h8=>?_) λ _ _ z=>z
    ·rw[hcond]
     intro v Hv' H' xx rpb _;unfold Rp at rpb;exact⟨false,rpb,rfl,Hv',xx⟩
    obtain⟨H8,I8,rfl,Hv8,x8⟩:=h8;rw[if_neg wo];obtain⟨tn8,fpn8,ob8,dn8⟩:=back I8;refine⟨ds.length-(i+1),⋯,i+1,ws.map some,vs,xs1,f1,xs2,fr2,H8,Hv8,rfl,⟨hlt,by simp[hwl],I8.pins_of λ p hp=>absurd hp (by simp),tn8,fpn8,⟨its,ne,ob8,rv⟩,dn8,Nat.le_succ_of_le A.few,A.ext.trans (xm.trans x8),A.rp.same (xm.vv.trans x8.vv),λ z=>(A.fr z).same (Hnew.mono (.refl _) (xm.hh.trans x8.hh)),A.nd⟩,hrest,hxs,hfr⟩
  ·have ei:i=ds.length:=yk A.le ⋯
   refine yC (T.done (aH C.X (ts++fs) scope cl L s2 H1 fp) rfl rfl rfl hcalm i _ s _ Hn (λ _ _=>False) I1 (hfp Hn A.fpn) A.at_ (w2 ei)) (λ r s5 h5=>?_) λ _ _ z=>z
   obtain⟨rfl,I5⟩:=h5;refine hT s5 ?_
   obtain⟨m5,hn5,_⟩:=I5.loc;rw[ei,xH] at hg2;cases hg2;rw[wV] at hxs;rw[yr] at hfr;subst hxs hfr;have ob5:=(I5.pin (Da,{ cls:=.type "list",data:=.seq its.toArray ne }) (wk _ (by simp))).1;refine⟨⟨m5,hn5⟩,λ z=>absurd I2.lt (by rw[<- z];exact Nat.not_lt.mpr hsL),λ y c e z=>?_,wK I2.sz hsL,λ p hp z=>?_,upd Hn Da (.lst vs),?_,?_,λ h' sb=>?_⟩
   ·obtain⟨w',oc,hoc,_⟩:=I2.cell y c e
    exact absurd (yA hoc) (by rw[z];exact Nat.not_lt.mpr hsL)
   ·exact absurd (yA (I2.pin p hp).1) (by rw[z];exact Nat.not_lt.mpr hsL)
   ·rw[ai (Ne.symm hDL)];exact A.inv.free
   ·exact hend okE (x1.trans A.ext) A.rp (λ z=>(A.fr z).same (Hnew.mono x1.hh (.refl _))) A.nd Da A.dn
   ·exact gZ I2 f2 eD.symm (by rw[hL,eD]) (I5.pins_of λ p hp=>absurd hp (by simp)) ob5 rv A.dn (by have:=A.few;have:=A.le;have:=aX hz;omega) sb
 refine A3 (loop _ _ (λ s' h=>hfin Da L s' h) start) ?_
 exact T.self _ 0 _ _ _ start.at_ (loop _ _ (λ s' h=>hfin Da L s' h) start)
theorem jB {res:EE}(hr:∀ σ H Hv ρ Q,Ok C.X.K Hv H (C.W σ) C.cls (res ρ) Q->jW C bn fe fc is fi σ H Hv ρ Q)(S:CompNamesT C.X scope ts fs is)(hG:TgR C tg ts fs scope bn T0)(hi:SI C tg iter fi)(he:∀ cl L s₀ H₀ ex,SE (cq C (ts++fs) scope cl L s₀ H₀ ex) elt fe)(hc:∀ cl L s₀ H₀ ex,STs (cq C (ts++fs) scope cl L s₀ H₀ ex) ifs fc)
  (hs:autoParam (∀ v,foldedSetIterable iter C.X.env v=pure v) ZE._auto_1) (hclm:autoParam (C.X.calm=true) ZF._auto_1):SE C (.ListComp elt [⟨tg,iter,ifs,0⟩] scope pos) res:=by
 refine⟨λ σ H Q=>∃ Hv ρ,EnvR C.X.K Hv ρ σ/\Same Hv H/\Ok C.X.K Hv H (C.W σ) C.cls (res ρ) Q,?_,λ σ H Hv ρ Q e s q=>⟨Hv,ρ,e,s,q⟩⟩;intro pins s σ H Q I ⟨Hv,ρ,er,sv,ok⟩;rw[eval_ListComp];refine j2 (use:=none) hclm S hG hi he hc hs I er sv (hr _ _ _ _ _ ok) λ Da L s5 h=>?_
 obtain⟨⟨m,hn⟩,_,_,_,_,H',hL,q,iv⟩:=h;exact⟨m,hn,λ h' sb=>⟨.ref Da,H',iv h' λ b hb=>sb.2 b hb,rfl,q⟩⟩
end
section
variable {C:Ctx}{elt iter:Expr}{x:Str}{px pos:Pos}{ifs:List Expr}{scope:Scope}{fs:List Str}{is:List Nat}{fi:EI}{fe fc:EE}
theorem tz (S:CompNamesT C.X scope [x] fs is):TgR C (.Name x px) [x] fs scope Dv.bn1 (gp 0):=
  ⟨λ cl L s₀ H₀ ex=>eB (X:=aH C.X ([x]++fs) scope cl L s₀ H₀ ex) (pos:=px) (i:=0) (x:=x) S.nd rfl (.inl (zP (S.tgt x (by simp)))) (.inr (zP (S.tgt x (by simp)))),
   λ {K d des Hv H xv os fr Q} e l _ r h=>by
    cases e
    match os,l with
    | [o],_=>exact h [xv] rfl (.cons r .nil)⟩
theorem nO {es:List Expr}{ts:List Str}{kt:Nat}(hcl:C.X.calm=true)(S:CompNamesT C.X scope ts fs is)(na:NamesAre es ts)(hn:∀ env,(assignEach es env).length=es.length)(hst:∀ env,(assignEach es env).findIdx? (·.1)=none):TgR C (.Tuple es kt px) ts fs scope (Dv.bnT ts.length) (uo C.X.K es.length (tgN 0 es.length)):=by
 have hesl:es.length=ts.length:=na.length;refine⟨λ cl L s₀ H₀ ex=>o6 (X:=aH C.X (ts++fs) scope cl L s₀ H₀ ex) (pos:=px) (k:=kt) hcl (lx (X:=aH C.X (ts++fs) scope cl L s₀ H₀ ex) S.nd na 0 (λ j t ht=>⟨by
  show (ts++fs)[0+j]?=some t
  rw[Nat.zero_add,wF (List.getElem?_eq_some_iff.mp ht).1];exact ht,zP (S.tgt t (xc ht))⟩)) (hn _) (hst _),λ {K d des Hv H xv os fr Q} e l sm r h=>?_⟩
 cases d with
 | tup es'=>
  by_cases hdl:es'.length=ts.length
  ·have e':es'=des:=by simpa[Dv.bnT,hdl] using e
   subst e';unfold Rp at r;obtain⟨ta,ws,rfl,hta,hws⟩:=r;have hwl:ws.length=ts.length:=by rw[hws.length,hdl]
   refine⟨ta,ws,rfl,.inl (Rd.same sm hta),by rw[hwl,hesl],?_⟩;rw[hesl];have:=mX ts.length 0 ws [] os fr H Q hwl l rfl (by simpa using h ws hwl hws);simpa using this
  ·simp[Dv.bnT,hdl] at e
 | _=>cases e
theorem bF (S:CompNamesT C.X scope [x] fs is)(hi:SI C (.Name x px) iter fi)(he:∀ cl L s₀ H₀ ex,SE (cq C ([x]++fs) scope cl L s₀ H₀ ex) elt fe)(hc:∀ cl L s₀ H₀ ex,STs (cq C ([x]++fs) scope cl L s₀ H₀ ex) ifs fc)
  (hs:autoParam (∀ v,foldedSetIterable iter C.X.env v=pure v) ZE._auto_1) (hclm:autoParam (C.X.calm=true) ZF._auto_1):SE C (.ListComp elt [⟨.Name x px,iter,ifs,0⟩] scope pos) (Dv.eComp fe fc is fi):=by
 rw[<- Dv.eC1];exact jB (λ _ _ _ _ _=>jH) S (tz S) hi he hc hs hclm
theorem nJ {es:List Expr}{ts:List Str}{kt:Nat}(S:CompNamesT C.X scope ts fs is)(na:NamesAre es ts)(hn:∀ env,(assignEach es env).length=es.length)(hst:∀ env,(assignEach es env).findIdx? (·.1)=none)(hi:SI C (.Tuple es kt px) iter fi)(he:∀ cl L s₀ H₀ ex,SE (cq C (ts++fs) scope cl L s₀ H₀ ex) elt fe)(hc:∀ cl L s₀ H₀ ex,STs (cq C (ts++fs) scope cl L s₀ H₀ ex) ifs fc)
  (hs:autoParam (∀ v,foldedSetIterable iter C.X.env v=pure v) ZE._auto_1) (hclm:autoParam (C.X.calm=true) ZF._auto_1):SE C (.ListComp elt [⟨.Tuple es kt px,iter,ifs,0⟩] scope pos) (Dv.eCompT ts.length fe fc is fi):=by
 rw[<- Dv.eCT];exact jB (λ _ _ _ _ _=>jH) S (nO hclm S na hn hst) hi he hc hs hclm
end
end Sd
namespace Dv
def anyD:D->Bool->R
 | .lst ds,_=>match blsOf ds with
  | some bs=>.ok (.bl (bs.any id)) true
  | none=>.bad
 | _,_=>.bad
def minTD:D->Bool->R
 | .tup ds,_=>match intsOf ds with
  | some (n::ns)=>.ok (.int (minI n ns)) true
  | _=>.bad
 | _,_=>.bad
def sExtF (i:Nat)(e:EE):SS:=λ st=>match st[i]? with
 | some (.ow (.lst ds))=>match e (all st) with
  | .ok (.lst es) true=>if decide (ds.length+es.length<=mx) then .nx (st.set i (.ow (.lst (ds++es)))) else .bad
  | .exc c=>.exc c st
  | _=>.bad
 | _=>.bad
end Dv
namespace Sd
open PySem PySem.Spec PyProof.Rows L2
open Dv (D R RL EE EL EI RI Sl Out SS)
theorem my {X:Cx}(hc:X.calm=true):cb X (.builtin "any") (λ xs H Q=>∃ p,∃ bs:List Bool,xs=[.ref p]/\SqX X.K H p (bs.map V.bl)/\Q (.bl (bs.any id)) H):=by
 intro pins s σ H xs us Q I r h;obtain⟨p,bs,rfl,hq,q⟩:=h;obtain⟨u,rfl,rx⟩:=vals1 r;cases rx;obtain⟨its,n,rv,e,z⟩:=Inv.listX I hq;have hl:s.heap.IsList p its.toArray:=⟨_,e,rfl,n,rfl⟩;have hlt:p<s.heap.objs.size:=yA e;have hlen:its.length=bs.length:=by have:=rv.length;rw[wg] at this;exact this.symm
 refine call_any_walk (zY hl ?_);refine⟨s.heap.objs.size,[s.heap.objs.size,p],[s.heap.objs.size],its.toArray.size,_,_,λ i=>(bs[i]?).getD false,rfl,Walks.list (A:=X.A.in1) (I.ok.hd hc) _ p (wb hlt) its.toArray,
  ⟨⟨_,yD _ rfl,rfl,rfl⟩,hl.push _⟩,λ i v s' Q' E' hP hQ=>?_,λ h' tk hk=>?_⟩
 ·have hP':its[i]?=some v:=by simpa using hP
  have hi:i<bs.length:=by rw[<- hlen];exact(List.getElem?_eq_some_iff.mp hP').1
  obtain⟨u,e1,e2⟩:=rv.get (show (bs.map V.bl)[i]?=some (V.bl bs[i]) by simp[hi]);rw[hP'] at e1;cases e1;have e3:v=AL bs[i]:=e2;subst e3;have e4:(bs[i]?).getD false=bs[i]:=by simp[hi]
  have hQ':Q' bs[i] s':=by rw[<- e4];exact hQ
  exact zG hQ'
 ·have e5:((List.range its.toArray.size).any λ i=>(bs[i]?).getD false)=bs.any id:=by
   rw[wj,hlen,wL,xJ,xJ]
   constructor
   ·rintro ⟨i,hi,hh⟩
    have hi':=List.mem_range.mp hi;simp only[wD hi',wY] at hh;exact⟨_,xt hi',hh⟩
   ·rintro ⟨b,hb,hh⟩
    obtain⟨i,hi,e⟩:=xi hb;refine⟨i,List.mem_range.mpr hi,?_⟩;simp only[wD hi,wY,e];exact hh
  rw[e5];exact⟨.bl _,H,I.kept (t':=tk) λ b x e=>hk b x (λ hm=>by rw[List.mem_singleton.mp hm] at e;exact wH _ (yA e)) (yB _ e),rfl,q⟩
section
variable {C:Ctx}{a b c e k:Expr}{f g h:EE}{F G:SS}{pos pos':Pos}{E:Ends}
theorem uf (hc:C.X.calm=true):C1S C (.builtin "any") Dv.anyD:=by
 refine⟨_,my hc,λ x d fr H Hv H1 Hv1 W Q e rx n q=>?_⟩;cases d with
 | lst ds=>
  simp only[Dv.anyD] at q;cases hi:Dv.blsOf ds with
  | none=>rw[hi] at q;exact Zf q
  | some bs=>
   rw[hi] at q;unfold Rp at rx;obtain⟨l,vs,rfl,h1,h2⟩:=rx;have e1:=RpL.bls hi h2;subst e1;exact⟨l,bs,rfl,h1.same e.vh,Ok.at (d:=.bl (bs.any id)) (fr:=true) q e bI rfl⟩
 | _=>exact Zf q
theorem sr {p:Pos}(hm:C.X.mg "any"=none)(hg:Gl C.X "any")(ha:SE C a f)(he:autoParam (starEach [a] C.X.env=[(false,eval a C.X.env)]) ZF._auto_1)(hcl:autoParam (C.X.calm=true) ZF._auto_1):SE C (.Call (.Name "any" p) [a] [] pos) (Dv.eB1 Dv.anyD f):=
 ik (uf hcl) hg hm (by decide +kernel) ha (by decide) (by decide) he
end
theorem lO {X:Cx}(hc:X.calm=true):cb X (.builtin "min") (λ xs H Q=>∃ p,∃ ns:List Int,xs=[.ref p]/\Rd H p (.tup (ns.map V.int))/\0<ns.length/\∀ M,M∈ns->(∀ a∈ns,M<=a)->Q (.int M) H):=by
 intro pins s σ H xs us Q I r h;obtain⟨p,ns,rfl,hq,hne,q⟩:=h;obtain⟨u,rfl,rx⟩:=vals1 r;cases rx;obtain⟨z,its,rv,ob,ho,hcl,hdt⟩:=hq.ok I.hok;have hi:=intsAre_of rv;obtain⟨xs,ex⟩:=hi.allInts.items;have hns:ns=xs.toList.map (·.1):=by rw[<- hi.numsOf,<- nums_intItems,<- ex]
 have hsz:0<xs.size:=by
  have h3:=hne;rw[hns,wg,zz] at h3;exact h3
 have ht:s.heap.IsTuple p (intItems xs):=⟨ob,ho,hcl,by rw[<- ex];exact hdt⟩;have hlt:p<s.heap.objs.size:=yA ho;refine call_min_walk (BI ht ?_);refine⟨s.heap.objs.size,[s.heap.objs.size,p],[s.heap.objs.size],(intItems xs).size,_,_,λ i j=>decide (numAt xs i<numAt xs j),rfl,Walks.tuple (A:=X.A.in1) (I.ok.hd hc) _ p (wb hlt) (intItems xs),⟨⟨_,yD _ rfl,rfl,rfl⟩,ht.push _⟩,λ b hb=>?_,by simpa[intItems] using hsz,CmpOf.ints_lt (numAt xs) (λ _ _=>intItems_at),λ v h' tk hP hk=>?_⟩
 ·show b<(s.heap.push _).objs.size
  rw[y8]
  rcases List.mem_cons.mp hb with rfl|hb
  ·exact wN _
  ·rw[List.mem_singleton.mp hb];exact wX hlt
 ·have hP':(intItems xs)[argBest (λ i j=>decide (numAt xs i<numAt xs j)) (xs.size-1)]?=some v:=by simpa[intItems] using hP
  obtain⟨t,rfl⟩:=intItems_at hP';obtain⟨h1,h2⟩:=argBest_lt (numAt xs) (xs.size-1);refine⟨.int _,H,I.kept (t':=tk) λ b x e=>hk b x (λ hm=>by rw[List.mem_singleton.mp hm] at e;exact wH _ (yA e)) (yB _ e),⟨t,rfl⟩,q _ ?_ λ a ha=>?_⟩
  ·rw[hns,numAt_eq]
   refine rQ ?_
   rw[wg,zz];omega
  ·rw[hns] at ha
   obtain⟨j,hj,rfl⟩:=tK ha;rw[wg,zz] at hj;rw[<- numAt_eq];exact h2 j ⋯
section
variable {C:Ctx}{a b c e k:Expr}{f g h:EE}{F G:SS}{pos pos':Pos}{E:Ends}
theorem rd (hc:C.X.calm=true):C1S C (.builtin "min") Dv.minTD:=by
 refine⟨_,lO hc,λ x d fr H Hv H1 Hv1 W Q e rx n q=>?_⟩;cases d with
 | tup ds=>
  simp only[Dv.minTD] at q;cases hi:Dv.intsOf ds with
  | none=>rw[hi] at q;exact Zf q
  | some ns=>
   rw[hi] at q;cases ns with
   | nil=>exact Zf q
   | cons m ns=>
    unfold Rp at rx;obtain⟨l,vs,rfl,h1,h2⟩:=rx;have e1:=RpL.ints hi h2;subst e1;refine⟨l,m::ns,rfl,Rd.same e.vh h1,by simp,λ M hM hle=>?_⟩;obtain⟨k1,k2⟩:=iF ns m;have:M=Dv.minI m ns:=yh (hle _ k1) (k2 _ hM);rw[this];exact Ok.at (d:=.int (Dv.minI m ns)) (fr:=true) q e bp rfl
 | _=>exact Zf q
theorem qG {p:Pos}(hm:C.X.mg "min"=none)(hg:Gl C.X "min")(ha:SE C a f)(he:autoParam (starEach [a] C.X.env=[(false,eval a C.X.env)]) ZF._auto_1)(hcl:autoParam (C.X.calm=true) ZF._auto_1):SE C (.Call (.Name "min" p) [a] [] pos) (Dv.eB1 Dv.minTD f):=
 ik (rd hcl) hg hm (by decide +kernel) ha (by decide) (by decide) he
theorem p7 {i:Nat}{x:Str}{apos cpos:Pos}{px:Pos}(he:SE C e f)(hN:autoParam (C.X.N[i]?=some x) ZF._auto_1)(hv:autoParam (Vis C.X.env.scope x) ZH._auto_1)
    (hd:autoParam ((x == ("__debug__":Str))=false) ZC._auto_1) (hcd:autoParam ((x == ("__classdict__":Str))=false) ZC._auto_1) (hst:autoParam (starEach [e] C.X.env=[(false,eval e C.X.env)]) ZF._auto_1)
    (hbase:autoParam (attributeBase (.Name x px) "extend" C.X.env (eval (.Name x px) C.X.env)=eval (.Name x px) C.X.env) ZF._auto_1)
    (hfew:autoParam (((backTo cpos (starEach [e] C.X.env)).all (λ x=>!x.1)&&(backToKw cpos (keywordEach [] C.X.env)).all (λ x=>x.1.isSome)
      && decide ([e].length+([]:List Keyword).length+(if ([]:List Keyword).isEmpty then 0 else 1)<30))=true) ZF._auto_1)
    (hline:autoParam ((apos.endLine == cpos.line)=true) ZF._auto_1)
    (hs:autoParam (swapsWith (.Call (.Attribute (.Name x px) "extend" apos) [e] [] cpos) none pos.line C.X.env=pure false) ZF._auto_1):
    SSt C (.Expr (.Call (.Attribute (.Name x px) "extend" apos) [e] [] cpos) pos) (Dv.sExtF i f):=by
  obtain⟨t,p,q⟩:=he;refine⟨_,cE (mG PySem.F.plainAttrs_list PySem.F.slot_list_extend PySem.F.type_list_extend lS (cJ hN hv hd hcd) (au p aM hst) hbase hfew hline hst rfl) hs,λ Hv₀ H₀ E σ H st ⟨Hc,O,r⟩ w=>?_⟩;unfold Dv.sExtF at w;cases hi:st[i]? with
  | none=>simp only[hi] at w;exact Zf w
  | some s=>
    simp only[hi] at w;cases s with
    | ow d0=>
     cases d0 with
     | lst ds=>
      obtain⟨a,vs,h1,h2,h5⟩:=r.own hi;refine⟨_,h1,.inl ⟨rfl,vs,SqL.of h2⟩,?_⟩;refine q.all r (λ c hf H' r'=>?_) (λ hf=>?_) λ d fr v Hv' H' hf x r' rp n=>?_
      · simp only[hf] at w;exact w σ H' ⟨Hc,O,r'⟩
      · simp only[hf] at w;exact w
      · cases d with
        | lst es=>
          simp only[hf] at w;cases fr with
          | false=>exact Zf w
          | true=>
            by_cases z:decide (ds.length+es.length<=Dv.mx)=true
            · simp only[z,if_true] at w
              rw[decide_eq_true_eq] at z;obtain⟨b,zs,rfl,hb,_,rl⟩:=kH x (n rfl);have hn:∀ b o,Hnew H H' b=some o->Hc b=none:=λ b o h=>r.ch.free (cK h)
              have y:Ext Hc H (cA Hc (Hnew H H')) H':=by
                refine⟨x.hh,ee,λ b o h=>?_,λ b o h nn=>?_,λ b h=>?_,x.nf⟩
                · rcases cg h with h|⟨_,h⟩
                  · exact x.hh _ _ (r.ch b o h)
                  · exact Hnew.sub b o h
                · rcases cg h with h|⟨_,h⟩
                  · rw[nn] at h;cases h
                  · exact cK h
                · unfold cA Hnew
                  rw[r.ch.free h,h]
              have r1:=r.growC y;obtain⟨O',r2⟩:=r1.put hi h1 ((h5.same ee).append (RpL.frag (rl.same (fT hn))));refine⟨a,b,vs,zs,rfl,rfl,x.hh _ _ h2,hb,?_,w σ _ ⟨_,O',r2⟩⟩;have e1:=h5.length;have e2:=rl.length;have:=aX z;omega
            · simp only[z] at w
              exact Zf w
        | _=>simp only[hf] at w;exact Zf w
     | _=>exact Zf w
    | _=>exact Zf w
end
theorem iR {e:Value}{a b:yF}(h:a.frame=b.frame):noteFrame e a=noteFrame e b:=by
 unfold noteFrame PySem.frameOf;rw[h]
section
variable {M:Model}{A:Around}{E:Value->Shared->Prop}{s:Shared}
theorem fO {b0:Heap}{es:List yF}{x L:Addr}{c a0:Value}{Q:Unit->Shared->Prop}(hld:AN b0 es x c a0 L s.heap)
  (go:∀ h2,AN b0 es x c a0 L h2->s.heap.UpToSlots h2->Q () { s with heap:=h2 }):wpAny M A (setFlight (.ref x) (some L)) Q E s:=by
 obtain⟨stay,nox,frm,ox,xs,tb,otb,ys,gx,cx,dx,fx,ntb,tbx,gtb,dtb,ftb⟩:=hld;have far:=Array.getElem?_eq_some_iff.mp ftb
 let h2:=s.heap.update tb (Obj.mapFields (·.setIfInBounds 3 ((some L).elim zX λ f=>rawInt f)))
 have keep:∀ a,a≠tb->h2.get? a=s.heap.get? a:=λ a na=>yS _ _ na.symm
 have rec_:∀ a o,s.heap.get? a=some o->(∀ zs,o.data≠.fields zs)->a≠tb:=by
  rintro a o ga nf rfl
  cases gtb.symm.trans ga;exact nf ys dtb
 have up:s.heap.UpToSlots h2:=λ a o ga nf=>⟨o.slots,(keep a (rec_ a o ga nf)).trans ga⟩
 have st2:b0.StaysIn h2:=λ a o ga=>(keep a (by rintro rfl;cases ntb.symm.trans ga)).trans (stay a o ga)
 have fr2:=frm.of_keeps (h':=h2) λ a o ga nf=>⟨o,(keep a (rec_ a o ga nf)).trans ga,rfl⟩
 have ge:h2.get? tb=some (Obj.mapFields (·.setIfInBounds 3 (rawInt L)) otb):=Ad _ gtb (A8 (zV dtb _));unfold setFlight;refine yz (yV gx dx fx ?_);rw[if_pos (by simp)];refine A9 gtb dtb far.1 (go h2 ⟨st2,nox,fr2,ox,xs,tb,_,_,(keep x tbx.symm).trans gx,cx,dx,fx,ntb,tbx,ge,zV dtb _,?_⟩ up);simp[far.1]
theorem HeldW.but {base h h':Heap}{l:List yF}{e L x:Addr}{cls a0:Value}(R:AN base l e cls a0 L h)(hx:base.get? x=none)(k:∀ b,b≠x->h'.get? b=h.get? b){o:Obj}(hxo:h.get? x=some o)(ho:∀ vs,o.data≠.fields vs)(hxl:x∉frs l):AN base l e cls a0 L h':=by
 obtain⟨hkb,hen,hl,oe,vs,T,oT,ts,he,hcls,hd,h1,hnT,hTe,hT,hdT,h3⟩:=R;have nf:∀ b u ws,h.get? b=some u->u.data=.fields ws->b≠x:=λ b u ws q z w=>by
  rw[w,hxo] at q;cases q;exact ho _ z
 refine⟨λ b o' q=>?_,hen,?_,oe,vs,T,oT,ts,(k e (nf e oe vs he hd)).trans he,hcls,hd,h1,hnT,hTe,(k T (nf T oT ts hT hdT)).trans hT,hdT,h3⟩
 ·exact(k b λ z=>by rw[z,hx] at q;cases q).trans (hkb b o' q)
 ·have all:∀ m:List yF,(∀ b∈frs m,b∈frs l)->h.FunFrames base m->h'.FunFrames base m:=by
   intro m
   induction m with
   | nil=>exact λ _ z=>z
   | cons env r ih=>
    intro hm ⟨z1,⟨L',oL,y1,y2,y3,y4⟩,z3⟩;have e1:frs (env::r)=L'::frs r:=by show List.filterMap _ _=_;rw[xh,y1];rfl
    rw[e1] at hm;exact⟨z1,⟨L',oL,y1,y2,(k L' λ z=>hxl (z▸hm L' (wc ..))).trans y3,y4⟩,ih (λ b hb=>hm b (v7 _ hb)) z3⟩
  exact all l (λ _ z=>z) hl
end
section
variable {P:Program}{w:World}{K:yy}{mg:Str->Option Value}{base:Heap}{N:List Str}{qual:Str}{scope:Scope}{f:Addr}{cd:Value}{A:Around}{outer:List yF}{s:Shared}{H:Hp}{E:XK}
theorem oP {pins:List (Addr×Obj)}{σ:St}{H1:Hp}{s1:Shared}{e:Value}{s':Shared}{L:Addr}{oL:Obj}{cenv:yF}{what:String}{E2:Value->Shared->Prop}
  (I:Inv (bJ (CXe P w) P w K mg base N qual scope f cd A outer s H E) pins σ H1 s1)
  (h:CXe P w (bJ (CXe P w) P w K mg base N qual scope f cd A outer s H E).stack H1 s1 E e s')
  (hc:cenv.frame=some s.heap.objs.size) (hL:s1.heap.get? L=some oL) (hoL:∀ vs,oL.data≠.fields vs) (hLn:H1 L=none) (hLs:L∉frs (envOfC qual scope s.heap.objs.size f cd::outer)) (hL0:s.heap.objs.size<=L):
  wpAny (model P w) (A.deeper (envOfC qual scope s.heap.objs.size f cd)) (noteFrame e cenv) (λ _ s2=>s2.heap.get? L=some oL/\∀ h',(∀ b,b≠L->h'.get? b=s2.heap.get? b) ->
   wpAny (model P w) (A.deeper (envOfC qual scope s.heap.objs.size f cd)) (Ai what e cenv:Sem Value) (λ _ _=>False) (bJ (CXe P w) P w K mg base N qual scope f cd A outer s H E).xe { s2 with heap:=h' }) E2 s':=by
 obtain⟨a,cls,H',B,t,rfl,F,q⟩:=h;have noex:∀ b:Addr,b∉(bJ (CXe P w) P w K mg base N qual scope f cd A outer s H E).ex:=λ b z=>absurd (show b∈([]:List Addr) from z) (by simp)
 rw[iR (b:=envOfC qual scope s.heap.objs.size f cd) hc];refine wpAny_looks_onW (L:=s.heap.objs.size) I.ok.frames rfl F.fl λ h1 x1 x2=>?_
 have hLB:B.get? L=some oL:=F.keepB L oL hL hLn hLs;refine⟨x1.1 _ _ hLB,λ h2 k2=>?_⟩;have hH'L:H' L=none:=F.free L oL hL hLn
 let B':=Ae B [L]
 have bb:∀ b o,B'.get? b=some o->B.get? b=some o:=λ b o e=>Aw _ e
 have bn:∀ b o,b≠L->B.get? b=some o->B'.get? b=some o:=λ b o n e=>zy _ e (by simpa using n)
 have bL:B'.get? L=none:=Bb _ (by simp);have x3:AN B' (envOfC qual scope s.heap.objs.size f cd::outer) a cls (.ref t) s.heap.objs.size h1:=PySem.W.heldW_base bb x1;have x4:=HeldW.but x3 bL k2 (x1.1 _ _ hLB) hoL hLs;obtain⟨_,_,_,oe,vs,T,oT,ts,he,hcls,hd,h1',_⟩:=id x4;unfold Ai;refine yz (yV he hd h1' ?_);rw[if_neg (show ¬ ((yK T == zX)=true) from by simp),hc];refine yz (fO (s:={ s' with heap:=h2 }) x4 λ h3 x5 x6=>wpAny_throw ?_);show wpAny _ _ (leaving _ _) _ _ _
 unfold leaving;refine yz (wpAny_noteFrame_againW (L:=s.heap.objs.size) rfl x5.2.2.2 ?_);refine wpAny_landsW x5 λ h4 x7 x8=>?_
 obtain⟨y1,y2,⟨_,_,y3⟩,y4⟩:=x7;have nL:∀ b o,s.heap.get? b=some o->b≠L:=λ b o e z=>by
  have:=yA e;rw[z] at this;exact absurd this (Nat.not_lt.mpr hL0)
 refine⟨a,cls,H',B',t,rfl,⟨F.os.trans I.os,F.bare,⟨y1,y2,y3,y4⟩,λ b o e n hb=>?_,λ b o e hb=>?_,λ b o e n hb=>?_,λ b o e n=>?_,λ b xs e=>?_,λ b o u e=>?_,λ b ps e=>?_,?_⟩,q⟩
 ·exact bn _ _ (nL b o e) (F.keepB b o (I.base.keep b o e n hb (noex b)) (I.base.free b o e n (noex b)) (be e hb))
 ·obtain⟨o1,e1⟩:=I.base.there b o e (noex b)
  obtain⟨o2,e2⟩:=F.thereB b o1 e1 (be e hb);exact⟨o2,bn _ _ (nL b o e) e2⟩
 ·obtain⟨sl,e1⟩:=I.base.slot b o e n hb (noex b)
  obtain⟨sl2,e2⟩:=F.slot b _ e1 (I.base.free b o e n (noex b)) (cS hb);have d2:=bD F.fl.2.2.1 (cS hb) e2;obtain⟨sl3,e3⟩:=x2 b _ e2 d2;have e4:=(k2 b (nL b o e)).trans e3;obtain⟨sl5,e5⟩:=x6 b _ e4 d2;obtain⟨sl6,e6⟩:=x8 b _ e5 d2;exact⟨sl6,e6⟩
 ·obtain⟨o1,e1⟩:=I.base.there b o e (noex b)
  exact F.free b o1 e1 (I.base.free b o e n (noex b))
 ·exact F.tups b xs (I.base.tups b xs e)
 ·exact F.frzs b o u (I.base.frzs b o u e)
 ·obtain⟨m1,e1⟩:=I.base.tbls b ps e
  obtain⟨m2,e2⟩:=F.tbls b _ e1;exact⟨m1++m2,by rw[e2,Ax]⟩
 ·exact iB F.hokB λ b u hb e=>bn b u (λ z=>hb (z▸hH'L)) e
end
section
variable {M:Model}{A:Around}{E:Value->Shared->Prop}{s:Shared}{env:yF}
def dj (M:Model)(A:Around)(E:Value->Shared->Prop)(use:Option (Value->Sem Unit))(Q:Value->Shared->Prop)(acc:Value)(cenv:yF)(r:Result)(s':Shared):Prop:=
 match r with
 | .error x=>∃ m,s'.heap.Ns cenv.locals m/\∀ h',zS cenv.locals s'.heap h'->wpAny M A (Ai "comprehension.variables-let-go" x cenv:Sem Value) (λ _ _=>False) E { s' with heap:=h' }
 | r=>compPost M A E use Q acc cenv.locals r s'
theorem cG {scope:Scope}{cenv:yF}{acc:Value}{use:Option (Value->Sem Unit)}{Q:Value->Shared->Prop}{c4:List (Str×NameKind)->List Value}{c5:List (Str×NameKind)->List Value}
  (hkd:scope.kind=.function) (hna:∀ y∈scope.names,y.2=.local->scope.names.lookup y.1=some .local) {r:Result} {s':Shared}
  (hr:dj M A E use Q acc { cenv with scope:=relabel scope env } r s'):
  let vs:=(scope.names.filter λ y=>(y.2 == .local || y.2 == .cell)&&y.1 != (".0":Str)).reverse
  match r,use with
  | .error x,_=>wpAny M A (Am { cenv with scope:=relabel scope env } c4 vs) (λ _ s2=>wpAny M A (Ai "comprehension.variables-let-go" x { cenv with scope:=relabel scope env }:Sem Value) (λ _ _=>False) E s2) E s'
  | .ok _,none=>wpAny M A (Am { cenv with scope:=relabel scope env } c4 vs) (λ _ s2=>Q acc s2) E s'
  | .ok _,some u=>wpAny M A (u acc) (λ _ s2=>wpAny M A (Am { cenv with scope:=relabel scope env } c5 (vs.drop 1++vs.take 1)) (λ _ s3=>Q .none s3) E s2) E s':=by
 intro vs;have loc:∀ y∈vs,y.2=.local->PySem.Env.kindOf { cenv with scope:=relabel scope env } y.1=some .local:=λ y hy=>by
  have hm:=List.mem_reverse.mp hy;exact λ hl=>zP (hna y (List.mem_filter.mp hm).1 hl)
 cases r with
 | error x=>
  obtain⟨m,ns,go⟩:=hr;exact AR hkd _ s' m loc ns λ h2 _ _ sb=>go h2 sb
 | ok fl=>
  cases use with
  | none=>
   obtain⟨m,ns,go⟩:=hr;exact AR hkd _ s' m loc ns λ h2 _ _ sb=>go h2 sb
  | some u=>
   refine yC (show wpAny M A (u acc) _ E s' from hr) (λ _ s2 ⟨m,ns,go⟩=>?_) λ _ _ z=>z
   refine AR hkd _ s2 m (λ y hy=>loc y ?_) ns λ h2 _ _ sb=>go h2 sb
   exact(List.mem_append.mp hy).elim List.mem_of_mem_drop List.mem_of_mem_take
theorem ck {e:Expr}{scope:Scope}{pos:Pos}{mk ahead:Sem Value}{g:Comprehension}{gs:List Comprehension}{cl:List (Str×Addr)}{use:Option (Value->Sem Unit)}{Q:Value->Shared->Prop}
  (hc:clausesOf e=g::gs) (hfo:∀ v,foldedSetIterable g.iter env v=pure v) (hco:closureFor scope env=pure cl) (hkd:scope.kind=.function) (hna:∀ y∈scope.names,y.2=.local->scope.names.lookup y.1=some .local)
  (go:wpAny M A ahead (λ v sa=>wpAny M A (pyIter v) (λ it sb=>wpAny M A mk (λ acc sc=>wpAny M A (newFunctionEnv scope env.globals cl [] env.qual none .none (some env)) (λ cenv sd=>
   codeAny M A (.compStart e 0 it acc { cenv with scope:=relabel scope env }) (dj M A E use Q acc { cenv with scope:=relabel scope env }) sd) E sc) E sb) E sa) E s):
  wpAny M A (comprehension e scope env pos mk false ahead use) Q E s:=by
 have same:∀ {x:Value} {t:Shared},E x t->E x t:=λ z=>z
 unfold comprehension;rw[hco,hc];refine yz (yC go (λ v sa ka=>?_) λ _ _=>same);refine yz (Aa (yz (wpAny_of_eq (hfo v) (yz (zj (yC ka (λ it sb kb=>?_) λ _ _=>same))))));refine wpAny_standIf (yz (yC kb (λ acc sc kc=>?_) λ _ _=>same));refine yz (yE (yz (yC kc (λ cenv sd kd=>?_) λ _ _=>same)));dsimp only;refine zj (yz (Bm (zj (wpAny_run (zJ kd λ r s' hr=>?_)))));cases r with
 | error x=>exact yz (zj (yC (cG (r:=.error x) (c5:=λ _=>[]) hkd hna hr) (λ _ _ q=>yC q (λ _ _ z=>z.elim) λ _ _=>same) λ _ _=>same))
 | ok fl=>
  cases use with
  | none=>exact yz (zj (yC (cG (r:=.ok fl) (use:=none) (c5:=λ _=>[]) hkd hna hr) (λ _ _ q=>yE q) λ _ _=>same))
  | some u=>exact yz (Bi (yz (zj (yC (cG (r:=.ok fl) (use:=some u) (c4:=λ _=>[]) hkd hna hr) (λ _ _ q=>yz (yC q (λ _ _ q=>yE q) λ _ _=>same)) λ _ _=>same))))
end
theorem jI {prog:Program}{w:World}{A:Around}{T:Result->Shared->Prop}{s:Shared}{elt target iter:Expr}{scope:Scope}{pos:Pos}{it acc:Value}{env:yF}(J:Nat->Shared->Prop)
  (turn:∀ n s,J n s->wpAny (model prog w) A (pyNext it) (λ r s1=>match r with
   | none=>T (.ok .next) s1
   | some v=>wpAny (model prog w) A (letOwnedTupleGo target it v) (λ _ s2=>wpAny (model prog w) A (assign target env v) (λ _ s3=>
     wpAny (model prog w) A (eval elt env) (λ x s5=>wpAny (model prog w) A (call (.builtin "list.append") [acc,x]) (λ _ s6=>∃ m,m<n/\J m s6) (λ _ _=>False) s5)
      (notedBy (model prog w) A env λ e s'=>T (.error e) s') s3) (λ _ _=>False) s2) (λ _ _=>False) s1) (λ _ _=>False) s)
  (n:Nat) (h:J n s):codeAny (model prog w) A (.compLoop (.ListComp elt [⟨target,iter,[],0⟩] scope pos) 0 it acc env) T s:=by
 refine codeAny_loop rfl J (λ n s hJ=>?_) n h;show wpAny _ A ((compTurn (.ListComp elt [⟨target,iter,[],0⟩] scope pos) 0 it acc env).onRaise (λ x=>do noteFrame x env;theTreesLotGoes x)) _ _ s
 refine wpAny_noted ?_
 rw[compTurn_list];refine yz (Aa (yz (yC (turn n s hJ) (λ r s1 h1=>?_) λ _ _ z=>z.elim)));cases r with
 | none=>exact yE h1
 | some v=>
  refine yz (yC h1 (λ _ s2 h2=>yz (yC h2 (λ _ s3 h3=>yz ?_) λ _ _ z=>z.elim)) λ _ _ z=>z.elim);refine yE ?_
  refine yz (yz (yC h3 (λ x s5 h5=>yz (yC h5 (λ _ s6 h6=>?_) λ _ _ z=>z.elim)) λ _ _ z=>z));exact yE (yE ⟨rfl,h6⟩)
def cn (X:Cx)(N:List Str)(scope:Scope)(cl:List (Str×Addr))(L:Addr)(s₀:Shared)(H₀:Hp)(ex:List Addr)(pn:List (Addr×Obj))(xe:Value->Shared->Prop):Cx:=
 { aH X N scope cl L s₀ H₀ ex with pn:=pn,xe:=xe }
section
variable {X:Cx}{N:List Str}{scope:Scope}{cl:List (Str×Addr)}{L:Addr}{s₀:Shared}{H₀:Hp}{ex:List Addr}{pn pins:List (Addr×Obj)}{xe xe':Value->Shared->Prop}{σ:St}{H:Hp}{s:Shared}
theorem kz (I:Inv (aH X N scope cl L s₀ H₀ ex) (pn++pins) σ H s):Inv (cn X N scope cl L s₀ H₀ ex pn xe) pins σ H s:=
 ⟨⟨I.ok.mod,I.ok.kind,I.ok.glob,I.ok.blt,I.ok.above,I.ok.inj,I.ok.has,I.ok.cab,I.ok.hd,I.ok.frames,I.ok.stk,I.ok.exf,I.ok.bs,I.ok.bsz,I.ok.noex,I.ok.exfs,I.ok.funs,I.ok.frf⟩,I.os,I.bare,I.base,I.loc,I.cell,I.free,I.freeC,I.pin,I.hok,I.len⟩
theorem iO (I:Inv (cn X N scope cl L s₀ H₀ ex pn xe) pins σ H s):Inv (aH X N scope cl L s₀ H₀ ex) (pn++pins) σ H s:=
 ⟨⟨I.ok.mod,I.ok.kind,I.ok.glob,I.ok.blt,I.ok.above,I.ok.inj,I.ok.has,I.ok.cab,I.ok.hd,I.ok.frames,I.ok.stk,I.ok.exf,I.ok.bs,I.ok.bsz,I.ok.noex,I.ok.exfs,I.ok.funs,I.ok.frf⟩,I.os,I.bare,I.base,I.loc,I.cell,I.free,I.freeC,I.pin,I.hok,I.len⟩
end
def iy (C:Ctx)(Ew:XK):Prop:=∀ {pins:List (Addr×Obj)} {σ:St} {H1:Hp} {s1:Shared} {e:Value} {s':Shared} {L:Addr} {oL:Obj} {cenv:yF} {what:String} {E2:Value->Shared->Prop},
 Inv C.X pins σ H1 s1->C.CX C.X.stack H1 s1 Ew e s'->cenv.frame=C.X.env.frame->s1.heap.get? L=some oL->(∀ vs,oL.data≠.fields vs)->H1 L=none->L∉frs C.X.stack->C.X.s₀.heap.objs.size<=L ->
  wpAny (model C.X.prog C.X.w) C.X.A (noteFrame e cenv) (λ _ s2=>s2.heap.get? L=some oL/\∀ h',(∀ b,b≠L->h'.get? b=s2.heap.get? b) ->
   wpAny (model C.X.prog C.X.w) C.X.A (Ai what e cenv:Sem Value) (λ _ _=>False) C.X.xe { s2 with heap:=h' }) E2 s'
theorem qB {P:Program}{w:World}{K:yy}{mg:Str->Option Value}{base:Heap}{N:List Str}{qual:Str}{scope:Scope}{f:Addr}{cd:Value}{A:Around}{outer:List yF}{s:Shared}{H:Hp}{E:XK}{cls:String->Value}{k:Nat}(hr:Room k (A.deeper (envOfC qual scope s.heap.objs.size f cd))):
  iy (bh (cxe_ok (P:=P) (w:=w)) cls K mg base N qual scope f cd A outer s H E hr) E:=λ I h hc hL hoL hLn hLs hL0=>oP I h hc hL hoL hLn hLs hL0
theorem pS {P:Program}{w:World}{outer:List yF}{H:Hp}{s:Shared}{E:XK}{e:Value}{s':Shared}{a:Addr}{xs:List V}(hn:H a=none)(ha:s.heap.get? a≠none)(h:CXe P w outer H s E e s'):CXe P w outer (upd H a (.lst xs)) s E e s':=by
 obtain⟨b,cls,H',B,t,rfl,F,q⟩:=h;have un:∀ c,upd H a (.lst xs) c=none->H c=none:=λ c z=>by
  by_cases e:c=a
  ·subst e;exact hn
  ·rw[ai e] at z;exact z
 have us:∀ {c o},upd H a (.lst xs) c=some o->(∀ ys,o≠.lst ys)->H c=some o:=λ {c o} z n=>by
  by_cases e:c=a
  ·subst e;rw[ao] at z;cases z;exact absurd rfl (n xs)
  ·rw[ai e] at z;exact z
 exact⟨b,cls,H',B,t,rfl,⟨F.os,F.bare,F.fl,λ c o z n hb=>F.keepB c o z (un c n) hb,F.thereB,λ c o z n hb=>F.slot c o z (un c n) hb,λ c o z n=>F.free c o z (un c n),λ c ys z=>F.tups c ys (us z λ _ z=>nomatch z),λ c o u z=>F.frzs c o u (us z λ _ z=>nomatch z),λ c ps z=>F.tbls c ps (us z λ _ z=>nomatch z),F.hokB⟩,q⟩
section
variable {C:Ctx}{elt iter:Expr}{tg:Expr}{bn:D->Option (List D)}{T0:TG}{ts:List Str}{pos:Pos}{scope:Scope}{fs:List Str}{is:List Nat}{fi:EI}{te:TE}{Ew:XK}
structure CompAtR (C:Ctx)(ts:List Str)(fs:List Str)(is:List Nat)(scope:Scope)(cl:List (Str×Addr))(L Da:Addr)(s2:Shared)(H1 Hv1:Hp)(fp:List Addr)(tn:Nat->Heap->Prop)(σ:St)(ds:List D)(Jn:Nat->List V->Hp->Prop)(i:Nat)(os:St)(vs:List V)(Hn:Hp)(s:Shared):Prop where
 le:i<=ds.length
 ol:os.length=ts.length
 inv:Inv (aH C.X (ts++fs) scope cl L s2 H1 fp) [] (os++bq σ is) Hn s
 at_:tn i s.heap
 fpn:∀ b∈fp,Hn b=none
 obj:∃ (its:List Value) (ne:Nat),s.heap.get? Da=some { cls:=.type "list",data:=.seq its.toArray ne }/\Vals vs its
 dn:Hn Da=none
 few:vs.length<=i
 sm:Same Hv1 Hn
 jn:Jn i vs Hn
def k7 (C:Ctx)(bn:D->Option (List D))(te:TE)(is:List Nat)(fi:EI)(σ:St)(H Hv:Hp)(ρ:Dv.Env)(Q:VK):Prop:=
 OkI C.X.K Hv H (C.W σ) C.cls (fi ρ) λ J H1=>∃ Hv1 ds,∃ Jn:Nat->List V->Hp->Prop,Ext Hv H Hv1 H1/\Wlk C.X.K J Hv1 ds/\ds.length<=Dv.mx/\Jn 0 [] H1 /\
  (∀ i vs Ha Hb,Jn i vs Ha->Same Ha Hb->(∀ b o u,Ha b=none->Hb b≠some (.frz o u))->Jn i vs Hb) /\
  (∀ i d vs Hn,ds[i]?=some d->Same Hv1 Hn->Jn i vs Hn->∃ des,bn d=some des/\∀ ws Hv6,Same Hv6 Hn->RpL C.X.K Hv6 des ws->te (ws.map some++bq σ is) Hn λ v H'=>Same Hv1 H'/\Jn (i+1) (vs++[v]) H') /\
  ∀ vs Hn,Jn ds.length vs Hn->∀ Da,Hn Da=none->Q (.ref Da) (upd Hn Da (.lst vs))
theorem jS {pins:List (Addr×Obj)}{s:Shared}{σ:St}{H Hv:Hp}{ρ:Dv.Env}{Q:VK}{use:Option (Value->Sem Unit)}{Q':Value->Shared->Prop}{pos':Pos}(hclm:C.X.calm=true)(S:CompNamesT C.X scope ts fs is)(hG:TgR C tg ts fs scope bn T0)(hi:SI C tg iter fi)
  (hCX:C.CX=CXe C.X.prog C.X.w) (hold:iy C Ew) (hstk:C.X.stack=C.X.env::C.X.outer)
  (he:∀ cl L s₀ H₀ ex pn xe,bC C.CX (cn C.X (ts++fs) scope cl L s₀ H₀ ex pn xe) Ew->PE (cn C.X (ts++fs) scope cl L s₀ H₀ ex pn xe) elt te)
  (hs:∀ v,foldedSetIterable iter C.X.env v=pure v) (I:Inv C.X pins σ H s) (er:EnvR C.X.K Hv ρ σ) (sv:Same Hv H) (ok:k7 C bn te is fi σ H Hv ρ Q)
  (hfin:∀ Da L s5,i0 C pins σ Q Da L s5->compPost (model C.X.prog C.X.w) C.X.A C.X.xe use Q' (.ref Da) L (.ok .next) s5):
  wpAny (model C.X.prog C.X.w) C.X.A (comprehension (.ListComp elt [⟨tg,iter,[],0⟩] scope pos) scope C.X.env pos' (newList []) false (eval iter C.X.env) use) Q' C.X.xe s:=by
 obtain⟨wi,pi,qi⟩:=hi;obtain⟨cl,hcl,clsub,clhas⟩:=f9 (env:=C.X.env) (scope:=scope) λ y hy hf=>I.ok.has y.1 (S.free y hy hf)
 have h0:=qi σ H Hv ρ _ er sv ok;refine ck (use:=use) rfl hs hcl S.kind S.names (yC (pi pins s σ H _ I h0) (λ v s1 h1=>yC h1 (λ itv s2 h2=>?_) λ _ _ z=>z) λ _ _ z=>z);obtain⟨it,fp,tn,J,H1,rfl,I2,T,st2,f2,Hv1,ds,Jn,x1,wl,hz,j0,jst,jgo,jend⟩:=h2;clear ok;have fin:∀ b∈fp,b<s2.heap.objs.size:=λ b hb=>by
  obtain⟨o,e,_⟩:=T.obj 0 _ st2 b hb;exact yA e
 refine z0 (Bg S.cell (by intro y hy;simp at hy) (λ h1 hns hsb=>?_) S.kind);dsimp only at hns hsb ⊢;generalize hH2:s2.heap.push { cls:=.type "list",dict:=none,data:=.seq ([]:List Value).toArray }=G2 at hns hsb ⊢;have hL:G2.objs.size=s2.heap.objs.size+1:=by rw[<- hH2,y8]
 generalize eL:G2.objs.size=L at hns hsb ⊢;rw[eL] at hL;have old:∀ b o,s2.heap.get? b=some o->h1.get? b=some o:=λ b o e=>by
  have hlt:=yA e;exact hsb.extBut b o (by rw[hL];exact wb (wX hlt)) (yB _ (hH2▸yB _ e))
 have hacc:h1.get? s2.heap.objs.size=some { cls:=.type "list",data:=.seq ([]:List Value).toArray 0 }:=hsb.extBut _ _ (by rw[hL];exact wb (wN _)) (yB _ (hH2▸yD _ rfl));generalize eD:s2.heap.objs.size=Da at hacc hL ⊢;have hDfp:Da∉fp:=λ hb=>by
  have:=fin Da hb;rw[eD] at this;exact wH _ this
 have hDL:Da≠L:=by rw[hL];exact wb (wN _)
 have hsL:s2.heap.objs.size<=L:=by rw[hL,eD];exact xE _
 have hsD:s2.heap.objs.size<=Da:=xM eD;have hDfs:Da∉frs C.X.stack:=λ hb=>by
  obtain⟨_,ob,hob,_⟩:=I2.stack.mem hb;have:=yA hob;rw[eD] at this;exact wH _ this
 have hLfs:L∉frs C.X.stack:=λ hb=>by
  obtain⟨_,ob,hob,_⟩:=I2.stack.mem hb;have:=yA hob;exact absurd this (Nat.not_lt.mpr hsL)
 have hcalm:(aH C.X (ts++fs) scope cl L s2 H1 fp).calm=true:=hclm;have start:CompAtR C ts fs is scope cl L Da s2 H1 Hv1 fp tn σ ds Jn 0 (List.replicate ts.length none) [] H1 { s2 with heap:=h1,toks:=s2.toks+([]:List (Str×Value)).length }:=
  ⟨xD _,by simp,ir I2 S clsub clhas f2 fin hsL old hns,T.keep 0 _ _ st2 λ b hb o e=>old b o e,λ b hb=>(f2 b hb).1,⟨[],0,hacc,.nil⟩,I2.hok.fresh hsD,wm _,x1.vh,j0⟩
 have herr:∀ {pn pins':List (Addr×Obj)} {σ':St} {Hn:Hp} {sn:Shared} {e:Value} {s':Shared} {its:List Value} {ne:Nat} {vs:List V} {xe:Value->Shared->Prop} {E2:Value->Shared->Prop},Inv (cn C.X (ts++fs) scope cl L s2 H1 fp pn xe) pins' σ' Hn sn ->
   sn.heap.get? Da=some { cls:=.type "list",data:=.seq its.toArray ne }->Vals vs its->Hn Da=none->vs.length<=sizeLine->C.CX C.X.stack Hn sn Ew e s' ->
   notedBy (model C.X.prog C.X.w) C.X.A (compEnvC scope cl L C.X.env) (λ e s'=>dj (model C.X.prog C.X.w) C.X.A C.X.xe use Q' (.ref Da) (compEnvC scope cl L C.X.env) (.error e) s') e s':=by
  intro pn pins' σ' Hn sn e s' its ne vs xe E2 In hob rv dn few hc;have Ic:=(iO In).pins_of (pins':=[]) λ p hp=>absurd hp (by simp)
  have lt:∀ b o,s2.heap.get? b=some o->b≠Da/\b≠L:=λ b o e=>by
   have hlt:=yA e;rw[<- eD,hL,<- eD];exact⟨wb hlt,wb (wX hlt)⟩
  have If:Inv C.X pins σ (upd Hn Da (.lst vs)) sn:=by
   refine I2.call' (s':=sn) (ch:=fp) Ic.os ⟨λ b ob e n hb hx=>Ic.base.keep b ob e n hb hx,λ b ob e n hb hx=>Ic.base.slot b ob e n hb hx,λ b ob e n hx=>?_,λ b ob e hx=>Ic.base.there b ob e hx,λ b us e=>?_,λ b ob u e=>?_,λ b ps e=>?_⟩ ?_ Ic.bare λ b hb=>⟨(f2 b hb).2.2.2.1,(f2 b hb).2.1,(f2 b hb).2.2.2.2.1,(f2 b hb).2.2.2.2.2⟩
   ·rw[ai (lt b ob e).1];exact Ic.base.free b ob e n hx
   ·have h1:=Ic.base.tups b us e
    rw[ai (ak h1 dn)];exact h1
   ·have h1:=Ic.base.frzs b ob u e
    rw[ai (ak h1 dn)];exact h1
   ·obtain⟨more,h1⟩:=Ic.base.tbls b ps e
    exact⟨more,by rw[ai (ak h1 dn)];exact h1⟩
   ·exact b7 Ic.hok dn ⟨few,its,ne,rv,hob⟩
  obtain⟨m,hn,_⟩:=Ic.loc;have hn':sn.heap.Ns L m:=hn;obtain⟨oL,es,ep,hoL,hdL,hrest⟩:=id hn';have hc':C.CX C.X.stack (upd Hn Da (.lst vs)) sn Ew e s':=by
   rw[hCX] at hc ⊢;exact pS dn (by rw[hob];exact λ z=>nomatch z) hc
  have hLn:upd Hn Da (.lst vs) L=none:=by rw[ai (Ne.symm hDL)];exact Ic.free
  unfold notedBy;refine yC (hold (cenv:=compEnvC scope cl L C.X.env) (what:="comprehension.variables-let-go") If hc' rfl hoL (λ vs z=>by rw[hdL] at z;cases z) hLn hLfs (wK I2.sz hsL)) (λ _ s3 h3=>?_) λ _ _ z=>z
  obtain⟨h4,h5⟩:=h3;exact⟨m,⟨oL,es,ep,h4,hdL,hrest⟩,λ h' sb=>h5 h' λ b hb=>sb.2 b hb⟩
 have loop:∀ s4:Shared,CompAtR C ts fs is scope cl L Da s2 H1 Hv1 fp tn σ ds Jn 0 (List.replicate ts.length none) [] H1 s4 ->
   codeAny (model C.X.prog C.X.w) C.X.A (.compLoop (.ListComp elt [⟨tg,iter,[],0⟩] scope pos) 0 (.ref it) (.ref Da) (compEnvC scope cl L C.X.env)) (dj (model C.X.prog C.X.w) C.X.A C.X.xe use Q' (.ref Da) (compEnvC scope cl L C.X.env)) s4:=by
  intro s4 hst';refine jI (λ n s=>∃ i os vs Hn,n=ds.length-i/\CompAtR C ts fs is scope cl L Da s2 H1 Hv1 fp tn σ ds Jn i os vs Hn s) ?_ ds.length ⟨0,List.replicate ts.length none,[],H1,rfl,hst'⟩
  rintro n s ⟨i,os,vs,Hn,rfl,A⟩
  obtain⟨its,ne,hob,rv⟩:=A.obj;have few:vs.length<=sizeLine:=by have:=A.few;have:=A.le;have:=aX hz;omega
  have I1:Inv (aH C.X (ts++fs) scope cl L s2 H1 fp) [(Da,{ cls:=.type "list",data:=.seq its.toArray ne })] (os++bq σ is) Hn s:=A.inv.pins_of λ p hp=>by
   have e:p=(Da,({ cls:=.type "list",data:=.seq its.toArray ne }:Obj)):=by simpa using hp
   subst e;exact⟨hob,A.dn,hDL,hDfs,λ v z=>by cases z⟩
  have hfp:∀ Hx:Hp,(∀ b∈fp,Hx b=none)->∀ b∈fp,eG (aH C.X (ts++fs) scope cl L s2 H1 fp) [(Da,{ cls:=.type "list",data:=.seq its.toArray ne })] Hx b:=λ Hx hx b hb=>by
   refine⟨hx b hb,?_,λ hf=>?_,.inl hb,λ y c e=>(f2 b hb).2.2.2.2.1 y c (clsub y c e),λ p hp=>?_⟩
   ·have:=fin b hb
    exact λ z=>by
     have z':b=L:=z;rw[z'] at this;exact absurd this (Nat.not_lt.mpr hsL)
   ·obtain⟨_,ob,hob',_⟩:=I2.stack.mem hf
    rcases List.mem_cons.mp (I2.stkSub b hf) with e|e
    ·exact(f2 b hb).2.1 e
    ·exact(f2 b hb).2.2.1 e
   ·have e:p=(Da,({ cls:=.type "list",data:=.seq its.toArray ne }:Obj)):=by simpa using (show p∈[]++[(Da,({ cls:=.type "list",data:=.seq its.toArray ne }:Obj))] from hp)
    subst e;exact λ z=>hDfp (by rw[show Da=b from z];exact hb)
  obtain⟨w1,w2⟩:=wl i Hn A.sm;by_cases hlt:i<ds.length
  ·have hd:ds[i]?=some ds[i]:=by simp[hlt]
   generalize ds[i]=d at hd;obtain⟨go,yl⟩:=w1 d hd;refine yC (T.item (aH C.X (ts++fs) scope cl L s2 H1 fp) rfl rfl rfl hcalm i _ s _ Hn (λ _ _=>False) I1 (hfp Hn A.fpn) A.at_ go) (λ r s5 h5=>?_) λ _ _ z=>z
   obtain⟨u,rfl,h5⟩:=h5;refine yC h5 (λ _ s6 h6=>?_) λ _ _ z=>z
   obtain⟨xv,H6,I6,ru,y6,tn6,fr6⟩:=h6;obtain⟨Hv6,x6,rp6⟩:=yl xv H6 y6;have I6p:=I6.pinned (fp:=fp) (hfp H6 fr6) (T.obj _ _ tn6);obtain⟨des,ed,step⟩:=jgo i d vs H6 hd (A.sm.trans x6.hh) (jst i vs Hn H6 A.jn x6.hh x6.nf);refine yC (hG.hg cl L s2 H1 fp _ s6 _ H6 xv u (λ σ' H'=>∃ ws,ws.length=ts.length/\RpL C.X.K Hv6 des ws/\σ'=ws.map some++bq σ is/\H'=H6) I6p ru (hG.ht ed A.ol x6.vh rp6 λ ws h1 h2=>⟨ws,h1,h2,rfl,rfl⟩)) (λ _ s7 h7=>?_) λ _ _ z=>z
   obtain⟨σ7,H7,I7,ws,hwl,hws,e7,e7'⟩:=h7;subst e7 e7';have back:∀ {s':Shared} {H':Hp} {σ':St},Inv (aH C.X (ts++fs) scope cl L s2 H1 fp) ([(Da,{ cls:=.type "list",data:=.seq its.toArray ne })]++dJ fp s6.heap) σ' H' s'->tn (i+1) s'.heap/\(∀ b∈fp,H' b=none)/\s'.heap.get? Da=some { cls:=.type "list",data:=.seq its.toArray ne }/\H' Da=none:=λ {s' H' σ'} I'=>by
    refine⟨T.keep _ _ _ tn6 λ b hb o e=>(I'.pin (b,o) (wk _ (wk _ (bM hb e)))).1,λ b hb=>?_,?_,?_⟩
    ·obtain⟨o,e,_⟩:=T.obj _ _ tn6 b hb
     exact(I'.pin (b,o) (wk _ (wk _ (bM hb e)))).2.1
    ·exact(I'.pin (Da,{ cls:=.type "list",data:=.seq its.toArray ne }) (wk _ (wB _ (by simp)))).1
    ·exact(I'.pin (Da,{ cls:=.type "list",data:=.seq its.toArray ne }) (wk _ (wB _ (by simp)))).2.1
   refine yC (he cl L s2 H1 fp [(Da,{ cls:=.type "list",data:=.seq its.toArray ne })] (λ e s'=>∃ pins' σ' Hx sx,Inv (cn C.X (ts++fs) scope cl L s2 H1 fp [(Da,{ cls:=.type "list",data:=.seq its.toArray ne })] (λ _ _=>False)) pins' σ' Hx sx/\C.CX C.X.stack Hx sx Ew e s')
    (λ pins' σ' Hx sx e s' Ix hc=>⟨pins',σ',Hx,sx,kz (iO Ix),hc⟩) (dJ fp s6.heap) s7 _ H7 _ (kz I7) (step ws Hv6 x6.vh hws)) (λ uv s9 h9=>?_) λ e s' h=>?_
   ·obtain⟨v9,H9,I9r,r9,sm9,j9⟩:=h9
    have I9:=iO I9r;obtain⟨tn9,fpn9,ob9,dn9⟩:=back I9;have hlen:=rv.length;refine zN BH ⟨_,ob9,rfl⟩ Br (Bh _ _) (BM Da its.toArray ne uv (by rw[wj];have:=A.few;have:=aX hz;omega)) ⟨ob9,?_⟩;refine⟨ds.length-(i+1),⋯,i+1,ws.map some,vs++[v9],H9,rfl,⟨hlt,by simp[hwl],?_,?_,fpn9,?_,dn9,?_,sm9,j9⟩⟩
    ·have I9':Inv (aH C.X (ts++fs) scope cl L s2 H1 fp) [] (ws.map some++bq σ is) H9 s9:=I9.pins_of λ p hp=>absurd hp (by simp)
     exact I9'.turned (it:=Da) (λ b ob hb e=>(yS _ _ (Ne.symm hb)).trans e) dn9 hDL (.inr hsD) (λ y c e z=>by
      obtain⟨w',oc,hoc,_⟩:=I2.cell y c (clsub y c e);have:=yA hoc;rw[z] at this;exact absurd this (Nat.not_lt.mpr hsD)) (λ p hp=>absurd (show p∈([]:List (Addr×Obj)) from hp) (by simp))
    ·exact T.keep _ _ _ tn9 λ b hb ob e=>(yS _ _ (λ z=>hDfp (by rw[z];exact hb))).trans e
    ·have q:=AO ob9 (λ a=>a.push uv)
     exact⟨its++[uv],_,by simpa using q,rv.append (.cons r9 .nil)⟩
    ·rw[wy,xT];have:=A.few;omega
   ·obtain⟨pins',σ',Hx,sx,Ix,hc⟩:=h
    have hp:=Ix.pin (Da,{ cls:=.type "list",data:=.seq its.toArray ne }) (wB _ (by show _∈[_];simp));exact herr (E2:=λ _ _=>True) Ix hp.1 rv hp.2.1 few hc
  ·have ei:i=ds.length:=yk A.le ⋯
   refine yC (T.done (aH C.X (ts++fs) scope cl L s2 H1 fp) rfl rfl rfl hcalm i _ s _ Hn (λ _ _=>False) I1 (hfp Hn A.fpn) A.at_ (w2 ei)) (λ r s5 h5=>?_) λ _ _ z=>z
   obtain⟨rfl,I5⟩:=h5;refine hfin Da L s5 ?_
   obtain⟨m5,hn5,_⟩:=I5.loc;have ob5:=(I5.pin (Da,{ cls:=.type "list",data:=.seq its.toArray ne }) (wk _ (by simp))).1;refine⟨⟨m5,hn5⟩,λ z=>absurd I2.lt (by rw[<- z];exact Nat.not_lt.mpr hsL),λ y c e z=>?_,wK I2.sz hsL,λ p hp z=>?_,upd Hn Da (.lst vs),?_,?_,λ h' sb=>?_⟩
   ·obtain⟨w',oc,hoc,_⟩:=I2.cell y c e
    exact absurd (yA hoc) (by rw[z];exact Nat.not_lt.mpr hsL)
   ·exact absurd (yA (I2.pin p hp).1) (by rw[z];exact Nat.not_lt.mpr hsL)
   ·rw[ai (Ne.symm hDL)];exact A.inv.free
   ·exact jend vs Hn (ei▸A.jn) Da A.dn
   ·exact gZ I2 f2 eD.symm (by rw[hL,eD]) (I5.pins_of λ p hp=>absurd hp (by simp)) ob5 rv A.dn few sb
 refine A3 (loop _ start) ?_
 exact T.self _ 0 _ _ _ start.at_ (loop _ start)
end
section
variable {C:Ctx}{elt iter:Expr}{tg:Expr}{bn:D->Option (List D)}{T0:TG}{ts:List Str}{pos:Pos}{scope:Scope}{fs:List Str}{is:List Nat}{fi:EI}{te:TE}{Ew:XK}
theorem jC {i:Nat}{y:Str}{py spos:Pos}(hclm:C.X.calm=true)(S:CompNamesT C.X scope ts fs is)(hG:TgR C tg ts fs scope bn T0)(hi:SI C tg iter fi)
  (hCX:C.CX=CXe C.X.prog C.X.w) (hold:iy C Ew) (hstk:C.X.stack=C.X.env::C.X.outer)
  (he:∀ cl L s₀ H₀ ex pn xe,bC C.CX (cn C.X (ts++fs) scope cl L s₀ H₀ ex pn xe) Ew->PE (cn C.X (ts++fs) scope cl L s₀ H₀ ex pn xe) elt te)
  (hN:C.X.N.Nodup) (hy:C.X.N[i]?=some y) (hl:C.X.env.scope.names.lookup y=some .local) (hsw:swapsWith (.ListComp elt [⟨tg,iter,[],0⟩] scope pos) (some (.Name y py)) spos.line C.X.env=pure true) (hs:∀ v,foldedSetIterable iter C.X.env v=pure v):
  PS C.X (.Assign [.Name y py] (.ListComp elt [⟨tg,iter,[],0⟩] scope pos) spos) (λ E σ H=>∃ Hv ρ,EnvR C.X.K Hv ρ σ/\Same Hv H/\k7 C bn te is fi σ H Hv ρ λ v H'=>E.nx (σ.set i (some v)) H'):=by
 intro pins s σ H E I ⟨Hv,ρ,er,sv,ok⟩;rw[exec_Assign_Name_used _ _ _ _ hsw];refine yz (Aa (yz ?_));show wpAny _ _ (do let _ <- comprehension (.ListComp elt [⟨tg,iter,[],0⟩] scope pos) scope C.X.env _ (newList []) false (eval iter C.X.env) (some (assign (.Name y py) C.X.env))) _ _ s
 refine yz (yC (jS (use:=some (assign (.Name y py) C.X.env)) (Q':=λ _ s'=>∃ σ' H',Inv C.X pins σ' H' s'/\E.nx σ' H') hclm S hG hi hCX hold hstk he hs I er sv ok λ Da L s5 h=>?_) (λ _ s' hq=>yE (yE hq)) λ _ _ e=>e);obtain⟨⟨m,hn⟩,h1,h2,h3,h4,H',hL,q,iv⟩:=h;have I5:Inv C.X pins σ H' s5:=iv s5.heap λ b _=>rfl
 show wpAny _ _ (assign (.Name y py) C.X.env (.ref Da)) _ _ s5
 refine wpAny_assign_Name (ia (v:=.ref Da) I5 hN hy (.inl hl) rfl (λ s6 I6 ⟨a,sb,ha⟩=>?_) (.inr hl));have hLa:L≠a:=by
  rcases ha with rfl|ha
  ·exact h1
  ·exact λ z=>h2 y a ha z.symm
 refine⟨m,hn.sameBut sb hLa,λ h' sb'=>⟨_,H',?_,q⟩⟩;exact I6.turned (t':=s6.toks) (it:=L) (λ b o hb e=>(sb'.2 b hb).trans e) hL h1 (.inr h3) h2 h4
end
end Sd
namespace Dv
def splitS (c:Nat):List Nat->List (List Nat)
 | []=>[[]]
 | x::r=>if x=c then []::splitS c r else match splitS c r with
  | []=>[[x]]
  | w::ws=>(x::w)::ws
def splitD:D->D->R
 | .str z,.str [c]=>if z.length+2<=mx then .ok (.lst ((splitS (c%1114112) (clipS z)).map .str)) true else .bad
 | _,_=>.bad
def startD:D->D->R
 | .str z,.str [c]=>.ok (.bl (decide ((clipS z).head?=some (c%1114112)))) true
 | _,_=>.bad
def decS (i:Int):List Nat:=(toString i).toList.map λ c=>c.val.toNat
def strID:D->Bool->R
 | .int i,_=>if i.natAbs.log2<1920 then .ok (.str (decS i)) true else .bad
 | _,_=>.bad
def mulSD:D->D->R
 | .str z,.int n=>if decide (1<=n)&&decide (n<=1000)&&decide (z.length<=1000) then .ok (.str (List.replicate n.toNat z).flatten) true else .bad
 | _,_=>.bad
def eSplit (a b:EE):EE:=λ ρ=>(a ρ).bind λ x _=>match x with
 | .str z=>(b ρ).bind λ y _=>splitD (.str z) y
 | _=>.bad
def eStart (a b:EE):EE:=λ ρ=>(a ρ).bind λ x _=>match x with
 | .str z=>(b ρ).bind λ y _=>startD (.str z) y
 | _=>.bad
theorem split_free {c:Nat}:∀ {p:List Nat},c∉p->splitS c p=[p]
 | [],_=>rfl
 | x::r,h=>by
  have h1:x≠c:=λ e=>h (by simp[e])
  unfold splitS;rw[if_neg h1,split_free λ z=>h (v7 _ z)]
theorem split_cat {c:Nat}:∀ {p:List Nat} (q:List Nat),c∉p->splitS c (p++c::q)=p::splitS c q
 | [],q,_=>by simp[splitS]
 | x::r,q,h=>by
  have h1:x≠c:=λ e=>h (by simp[e])
  rw[xf]
  conv=>lhs;unfold splitS
  rw[if_neg h1,split_cat q λ z=>h (v7 _ z)]
abbrev Frm:=List (List Nat×List (List Nat))
def frmAt (T:Frm)(z:List Nat):Option (List (List Nat)):=(T.find? λ p=>decide (p.1=z)).map (·.2)
def ninFD (T:Frm):D->Bool->R
 | .str z,_=>.ok (.bl (!(frmAt T (clipS z)).isSome)) true
 | _,_=>.bad
def lenFD (T:Frm):D->Bool->R
 | .str z,_=>match frmAt T (clipS z) with
  | some fs=>.ok (.int fs.length) true
  | none=>.bad
 | _,_=>.bad
def iZipF (T:Frm)(a b:EE):EI:=λ ρ=>match a ρ with
 | .ok (.str z) _=>match frmAt T (clipS z) with
  | some fs=>match b ρ with
   | .ok (.lst ys) _=>.ok (List.zipWith (λ x y=>.tup [x,y]) (fs.map .str) ys) true
   | .exc c=>.exc c
   | _=>.bad
  | none=>.bad
 | .exc c=>.exc c
 | _=>.bad
end Dv
namespace Sd
open PySem PySem.Spec PyProof.Rows L2
open Dv (D R RL EE EL EI RI Sl Out SS)
theorem gu {c:Nat}:∀ {ps:List Str} {x:Str},ps≠[]->(∀ p∈ps,c∉p.cps.toList)->Bj ⟨#[c]⟩ ps=x->ps.map (λ p=>p.cps.toList)=Dv.splitS c x.cps.toList
 | [],_,h,_,_=>absurd rfl h
 | [p],x,_,hf,e=>by
  have e:p=x:=e;subst e;rw[Dv.split_free (hf p (by simp))];rfl
 | p::q::r,x,_,hf,e=>by
  have ih:=gu (ps:=q::r) (x:=Bj ⟨#[c]⟩ (q::r)) (by simp) (λ z hz=>hf z (v7 _ hz)) rfl;have e2:p++⟨#[c]⟩++Bj ⟨#[c]⟩ (q::r)=x:=e;have e3:x.cps.toList=p.cps.toList++c::(Bj ⟨#[c]⟩ (q::r)).cps.toList:=by
   rw[<- e2];show ((p.cps++#[c])++(Bj ⟨#[c]⟩ (q::r)).cps).toList=_
   simp
  rw[e3,Dv.split_cat _ (hf p (by simp)),<- ih];rfl
theorem eC (x:Str)(c:Nat):Az x ⟨#[c]⟩=(Dv.splitS c x.cps.toList).map λ l=>⟨l.toArray⟩:=by
 have h:=gu (c:=c) (ps:=Az x ⟨#[c]⟩) (x:=x) (λ z=>by have:=split_pos x ⟨#[c]⟩;rw[z] at this;simp at this) (λ p hp=>StrLaws.split_free x c p hp) (StrLaws.join_split x _);rw[<- h,yx];have:(λ l:List Nat=>(⟨l.toArray⟩:Str)) ∘ (λ p:Str=>p.cps.toList)=id:=by
  funext p;simp
 rw[this,yd]
theorem j3 {prog:Program}{w:World}{A:Around}{E:Value->Shared->Prop}{s:Shared}{x y:Str}{t u:Tok}{Q:Value->Shared->Prop}(hy:(y.length == 0)=false)(hsz:x.length+2<=sizeLine)
  (h:∀ (l:List (Str×Tok)) k,l.map (·.1)=Az x y->Q (.ref s.heap.objs.size) { s with heap:=s.heap.push { cls:=.type "list",data:=.seq (strValues l).toArray },toks:=k }):
  wpAny (model prog w) A (call (.builtin "str.split") [.str x t,.str y u]) Q E s:=by
 have hn:(AS x (zk x y 0 x.length (x.length+1)) y.length).length<=sizeLine:=by
  have e1:=StrLaws.occ_length_le x y 0 x.length (x.length+1);rw[length_partsBetween];omega
 cases h1:(decide (x.length<y.length) || decide (Bu x<Bu y))
 ·cases hf:(zk x y 0 x.length (x.length+1)).isEmpty
  ·refine zN AU (Ag _ _ _) AK (AA _ _) (meets_str_split_sep x y t u h1 hy hf ⋯ hn) ?_
   show wants Q E _ { s with toks:=_,heap:=s.heap.push { cls:=.type "list",data:=.seq (strsFrom s.toks (AS x (zk x y 0 x.length (x.length+1)) y.length)).toArray } }
   rw[strsFrom_eq];exact h (numbered s.toks _) _ ((numbered_texts _ _).trans ((if_neg (ne_true_of_eq_false h1)).trans (if_neg (ne_true_of_eq_false hf))).symm)
  ·exact zN AU (Ag _ _ _) AK (AA _ _) (meets_str_split_not_found x y t u h1 hy hf)
    (h [(x,t)] s.toks ((if_neg (ne_true_of_eq_false h1)).trans (if_pos hf)).symm)
 ·exact zN AU (Ag _ _ _) AK (AA _ _) (meets_str_split_cannot_occur x y t u h1)
   (h [(x,t)] s.toks (if_pos h1).symm)
end Sd
namespace Srt
open PySem PySem.W PyProof.Rows
section
variable {prog:Program}{w:World}{A:Around}{E:Value->Shared->Prop}{s:Shared}{κ:SortKind}{Gd:Keyed->Prop}{N:Nat}
def Cmp (prog:Program)(w:World)(A:Around)(s:Shared)(κ:SortKind)(Gd:Keyed->Prop):Prop:=
 ∀ x y,Gd x->Gd y->∀ (C:Bool->Shared->Prop) (E':Value->Shared->Prop),(∀ b,C b s)->wpAny (model prog w) A (keyLt' κ x.1 y.1) C E' s
section
variable (hc:Cmp prog w A s κ Gd)
include hc
end
end
section
variable {prog:Program}{w:World}{A:Around}{E:Value->Shared->Prop}{s:Shared}{κ:SortKind}{Gd:Keyed->Prop}{N:Nat}
def Gs (Gd:Keyed->Prop)(xs:Array Keyed):Prop:=∀ p,p∈xs->Gd p
section
variable {a b:Array Keyed}(ha:Gs Gd a)(hb:Gs Gd b)
include ha hb
end
end
section
variable {prog:Program}{w:World}{A:Around}{E:Value->Shared->Prop}{s:Shared}{κ:SortKind}{Gd:Keyed->Prop}{N:Nat}
section
variable {a b:Array Keyed}(ha:Gs Gd a)(hb:Gs Gd b)
include ha hb
end
end
section
variable {prog:Program}{w:World}{A:Around}{E:Value->Shared->Prop}{s:Shared}{κ:SortKind}{Gd:Keyed->Prop}{ky:Keyed->Int}{a₀:Array Keyed}
def Cmk (prog:Program)(w:World)(A:Around)(s:Shared)(κ:SortKind)(Gd:Keyed->Prop)(ky:Keyed->Int):Prop:=
 ∀ x y,Gd x->Gd y->∀ (C:Bool->Shared->Prop) (E':Value->Shared->Prop),C (decide (ky x<ky y)) s->wpAny (model prog w) A (keyLt' κ x.1 y.1) C E' s
section
variable (hc:Cmk prog w A s κ Gd ky)(g:Gs Gd a₀)
include hc g
end
end
section
variable {prog:Program}{w:World}{A:Around}{E:Value->Shared->Prop}{s:Shared}{κ:SortKind}{Gd:Keyed->Prop}{ky:Keyed->Int}{a₀:Array Keyed}
def Ao (ky:Keyed->Int)(a:Array Keyed):Prop:=∀ i j (hi:i<a.size) (hj:j<a.size),i<=j->ky a[i]<=ky a[j]
structure Ms (ky:Keyed->Int)(Gd:Keyed->Prop)(a b:Array Keyed):Prop where
 ha:Gs Gd a
 hb:Gs Gd b
 oa:Ao ky a
 ob:Ao ky b
 a1:1<=a.size
 b1:1<=b.size
 hf:ky b[0]<=ky a[0]
 hl:ky b[b.size-1]<=ky a[a.size-1]
section
variable {a b:Array Keyed}(M:Ms ky Gd a b)
include M
end
section
variable {a b:Array Keyed}(M:Ms ky Gd a b){L:List Keyed}
include M
end
end
section
variable {prog:Program}{w:World}{A:Around}{E:Value->Shared->Prop}{s:Shared}{κ:SortKind}{Gd:Keyed->Prop}{ky:Keyed->Int}{a₀:Array Keyed}
section
variable {a b:Array Keyed}(M:Ms ky Gd a b)
include M
end
section
variable {a b:Array Keyed}(M:Ms ky Gd a b){L:List Keyed}
include M
end
end
end Srt
namespace Dv
def eBad:EE:=λ _=>.bad
end Dv
namespace Sd
open PySem PySem.Spec PySem.W PySem.Calls PyProof.Rows L2
open Dv (D R RL EE EL EI RI Sl Out SS)
open PySem PySem.Spec PyProof.Rows L2
theorem gS:∀ l:List (Str×Tok),Vals ((l.map (·.1)).map V.str) (strValues l)
 | []=>.nil
 | (x,t)::r=>.cons ⟨t,rfl⟩ (gS r)
theorem nS {X:Cx}:MtR X "str.split" (λ x xs H Q=>∃ z c,x=.str z/\xs=[.str ⟨#[c]⟩]/\z.length+2<=sizeLine/\∀ l,H l=none->Q (.ref l) (upd H l (.lst ((Az z ⟨#[c]⟩).map V.str)))):=by
 intro pins s σ H x vs v us Q I rx rv h;obtain⟨z,c,rfl,rfl,hz,q⟩:=h;obtain⟨t,rfl⟩:=rx;obtain⟨u,rfl,ru⟩:=rv.one;obtain⟨t2,rfl⟩:=ru;refine j3 rfl hz λ l k e=>?_
 have hf:H s.heap.objs.size=none:=I.hok.fresh (wm _);have hl:(Az z ⟨#[c]⟩).length<=z.length+2:=split_le z _;refine⟨.ref s.heap.objs.size,_,I.laid (t':=k) (o:=.lst ((Az z ⟨#[c]⟩).map V.str)) (λ b u q=>yB _ q) (wm _) ⟨by rw[wg];omega,strValues l,0,?_,yD _ rfl⟩,rfl,q _ hf⟩;rw[<- e];exact gS l
theorem oB {X:Cx}:MtR X "str.startswith" (λ x xs H Q=>∃ z y,x=.str z/\xs=[.str y]/\Q (.bl (Ba z y)) H):=by
 intro pins s σ H x vs v us Q I rx rv h;obtain⟨z,y,rfl,rfl,q⟩:=h;obtain⟨t,rfl⟩:=rx;obtain⟨u,rfl,ru⟩:=rv.one;obtain⟨t2,rfl⟩:=ru;exact SC.startswith ⟨.bl _,H,I,rfl,q⟩
theorem qr {X:Cx}:OpR X (binaryOp .Mult) (λ x y H Q=>∃ z n,x=.str z/\y=.int n/\MulOk z n/\Q (.str (Txt.mul z n)) H):=by
 intro pins s σ H x y v u Q I rx ry h;obtain⟨z,n,rfl,rfl,hz,q⟩:=h;obtain⟨t,rfl⟩:=rx;obtain⟨t',rfl⟩:=ry;exact SB.mul hz λ t' k=>⟨.str _,H,I.tok _,⟨_,rfl⟩,q⟩
theorem dg {c:Nat}:∀ {z w:List Nat},w∈Dv.splitS c z->∀ x∈w,x∈z
 | [],w,h,x,hx=>by simp[Dv.splitS] at h;subst h;cases hx
 | y::r,w,h,x,hx=>by
  unfold Dv.splitS at h
  split at h
  ·rcases List.mem_cons.mp h with rfl|h
   ·cases hx
   ·exact v7 _ (dg h x hx)
  ·split at h
   ·rw[List.mem_singleton.mp h] at hx
    rw[List.mem_singleton.mp hx];exact wc ..
   ·rename_i w' ws e
    rcases List.mem_cons.mp h with rfl|h
    ·rcases List.mem_cons.mp hx with rfl|hx
     ·exact wc ..
     ·exact v7 _ (dg (c:=c) (z:=r) (w:=w') (by rw[e];exact wc ..) x hx)
    ·exact v7 _ (dg (c:=c) (z:=r) (w:=w) (by rw[e];exact v7 _ h) x hx)
theorem eP {w:List Nat}(h:∀ x∈w,x<1114112):Dv.clipS w=w:=by
 unfold Dv.clipS;have:w.map (·%1114112)=w.map id:=xA λ x hx=>xK (h x hx)
 rw[this,yd]
theorem iP {K:yy}{H:Hp}:∀ ws:List (List Nat),(∀ w∈ws,∀ x∈w,x<1114112)->RpL K H (ws.map .str) ((ws.map λ l=>(⟨l.toArray⟩:Str)).map V.str)
 | [],_=>.nil
 | w::r,h=>by
  refine .cons ?_ (iP r λ v hv=>h v (v7 _ hv))
  have:=bT (K:=K) (H:=H) (x:=w);rw[eP (h w (wc ..))] at this;exact this
section
variable {C:Ctx}{a b c e o k:Expr}{f g h:EE}{pos:Pos}
theorem og {apos cpos:Pos}(ha:SE C a f)(hb:SE C b g)(hst:autoParam (starEach [b] C.X.env=[(false,eval b C.X.env)]) ZF._auto_1)
  (hbase:autoParam (attributeBase a "split" C.X.env (eval a C.X.env)=eval a C.X.env) ZF._auto_1)
  (hfew:autoParam (((backTo cpos (starEach [b] C.X.env)).all (λ x=>!x.1)&&(backToKw cpos (keywordEach [] C.X.env)).all (λ x=>x.1.isSome)
   && decide ([b].length+([]:List Keyword).length+(if ([]:List Keyword).isEmpty then 0 else 1)<30))=true) ZF._auto_1)
  (hline:autoParam ((apos.endLine == cpos.line)=true) ZF._auto_1):SE C (.Call (.Attribute a "split" apos) [b] [] cpos) (Dv.eSplit f g):=by
 obtain⟨t,pa,qa⟩:=ha;obtain⟨u,pb,qb⟩:=hb;refine⟨_,mG A4 PySem.F.slot_str_split PySem.F.type_str_split nS pa (au pb aM hst) hbase hfew hline hst rfl,λ σ H Hv ρ Q e s w=>?_⟩;refine qa.step e (.refl s) w λ v d fr Hv1 H1 _ x1 _ rp1 _ q1=>?_
 cases d with
 | str z=>
  unfold Rp at rp1;subst rp1;refine⟨rfl,?_⟩;refine qb.step e x1 q1 λ v2 d2 fr2 Hv2 H2 _ x2 y2 rp2 _ q2=>?_
  match d2,q2 with
  | .str [c],q2=>
   unfold Rp at rp2;subst rp2;by_cases hz:z.length+2<=Dv.mx
   ·have q3:Ok C.X.K Hv H (C.W σ) C.cls (.ok (.lst ((Dv.splitS (c%1114112) (Dv.clipS z)).map .str)) true) Q:=by simpa[Dv.splitD,hz] using q2
    refine⟨_,c%1114112,rfl,rfl,by rw[str_len];exact aX hz,λ l hl=>?_⟩;rw[eC];have hm:∀ w∈Dv.splitS (c%1114112) (Dv.clipS z),∀ x∈w,x<1114112:=λ w hw x hx=>by
     have:=dg hw x hx;unfold Dv.clipS at this;obtain⟨y,_,rfl⟩:=List.mem_map.mp this;exact Nat.mod_lt _ (by decide)
    exact Ok.newL q3 x2 (iP _ hm) (λ _=>iP _ hm) l hl
   ·have q':False:=by simpa[Dv.splitD,hz,Ok] using q2
    exact q'.elim
  | .str [],q2=>exact Zf q2
  | .str (_::_::_),q2=>exact Zf q2
  | .int _,q2 | .bl _,q2 | .non,q2 | .lst _,q2 | .tup _,q2 | .exn _,q2 | .raw _,q2 | .tab _,q2 | .dct _ _,q2 | .ins _ _,q2=>exact Zf q2
 | _=>exact Zf q1
theorem j7 (z:List Nat)(c:Nat):Ba ⟨(Dv.clipS z).toArray⟩ ⟨#[c]⟩=decide ((Dv.clipS z).head?=some c):=by
 unfold Ba Builtin.Str.subAt;cases Dv.clipS z with
 | nil=>simp[zD]
 | cons x r=>
  have e:((x::r).toArray.extract 0 (0+zD ⟨#[c]⟩))=#[x]:=by simp[zD]
  show (decide (0+1<=(x::r).toArray.size)&&((x::r).toArray.extract 0 (0+zD ⟨#[c]⟩) == #[c]))=_
  rw[e];simp;rw[wL];simp
theorem oQ {apos cpos:Pos}(ha:SE C a f)(hb:SE C b g)(hst:autoParam (starEach [b] C.X.env=[(false,eval b C.X.env)]) ZF._auto_1)
  (hbase:autoParam (attributeBase a "startswith" C.X.env (eval a C.X.env)=eval a C.X.env) ZF._auto_1)
  (hfew:autoParam (((backTo cpos (starEach [b] C.X.env)).all (λ x=>!x.1)&&(backToKw cpos (keywordEach [] C.X.env)).all (λ x=>x.1.isSome)
   && decide ([b].length+([]:List Keyword).length+(if ([]:List Keyword).isEmpty then 0 else 1)<30))=true) ZF._auto_1)
  (hline:autoParam ((apos.endLine == cpos.line)=true) ZF._auto_1):SE C (.Call (.Attribute a "startswith" apos) [b] [] cpos) (Dv.eStart f g):=by
 obtain⟨t,pa,qa⟩:=ha;obtain⟨u,pb,qb⟩:=hb;refine⟨_,mG A4 PySem.F.slot_str_startswith PySem.F.type_str_startswith oB pa (au pb aM hst) hbase hfew hline hst rfl,λ σ H Hv ρ Q e s w=>?_⟩;refine qa.step e (.refl s) w λ v d fr Hv1 H1 _ x1 _ rp1 _ q1=>?_
 cases d with
 | str z=>
  unfold Rp at rp1;subst rp1;refine⟨rfl,?_⟩;refine qb.step e x1 q1 λ v2 d2 fr2 Hv2 H2 _ x2 y2 rp2 _ q2=>?_
  match d2,q2 with
  | .str [c],q2=>
   unfold Rp at rp2;subst rp2;refine⟨_,⟨#[c%1114112]⟩,rfl,rfl,?_⟩;rw[j7];exact(show Ok C.X.K Hv H (C.W σ) C.cls (.ok (.bl (decide ((Dv.clipS z).head?=some (c%1114112)))) true) Q from q2).at x2 bI rfl
  | .str [],q2=>exact Zf q2
  | .str (_::_::_),q2=>exact Zf q2
  | .int _,q2 | .bl _,q2 | .non,q2 | .lst _,q2 | .tup _,q2 | .exn _,q2 | .raw _,q2 | .tab _,q2 | .dct _ _,q2 | .ins _ _,q2=>exact Zf q2
 | _=>exact Zf q1
theorem iW (i:Int):(yG (toString i))=⟨(Dv.clipS (Dv.decS i)).toArray⟩:=by
 rw[eP (w:=Dv.decS i) λ x hx=>?_]
 ·rw[Str.ofString_eq_toList];rfl
 ·unfold Dv.decS at hx
  obtain⟨c,_,rfl⟩:=List.mem_map.mp hx;have:=c.valid;show c.val.toNat<1114112
  rcases this with h|h
  ·have h':c.val.toNat<55296:=h
   omega
  ·have h':c.val.toNat<1114112:=h.2
   exact h'
theorem qI:C1S C (.type "str") Dv.strID:=by
 refine⟨_,iH,λ x d fr H Hv H1 Hv1 W Q e rx n q=>?_⟩;cases d with
 | int i=>
  unfold Rp at rx;subst rx;by_cases hz:i.natAbs.log2<1920
  ·have q':Ok C.X.K Hv H W C.cls (.ok (.str (Dv.decS i)) true) Q:=by simpa[Dv.strID,hz] using q
   refine⟨i,rfl,hz,?_⟩;have:=q'.at e (bT (x:=Dv.decS i)) rfl;rw[<- iW] at this;exact this
  ·have q':False:=by simpa[Dv.strID,hz,Ok] using q
   exact q'.elim
 | _=>exact Zf q
theorem i5 {p:Pos}(hm:C.X.mg "str"=none)(hg:Gl C.X "str")(ha:SE C a f)(he:autoParam (starEach [a] C.X.env=[(false,eval a C.X.env)]) ZF._auto_1):SE C (.Call (.Name "str" p) [a] [] pos) (Dv.eB1 Dv.strID f):=rH qI hg hm (by decide +kernel) ha (by decide) (by decide) he
theorem nq (z:List Nat):∀ n:Nat,((List.replicate n (Dv.clipS z).toArray).foldl (·++·) #[]:Array Nat)=(Dv.clipS (List.replicate n z).flatten).toArray:=by
 have go:∀ (n:Nat) (acc:Array Nat),(List.replicate n (Dv.clipS z).toArray).foldl (·++·) acc=acc++(Dv.clipS (List.replicate n z).flatten).toArray:=by
  intro n
  induction n with
  | zero=>intro acc;simp[Dv.clipS]
  | succ n ih=>
   intro acc;rw[wG,xN,ih,wG,wO];simp[Dv.clipS]
 intro n;rw[go];simp
theorem rY {z:List Nat}{n:Int}(h1:1<=n):Txt.mul ⟨(Dv.clipS z).toArray⟩ n=⟨(Dv.clipS (List.replicate n.toNat z).flatten).toArray⟩:=by
 unfold Txt.mul;rw[if_neg ⋯];by_cases c:(n == 1 || zD ⟨(Dv.clipS z).toArray⟩ == 0)=true
 ·rw[if_pos c]
  rw[xw] at c
  rcases c with c|c
  ·have:n=1:=by simpa using c
   subst this;show _=(⟨(Dv.clipS (List.replicate 1 z).flatten).toArray⟩:Str)
   simp
  ·rw[str_len] at c
   have hz:z=[]:=wM (by simpa using c);subst hz;simp[Dv.clipS]
 ·rw[if_neg c,nq]
theorem pk:OpS C (binaryOp .Mult) Dv.mulSD:=by
 refine⟨_,qr,λ x y d d' H Hv H1 Hv1 W Q e rx ry q=>?_⟩;cases d with
 | str z=>
  cases d' with
  | int n=>
   unfold Rp at rx ry;by_cases hz:(decide (1<=n)&&decide (n<=1000)&&decide (z.length<=1000))=true
   ·have q':Ok C.X.K Hv H W C.cls (.ok (.str (List.replicate n.toNat z).flatten) true) Q:=by simpa[Dv.mulSD,hz] using q
    simp only[v8,decide_eq_true_eq] at hz;obtain⟨⟨h1,h2⟩,h3⟩:=hz;refine⟨_,n,rx,ry,⟨?_,λ _ _=>?_,λ _ _=>?_⟩,?_⟩
    ·simp;omega
    ·rw[str_len]
     have:(1000:Int)<=(2 ^ 63-1)/n:=Int.le_ediv_of_mul_le ⋯ ⋯;omega
    ·rw[str_len]
     have:z.length*n.toNat<=1000*1000:=Nat.mul_le_mul h3 ⋯;unfold Builtin.Str.tooLong;rw[decide_eq_false_iff_not,zt];omega
    ·rw[rY h1]
     exact q'.at e bT rfl
   ·have q':False:=by simpa[Dv.mulSD,hz,Ok] using q
    exact q'.elim
  | _=>exact Zf q
 | _=>exact Zf q
theorem qQ (ha:SE C a f)(hb:SE C b g):SE C (.BinOp a .Mult b pos) (Dv.eB2 Dv.mulSD f g):=cX pk ha hb
end
section
variable {prog:Program}{w:World}{A:Around}{E:Value->Shared->Prop}{s:Shared}
structure Itr (prog:Program)(w:World)(i t:Addr)(xs:Array Value)(St:Nat->Heap->Prop):Prop where
 obj:∀ {k h},St k h->∃ o,h.get? i=some o/\∀ v,o.data≠.cell v
 keep:∀ {k h h'},St k h->(∀ b o,b=i\/b=t->h.get? b=some o->h'.get? b=some o)->St k h'
 nx:∀ {A:Around} {k x} {s:Shared} {Q:Value->Shared->Prop} {E:Value->Shared->Prop},St k s.heap->xs[k]?=some x->(∀ h',St (k+1) h'->zS i s.heap h'->Q x { s with heap:=h' })->wpAny (model prog w) A (yO (.ref i)) Q E s
 nd:∀ {A:Around} {k} {s:Shared} {Q:Value->Shared->Prop} {E:Value->Shared->Prop},A.handled=none->St k s.heap->xs[k]?=none->(∀ h' e,Heap.ExtBut i s.heap h'->(∃ o,h'.get? e=some o/\o.cls=.type "StopIteration")->E (.ref e) { s with heap:=h' })->wpAny (model prog w) A (yO (.ref i)) Q E s
theorem jt {i l:Addr}{xs:Array Value}(hne:l≠i):Itr prog w i l xs (λ k h=>h.IsListIter i l k/\h.IsList l xs) where
 obj:=λ⟨⟨o,e,_,d⟩,_⟩=>⟨o,e,λ v q=>by rw[d] at q;cases q⟩
 keep:=λ⟨a,b⟩ kp=>⟨a.at λ o e=>kp i o (.inl rfl) e,b.at λ o e=>kp l o (.inr rfl) e⟩
 nx:=λ⟨a,b⟩ hx go=>wpAny_nextOf_list_item a b hx λ h' c sb=>go h' ⟨c,b.extBut sb.extBut hne⟩ sb
 nd:=λ hh ⟨a,b⟩ hx go=>wpAny_nextOf_list_end hh a b hx go
theorem ic {i t:Addr}{xs:Array Value}(hne:t≠i):Itr prog w i t xs (λ k h=>h.IsTupleIter i t k/\h.IsTuple t xs) where
 obj:=λ⟨⟨o,e,_,d⟩,_⟩=>⟨o,e,λ v q=>by rw[d] at q;cases q⟩
 keep:=λ⟨a,⟨o,e,r⟩⟩ kp=>⟨a.at λ o e=>kp i o (.inl rfl) e,⟨o,kp t o (.inr rfl) e,r⟩⟩
 nx:=λ {A k x s Q E} ⟨a,b⟩ hx go=>by
  obtain⟨oi,gi,ci,di⟩:=id a;obtain⟨ot,gt,_,nt,dt⟩:=id b;have ty:=a.typeIs;unfold yO;refine yz (zC (name:=yG "__next__") ty zr (Ac zr ty AB ?_ (Av _)))
  change wpAny _ _ (field (.ref i) 0 >>= _) _ _ _
  refine yz (yV gi di (x:=.ref t) rfl ?_)
  change wpAny _ _ (field (.ref i) 1 >>= _) _ _ _
  refine yz (yV gi di (x:=.int k 0) rfl ?_)
  change wpAny _ _ (seqItems? (.ref t) >>= _) _ _ _
  refine yz (zl gt dt ?_);simp only[hx,xZ];refine yz (A9 gi di (by simp) (yE ⟨x,rfl,yE (go _ ⟨⟨_,Ad _ gi (A8 (zV di _)),(Obj.cls_mapFields ..).trans ci,?_⟩,b.extBut (Ap ..).extBut hne⟩ (Ap ..))⟩));rw[zV di];simp[rawInt]
 nd:=λ {A k s Q E} hh ⟨a,b⟩ hx go=>by
  obtain⟨oi,gi,ci,di⟩:=id a;obtain⟨ot,gt,_,nt,dt⟩:=id b;have ty:=a.typeIs;unfold yO;refine yz (zC (name:=yG "__next__") ty zr (Ac zr ty AB ?_ (Av _)))
  change wpAny _ _ (field (.ref i) 0 >>= _) _ _ _
  refine yz (yV gi di (x:=.ref t) rfl ?_)
  change wpAny _ _ (field (.ref i) 1 >>= _) _ _ _
  refine yz (yV gi di (x:=.int k 0) rfl ?_)
  change wpAny _ _ (seqItems? (.ref t) >>= _) _ _ _
  refine yz (zl gt dt ?_);simp only[hx,xZ];refine yz (Bi (yz (A9 gi di (by simp) ?_)))
  change wpAny _ _ (newExc (.type "StopIteration") [] >>= _) _ _ _
  refine yz ?_
  simp only[newExc,newTuple];refine yz (z0 (yz (m:=firstArgMember _ _) (wpAny_of_eq (a:=zX) (by first|rfl|(simp only[firstArgMember];rfl)) (z0 ?_ (by size_fits)))) (by size_fits));simp only[raiseNew];refine yz (wpAny_handled ?_);rw[show A.in1.handled=none from hh];exact yz (yE (wpAny_throw (go _ _ (((Ap ..).extBut.push _).push _) ⟨_,yD _ rfl,rfl⟩)))
abbrev iL (cs:List Addr)(h h':Heap):Prop:=∀ c o,c∉cs->h.get? c=some o->h'.get? c=some o
theorem l8 {z TI TO i1 i2 t1 t2:Addr}{k:Nat}{xs ys:Array Value}{S1 S2:Nat->Heap->Prop}{x y a b:Value}{Q:Option Value->Shared->Prop}(D:ZipApart z TI TO i1 i2 t1 t2)(J1:Itr prog w i1 t1 xs S1)(J2:Itr prog w i2 t2 ys S2)
  (hz:IsZip s.heap z TI TO .none) (hTI:IsPair s.heap TI (.ref i1) (.ref i2)) (hTO:IsPair s.heap TO a b) (u1:S1 k s.heap) (u2:S2 k s.heap) (hx:xs[k]?=some x) (hy:ys[k]?=some y)
  (go:∀ h',IsZip h' z TI TO (rawInt s.heap.objs.size)->IsPair h' TO x y->S1 (k+1) h'->S2 (k+1) h'->IsPair h' s.heap.objs.size x y->iL [z,TO,i1,i2] s.heap h'->Q (some (.ref s.heap.objs.size)) { s with heap:=h' }):
  wpAny (model prog w) A (pyNext (.ref z)) Q E s:=by
 have ty:s.TypeIs (.ref z) "zip":=⟨_,hz,rfl⟩;unfold pyNext;refine yz (Bm (zC (name:=yG "__next__") ty Aj (Ac Aj ty BQ ?_ (BN _))))
 change wpAny _ _ (field (.ref z) 2 >>= _) _ _ _
 refine yz (yV hz rfl (x:=.bool false) rfl ?_)
 change wpAny _ _ (field (.ref z) 3 >>= _) _ _ _
 refine yz (yV hz rfl (x:=.ref TI) rfl (yz (zl hTI rfl ?_)))
 change wpAny _ _ (yY (.ref z) >>= _) _ _ _
 refine yz ?_
 unfold yY;refine yz (yV hz rfl (x:=.none) rfl (yE ?_));simp only[if_true];refine yz (Bi (yz (yV hz rfl (x:=.ref TO) rfl (yz (zp hz (by simp) λ ha za sa=>?_)))));replace za:IsZip ha z TI TO .ellipsis:=za;refine yz ?_
 simp only[ye,ym,xQ,yq];refine yz (yz (AH ?_))
 change wpAny _ _ (yO (.ref i1) >>= _) _ _ _
 have v1:S1 k ha:=J1.keep u1 λ c o hc e=>sa.extBut c o (by rcases hc with rfl|rfl;exact D.i1z;exact D.l1z) e
 have v2:S2 k ha:=J2.keep u2 λ c o hc e=>sa.extBut c o (by rcases hc with rfl|rfl;exact D.i2z;exact D.l2z) e
 refine yz (J1.nx (s:={ s with heap:=ha }) v1 hx λ hb w1 sb=>yE ?_);have pb:IsPair hb TO a b:=sb.extBut _ _ D.TOi1 (sa.extBut _ _ D.TOz hTO);refine yz (zl (s:={ s with heap:=hb }) pb rfl (yz (Ak (s:={ s with heap:=hb }) pb λ hc pc sc=>?_)));replace pc:IsPair hc TO x b:=pc;refine yz (BO (yE ?_));refine yz (yz (AH ?_))
 change wpAny _ _ (yO (.ref i2) >>= _) _ _ _
 have v3:S2 k hc:=J2.keep v2 λ c o hq e=>by
  have n1:c≠i1:=by rcases hq with rfl|rfl;exact D.i12.symm;exact D.l2i1
  have n2:c≠TO:=by rcases hq with rfl|rfl;exact D.TOi2.symm;exact D.l2TO
  exact sc.extBut c o n2 (sb.extBut c o n1 e)
 refine yz (J2.nx (s:={ s with heap:=hc }) v3 hy λ hd w2 sd=>yE ?_);have pd:IsPair hd TO x b:=sd.extBut _ _ D.TOi2 pc;refine yz (zl (s:={ s with heap:=hd }) pd rfl (yz (Ak (s:={ s with heap:=hd }) pd λ he pe se=>?_)));replace pe:IsPair he TO x y:=pe;refine yz (BO (yE (yE ?_)));refine yz (zl (s:={ s with heap:=he }) pe rfl (yz (wpAny_newTuple ?_)));have sz:he.objs.size=s.heap.objs.size:=by rw[se.1,sd.1,sc.1,sb.1,sa.1]
 have ze:IsZip he z TI TO .ellipsis:=se.extBut _ _ D.TOz.symm (sd.extBut _ _ D.i2z.symm (sc.extBut _ _ D.TOz.symm (sb.extBut _ _ D.i1z.symm za)));have off:iL [z,TO,i1,i2] s.heap he:=λ c o hn e=>by
  simp only[wz,wu,or_false,not_or] at hn;obtain⟨n1,n2,n3,n4⟩:=hn;exact se.extBut _ _ n2 (sd.extBut _ _ n4 (sc.extBut _ _ n2 (sb.extBut _ _ n3 (sa.extBut _ _ n1 e))))
 have e1:S1 (k+1) he:=J1.keep w1 λ c o hq e=>by
  have n1:c≠TO:=by rcases hq with rfl|rfl;exact D.TOi1.symm;exact D.l1TO
  have n2:c≠i2:=by rcases hq with rfl|rfl;exact D.i12;exact D.l1i2
  exact se.extBut _ _ n1 (sd.extBut _ _ n2 (sc.extBut _ _ n1 e))
 have e2:S2 (k+1) he:=J2.keep w2 λ c o hq e=>se.extBut _ _ (by rcases hq with rfl|rfl;exact D.TOi2.symm;exact D.l2TO) e
 change wpAny _ _ (zW (.ref z) (.ref he.objs.size) >>= _) _ _ _
 refine yz ?_
 unfold zW;refine yz (zp (yB _ ze) (by simp) λ hf zf sf=>?_);replace zf:IsZip hf z TI TO (rawInt he.objs.size):=zf;refine zp zf (by simp) λ hg zg sg=>?_
 replace zg:IsZip hg z TI TO (rawInt he.objs.size):=zg;have up:∀ c o,c≠z->he.get? c=some o->hg.get? c=some o:=λ c o n e=>sg.extBut _ _ n (sf.extBut _ _ n (yB _ e))
 have pg:IsPair hg he.objs.size x y:=sg.extBut _ _ (w9 (yA ze)) (sf.extBut _ _ (w9 (yA ze)) (yD _ rfl));rw[sz] at zg pg;refine yE ⟨_,rfl,yE ?_⟩;show Q (some (.ref he.objs.size)) _
 rw[sz];exact go hg zg (up _ _ D.TOz pe) (J1.keep e1 λ c o hq e=>up c o (by rcases hq with rfl|rfl;exact D.i1z;exact D.l1z) e) (J2.keep e2 λ c o hq e=>up c o (by rcases hq with rfl|rfl;exact D.i2z;exact D.l2z) e) pg λ c o hn e=>up c o (λ q=>hn (by simp[q])) (off c o hn e)
theorem oX {z TI TO i1 i2 t1 t2:Addr}{k:Nat}{xs ys:Array Value}{S1 S2:Nat->Heap->Prop}{a b:Value}{Q:Option Value->Shared->Prop}(hh:A.handled=none)(D:ZipApart z TI TO i1 i2 t1 t2)(J1:Itr prog w i1 t1 xs S1)(J2:Itr prog w i2 t2 ys S2)
  (hz:IsZip s.heap z TI TO .none) (hTI:IsPair s.heap TI (.ref i1) (.ref i2)) (hTO:IsPair s.heap TO a b) (u1:S1 k s.heap) (u2:S2 k s.heap) (hend:xs[k]?=none\/ys[k]?=none)
  (go:∀ h',iL [z,TO,i1,i2] s.heap h'->Q none { s with heap:=h' }):
  wpAny (model prog w) A (pyNext (.ref z)) Q E s:=by
 have ty:s.TypeIs (.ref z) "zip":=⟨_,hz,rfl⟩;unfold pyNext;have fin:∀ {h':Heap} {e:Addr},iL [z,TO,i1,i2] s.heap h'->(∃ o,h'.get? e=some o/\o.cls=.type "StopIteration")->wpAny (model prog w) A (do if <- isInstance (.ref e) (.type "StopIteration") then pure none else throw (.ref e)) Q E { s with heap:=h' }:=λ {h' e} off ⟨o,g,c⟩=>
  yz (wpAny_isInstance (T:="StopIteration") (b:=true) ⟨o,g,c⟩ isSubtype_stop (yE (go _ off)))
 refine yz (Bm (zC (name:=yG "__next__") ty Aj (Ac Aj ty BQ ?_ (BN _))))
 change wpAny _ _ (field (.ref z) 2 >>= _) _ _ _
 refine yz (yV hz rfl (x:=.bool false) rfl ?_)
 change wpAny _ _ (field (.ref z) 3 >>= _) _ _ _
 refine yz (yV hz rfl (x:=.ref TI) rfl (yz (zl hTI rfl ?_)))
 change wpAny _ _ (yY (.ref z) >>= _) _ _ _
 refine yz ?_
 unfold yY;refine yz (yV hz rfl (x:=.none) rfl (yE ?_));simp only[if_true];refine yz (Bi (yz (yV hz rfl (x:=.ref TO) rfl (yz (zp hz (by simp) λ ha za sa=>?_)))));replace za:IsZip ha z TI TO .ellipsis:=za;refine yz ?_
 simp only[ye,ym,xQ,yq];refine yz (yz (AH ?_))
 change wpAny _ _ (yO (.ref i1) >>= _) _ _ _
 have v1:S1 k ha:=J1.keep u1 λ c o hc e=>sa.extBut c o (by rcases hc with rfl|rfl;exact D.i1z;exact D.l1z) e
 have v2:S2 k ha:=J2.keep u2 λ c o hc e=>sa.extBut c o (by rcases hc with rfl|rfl;exact D.i2z;exact D.l2z) e
 cases hx:xs[k]? with
 | none=>
  refine yz (J1.nd (s:={ s with heap:=ha }) hh v1 hx λ hb e xb st=>?_);obtain⟨oe,ge,ce⟩:=st;have zb:IsZip hb z TI TO .ellipsis:=xb _ _ D.i1z.symm za;have ez:e≠z:=by rintro rfl;rw[zb] at ge;cases ge;simp at ce
  refine zp (s:={ s with heap:=hb }) zb (by simp) λ hc _ sc=>fin (λ c o hn q=>?_) ⟨oe,sc.extBut _ _ ez ge,ce⟩
  simp only[wz,wu,or_false,not_or] at hn;exact sc.extBut _ _ hn.1 (xb _ _ hn.2.2.1 (sa.extBut _ _ hn.1 q))
 | some x=>
  have hy:ys[k]?=none:=hend.resolve_left (by rw[hx];simp)
  refine yz (J1.nx (s:={ s with heap:=ha }) v1 hx λ hb w1 sb=>yE ?_);have pb:IsPair hb TO a b:=sb.extBut _ _ D.TOi1 (sa.extBut _ _ D.TOz hTO);refine yz (zl (s:={ s with heap:=hb }) pb rfl (yz (Ak (s:={ s with heap:=hb }) pb λ hc pc sc=>?_)));refine yz (BO (yE ?_));refine yz (yz (AH ?_))
  change wpAny _ _ (yO (.ref i2) >>= _) _ _ _
  have v3:S2 k hc:=J2.keep v2 λ c o hq e=>by
   have n1:c≠i1:=by rcases hq with rfl|rfl;exact D.i12.symm;exact D.l2i1
   have n2:c≠TO:=by rcases hq with rfl|rfl;exact D.TOi2.symm;exact D.l2TO
   exact sc.extBut c o n2 (sb.extBut c o n1 e)
  refine yz (J2.nd (s:={ s with heap:=hc }) hh v3 hy λ hd e xd st=>?_);obtain⟨oe,ge,ce⟩:=st;have zd:IsZip hd z TI TO .ellipsis:=xd _ _ D.i2z.symm (sc.extBut _ _ D.TOz.symm (sb.extBut _ _ D.i1z.symm za));have ez:e≠z:=by rintro rfl;rw[zd] at ge;cases ge;simp at ce
  refine zp (s:={ s with heap:=hd }) zd (by simp) λ hf _ sf=>fin (λ c o hn q=>?_) ⟨oe,sf.extBut _ _ ez ge,ce⟩
  simp only[wz,wu,or_false,not_or] at hn;exact sf.extBut _ _ hn.1 (xd _ _ hn.2.2.2 (sc.extBut _ _ hn.2.1 (sb.extBut _ _ hn.2.2.1 (sa.extBut _ _ hn.1 q))))
end
abbrev zT1 (h:Heap)(t:Addr):Heap:=h.push { cls:=.type "tuple_iterator",data:=.fields #[.ref t,.int 0 0] }
abbrev zT2 (h:Heap)(t l:Addr):Heap:=(zT1 h t).push { cls:=.type "list_iterator",data:=.fields #[.ref l,.int 0 0] }
abbrev zT3 (h:Heap)(t l:Addr):Heap:=(zT2 h t l).push { cls:=.type "tuple",data:=.seq #[.ref h.objs.size,.ref (zT1 h t).objs.size] }
abbrev zT4 (h:Heap)(t l:Addr):Heap:=(zT3 h t l).push { cls:=.type "tuple",data:=.seq #[.none,.none] }
abbrev zT5 (h:Heap)(t l:Addr):Heap:=(zT4 h t l).push { cls:=.type "zip",data:=.fields #[.none,.bool false,.bool false,.ref (zT2 h t l).objs.size,.ref (zT3 h t l).objs.size] }
theorem jX (t l:Addr)(xs ys:Array Value):Meets (Builtin.«zip.__new__» ⟨[.type "zip",.ref t,.ref l],[]⟩) (λ _ R s=>s.heap.IsTuple t xs/\s.heap.IsList l ys/\R (.ok (.ret (.ref (zT4 s.heap t l).objs.size))) { s with heap:=zT5 s.heap t l }):=
 .of_wp λ prog w A R s h=>by
  obtain⟨hp,g,d,tk,os⟩:=s;obtain⟨h1,h2,h⟩:=h;have hsub:=sub_zip;have q1:Heap.IsTuple (BZ ⟨hp,g,d,tk,os⟩) t xs:=h1;have q2:Heap.IsList (BZ ⟨zT1 hp t,g,d,tk,os⟩) l ys:=Heap.IsList.push h2 _
  wp_walk using BI q1,zY q2
  exact⟨_,rfl,h⟩
section
variable {prog:Program}{w:World}{A:Around}{E:Value->Shared->Prop}{s:Shared}
theorem lJ {t l:Addr}{xs ys:Array Value}{Q:Value->Shared->Prop}(h1:s.heap.IsTuple t xs)(h2:s.heap.IsList l ys)
  (go:∀ h',IsZip h' (s.heap.objs.size+4) (s.heap.objs.size+2) (s.heap.objs.size+3) .none->IsPair h' (s.heap.objs.size+2) (.ref s.heap.objs.size) (.ref (s.heap.objs.size+1))->IsPair h' (s.heap.objs.size+3) .none .none ->
   h'.IsTupleIter s.heap.objs.size t 0->h'.IsListIter (s.heap.objs.size+1) l 0->(∀ c o,s.heap.get? c=some o->h'.get? c=some o)->Q (.ref (s.heap.objs.size+4)) { s with heap:=h' }):
  wpAny (model prog w) A (call (.type "zip") [.ref t,.ref l]) Q E s:=by
 refine callType_new F.called_zip (by decide) (F.typeCall_zip_2 _ _) (F.newCall_zip_2 _ _) (λ obj=>F.args_object_init_3 obj _ _) F.entry_zip_new (jX t l xs ys) ⟨h1,h2,?_⟩;have n1:(zT1 s.heap t).objs.size=s.heap.objs.size+1:=y8 ..;have n2:(zT2 s.heap t l).objs.size=s.heap.objs.size+2:=(y8 ..).trans (by rw[n1]);have n3:(zT3 s.heap t l).objs.size=s.heap.objs.size+3:=(y8 ..).trans (by rw[n2]);have n4:(zT4 s.heap t l).objs.size=s.heap.objs.size+4:=(y8 ..).trans (by rw[n3]);have up:∀ {h:Heap} {o:Obj} {c:Addr} {u:Obj},h.get? c=some u->(h.push o).get? c=some u:=λ e=>yB _ e
 have a5:(zT5 s.heap t l).get? (zT4 s.heap t l).objs.size=some _:=yD _ rfl;have a4:(zT5 s.heap t l).get? (zT3 s.heap t l).objs.size=some _:=up (yD _ rfl);have a3:(zT5 s.heap t l).get? (zT2 s.heap t l).objs.size=some _:=up (up (yD _ rfl));have a2:(zT5 s.heap t l).get? (zT1 s.heap t).objs.size=some _:=up (up (up (yD _ rfl)));have a1:(zT5 s.heap t l).get? s.heap.objs.size=some _:=up (up (up (up (yD _ rfl))));rw[n2,n3,n4] at a5;rw[n3] at a4;rw[n1,n2] at a3;rw[n1] at a2;show _/\_
 rw[n4];exact⟨⟨_,a5,rfl⟩,go _ a5 a3 a4 ⟨_,a1,rfl,rfl⟩ ⟨_,a2,rfl,rfl⟩ λ c o e=>up (up (up (up (up e))))⟩
end
def u3 (K:yy)(xs:List V)(l:Addr):It:=
  ⟨λ i H=>∃ (ys:List V) (x y:V),SqL K H l ys/\xs[i]?=some x/\ys[i]?=some y,
   λ i H v H'=>∃ p,H p=none/\v=.ref p/\∀ ys,SqL K H l ys->∃ x y,xs[i]?=some x/\ys[i]?=some y/\H'=upd H p (.tup [x,y]),
   λ i H=>∃ ys,SqL K H l ys/\(xs.length<=i\/ys.length<=i)⟩
theorem mw {P:Program}{w:World}{K:yy}{es:List Expr}{kt:Nat}{tpos:Pos}{z TI TO i1 i2 t l:Addr}{ot:Obj}{us:List Value}{xs:List V}{nt:Nat}(Dz:ZipApart z TI TO i1 i2 t l)
  (kt':K.lookup t=some ot) (ct:ot.cls=.type "tuple") (dt:ot.data=.seq us.toArray nt) (rt:Vals xs us):
  Turn P w K (.Tuple es kt tpos) (u3 K xs l) [z,TI,TO,i1,i2] z (λ i h=>IsZip h z TI TO .none/\IsPair h TI (.ref i1) (.ref i2)/\(∃ a b,IsPair h TO a b)/\h.IsTupleIter i1 t i/\h.IsListIter i2 l i) where
 mem:=by simp
 obj:=λ i h ⟨a1,a2,⟨_,_,a3⟩,⟨o4,e4,_,d4⟩,⟨o5,e5,_,d5⟩⟩ b hb=>by
  simp only[wz,wu,or_false] at hb
  rcases hb with rfl|rfl|rfl|rfl|rfl
  ·exact⟨_,a1,λ v q=>by cases q⟩
  ·exact⟨_,a2,λ v q=>by cases q⟩
  ·exact⟨_,a3,λ v q=>by cases q⟩
  ·exact⟨_,e4,λ v q=>by rw[d4] at q;cases q⟩
  ·exact⟨_,e5,λ v q=>by rw[d5] at q;cases q⟩
 keep:=λ i h h' ⟨a1,a2,⟨x,y,a3⟩,a4,a5⟩ k=>⟨k z (by simp) _ a1,k TI (by simp) _ a2,⟨x,y,k TO (by simp) _ a3⟩,a4.at λ o e=>k i1 (by simp) o e,a5.at λ o e=>k i2 (by simp) o e⟩
 item:=by
  intro X hP hw hK hc i pins s σ H E I hf ⟨a1,a2,⟨xa,xb,a3⟩,a4,a5⟩ hg;subst hP hw hK;obtain⟨ys,x,y,hq2,hx,hy⟩:=hg;have tt:s.heap.IsTuple t us.toArray:=⟨ot,I.kIn t _ kt',ct,nt,dt⟩;obtain⟨its2,r2,p2,z2⟩:=I.list hq2;obtain⟨u1,e1,ru1⟩:=rt.get hx;obtain⟨u2,e2,ru2⟩:=r2.get hy;refine l8 (k:=i) Dz (ic (xs:=us.toArray) Dz.l1i1) (jt (xs:=its2.toArray) Dz.l2i2) a1 a2 a3 ⟨a4,tt⟩ ⟨a5,p2.isList⟩ (by simpa using e1) (by simpa using e2) λ h' b1 b2 b3 b4 b5 kk=>?_
  refine⟨_,rfl,wpAny_letOwnedTupleGo_zip b1 λ h2 hz sb=>?_⟩;have hf0:H s.heap.objs.size=none:=I.hok.fresh (wm _);have ltz:s.heap.objs.size≠z:=w9 (yA a1);have kept:∀ b o,b∉[z,TI,TO,i1,i2]->s.heap.get? b=some o->h2.get? b=some o:=λ b o hb e=>by
   simp only[wz,wu,or_false,not_or] at hb;exact(sb.2 b hb.1).trans (kk b o (by simp[hb]) e)
  have I2:Inv X pins σ H { s with heap:=h2 }:=Inv.but I hf kept;have tp:IsTup h2 s.heap.objs.size #[u1,u2]:=⟨_,(sb.2 _ ltz).trans b5,rfl,_,rfl⟩;have I3:Inv X pins σ (upd H s.heap.objs.size (.tup [x,y])) { s with heap:=h2 }:=by
   have hk2:HOk X.prog X.w (upd H s.heap.objs.size (.tup [x,y])) h2:=b7 I2.hok hf0 ⟨by show 2<=sizeLine;decide,[u1,u2],.cons ru1 (.cons ru2 .nil),tp⟩;have nsz:∀ b o,s.heap.get? b=some o->b≠s.heap.objs.size:=λ b o e=>wb (yA e)
   refine I.step (g':=s.gens) (d':=s.drawn) (t':=s.toks) (ch:=[z,TI,TO,i1,i2]) (λ b hb=>⟨(hf b hb).2.2.2.1,(hf b hb).2.1,(hf b hb).2.2.2.2.1,(hf b hb).2.2.2.2.2⟩) (λ b o _ _ hc e _=>kept b o hc e) (λ b o _ _ hc e _=>⟨o.slots,kept b o hc e⟩) (λ b o _ e n=>by rw[ai (nsz b o e)];exact n)
    (λ b o hc e=>⟨o,kept b o hc e⟩) (λ b us e=>by rw[ai (ak e hf0)];exact e) (λ b ob us e=>by rw[ai (ak e hf0)];exact e) (λ b ps e=>⟨#[],by rw[ai (ak e hf0),e];simp⟩) (λ m hm=>?_) hk2 I.bare
   obtain⟨o,es,ep,ho,r⟩:=hm;exact⟨o,es,ep,kept _ _ (λ hb=>(hf _ hb).2.1 rfl) ho,r⟩
  refine⟨.ref s.heap.objs.size,_,I3,rfl,⟨s.heap.objs.size,hf0,rfl,λ bs h2'=>?_⟩,⟨hz,?_,⟨u1,u2,(sb.2 TO Dz.TOz).trans b2⟩,b3.1.extBut sb.extBut Dz.i1z,b4.1.extBut sb.extBut Dz.i2z⟩,λ b hb=>?_⟩
  ·exact⟨x,y,hx,by rw[I.list_inj h2' hq2];exact hy,rfl⟩
  ·exact(sb.2 TI Dz.TIz).trans (kk TI _ (by simp[Dz.TIz,Dz.TITO,Dz.TIi1,Dz.TIi2]) a2)
  ·have hbs:b≠s.heap.objs.size:=by
    simp only[wz,wu,or_false] at hb
    rcases hb with rfl|rfl|rfl|rfl|rfl
    ·exact wb (yA a1)
    ·exact wb (yA a2)
    ·exact wb (yA a3)
    ·obtain⟨o,e,_⟩:=a4;exact wb (yA e)
    ·obtain⟨o,e,_⟩:=a5;exact wb (yA e)
   rw[ai hbs];exact(hf b hb).1
 done:=by
  intro X hP hw hK hc i pins s σ H E I hf ⟨a1,a2,⟨xa,xb,a3⟩,a4,a5⟩ hg;subst hP hw hK;obtain⟨ys,hq2,hx⟩:=hg;have tt:s.heap.IsTuple t us.toArray:=⟨ot,I.kIn t _ kt',ct,nt,dt⟩;obtain⟨its2,r2,p2,z2⟩:=I.list hq2;have n1:=rt.length;have n2:=r2.length;refine oX (k:=i) (I.ok.hd hc) Dz (ic (xs:=us.toArray) Dz.l1i1) (jt (xs:=its2.toArray) Dz.l2i2) a1 a2 a3 ⟨a4,tt⟩ ⟨a5,p2.isList⟩ (by
   rcases hx with hx|hx
   ·left;simp;omega
   ·right;simp;omega) λ h' kk=>⟨rfl,Inv.but I hf λ b o hb e=>?_⟩
  simp only[wz,wu,or_false,not_or] at hb;exact kk b o (by simp[hb]) e
 self:=λ _ _ _ _ _ st h=>wpAny_pyIter_zip st.1 h
def stO (z:List Nat):Str:=⟨z.toArray⟩
theorem eO {a b:List Nat}(h:stO a=stO b):a=b:=by
 have h:a.toArray=b.toArray:=congrArg Str.cps h;simpa using h
def g6 (w:World)(K:yy):List DictEntry->Dv.Frm->Prop
 | [],[]=>True
 | e::es,p::ps=>(e.hash=ng w (.inr (stO p.1))/\(∃ t,e.key=.str (stO p.1) t)/\∃ b ot us nt,e.val=.ref b/\K.lookup b=some ot/\ot.cls=.type "tuple"/\ot.data=.seq us.toArray nt/\us.length<=100/\Vals (p.2.map λ z=>V.str (stO z)) us)/\g6 w K es ps
 | _,_=>False
structure FormsK (w:World)(K:yy)(a:Addr)(T:Dv.Frm):Prop where
 lk:∃ es ep,K.lookup a=some { cls:=.type "dict",data:=.dict es ep }/\g6 w K es.toList T
 nd:(T.map (·.1)).Nodup
 ns:(a == sysModules)=false
theorem gj {prog:Program}{w:World}{K:yy}:∀ {es:List DictEntry} {T:Dv.Frm},g6 w K es T->∃ kvs:List (Key×Value),(∀ e∈es,∃ k,(ay prog w).is k e.key=true/\e.hash=(ay prog w).hash k)/\Pairs (ay prog w) es kvs/\kvs.map (·.1)=T.map (λ p=>.inr (stO p.1)) /\
  ∀ z,(match Dv.frmAt T z with
   | none=>valueAt kvs (.inr (stO z))=none
   | some fs=>∃ b ot us nt,valueAt kvs (.inr (stO z))=some (.ref b)/\K.lookup b=some ot/\ot.cls=.type "tuple"/\ot.data=.seq us.toArray nt/\us.length<=100/\Vals (fs.map λ z=>V.str (stO z)) us)
 | [],[],_=>⟨[],λ e he=>(by cases he),.nil,rfl,λ z=>rfl⟩
 | e::es,p::T,h=>by
  obtain⟨⟨h1,⟨t,h2⟩,b,ot,us,nt,h3,h4,h5,h6,h7,h8⟩,hr⟩:=h;obtain⟨kvs,g1,g2,g3,g4⟩:=gj (prog:=prog) hr;have hk:(ay prog w).is (.inr (stO p.1)) e.key=true:=by rw[h2];exact bZ (stO p.1) t
  refine⟨(.inr (stO p.1),.ref b)::kvs,λ e' he=>?_,.cons hk h3 g2,by rw[we,we,g3],λ z=>?_⟩
  ·rcases List.mem_cons.mp he with rfl|he
   ·exact⟨_,hk,h1⟩
   ·exact g1 e' he
  ·have g:=g4 z
   unfold Dv.frmAt valueAt at *;rw[wQ,wQ];by_cases c:p.1=z
   ·have c2:((.inr (stO p.1):Key)=.inr (stO z)):=by rw[c]
    simp only[decide_eq_true c,decide_eq_true c2];exact⟨b,ot,us,nt,rfl,h4,h5,h6,h7,h8⟩
   ·have c2:¬ ((.inr (stO p.1):Key)=.inr (stO z)):=λ q=>c (eO (z7 q))
    simp only[decide_eq_false c,decide_eq_false c2];exact g
theorem FormsK.dict {prog:Program}{w:World}{K:yy}{a:Addr}{T:Dv.Frm}(F:FormsK w K a T){h:Heap}(hk:K.In h):∃ kvs,h.DictOf (ay prog w) a kvs /\
  ∀ z,(match Dv.frmAt T z with
   | none=>valueAt kvs (.inr (stO z))=none
   | some fs=>∃ b ot us nt,valueAt kvs (.inr (stO z))=some (.ref b)/\K.lookup b=some ot/\ot.cls=.type "tuple"/\ot.data=.seq us.toArray nt/\us.length<=100/\Vals (fs.map λ z=>V.str (stO z)) us):=by
 obtain⟨es,ep,l,f⟩:=F.lk;obtain⟨kvs,g1,g2,g3,g4⟩:=gj (prog:=prog) f;refine⟨kvs,⟨_,es,ep,hk a _ l,⟨rfl,rfl,rfl⟩,rfl,λ e he=>g1 e (by simpa using he),g2,?_⟩,g4⟩;rw[g3];have:=F.nd;generalize T=T at this
 induction T with
 | nil=>exact .nil
 | cons p r ih=>
  rw[we] at this ⊢;obtain⟨n1,n2⟩:=List.nodup_cons.mp this;refine List.nodup_cons.mpr ⟨λ z=>?_,ih n2⟩;obtain⟨q,hq,e⟩:=List.mem_map.mp z;exact n1 (List.mem_map.mpr ⟨q,hq,eO (z7 e)⟩)
theorem pI {X:Cx}{a:Addr}{T:Dv.Frm}(F:FormsK X.w X.K a T):OpR X (compareOp .NotIn) (λ x y H Q=>∃ z,x=.str (stO z)/\y=.ref a/\Q (.bl (!(Dv.frmAt T z).isSome)) H):=by
 intro pins s σ H x y v u Q I rx ry h;obtain⟨z,rfl,rfl,q⟩:=h;obtain⟨t,rfl⟩:=rx;cases ry;obtain⟨kvs,dd,g⟩:=F.dict (prog:=X.prog) I.kIn;refine wpAny_notIn_of (knd:=ay X.prog X.w) (k:=.inr (stO z)) (bZ (stO z) t) F.ns dd.mapOf ?_
 have e:(valueAt kvs (.inr (stO z))).isSome=(Dv.frmAt T z).isSome:=by
  have:=g z
  split at this
  ·rename_i q;rw[this,q];rfl
  ·rename_i fs q
   obtain⟨b,_,_,_,e,_⟩:=this;rw[e,q];rfl
 rw[e];exact⟨.bl _,H,I.tok _,rfl,q⟩
theorem mO {X:Cx}{a:Addr}{T:Dv.Frm}{i:Expr}{ti:TE}{n:Str}{p pos:Pos}(F:FormsK X.w X.K a T)(hg:Gl X n)(hm:X.mg n=some (.ref a))(hi:PE X i ti)(hs:lK i)(hd:autoParam ((n == ("__debug__":Str))=false) ZC._auto_1):
  PE X (.Subscript (.Name n p) i pos) (λ σ H Q=>ti σ H λ x H1=>∃ z fs,x=.str (stO z)/\Dv.frmAt T z=some fs/\∀ b ot us nt,X.K.lookup b=some ot->ot.cls=.type "tuple"->ot.data=.seq (List.toArray us) nt->us.length<=100->Vals (fs.map λ z=>V.str (stO z)) us->Q (.ref b) H1):=by
 intro pins s σ H Q I h;refine kZ PySem.F.slot_dict_getitem.lookup hs (thn (cm (v:=.ref a) hg hm rfl hd pins s σ H (λ v H'=>v=.ref a/\H'=H) I ⟨rfl,rfl⟩) λ u s1 ⟨v1,H1,I1,r1,e1,e2⟩=>?_);subst e1 e2;cases r1;refine thn (hi pins s1 σ H1 _ I1 h) λ iv s2 ⟨y,H2,I2,ry,z,fs,e,hf,q⟩=>?_
 subst e;obtain⟨t,rfl⟩:=ry;obtain⟨kvs,dd,g⟩:=F.dict (prog:=X.prog) I2.kIn;have g:=g z;rw[hf] at g;obtain⟨b,ot,us,nt,e1,e2,e3,e4,e5,e6⟩:=g;exact⟨dd.typeIs,wpAny_getItem_of (knd:=ay X.prog X.w) (k:=.inr (stO z)) (bZ (stO z) t) dd.mapOf e1 ⟨.ref b,H2,I2.tok _,rfl,q b ot us nt e2 e3 e4 e5 e6⟩⟩
section
variable {C:Ctx}{a b:Expr}{f g:EE}{pos:Pos}{aF:Addr}{T:Dv.Frm}{n:Str}
theorem pB {p:Pos}(F:FormsK C.X.w C.X.K aF T)(hg:Gl C.X n)(hm:C.X.mg n=some (.ref aF))(ha:SE C a f)(hd:autoParam ((n == ("__debug__":Str))=false) ZC._auto_1)(hb:autoParam (behindInMarks .NotIn (.Name n p)=false) ZL._auto_1):SC C (.Compare a [.NotIn] [.Name n p] pos) (Dv.eB1 (Dv.ninFD T) f):=by
 obtain⟨ta,pa,qa⟩:=ha;refine⟨_,fP (pI F) pa (cm (v:=.ref aF) hg hm rfl hd) hb,λ σ H Hv ρ Q e s q=>?_⟩;refine qa.step e (.refl s) q λ v d fr Hv1 H1 _ x1 _ rp1 _ q1=>?_
 cases d with
 | str z=>
  unfold Rp at rp1;subst rp1;exact⟨Dv.clipS z,rfl,rfl,(show Ok C.X.K Hv H (C.W σ) C.cls (.ok (.bl (!(Dv.frmAt T (Dv.clipS z)).isSome)) true) _ from q1).at x1 bI rfl⟩
 | _=>exact Zf q1
theorem pV {p pl sp:Pos}(F:FormsK C.X.w C.X.K aF T)(hg:Gl C.X n)(hm:C.X.mg n=some (.ref aF))(hgl:Gl C.X "len")(hml:C.X.mg "len"=none)(ha:SE C a f)(hs:autoParam (lK a) ZK._auto_1)(hd:autoParam ((n == ("__debug__":Str))=false) ZC._auto_1)
  (he:autoParam (starEach [.Subscript (.Name n p) a sp] C.X.env=[(false,eval (.Subscript (.Name n p) a sp) C.X.env)]) ZF._auto_1):SE C (.Call (.Name "len" pl) [.Subscript (.Name n p) a sp] [] pos) (Dv.eB1 (Dv.lenFD T) f):=by
 obtain⟨ta,pa,qa⟩:=ha;refine⟨_,cB eK hgl hml Ar (au (mO F hg hm pa hs hd) aM he),λ σ H Hv ρ Q e s q=>?_⟩;refine qa.step e (.refl s) q λ v d fr Hv1 H1 _ x1 _ rp1 _ q1=>?_
 cases d with
 | str z=>
  unfold Rp at rp1;subst rp1;have q1:Ok C.X.K Hv H (C.W σ) C.cls (match Dv.frmAt T (Dv.clipS z) with|some fs=>.ok (.int fs.length) true|none=>.bad) Q:=q1;cases hf:Dv.frmAt T (Dv.clipS z) with
  | none=>rw[hf] at q1;exact Zf q1
  | some fs=>
   rw[hf] at q1;refine⟨Dv.clipS z,fs,rfl,hf,λ b ot us nt h1 h2 h3 h4 h5=>⟨b,_,rfl,.inr (.inr ⟨ot,us.toArray,nt,h1,h2,h3,by rw[wj,zt];omega,by simpa using h5⟩),?_⟩⟩;rw[wg];exact q1.at x1 bp rfl
 | _=>exact Zf q1
end
def tL (K:yy)(ta:TA):TI:=λ σ H T=>ta σ H λ vs H1=>∃ t l ot us nt xs ys,vs=[.ref t,.ref l]/\K.lookup t=some ot/\ot.cls=.type "tuple"/\ot.data=.seq (List.toArray us) nt/\Vals xs us/\SqL K H1 l ys/\T (u3 K xs l) H1
theorem pG {X:Cx}{a b:Expr}{ta:TA}{es:List Expr}{kt:Nat}{tpos p pos:Pos}(hg:Gl X "zip")(hm:X.mg "zip"=none)(ha:PA X [a,b] ta)(hs:starEach [a,b] X.env=[(false,eval a X.env),(false,eval b X.env)])(hs2:starEach [b] X.env=[(false,eval b X.env)]):
  PI X (.Tuple es kt tpos) (.Call (.Name "zip" p) [a,b] [] pos) (tL X.K ta):=by
 intro pins s σ H R I h;refine Call_ (cD I hg hm (by decide +kernel:bootBuiltins "zip"=some (.type "zip")) (yQ (thn (ha pos pins s σ H _ I h) λ us s1 ⟨vs,H1,I1,r1,q1⟩=>?_) (by rw[hs,hs2]) (by rw[hs2];rfl)));obtain⟨t,l,ot,its1,nt,xs,ys,rfl,k1,k2,k3,rr1,hq2,q⟩:=q1;obtain⟨u1,u2,rfl,e1,e2⟩:=vals2 r1;cases e1;cases e2;have tt:s1.heap.IsTuple t its1.toArray:=⟨ot,I1.kIn t _ k1,k2,nt,k3⟩;obtain⟨its2,rr2,p2,z2⟩:=I1.list hq2;refine lJ tt p2.isList λ h' c1 c2 c3 c4 c5 kk=>?_
 have lt1:t<s1.heap.objs.size:=by obtain⟨o,e,_⟩:=tt;exact yA e
 have lt2:l<s1.heap.objs.size:=by obtain⟨o,e,_⟩:=p2.isList;exact yA e
 have I2:Inv X pins σ H1 { s1 with heap:=h' }:=I1.kept (t':=s1.toks) kk;generalize hN:s1.heap.objs.size=N at c1 c2 c3 c4 c5 lt1 lt2 ⊢;have Dz:ZipApart (N+4) (N+2) (N+3) N (N+1) t l:=by
  have far:∀ {l:Addr},l<N->∀ k:Nat,l≠N+k:=λ h k=>wb (wq h (wU _ _))
  have ne:∀ {a b:Nat},a<b->a≠b:=λ h=>wb h
  have ne':∀ {a b:Nat},b<a->a≠b:=λ h=>w9 h
  exact⟨ne ⋯,ne ⋯,ne ⋯,ne ⋯,ne ⋯,ne' ⋯,ne' ⋯,ne' ⋯,ne' ⋯,ne ⋯,far lt1 4,far lt1 3,wb lt1,far lt1 1,far lt2 4,far lt2 3,wb lt2,far lt2 1⟩
 refine wpAny_pyIter_zip c1 ⟨N+4,[N+4,N+2,N+3,N,N+1],_,_,H1,rfl,I2,mw Dz k1 k2 k3 rr1,⟨c1,c2,⟨_,_,c3⟩,c4,c5⟩,λ b hb=>?_,q⟩;have hb':s1.heap.objs.size<=b:=by
  rw[hN];simp only[wz,wu,or_false] at hb
  rcases hb with rfl|rfl|rfl|rfl|rfl
  ·exact wU _ _
  ·exact wU _ _
  ·exact wU _ _
  ·exact wm _
  ·exact wU _ _
 exact I1.fpOk hb' (I1.hok.fresh hb')
theorem j6 {T:Dv.Frm}(hT:∀ p∈T,∀ z∈p.2,∀ x∈z,x<1114112){z:List Nat}{fs:List (List Nat)}(h:Dv.frmAt T z=some fs):∀ y∈fs,Dv.clipS y=y:=λ y hy=>by
 unfold Dv.frmAt at h;obtain⟨p,hp,rfl⟩:=Option.map_eq_some_iff.mp h;exact eP (hT p (List.mem_of_find?_eq_some hp) y hy)
theorem pD {C:Ctx}{a b:Expr}{f g:EE}{es:List Expr}{kt:Nat}{tpos p pz pos sp:Pos}{aF:Addr}{T:Dv.Frm}{n:Str}(F:FormsK C.X.w C.X.K aF T)(hT:∀ p∈T,∀ z∈p.2,∀ x∈z,x<1114112)(hgn:Gl C.X n)(hmn:C.X.mg n=some (.ref aF))(hg:Gl C.X "zip")(hm:C.X.mg "zip"=none)(ha:SE C a f)(hb:SE C b g)
  (hsl:autoParam (lK a) ZK._auto_1) (hd:autoParam ((n == ("__debug__":Str))=false) ZC._auto_1)
  (hs:autoParam (starEach [.Subscript (.Name n p) a sp,b] C.X.env=[(false,eval (.Subscript (.Name n p) a sp) C.X.env),(false,eval b C.X.env)]) ZF._auto_1) (hs2:autoParam (starEach [b] C.X.env=[(false,eval b C.X.env)]) ZF._auto_1):
  SI C (.Tuple es kt tpos) (.Call (.Name "zip" pz) [.Subscript (.Name n p) a sp,b] [] pos) (Dv.iZipF T f g):=by
 obtain⟨t,pe,q⟩:=ha;obtain⟨t2,pe2,q2⟩:=hb;refine⟨_,pG hg hm (au (mO F hgn hmn pe hsl hd) (au pe2 aM hs2) (by rw[hs,hs2])) hs hs2,λ σ H Hv ρ R er s w=>?_⟩;refine q σ H Hv ρ _ er s ?_
 unfold Dv.iZipF at w;cases hf:f ρ with
 | bad=>rw[hf] at w;exact w
 | exc c=>rw[hf] at w;exact w
 | ok d fr=>
  rw[hf] at w;intro v Hv' H' x rp nn;cases d with
  | str z=>
   unfold Rp at rp;subst rp;simp only at w;cases hfr:Dv.frmAt T (Dv.clipS z) with
   | none=>rw[hfr] at w;exact Zf w
   | some fs=>
    rw[hfr] at w;simp only at w;refine⟨Dv.clipS z,fs,rfl,hfr,λ bt ot us nt k1 k2 k3 k4 k5=>?_⟩;refine q2 σ H' Hv' ρ _ (er.same x.vv) x.vh ?_
    cases hg':g ρ with
    | bad=>rw[hg'] at w;exact w
    | exc c=>rw[hg'] at w;exact λ Hv2 H2 y=>w Hv2 H2 (x.trans y)
    | ok d2 fr2=>
     rw[hg'] at w;intro v2 Hv2 H2 y rp2 n2;cases d2 with
     | lst ys=>
      unfold Rp at rp2;obtain⟨l2,ws,rfl,h3,h4⟩:=rp2;refine⟨bt,l2,ot,us,nt,_,ws,rfl,k1,k2,k3,k5,(h3.same y.vh).seq,w _ Hv2 H2 (x.trans y) λ i H3 s3=>⟨λ d hd=>?_,λ hi=>?_⟩⟩
      ·obtain⟨dx,dy,g1,g2,rfl⟩:=zip_get hd
       rw[wx] at g1;obtain⟨zx,k6,rfl⟩:=Option.map_eq_some_iff.mp g1;have k1':(fs.map λ z=>V.str (stO z))[i]?=some (V.str (stO zx)):=by rw[wx,k6];rfl
       obtain⟨vy,k3',k4'⟩:=h4.get g2;refine⟨⟨ws,_,vy,(h3.same s3).seq,k1',k3'⟩,λ u H4 ⟨p,hp,e1,hh⟩=>?_⟩;obtain⟨x',y',m1,m2,rfl⟩:=hh ws (h3.same s3).seq;rw[k1'] at m1;rw[k3'] at m2;cases m1;cases m2;subst e1;have nx:=Ext.new1 s3 hp (.tup [V.str (stO zx),vy]);refine⟨_,nx,?_⟩;have rz:∀ {K:yy} {H:Hp},Rp K H (.str zx) (V.str (stO zx)):=λ {K H}=>by
        have:=bT (K:=K) (H:=H) (x:=zx);rw[j6 hT hfr zx (xc k6)] at this;exact this
       unfold Rp;exact⟨p,_,rfl,.inl ao,.cons rz (.cons (k4'.same nx.vv) .nil)⟩
      ·refine⟨ws,(h3.same s3).seq,?_⟩
       have hl4:=h4.length;rw[List.length_zipWith,wg] at hi;rw[wg];omega
     | _=>exact Zf w
  | _=>exact Zf w
end Sd
namespace Dv
inductive DR where
 | ok (ks:List (List Nat))
 | exc (c:String)
 | bad
structure Dk where
 t1:EE
 g1:EE
 t2:EE
 g2:EE
 g3:EE
 t3:EE
 fz:EE
 a1:EE
 a2:EE
 a3:EE
 f1:EE
 fw:EE
 fy:EE
 fx:EE
 T:Frm
def keepW (ks:List (List Nat))(w:List Nat):DR:=
 if 30<ks.length then .bad else if w∈ks then .ok ks else if ks.length=30 then .exc "TooMany" else .ok (ks++[w])
def doneW (ks:List (List Nat)):R->DR
 | .ok _ _=>.ok ks
 | .exc c=>.exc c
 | .bad=>.bad
def rdW (k:Dk)(ks:List (List Nat))(f z:List Nat):DR:=
 let ρ:Env:=[none,some (.str f),some (.str z)]
 match k.t1 ρ with
 | .ok (.bl true) _=>doneW ks (k.g1 ρ)
 | .ok (.bl false) _=>match k.t2 ρ with
  | .ok (.bl true) _=>doneW ks (k.g2 ρ)
  | .ok (.bl false) _=>match k.g3 ρ with
   | .ok _ _=>match k.t3 ρ with
    | .ok (.bl true) _=>.ok ks
    | .ok (.bl false) _=>if clipS z∈ks then .ok ks else .exc "NoName"
    | _=>.bad
   | .exc c=>.exc c
   | .bad=>.bad
  | _=>.bad
 | _=>.bad
def rdAll (k:Dk)(ks:List (List Nat)):List D->DR
 | []=>.ok ks
 | .tup [.str f,.str z]::r=>match rdW k ks f z with
  | .ok _=>rdAll k ks r
  | .exc c=>.exc c
  | .bad=>.bad
 | _=>.bad
def ansW (k:Dk)(ks:List (List Nat))(dw:D)(n:Nat):DR:=
 match k.fz [none,some dw,none] with
 | .ok d _=>
  let ρ:Env:=[none,some dw,none,some d]
  match k.a1 ρ with
  | .ok (.bl false) _=>match k.a2 ρ with
   | .ok (.bl false) _=>match k.a3 ρ with
    | .ok (.bl true) _=>match k.f1 ρ with
     | .ok (.str w) _=>if 2<=n then keepW ks (clipS w) else .bad
     | _=>.bad
    | _=>.bad
   | _=>.bad
  | _=>.bad
 | _=>.bad
def sayW (k:Dk)(ks:List (List Nat))(d:D):DR:=
 match k.fw [none,some d] with
 | .ok dw _=>match iZipF k.T k.fx k.fy [none,some d,some dw] with
  | .ok its _=>if its.length<=mx then match rdAll k ks its with
    | .ok _=>ansW k ks dw its.length
    | .exc c=>.exc c
    | .bad=>.bad
   else .bad
  | _=>.bad
 | .exc c=>.exc c
 | .bad=>.bad
def sDesk1 (k:Dk)(f:EE):SS:=λ st=>match f (all st) with
 | .ok d _=>match sayW k [] d with
  | .exc c=>.exc c st
  | _=>.bad
 | _=>.bad
def sDesk2 (i:Nat)(k:Dk)(f g:EE):SS:=λ st=>if i<st.length then
  match f (all (st.set i .no)) with
  | .ok d _=>match sayW k [] d with
   | .ok ks=>match g (all (st.set i .no)) with
    | .ok d' _=>match sayW k ks d' with
     | .exc c=>.exc c (st.set i .no)
     | _=>.bad
    | _=>.bad
   | _=>.bad
  | _=>.bad
 else .bad
def goW (k:Dk)(f:EE)(ρ:Env)(j:Nat)(ks:List (List Nat)):List D->DR
 | .int n::r=>match f (ρ.set j (some (.int n))) with
  | .ok d _=>match sayW k ks d with
   | .ok ks'=>goW k f ρ j ks' r
   | .exc c=>.exc c
   | .bad=>.bad
  | _=>.bad
 | _=>.bad
def sDeskF (i j:Nat)(k:Dk)(fi:EI)(f:EE):SS:=λ st=>if i<st.length/\j≠i then
  match fi (all (st.set i .no)) with
  | .ok ds _=>match goW k f (all (st.set i .no)) j [] ds with
   | .exc c=>.exc c ((st.set i .no).set j .no)
   | _=>.bad
  | _=>.bad
 else .bad
def eWh (f g:EE):EE:=λ ρ=>(f ρ).bind λ x _=>(g ρ).bind λ y _=>.ok (.ins ["length","beat"] [x,y]) false
def inKD (ks:List (List Nat)):D->Bool->R
 | .str z,_=>.ok (.bl (decide (clipS z∈ks))) true
 | _,_=>.bad
end Dv
namespace Sd
open PySem PySem.Spec PyProof.Rows L2
open Dv (D R RL EE EL EI RI Sl Out SS DR Dk)
structure DkT (K:yy)(CD CH:Addr):Prop where
 clD:Cls K CD
 clH:Cls K CH
 nWheels:NoAttr K CD "wheels"
 nLength:NoAttr K CH "length"
 nBeat:NoAttr K CH "beat"
def kyS (z:List Nat):Key:=.inr (stO z)
structure DkAt (CD:Addr)(Hv₀ H₀ Hs H:Hp)(x dw:Addr)(ks:List (List Nat)):Prop where
 sv:Same Hs H
 oh:Same H₀ H
 bs:Bs Hv₀ H₀ Hs H
 nv:Hs dw=none
 n0:H₀ dw=none
 ne:x≠dw
 ins:∃ dx,H x=some (.ins CD dx [("wheels",.ref dw)])
 dk:∃ kvs:List (Key×V),H dw=some (.dK kvs)/\kvs.map (·.1)=ks.map kyS
section
variable {CD:Addr}{Hv₀ H₀ Hs H Hs' H':Hp}{x dw:Addr}{ks:List (List Nat)}
theorem DkAt.grow (d:DkAt CD Hv₀ H₀ Hs H x dw ks)(hh:Same H H')(vv:Same Hs Hs')(vh:Same Hs' H')(new:∀ b o,Hs' b=some o->Hs b=none->H b=none)(nf:∀ b o u,H b=none->H' b≠some (.frz o u)):DkAt CD Hv₀ H₀ Hs' H' x dw ks:=by
 obtain⟨kvs,h1,h2⟩:=d.dk;obtain⟨dx,h3⟩:=d.ins;refine⟨vh,d.oh.trans hh,⟨d.bs.vv.trans vv,λ b o h n=>?_,λ b o u h z=>?_⟩,?_,d.n0,d.ne,⟨dx,hh _ _ h3⟩,⟨kvs,hh _ _ h1,h2⟩⟩
 ·cases q:Hs b with
  | some u=>exact d.bs.nw b u q n
  | none=>exact d.oh.free (new b o h q)
 ·cases q:H b with
  | none=>exact nf b o u q z
  | some o'=>
   have:=hh _ _ q;rw[z] at this;cases this;exact d.bs.nf b o u h q
 ·cases q:Hs' dw with
  | none=>rfl
  | some u=>rw[new dw u q d.nv] at h1;cases h1
theorem DkAt.ext (d:DkAt CD Hv₀ H₀ Hs H x dw ks)(e:Ext Hs H Hs' H'):DkAt CD Hv₀ H₀ Hs' H' x dw ks:=d.grow e.hh e.vv e.vh e.new e.nf
theorem DkAt.more (d:DkAt CD Hv₀ H₀ Hs H x dw ks)(hh:Same H H')(nf:∀ b o u,H b=none->H' b≠some (.frz o u)):DkAt CD Hv₀ H₀ Hs H' x dw ks:=
 d.grow hh (.refl _) (d.sv.trans hh) (λ b o h n=>by rw[n] at h;cases h) nf
theorem DkAt.put (d:DkAt CD Hv₀ H₀ Hs H x dw ks){kvs:List (Key×V)}{ks':List (List Nat)}(h:kvs.map (·.1)=ks'.map kyS):DkAt CD Hv₀ H₀ Hs (upd H dw (.dK kvs)) x dw ks':=by
 obtain⟨dx,h3⟩:=d.ins;refine⟨λ b o e=>?_,λ b o e=>?_,⟨d.bs.vv,d.bs.nw,λ b o u e z=>?_⟩,d.nv,d.n0,d.ne,⟨dx,by rw[ai d.ne];exact h3⟩,⟨kvs,ao,h⟩⟩
 ·rw[ai (λ z=>by subst z;rw[d.nv] at e;cases e)];exact d.sv b o e
 ·rw[ai (λ z=>by subst z;rw[d.n0] at e;cases e)];exact d.oh b o e
 ·by_cases q:b=dw
  ·subst q;rw[ao] at z;cases z
  ·rw[ai q] at z;exact d.bs.nf b o u e z
end
def OkD (CD:Addr)(cls:String->Value)(Hv₀ H₀ Hs:Hp)(x dw:Addr)(r:DR)(Q:VK)(E:XK):Prop:=match r with
 | .ok ks=>∀ v Hs' H',DkAt CD Hv₀ H₀ Hs' H' x dw ks->Same Hs Hs'->Q v H'
 | .exc c=>∀ H',Same H₀ H'->(∀ b o u,H₀ b=none->H' b≠some (.frz o u))->E (cls c) none H'
 | .bad=>False
theorem OkD.exc {CD:Addr}{cls:String->Value}{Hv₀ H₀ Hs Hs' H':Hp}{x dw:Addr}{Q:VK}{E:XK}{c:String}{ks:List (List Nat)}(h:OkD CD cls Hv₀ H₀ Hs x dw (.exc c) Q E)(d:DkAt CD Hv₀ H₀ Hs' H' x dw ks):E (cls c) none H':=h H' d.oh d.bs.nf
def jV (CD:Addr):Sp:=λ vs H Q _=>∃ (x dx:Addr),vs=[.ref x]/\H x=some (.ins CD dx [])/\∀ p,H p=none->Q .non (upd (upd H p (.dK [])) x (.ins CD dx [("wheels",.ref p)]))
theorem oM {CD:Addr}(vs:List V)(H:Hp)(Q:VK)(E:XK)(h:jV CD vs H Q E):vs.length=1:=by
 obtain⟨_,_,rfl,_⟩:=h;rfl
theorem pW {K:yy}{CD CH:Addr}{vs:List V}{H:Hp}{Q:VK}{E:XK}(T:DkT K CD CH)(h:jV CD vs H Q E):
  qv K (aZ 0) oJ "wheels" { nx:=λ _ H'=>Q .non H',rt:=Q } (L2.start ["self"] vs) H:=by
 obtain⟨x,dx,rfl,hx,q⟩:=h;intro p hp;exact⟨_,rfl,x,CD,dx,[],rfl,by rw[ai (ak hx hp)];exact hx,T.clD,T.nWheels,by decide,q p hp⟩
def mU (CH:Addr):Sp:=λ vs H Q _=>∃ (x dx:Addr) (v1 v2:V),vs=[.ref x,v1,v2]/\H x=some (.ins CH dx [])/\Q .non (upd H x (.ins CH dx [("length",v1),("beat",v2)]))
theorem mV {CH:Addr}(vs:List V)(H:Hp)(Q:VK)(E:XK)(h:mU CH vs H Q E):vs.length=3:=by
 obtain⟨_,_,_,_,rfl,_⟩:=h;rfl
theorem p6 {K:yy}{CD CH:Addr}{vs:List V}{H:Hp}{Q:VK}{E:XK}(T:DkT K CD CH)(h:mU CH vs H Q E):
  cP (qv K (aZ 0) (aZ 1) "length") (qv K (aZ 0) (aZ 2) "beat") { nx:=λ _ H'=>Q .non H',rt:=Q } (L2.start ["self","length","beat"] vs) H:=by
 obtain⟨x,dx,v1,v2,rfl,hx,q⟩:=h;refine⟨_,rfl,_,rfl,x,CH,dx,[],rfl,hx,T.clH,T.nLength,(by decide),?_⟩;refine⟨_,rfl,_,rfl,x,CH,dx,_,rfl,ao,T.clH,T.nBeat,(by show 1<1000;decide),?_⟩;rw[kQ];exact q
theorem iI {kvs:List (Key×V)}{ks:List (List Nat)}(h:kvs.map (·.1)=ks.map kyS)(z:List Nat):(eQ kvs (kyS z)).isSome=decide (z∈ks):=by
 rw[<- d9];rw[wL,xJ,decide_eq_true_iff]
 constructor
 ·rintro ⟨p,hp,e⟩
  have e:=of_decide_eq_true e;have:kyS z∈ks.map kyS:=by rw[<- h,<- e];exact List.mem_map.mpr ⟨p,hp,rfl⟩
  obtain⟨y,hy,e2⟩:=List.mem_map.mp this;rw[eO (z7 e2)] at hy;exact hy
 ·intro hz
  have:kyS z∈kvs.map (·.1):=by rw[h];exact List.mem_map.mpr ⟨z,hz,rfl⟩
  obtain⟨p,hp,e⟩:=List.mem_map.mp this;exact⟨p,hp,decide_eq_true e⟩
theorem ou {kvs:List (Key×V)}{ks:List (List Nat)}(h:kvs.map (·.1)=ks.map kyS)(z:List Nat)(v:V):(putK kvs (kyS z) v).map (·.1)=(if z∈ks then ks else ks++[z]).map kyS:=by
 unfold putK;rw[d9,iI h];by_cases c:z∈ks
 ·rw[decide_eq_true c,if_pos rfl,if_pos c,yx,<- h]
  refine xA λ p hp=>?_
  simp only[Function.comp]
  split <;>rfl
 ·rw[decide_eq_false c,if_neg (by decide),if_neg c,xR,xR,h];rfl
def md (CD:Addr)(cls:String->Value):Sp:=λ vs H Q E=>∃ (Hv₀ H₀ Hs:Hp) (x dw:Addr) (ks:List (List Nat)) (z:List Nat) (v:V),vs=[.ref x,.str (stO z),v]/\DkAt CD Hv₀ H₀ Hs H x dw ks/\OkD CD cls Hv₀ H₀ Hs x dw (Dv.keepW ks z) Q E
theorem nV {CD:Addr}{cls:String->Value}(vs:List V)(H:Hp)(Q:VK)(E:XK)(h:md CD cls vs H Q E):vs.length=3:=by
 obtain⟨_,_,_,_,_,_,_,_,rfl,_⟩:=h;rfl
def tKp (K:yy)(Ca:Addr)(E:XK)(r:Str):TS:=
 cP (iV (uL (tB (iN (aZ 1) (iT K (aZ 0) "wheels"))) (rB (tOp rEq (tCB uV (ek (iT K (aZ 0) "wheels") gO)) (tC (.int 30))))) (λ _ _ H1=>E (.ref Ca) none H1) eJ)
  (cP (kG (iT K (aZ 0) "wheels") (aZ 1) (aZ 2)) (i6 (tC (.str r))))
theorem pE {K:yy}{CD CH Ca:Addr}{cls:String->Value}{vs:List V}{H:Hp}{Q:VK}{E:XK}{r:Str}(T:DkT K CD CH)(hcls:cls "TooMany"=.ref Ca)(h:md CD cls vs H Q E):
  tKp K Ca E r { nx:=λ _ H'=>Q .non H',rt:=Q } (L2.start ["self","name","wheel"] vs) H:=by
 obtain⟨Hv₀,H₀,Hs,x,dw,ks,z,v,rfl,d,ok⟩:=h;obtain⟨dx,hx⟩:=d.ins;obtain⟨kvs,hd,hk⟩:=d.dk;have hl:kvs.length=ks.length:=by rw[<- wg (f:=Prod.fst),hk,wg]
 have fl:∀ {Q:VK},Q (.ref dw) H->iT K (aZ 0) "wheels" (L2.start ["self","name","wheel"] [.ref x,.str (stO z),v]) H Q:=λ q=>⟨_,rfl,x,CD,dx,_,_,rfl,hx,T.clD,T.nWheels,rfl,q⟩
 unfold Dv.keepW at ok;by_cases h30:30<ks.length
 ·rw[if_pos h30] at ok;exact ok.elim
 rw[if_neg h30] at ok;have put:∀ {ks'},(if z∈ks then ks else ks++[z])=ks'->OkD CD cls Hv₀ H₀ Hs x dw (.ok ks') Q E->cP (kG (iT K (aZ 0) "wheels") (aZ 1) (aZ 2)) (i6 (tC (.str r))) { nx:=λ _ H'=>Q .non H',rt:=Q } (L2.start ["self","name","wheel"] [.ref x,.str (stO z),v]) H:=λ {ks'} e ok=>by
  refine⟨_,rfl,fl ⟨_,rfl,dw,_,rfl,DPut.k (k:=kyS z) hd (by rw[hl,zt];omega),?_⟩⟩;exact ok _ Hs _ (d.put (by rw[<- e];exact ou hk z v)) (.refl _)
 refine⟨_,rfl,fl ⟨dw,_,rfl,DGet.k (k:=kyS z) hd,_,rfl,?_⟩⟩;rw[iI hk];by_cases c:z∈ks
 ·rw[if_pos c] at ok
  refine eM (by simp[c]) (eM rfl ?_);exact put (if_pos c) ok
 ·rw[if_neg c] at ok
  refine dI (by simp[c]) (fl ?_);refine⟨dw,kvs,rfl,Rd.of hd,rfl,_,rfl,?_⟩;by_cases e:ks.length=30
  ·rw[if_pos e] at ok
   refine dI (by simp[hl,e]) ?_
   rw[<- hcls];exact OkD.exc ok d
  ·rw[if_neg e] at ok
   refine eM (by simp[hl];omega) ?_
   exact put (if_neg c) ok
theorem eZ {C:Ctx}{e:Expr}{f:EE}{R:Prop}(h:SC C e f)(k:∀ t,PT C.X e t->TakC C t f->R):R:=let ⟨t,p,q⟩:=h;k t p q
theorem TakC.at {C:Ctx}{t:TT}{f:EE}(q:TakC C t f){σ:St}{H Hv:Hp}{ρ:Dv.Env}{Q:Bool->Hp->Prop}(er:EnvR C.X.K Hv ρ σ)(sv:Same Hv H){b:Bool}{fr:Bool}(h:f ρ=.ok (.bl b) fr)(go:∀ Hv' H',Ext Hv H Hv' H'->Q b H'):t σ H Q:=by
 refine q σ H Hv ρ Q er sv ?_
 rw[h];intro v Hv' H' x rp n;unfold Rp at rp;exact⟨b,rp,go Hv' H' x⟩
def tRW (K:yy)(Ca:Addr)(E:XK)(t1 t2 t3:TT)(e1 e2 e3:TE):TS:=
 cP (iV t1 (i6 e1) eJ) (cP (iV t2 (i6 e2) eJ) (cP (k9 e3) (cP (iV t3 (i6 (aZ 2)) eJ)
  (cP (iV (tB (iN (aZ 2) (iT K (aZ 0) "wheels"))) (λ _ _ H1=>E (.ref Ca) none H1) eJ) (i6 (rG (iT K (aZ 0) "wheels") (aZ 2)))))))
def ly (CD:Addr)(cls:String->Value)(k:Dk):Sp:=λ vs H Q E=>∃ (Hv₀ H₀ Hs:Hp) (x dw:Addr) (ks:List (List Nat)) (f z:List Nat),vs=[.ref x,.str (stO (Dv.clipS f)),.str (stO (Dv.clipS z))]/\DkAt CD Hv₀ H₀ Hs H x dw ks/\OkD CD cls Hv₀ H₀ Hs x dw (Dv.rdW k ks f z) Q E
theorem mZ {CD:Addr}{cls:String->Value}{k:Dk}(vs:List V)(H:Hp)(Q:VK)(E:XK)(h:ly CD cls k vs H Q E):vs.length=3:=by
 obtain⟨_,_,_,_,_,_,_,_,rfl,_⟩:=h;rfl
theorem OkD.less {CD:Addr}{cls:String->Value}{Hv₀ H₀ Hs Hs':Hp}{x dw:Addr}{r:DR}{Q:VK}{E:XK}(s:Same Hs Hs')(h:OkD CD cls Hv₀ H₀ Hs x dw r Q E):OkD CD cls Hv₀ H₀ Hs' x dw r Q E:=by
 cases r with
 | ok ks=>exact λ v Hs2 H2 d s2=>h v Hs2 H2 d (s.trans s2)
 | exc c=>exact h
 | bad=>exact h
theorem jM {C:Ctx}{CD:Addr}{t:TE}{f:EE}{σ:St}{H Hv₀ H₀ Hs:Hp}{x dw:Addr}{ks:List (List Nat)}{ρ:Dv.Env}{Q:VK}{E:XK}(hW:C.W σ=E)(q:Tak C t f)(d:DkAt CD Hv₀ H₀ Hs H x dw ks)(er:EnvR C.X.K Hs ρ σ)(ok:OkD CD C.cls Hv₀ H₀ Hs x dw (Dv.doneW ks (f ρ)) Q E):t σ H Q:=by
 refine q σ H Hs ρ Q er d.sv ?_
 rw[hW];cases hf:f ρ with
 | bad=>rw[hf] at ok;exact ok
 | exc c=>rw[hf] at ok;exact λ Hv' H' e=>OkD.exc ok (d.ext e)
 | ok r fr=>rw[hf] at ok;exact λ v Hv' H' e _ _=>ok v Hv' H' (d.ext e) e.vv
theorem qM {C:Ctx}{CD CH Ca:Addr}{k:Dk}{vs:List V}{H:Hp}{Q:VK}{E:XK}{t1 t2 t3:TT}{e1 e2 e3:TE}(T:DkT C.X.K CD CH)(hcls:C.cls "NoName"=.ref Ca)(hW:∀ σ,C.W σ=E)(q1:TakC C t1 k.t1)(q2:TakC C t2 k.t2)(q3:TakC C t3 k.t3)(p1:Tak C e1 k.g1)(p2:Tak C e2 k.g2)(p3:Tak C e3 k.g3)(h:ly CD C.cls k vs H Q E):
  tRW C.X.K Ca E t1 t2 t3 e1 e2 e3 { nx:=λ _ H'=>Q .non H',rt:=Q } (L2.start ["self","form","word"] vs) H:=by
 obtain⟨Hv₀,H₀,Hs,x,dw,ks,f,z,rfl,d,ok⟩:=h;have er:∀ {Hs},EnvR C.X.K Hs [none,some (.str f),some (.str z)] (L2.start ["self","form","word"] [.ref x,.str (stO (Dv.clipS f)),.str (stO (Dv.clipS z))]):=λ {Hs}=>rJ bT bT
 unfold Dv.rdW at ok;simp only at ok;cases h1:k.t1 [none,some (.str f),some (.str z)] with
 | bad=>rw[h1] at ok;exact ok.elim
 | exc c=>rw[h1] at ok;exact Zf ok
 | ok r fr=>
 cases r with
 | bl b=>
  refine q1.at er d.sv h1 λ Hv1 H1 x1=>?_
  have d1:=d.ext x1;cases b with
  | true=>
   rw[h1] at ok;exact dI rfl (jM (hW _) p1 d1 er (ok.less x1.vv))
  | false=>
   rw[h1] at ok;simp only at ok;refine eM rfl ?_
   cases h2:k.t2 [none,some (.str f),some (.str z)] with
   | bad=>rw[h2] at ok;exact ok.elim
   | exc c=>rw[h2] at ok;exact Zf ok
   | ok r2 fr2=>
   cases r2 with
   | bl b2=>
    refine q2.at er d1.sv h2 λ Hv2 H2 x2=>?_
    have d2:=d1.ext x2;cases b2 with
    | true=>
     rw[h2] at ok;exact dI rfl (jM (hW _) p2 d2 er ((ok.less x1.vv).less x2.vv))
    | false=>
     rw[h2] at ok;simp only at ok;refine eM rfl ?_
     refine p3 _ H2 Hv2 _ _ er d2.sv ?_
     rw[hW];cases h3:k.g3 [none,some (.str f),some (.str z)] with
     | bad=>rw[h3] at ok;exact ok
     | exc c=>rw[h3] at ok;exact λ Hv' H' e=>OkD.exc ok (d2.ext e)
     | ok r3 fr3=>
      rw[h3] at ok;simp only at ok;intro v3 Hv3 H3 x3 _ _;have d3:=d2.ext x3;cases h4:k.t3 [none,some (.str f),some (.str z)] with
      | bad=>rw[h4] at ok;exact ok.elim
      | exc c=>rw[h4] at ok;exact Zf ok
      | ok r4 fr4=>
      cases r4 with
      | bl b4=>
       refine q3.at er d3.sv h4 λ Hv4 H4 x4=>?_
       have d4:=d3.ext x4;have s4:Same Hs Hv4:=x1.vv.trans (x2.vv.trans (x3.vv.trans x4.vv));cases b4 with
       | true=>
        rw[h4] at ok;exact dI rfl ⟨_,rfl,ok _ Hv4 H4 d4 s4⟩
       | false=>
        rw[h4] at ok;simp only at ok;refine eM rfl ?_
        obtain⟨dx,hx⟩:=d4.ins;obtain⟨kvs,hd,hk⟩:=d4.dk;have fl:∀ {Q:VK},Q (.ref dw) H4->iT C.X.K (aZ 0) "wheels" (L2.start ["self","form","word"] [.ref x,.str (stO (Dv.clipS f)),.str (stO (Dv.clipS z))]) H4 Q:=λ q=>⟨_,rfl,x,CD,dx,_,_,rfl,hx,T.clD,T.nWheels,rfl,q⟩
        refine⟨_,rfl,fl ⟨dw,_,rfl,DGet.k (k:=kyS (Dv.clipS z)) hd,_,rfl,?_⟩⟩;rw[iI hk];by_cases c:Dv.clipS z∈ks
        ·rw[if_pos c] at ok
         refine eM (by simp[c]) ?_
         have hv:=iI hk (Dv.clipS z);rw[decide_eq_true c] at hv;obtain⟨y,hy⟩:=Option.isSome_iff_exists.mp hv;have hg:DGet H4 dw (.str (stO (Dv.clipS z))) (some y):=by
          rw[<- hy];exact DGet.k (k:=kyS (Dv.clipS z)) hd
         exact fl (Q:=λ x H1=>aZ 2 _ H1 λ y H2=>∃ a v,x=.ref a/\DGet H2 a y (some v)/\Q v H2) ⟨_,rfl,dw,y,rfl,hg,ok y Hv4 H4 d4 s4⟩
        ·rw[if_neg c] at ok
         refine dI (by simp[c]) ?_
         rw[<- hcls];exact OkD.exc ok d4
      | _=>rw[h4] at ok;exact Zf ok
   | _=>rw[h2] at ok;exact Zf ok
 | _=>rw[h1] at ok;exact Zf ok
def tAn (K:yy)(CD:Addr)(cls:String->Value)(E:XK)(tn:TS)(ez e1:TE)(t1 t2 t3:TT):TS:=
 cP (lU ez (gp 3)) (cP (iV t1 tn eJ) (cP (iV t2 tn eJ) (cP (iV t3 (i6 (ie CD "keep" (md CD cls) [] E (aZ 0) (ek e1 (ek (tOp (vq K) (aZ 2) (tC (.int 1))) gO)))) eJ) tn)))
def mr (K:yy)(CD:Addr)(cls:String->Value)(k:Dk):Sp:=λ vs H Q E=>∃ (Hv₀ H₀ Hs:Hp) (x dw va:Addr) (ks:List (List Nat)) (d:D) (v:V) (ws:List V),vs=[.ref x,v,.ref va]/\DkAt CD Hv₀ H₀ Hs H x dw ks/\Rp K Hs d v/\H va=some (.lst ws)/\OkD CD cls Hv₀ H₀ Hs x dw (Dv.ansW k ks d ws.length) Q E
theorem oO {K:yy}{CD:Addr}{cls:String->Value}{k:Dk}(vs:List V)(H:Hp)(Q:VK)(E:XK)(h:mr K CD cls k vs H Q E):vs.length=3:=by
 obtain⟨_,_,_,_,_,_,_,_,_,_,rfl,_⟩:=h;rfl
theorem vf {K:yy}{H:Hp}{d1 d3:D}{v1 v3:V}{a0 a2:Option V}{r:St}(h1:Rp K H d1 v1)(h3:Rp K H d3 v3):EnvR K H [none,some d1,none,some d3] (a0::some v1::a2::some v3::r):=by
 intro i d e
 match i with
 | 0=>simp at e
 | 1=>simp at e;subst e;exact⟨v1,rfl,h1⟩
 | 2=>simp at e
 | 3=>simp at e;subst e;exact⟨v3,rfl,h3⟩
 | i+4=>simp at e
theorem qF {C:Ctx}{CD:Addr}{k:Dk}{vs:List V}{H:Hp}{Q:VK}{E:XK}{tn:TS}{ez e1:TE}{t1 t2 t3:TT}(hW:∀ σ,C.W σ=E)(qz:Tak C ez k.fz)(q1:TakC C t1 k.a1)(q2:TakC C t2 k.a2)(q3:TakC C t3 k.a3)(p1:Tak C e1 k.f1)(h:mr C.X.K CD C.cls k vs H Q E):
  tAn C.X.K CD C.cls E tn ez e1 t1 t2 t3 { nx:=λ _ H'=>Q .non H',rt:=Q } (L2.start ["self","words","values","deed"] vs) H:=by
 obtain⟨Hv₀,H₀,Hs,x,dw,va,ks,d0,v,ws,rfl,d,rp,hva,ok⟩:=h;unfold Dv.ansW at ok;have er0:EnvR C.X.K Hs [none,some d0,none] (L2.start ["self","words","values","deed"] [.ref x,v,.ref va]):=λ i e he=>by
  match i with
  | 0=>simp at he
  | 1=>simp at he;subst he;exact⟨v,rfl,rp⟩
  | 2=>simp at he
  | i+3=>simp at he
 refine qz _ H Hs _ _ er0 d.sv ?_
 rw[hW];cases hz:k.fz [none,some d0,none] with
 | bad=>rw[hz] at ok;exact ok
 | exc c=>rw[hz] at ok;exact Zf ok
 | ok dd fr=>
  rw[hz] at ok;simp only at ok;intro v0 Hv0 H0 x0 rp0 _;have dA:=d.ext x0;have er:∀ {Hx:Hp},Same Hv0 Hx->EnvR C.X.K Hx [none,some d0,none,some dd] [some (.ref x),some v,some (.ref va),some v0]:=λ s=>vf ((rp.same x0.vv).same s) (rp0.same s)
  split at ok
  rotate_left
  ·exact Zf ok
  rename_i b1 h1
  split at ok
  rotate_left
  ·exact Zf ok
  rename_i b2 h2
  split at ok
  rotate_left
  ·exact Zf ok
  rename_i b3 h3
  split at ok
  rotate_left
  ·exact Zf ok
  rename_i w b4 h4;refine q1.at (er (.refl _)) dA.sv h1 λ Hv1 H1 x1=>eM rfl ?_
  refine q2.at (er x1.vv) (dA.ext x1).sv h2 λ Hv2 H2 x2=>eM rfl ?_
  refine q3.at (er (x1.vv.trans x2.vv)) ((dA.ext x1).ext x2).sv h3 λ Hv3 H3 x3=>dI rfl ?_
  have dB:=((dA.ext x1).ext x2).ext x3;have hva3:=x3.hh _ _ (x2.hh _ _ (x1.hh _ _ (x0.hh _ _ hva)));obtain⟨dx,hx⟩:=dB.ins;refine⟨_,rfl,x,dx,_,rfl,hx,rfl,?_⟩;refine p1 _ H3 Hv3 _ _ (er (x1.vv.trans (x2.vv.trans x3.vv))) dB.sv ?_
  rw[hW,h4];intro v4 Hv4 H4 x4 rp4 _;unfold Rp at rp4;subst rp4;by_cases hn:2<=ws.length
  ·rw[if_pos hn] at ok
   have hva4:=x4.hh _ _ hva3;obtain⟨y,hy⟩:∃ y,ws[1]?=some y:=⟨ws[1],by simp⟩
   refine⟨_,rfl,va,ws,1,y,rfl,rfl,SqL.of hva4,kS (j:=1) hy,?_⟩;exact⟨Hv₀,H₀,Hv4,x,dw,ks,Dv.clipS w,y,rfl,dB.ext x4,ok.less (x0.vv.trans (x1.vv.trans (x2.vv.trans (x3.vv.trans x4.vv))))⟩
  ·rw[if_neg hn] at ok;exact ok.elim
abbrev vJ (CD:Addr)(cls:String->Value)(k:Dk)(E:XK):TE:=ie CD "read_word" (ly CD cls k) [] E (aZ 2) (ek (aZ 0) (ek (aZ 1) gO))
def vU (C:Ctx)(CD:Addr)(k:Dk)(E:XK)(ew:TE):TS:=
 cP (lU ew (gp 2)) (cP (λ E' σ H=>∃ Hv ρ,EnvR C.X.K Hv ρ σ/\Same Hv H/\k7 C (Dv.bnT 2) (vJ CD C.cls k E) [0] (Dv.iZipF k.T k.fx k.fy) σ H Hv ρ λ v H'=>E'.nx (σ.set 3 (some v)) H')
  (i6 (ie CD "answer" (mr C.X.K CD C.cls k) [] E (aZ 0) (ek (aZ 2) (ek (aZ 3) gO)))))
def gP (K:yy)(CD:Addr)(cls:String->Value)(k:Dk):Sp:=λ vs H Q E=>∃ (Hv₀ H₀ Hs:Hp) (x dw:Addr) (ks:List (List Nat)) (d:D) (v:V),vs=[.ref x,v]/\DkAt CD Hv₀ H₀ Hs H x dw ks/\Rp K Hs d v/\OkD CD cls Hv₀ H₀ Hs x dw (Dv.sayW k ks d) Q E
theorem lZ {K:yy}{CD:Addr}{cls:String->Value}{k:Dk}(vs:List V)(H:Hp)(Q:VK)(E:XK)(h:gP K CD cls k vs H Q E):vs.length=2:=by
 obtain⟨_,_,_,_,_,_,_,_,rfl,_⟩:=h;rfl
theorem mJ {C:Ctx}{CD:Addr}{k:Dk}{vs:List V}{H:Hp}{Q:VK}{E:XK}{ew:TE}(hW:∀ σ,C.W σ=E)(qw:Tak C ew k.fw)(h:gP C.X.K CD C.cls k vs H Q E):
  vU C CD k E ew { nx:=λ _ H'=>Q .non H',rt:=Q } (L2.start ["self","command","words","values"] vs) H:=by
 obtain⟨Hv₀,H₀,Hs,x,dw,ks,d0,v,rfl,d,rp,ok⟩:=h;unfold Dv.sayW at ok;refine qw _ H Hs [none,some d0] _ (vP rp) d.sv ?_
 rw[hW];cases hw:k.fw [none,some d0] with
 | bad=>rw[hw] at ok;exact ok
 | exc c=>rw[hw] at ok;exact λ Hv' H' e=>OkD.exc ok (d.ext e)
 | ok wd fr=>
  rw[hw] at ok;simp only at ok;intro v1 Hv1 H1 x1 rp1 _;have d1:=d.ext x1;refine⟨Hv1,[none,some d0,some wd],rJ (rp.same x1.vv) rp1,d1.sv,?_⟩;unfold k7;rw[hW]
  split at ok
  rotate_left
  ·exact Zf ok
  rename_i its fr2 hz;rw[hz];by_cases hm:its.length<=Dv.mx
  ·rw[if_pos hm] at ok
   intro J Hv2 H2 x2 wl;have d2:=d1.ext x2;generalize hr:Dv.rdAll k ks its=res at ok;refine⟨Hv2,its,λ i ws Hn=>∃ Hx,DkAt CD Hv₀ H₀ Hx Hn x dw ks/\Same Hv2 Hx/\ws.length=i/\Dv.rdAll k ks (its.drop i)=res,x2,wl,hm,⟨Hv2,d2,.refl _,rfl,hr⟩,?_,?_,?_⟩
   ·rintro i ws Ha Hb ⟨Hx,g1,g2,g3,g4⟩ s nf
    exact⟨Hx,g1.more s nf,g2,g3,g4⟩
   ·rintro i it ws Hn hi sn ⟨Hx,g1,g2,g3,g4⟩
    have hdr:its.drop i=it::its.drop (i+1):=by
     obtain⟨hlt,he⟩:=List.getElem?_eq_some_iff.mp hi;rw[wW hlt,he]
    rw[hdr] at g4;have bad:res≠.bad:=λ z=>by rw[z] at ok;exact ok
    unfold Dv.rdAll at g4
    split at g4
    ·rename_i hh;cases hh
    ·rename_i f z r hh
     cases hh;refine⟨[.str f,.str z],rfl,λ us Hv6 s6 ru=>?_⟩;obtain⟨u1,us',rfl,ru1,ru'⟩:=(show ∃ u us',us=u::us'/\_/\_ by unfold RpL at ru;exact ru);obtain⟨u2,us'',rfl,ru2,ru''⟩:=(show ∃ u us2,us'=u::us2/\_/\_ by unfold RpL at ru';exact ru');unfold RpL at ru'';subst ru'';unfold Rp at ru1 ru2;subst ru1 ru2;obtain⟨dx,hx⟩:=g1.ins;refine⟨_,rfl,x,dx,_,rfl,hx,rfl,_,rfl,_,rfl,?_⟩;refine⟨Hv₀,H₀,Hx,x,dw,ks,f,z,rfl,g1,?_⟩;cases hrd:Dv.rdW k ks f z with
     | bad=>rw[hrd] at g4;exact(bad g4.symm).elim
     | exc c=>
      rw[hrd] at g4;simp only at g4;subst g4;exact ok
     | ok ks2=>
      rw[hrd] at g4;have e2:ks2=ks:=by
       clear g4;revert hrd;unfold Dv.rdW Dv.doneW;simp only
       repeat' split
       all_goals first|(intro z;cases z;rfl)|(intro z;cases z)
      subst e2;intro v' Hs' H' dd ss;exact⟨g2.trans (ss.trans dd.sv),Hs',dd,g2.trans ss,by rw[wy];simp[g3],g4⟩
    ·exact(bad g4.symm).elim
   ·rintro ws Hn ⟨Hx,g1,g2,g3,g4⟩ Da hDa
    rw[xH] at g4;unfold Dv.rdAll at g4;subst g4;simp only at ok;have d3:DkAt CD Hv₀ H₀ Hx (upd Hn Da (.lst ws)) x dw ks:=g1.more (gv hDa _) λ b o u h z=>by
     by_cases q:b=Da
     ·subst q;rw[ao] at z;cases z
     ·rw[ai q,h] at z;cases z
    obtain⟨dx,hx⟩:=d3.ins;refine⟨_,rfl,x,dx,_,rfl,hx,rfl,_,rfl,_,rfl,?_⟩;refine⟨Hv₀,H₀,Hx,x,dw,Da,ks,wd,v1,ws,rfl,d3,rp1.same (x2.vv.trans g2),ao,?_⟩;rw[g3];exact ok.less (x1.vv.trans (x2.vv.trans g2))
  ·rw[if_neg hm] at ok;exact ok.elim
theorem mS {CD:Addr}{Hv H:Hp}{x dx p:Addr}(sv:Same Hv H)(hx:H x=none)(hdx:H dx=none)(hne:dx≠x)(hp:upd (upd H dx (.own x)) x (.ins CD dx []) p=none):
  DkAt CD Hv H Hv (upd (upd (upd (upd H dx (.own x)) x (.ins CD dx [])) p (.dK [])) x (.ins CD dx [("wheels",.ref p)])) x p []:=by
 obtain⟨px,hp⟩:=jl hp;obtain⟨pd,hp⟩:=jl hp;have oth:∀ b,b≠x->b≠p->b≠dx->upd (upd (upd (upd H dx (.own x)) x (.ins CD dx [])) p (.dK [])) x (.ins CD dx [("wheels",.ref p)]) b=H b:=λ b h1 h2 h3=>by
  rw[ai h1,ai h2,ai h1,ai h3]
 have keep:Same H (upd (upd (upd (upd H dx (.own x)) x (.ins CD dx [])) p (.dK [])) x (.ins CD dx [("wheels",.ref p)])):=λ b o e=>by
  rw[oth b (ak e hx) (ak e hp) (ak e hdx)];exact e
 refine⟨sv.trans keep,keep,⟨.refl _,λ b o e n=>(by rw[n] at e;cases e),λ b o u e z=>?_⟩,sv.free hp,hp,Ne.symm px,⟨dx,ao⟩,⟨[],by rw[ai px,ao],rfl⟩⟩;by_cases c1:b=x
 ·subst c1;rw[ao] at z;cases z
 by_cases c2:b=p
 ·subst c2;rw[ai c1,ao] at z;cases z
 by_cases c3:b=dx
 ·subst c3;rw[ai c1,ai c2,ai c1,ao] at z;cases z
 rw[oth b c1 c2 c3,e] at z;cases z
theorem iz {CD:Addr}{σ:St}{Hv H:Hp}{Q:VK}{E:XK}(sv:Same Hv H)(h:∀ x p H2,DkAt CD Hv H Hv H2 x p []->Q (.ref x) H2):kO CD (jV CD) [] E gO σ H Q:=by
 intro x dx hx hdx hne;exact⟨x,dx,rfl,ao,λ p hp=>⟨rfl,h x p _ (mS sv hx hdx hne hp)⟩⟩
structure DkC (P:Program)(w:World)(K:yy)(mg:Str->Option Value)(base:Heap)(CX:CXT)(cls:String->Value)(CD CH:Addr)(k:Dk)(m:Nat):Prop where
 T:DkT K CD CH
 aD:mg "Desk"=some (.ref CD)
 init:∃ f fd st,Mf K "__init__" "Desk.__init__" st ["self"] f fd/\FnOk P w K mg base CX 1 f fd ["self"] (jV CD)/\Mk K CD f
 say:∃ f fd st,Mf K "say" "Desk.say" st ["self","command"] f fd/\FnOk P w K mg base CX m f fd ["self","command"] (gP K CD cls k)/\Meth K CD "say" f
structure WhC (P:Program)(w:World)(K:yy)(mg:Str->Option Value)(base:Heap)(CX:CXT)(CD CH:Addr):Prop where
 T:DkT K CD CH
 aW:mg "Wheel"=some (.ref CH)
 init:∃ f fd st,Mf K "__init__" "Wheel.__init__" st ["self","length","beat"] f fd/\FnOk P w K mg base CX 1 f fd ["self","length","beat"] (mU CH)/\Mk K CH f
abbrev DkX (C:Ctx)(CD CH:Addr)(k:Dk)(m:Nat):Prop:=DkC C.X.prog C.X.w C.X.K C.X.mg C.X.base C.CX C.cls CD CH k m
section
variable {C:Ctx}{E:XK}{CD CH:Addr}{k:Dk}{m n:Nat}{e e2:Expr}{f g:EE}{p1 p2 p3 p4 pos:Pos}
theorem iY (Z:DkX C CD CH k m)(hr:Room n C.X.A)(hm:2<=n)(hP:bC C.CX C.X E)(hg:Gl C.X "Desk"):PE C.X (.Call (.Name "Desk" p1) [] [] p2) (kO CD (jV CD) [] E gO):=by
 obtain⟨fi,fd,st,d,o,M⟩:=Z.init;exact nZ M o (hr.mono hm) hg Z.aD d.bd .nil hP
theorem iU {o:Expr}{ta t:TE}(Z:DkX C CD CH k m)(hr:Room n C.X.A)(hm:m<=n)(hP:bC C.CX C.X E)(ho:PE C.X o ta)(he:PE C.X e t)(hst:autoParam (starEach [e] C.X.env=(false,eval e C.X.env)::starEach [] C.X.env) ZF._auto_1)
  {pl:Sem Bool} (ht:eval (.Call (.Attribute o "say" p3) [e] [] p4) C.X.env=(do
   let ov <- eval o C.X.env
   standAt p3.atName
   let (f,first) <- holding [ov] (getMethod ov "say" pl)
   callWith p4 f first (backTo p4 (starEach [e] C.X.env)) (backToKw p4 (keywordEach [] C.X.env)))):
  PE C.X (.Call (.Attribute o "say" p3) [e] [] p4) (ie CD "say" (gP C.X.K CD C.cls k) [] E ta (ek t gO)):=by
 obtain⟨fi,fd,st,d,oo,M⟩:=Z.say;exact fS ho Z.T.clD M oo (hr.mono hm) d.bd .nil hP (au he aM hst) hst rfl ht
theorem jx (Z:DkX C CD CH k m)(hr:Room n C.X.A)(hm:m<=n)(hm2:2<=n)(hW:∀ σ,C.W σ=E)(hP:bC C.CX C.X E)(hg:Gl C.X "Desk")(he:SE C e f)(hst:autoParam (starEach [e] C.X.env=(false,eval e C.X.env)::starEach [] C.X.env) ZF._auto_1)
  {pl:Sem Bool} (ht:autoParam (eval (.Call (.Attribute (.Call (.Name "Desk" p1) [] [] p2) "say" p3) [e] [] p4) C.X.env=(do
   let ov <- eval (.Call (.Name "Desk" p1) [] [] p2) C.X.env
   standAt p3.atName
   let (f,first) <- holding [ov] (getMethod ov "say" pl)
   callWith p4 f first (backTo p4 (starEach [e] C.X.env)) (backToKw p4 (keywordEach [] C.X.env)))) ZF._auto_1)
  (hs:autoParam (swapsWith (.Call (.Attribute (.Call (.Name "Desk" p1) [] [] p2) "say" p3) [e] [] p4) none pos.line C.X.env=pure false) ZF._auto_1):
  SSt C (.Expr (.Call (.Attribute (.Call (.Name "Desk" p1) [] [] p2) "say" p3) [e] [] p4) pos) (Dv.sDesk1 k f):=by
 obtain⟨t,p,q⟩:=he;refine⟨_,cE (iU Z hr hm hP (iY Z hr hm2 hP hg) p hst ht) hs,λ Hv₀ H₀ Ed σ H st ⟨Hc,O,r⟩ w=>?_⟩;unfold k9 ie;refine iz r.allH λ x pd H2 d=>?_
 obtain⟨dx,hx⟩:=d.ins;refine⟨x,dx,_,rfl,hx,rfl,?_⟩;refine q σ H2 _ (Dv.all st) _ r.envAll d.sv ?_
 unfold Dv.sDesk1 at w;cases hf:f (Dv.all st) with
 | bad=>rw[hf] at w;exact w
 | exc c=>rw[hf] at w;exact Zf w
 | ok dd fr=>
  rw[hf] at w;simp only at w;intro v Hv' H' x1 rp _;refine⟨_,_,Hv',x,pd,[],dd,v,rfl,d.ext x1,rp,?_⟩;cases hs:Dv.sayW k [] dd with
  | bad=>rw[hs] at w;exact w
  | ok ks=>rw[hs] at w;exact Zf w
  | exc c=>
   rw[hs] at w;intro H3 s3 nf;rw[<- hW σ];exact w σ H3 ⟨Hc,O,r.grow s3 nf⟩
theorem mY {i:Nat}{y:Str}{py q3 q4 pos2 pos3 pz pz2:Pos}(Z:DkX C CD CH k m)(hr:Room n C.X.A)(hm:m<=n)(hm2:2<=n)(hW:∀ σ,C.W σ=E)(hP:bC C.CX C.X E)(hg:Gl C.X "Desk")(hN:C.X.N.Nodup)(hi:C.X.N[i]?=some y)(hy:Loc C.X.env.scope y)
  (po:∀ {pz},PE C.X (.Name y pz) (aZ i)) (he:SE C e f) (he2:SE C e2 g)
  (hst:autoParam (starEach [e] C.X.env=(false,eval e C.X.env)::starEach [] C.X.env) ZF._auto_1) (hst2:autoParam (starEach [e2] C.X.env=(false,eval e2 C.X.env)::starEach [] C.X.env) ZF._auto_1)
  (hsw:autoParam (swapsWith (.Call (.Name "Desk" p1) [] [] p2) (some (.Name y py)) pos.line C.X.env=pure false) ZF._auto_1)
  (hf:autoParam (C.X.fn y=true\/C.X.env.scope.names.lookup y=some .local) ZB._auto_1)
  {pl pl2:Sem Bool} (ht:autoParam (eval (.Call (.Attribute (.Name y pz) "say" p3) [e] [] p4) C.X.env=(do
   let ov <- eval (.Name y pz) C.X.env
   standAt p3.atName
   let (f,first) <- holding [ov] (getMethod ov "say" pl)
   callWith p4 f first (backTo p4 (starEach [e] C.X.env)) (backToKw p4 (keywordEach [] C.X.env)))) ZF._auto_1)
  (ht2:autoParam (eval (.Call (.Attribute (.Name y pz2) "say" q3) [e2] [] q4) C.X.env=(do
   let ov <- eval (.Name y pz2) C.X.env
   standAt q3.atName
   let (f,first) <- holding [ov] (getMethod ov "say" pl2)
   callWith q4 f first (backTo q4 (starEach [e2] C.X.env)) (backToKw q4 (keywordEach [] C.X.env)))) ZF._auto_1)
  (hs:autoParam (swapsWith (.Call (.Attribute (.Name y pz) "say" p3) [e] [] p4) none pos2.line C.X.env=pure false) ZF._auto_1) (hs2:autoParam (swapsWith (.Call (.Attribute (.Name y pz2) "say" q3) [e2] [] q4) none pos3.line C.X.env=pure false) ZF._auto_1):
  SSs C [.Assign [.Name y py] (.Call (.Name "Desk" p1) [] [] p2) pos,.Expr (.Call (.Attribute (.Name y pz) "say" p3) [e] [] p4) pos2,.Expr (.Call (.Attribute (.Name y pz2) "say" q3) [e2] [] q4) pos3] (Dv.sDesk2 i k f g):=by
 obtain⟨t,p,q⟩:=he;obtain⟨t2,pp,qq⟩:=he2;refine⟨_,aG (dG hN hi hy (iY Z hr hm2 hP hg) hsw hf) (aG (cE (iU Z hr hm hP po p hst ht) hs) (aS (cE (iU Z hr hm hP po pp hst2 ht2) hs2))),λ Hv₀ H₀ Ed σ H st ⟨Hc,O,r⟩ w=>?_⟩;unfold Dv.sDesk2 at w;by_cases hl:i<st.length
 ·rw[if_pos hl] at w
  unfold cP lU;refine iz r.allH λ x pd H2 d=>?_
  have r1:=r.setNo (i:=i) (v:=some (.ref x));have gx:(σ.set i (some (.ref x)))[i]?=some (some (.ref x)):=by rw[wC];rw[<- r.len];exact hl
  obtain⟨dx,hx⟩:=d.ins;refine⟨_,gx,x,dx,_,rfl,hx,rfl,?_⟩;refine q _ H2 _ _ _ r1.envAll d.sv ?_
  cases hf:f (Dv.all (st.set i .no)) with
  | bad=>rw[hf] at w;exact w
  | exc c=>rw[hf] at w;exact Zf w
  | ok dd fr=>
   rw[hf] at w;simp only at w;intro v Hv' H' x1 rp _;refine⟨_,_,Hv',x,pd,[],dd,v,rfl,d.ext x1,rp,?_⟩;cases hs:Dv.sayW k [] dd with
   | bad=>rw[hs] at w;exact w
   | exc c=>rw[hs] at w;exact Zf w
   | ok ks=>
    rw[hs] at w;simp only at w;intro v3 Hs3 H3 d3 s3;obtain⟨dx3,hx3⟩:=d3.ins;refine⟨_,gx,x,dx3,_,rfl,hx3,rfl,?_⟩;refine qq _ H3 Hs3 _ _ (r1.envAll.same (x1.vv.trans s3)) d3.sv ?_
    cases hf2:g (Dv.all (st.set i .no)) with
    | bad=>rw[hf2] at w;exact w
    | exc c=>rw[hf2] at w;exact Zf w
    | ok d4 fr4=>
     rw[hf2] at w;simp only at w;intro v4 Hv4 H4 x4 rp4 _;refine⟨_,_,Hv4,x,pd,ks,d4,v4,rfl,d3.ext x4,rp4,?_⟩;cases hs2:Dv.sayW k ks d4 with
     | bad=>rw[hs2] at w;exact w
     | ok ks=>rw[hs2] at w;exact Zf w
     | exc c=>
      rw[hs2] at w;intro H5 s5 nf;rw[<- hW (σ.set i (some (.ref x)))];exact w _ H5 ⟨Hc,O,r1.grow s5 nf⟩
 ·rw[if_neg hl] at w;exact Zf w
theorem pQ {K:yy}{Hv:Hp}{ρ:Dv.Env}{σ:St}{j:Nat}{d:D}{v:V}(er:EnvR K Hv ρ σ)(rp:Rp K Hv d v)(hl:ρ.length=σ.length):EnvR K Hv (ρ.set j (some d)) (σ.set j (some v)):=λ i d' h=>by
 by_cases c:j=i
 ·subst c
  have hj:j<ρ.length:=by
   rcases Nat.lt_or_ge j ρ.length with z|z
   ·exact z
   ·rw[xS (by simpa using z)] at h;cases h
  rw[wC hj] at h;cases h;exact⟨v,wC (hl▸hj),rp⟩
 ·rw[wI c] at h
  obtain⟨u,h1,h2⟩:=er i d' h;exact⟨u,by rw[wI c];exact h1,h2⟩
theorem n5 {i j:Nat}{y yj:Str}{it:Expr}{fi:EI}{py pj pos2 pos3 pz:Pos}(Z:DkX C CD CH k m)(hr:Room n C.X.A)(hm:m<=n)(hm2:2<=n)(hW:∀ σ,C.W σ=E)(hP:bC C.CX C.X E)(hO:PassesOwn (model C.X.prog C.X.w) C.X.A C.X.env C.X.xe)(hcl:C.X.calm=true)(hg:Gl C.X "Desk")(hN:C.X.N.Nodup)(hi:C.X.N[i]?=some y)(hy:Loc C.X.env.scope y)
  (po:∀ {pz},PE C.X (.Name y pz) (aZ i)) (pg:PG C.X (.Name yj pj) (gp j)) (hit:SI C (.Name yj pj) it fi) (he:SE C e f)
  (hst:autoParam (starEach [e] C.X.env=(false,eval e C.X.env)::starEach [] C.X.env) ZF._auto_1)
  (hsw:autoParam (swapsWith (.Call (.Name "Desk" p1) [] [] p2) (some (.Name y py)) pos.line C.X.env=pure false) ZF._auto_1)
  (hf:autoParam (C.X.fn y=true\/C.X.env.scope.names.lookup y=some .local) ZB._auto_1)
  {pl:Sem Bool} (ht:autoParam (eval (.Call (.Attribute (.Name y pz) "say" p3) [e] [] p4) C.X.env=(do
   let ov <- eval (.Name y pz) C.X.env
   standAt p3.atName
   let (f,first) <- holding [ov] (getMethod ov "say" pl)
   callWith p4 f first (backTo p4 (starEach [e] C.X.env)) (backToKw p4 (keywordEach [] C.X.env)))) ZF._auto_1)
  (hs:autoParam (swapsWith (.Call (.Attribute (.Name y pz) "say" p3) [e] [] p4) none pos3.line C.X.env=pure false) ZF._auto_1) (hfs:autoParam (∀ x,foldedSetIterable it C.X.env x=pure x) ZE._auto_1):
  SSs C [.Assign [.Name y py] (.Call (.Name "Desk" p1) [] [] p2) pos,.For (.Name yj pj) it [.Expr (.Call (.Attribute (.Name y pz) "say" p3) [e] [] p4) pos3] [] pos2] (Dv.sDeskF i j k fi f):=by
 obtain⟨t,p,q⟩:=he;obtain⟨wi,pwi,qwi⟩:=hit;refine⟨_,aG (dG hN hi hy (iY Z hr hm2 hP hg) hsw hf) (aS (km hO hcl pwi pg (aS (cE (iU Z hr hm hP po p hst ht) hs)) hfs)),λ Hv₀ H₀ Ed σ H st ⟨Hc,O,r⟩ w=>?_⟩;unfold Dv.sDeskF at w;by_cases hl:i<st.length/\j≠i
 ·rw[if_pos hl] at w
  unfold cP lU;refine iz r.allH λ x pd H2 d=>?_
  have r1:=r.setNo (i:=i) (v:=some (.ref x));have gx:(σ.set i (some (.ref x)))[i]?=some (some (.ref x)):=by rw[wC];rw[<- r.len];exact hl.1
  refine qwi _ H2 _ _ _ r1.envAll d.sv ?_
  cases hfi:fi (Dv.all (st.set i .no)) with
  | bad=>rw[hfi] at w;exact w
  | exc c=>rw[hfi] at w;exact Zf w
  | ok ds fr=>
   rw[hfi] at w;simp only at w;intro J Hv' H' x1 wl;generalize hres:Dv.goW k f (Dv.all (st.set i .no)) j [] ds=res at w;have nb:res≠.bad:=λ z=>by rw[z] at w;exact w
   refine⟨λ a mm σ1 H1=>∃ Hs ks,DkAt CD (cQ Hc O H) H Hs H1 x pd ks/\Same Hv' Hs/\(σ1=σ.set i (some (.ref x))\/∃ u,σ1=(σ.set i (some (.ref x))).set j u)/\mm=ds.length-a/\Dv.goW k f (Dv.all (st.set i .no)) j ks (ds.drop a)=res,
    ⟨_,Hv',[],d.ext x1,.refl _,.inl rfl,rfl,hres⟩,?_⟩
   rintro a mm σ1 H1 ⟨Hs,ks,g1,g2,g3,rfl,g5⟩
   obtain⟨w1,w2⟩:=wl a H1 (g2.trans g1.sv);cases hda:ds[a]? with
   | none=>
    rw[List.drop_eq_nil_of_le (List.getElem?_eq_none_iff.mp hda)] at g5;exact(nb g5.symm).elim
   | some it=>
    have hdr:ds.drop a=it::ds.drop (a+1):=by
     obtain⟨hlt,he⟩:=List.getElem?_eq_some_iff.mp hda;rw[wW hlt,he]
    have hlt:=(List.getElem?_eq_some_iff.mp hda).1;rw[hdr] at g5;obtain⟨go,yl⟩:=w1 it hda;unfold Dv.goW at g5
    split at g5
    ·rename_i nn rr hh
     cases hh;refine .inr ⟨go,λ σ' H'=>∃ m',m'<ds.length-a/\∃ Hs ks,DkAt CD (cQ Hc O H) H Hs H' x pd ks/\Same Hv' Hs/\(σ'=σ.set i (some (.ref x))\/∃ u,σ'=(σ.set i (some (.ref x))).set j u)/\m'=ds.length-(a+1)/\Dv.goW k f (Dv.all (st.set i .no)) j ks (ds.drop (a+1))=res,λ σ' H' z=>z,λ xv H3 hy=>?_⟩;obtain⟨Hv3,x3,rp3⟩:=yl xv H3 hy;unfold Rp at rp3;subst rp3;have g1':=g1.more x3.hh x3.nf;have e2:σ1.set j (some (.int nn))=(σ.set i (some (.ref x))).set j (some (.int nn)):=by
      rcases g3 with rfl|⟨u,rfl⟩
      ·rfl
      ·rw[yw]
     show k9 _ _ (σ1.set j (some (.int nn))) H3
     rw[e2];obtain⟨dx3,hx3⟩:=g1'.ins;refine⟨_,by rw[wI hl.2];exact gx,x,dx3,_,rfl,hx3,rfl,?_⟩;refine q _ H3 Hs _ _ (pQ (r1.envAll.same (x1.vv.trans g2)) (show Rp C.X.K Hs (.int nn) (.int nn) by unfold Rp;rfl) (by rw[Dv.all,wg];exact r1.len)) g1'.sv ?_
     cases hff:f ((Dv.all (st.set i .no)).set j (some (.int nn))) with
     | bad=>rw[hff] at g5;exact(nb g5.symm).elim
     | exc c=>rw[hff] at g5;exact(nb g5.symm).elim
     | ok d4 fr4=>
      rw[hff] at g5;simp only at g5;intro v4 Hv4 H4 x4 rp4 _;refine⟨_,_,Hv4,x,pd,ks,d4,v4,rfl,g1'.ext x4,rp4,?_⟩;cases hs4:Dv.sayW k ks d4 with
      | bad=>rw[hs4] at g5;exact(nb g5.symm).elim
      | ok ks'=>
       rw[hs4] at g5;intro v5 Hs5 H5 d5 s5;exact⟨_,⋯,Hs5,ks',d5,g2.trans (x4.vv.trans s5),.inr ⟨_,rfl⟩,rfl,g5⟩
      | exc c=>
       rw[hs4] at g5;simp only at g5;subst g5;intro H5 s5 nf;rw[<- hW ((σ.set i (some (.ref x))).set j (some (.int nn)))];exact w _ H5 ⟨Hc,O,(r1.setNo (i:=j)).grow s5 nf⟩
    ·exact(nb g5.symm).elim
 ·rw[if_neg hl] at w;exact Zf w
theorem t7 {j:Nat}{fa:Addr}{fd:FuncData}{st:Stmt}{Fm:List D->R}{x:Str}{p:Pos}(d:Df C.X.K C.X.mg x st [] fa fd)(Fn:FnOk C.X.prog C.X.w C.X.K C.X.mg C.X.base C.CX j fa fd [] (spD C.X.K C.cls Fm 0))(hr:Room n C.X.A)(hj:j<=n)(hg:Gl C.X x)(hW:∀ σ,C.W σ=E)(hP:bC C.CX C.X E)(hdb:autoParam ((x == ("__debug__":Str))=false) ZC._auto_1):
  SE C (.Call (.Name x p) [] [] pos) (Dv.eCall Fm Dv.lNil):=
 ⟨_,oF (Fn.mono hj) hr hg d.m d.kp d.bd .nil hP hdb,λ σ H Hv ρ Q er s w=>⟨[],Hv,rfl,s,(show RpL _ _ [] [] by unfold RpL;rfl),by rw[hW] at w;exact w⟩⟩
theorem nR {p pos:Pos}{a b:Expr}(W:WhC C.X.prog C.X.w C.X.K C.X.mg C.X.base C.CX CD CH)(hr:Room n C.X.A)(hm:2<=n)(hg:Gl C.X "Wheel")
  (ha:SE C a f) (hb:SE C b g) (hs:autoParam (starEach [a,b] C.X.env=(false,eval a C.X.env)::starEach [b] C.X.env) ZF._auto_1) (hs2:autoParam (starEach [b] C.X.env=(false,eval b C.X.env)::starEach [] C.X.env) ZF._auto_1) (hpl:autoParam ((backTo pos (starEach [b] C.X.env)).any (·.1)=false) ZF._auto_1):
  SE C (.Call (.Name "Wheel" p) [a,b] [] pos) (Dv.eWh f g):=by
 obtain⟨ta,pa,qa⟩:=ha;obtain⟨tb,pb,qb⟩:=hb;have T:=W.T;obtain⟨fW,fdW,sW,dW,oW,M⟩:=W.init;refine⟨_,p8 (E:=λ _ _ _=>False) M oW (hr.mono hm) hg W.aW dW.bd .nil (λ pins σ H s e s' _ h=>(C.cxF _ _ _ _ _ h).elim) (au pa (au pb aM hs2) hs) (by decide) hs hpl,λ σ H Hv ρ Q er s w=>?_⟩;refine qa.step er (.refl s) w λ v d fr Hv1 H1 _ x1 _ rp1 _ w1=>?_
 refine qb.step er x1 w1 λ v2 d2 fr2 Hv2 H2 _ x2 y2 rp2 _ w2=>?_
 intro x dx hx hdx hne;refine⟨x,dx,v,v2,rfl,ao,rfl,?_⟩;rw[kQ];have e1:=Ext.new1 x2.vh hdx (.own x);have hx':upd H2 dx (.own x) x=none:=by rw[ai (Ne.symm hne)];exact hx
 have e2:=Ext.new1 e1.vh hx' (.ins CH dx [("length",v),("beat",v2)]);have w2:Ok C.X.K Hv H (C.W σ) C.cls (.ok (.ins ["length","beat"] [d,d2]) false) Q:=w2;refine w2 _ _ _ (x2.trans (e1.trans e2)) ?_ (λ z=>by cases z)
 unfold Rp;refine⟨x,CH,dx,_,[v,v2],rfl,ao,T.clH,rfl,λ n u hn=>?_,.cons ((rp1.same y2.vv).same (e1.vv.trans e2.vv)) (.cons (rp2.same (e1.vv.trans e2.vv)) .nil)⟩;simp only[xl,List.zip_nil_right,wz,wu,or_false] at hn
 rcases hn with hn|hn
 ·cases hn;exact⟨T.nLength,rfl⟩
 ·cases hn;exact⟨T.nBeat,rfl⟩
end
def g9 (w:World):List DictEntry->List (List Nat)->Prop
 | [],[]=>True
 | e::es,z::zs=>(e.hash=ng w (.inr (stO z))/\∃ t,e.key=.str (stO z) t)/\g9 w es zs
 | _,_=>False
structure KeysK (w:World)(K:yy)(a:Addr)(ks:List (List Nat)):Prop where
 lk:∃ es ep,K.lookup a=some { cls:=.type "dict",data:=.dict es ep }/\g9 w es.toList ks
 nd:ks.Nodup
 ns:(a == sysModules)=false
theorem gw {prog:Program}{w:World}:∀ {es:List DictEntry} {ks:List (List Nat)},g9 w es ks->∃ kvs:List (Key×Value),(∀ e∈es,∃ k,(ay prog w).is k e.key=true/\e.hash=(ay prog w).hash k)/\Pairs (ay prog w) es kvs/\kvs.map (·.1)=ks.map kyS
 | [],[],_=>⟨[],λ e he=>(by cases he),.nil,rfl⟩
 | e::es,z::ks,h=>by
  obtain⟨⟨h1,⟨t,h2⟩⟩,hr⟩:=h;obtain⟨kvs,g1,g2,g3⟩:=gw (prog:=prog) hr;have hk:(ay prog w).is (.inr (stO z)) e.key=true:=by rw[h2];exact bZ (stO z) t
  refine⟨(.inr (stO z),e.val)::kvs,λ e' he=>?_,.cons hk rfl g2,by rw[we,we,g3];rfl⟩
  rcases List.mem_cons.mp he with rfl|he
  ·exact⟨_,hk,h1⟩
  ·exact g1 e' he
theorem jy:∀ {ks:List (List Nat)},ks.Nodup->(ks.map kyS).Nodup
 | [],_=>.nil
 | z::r,h=>by
  obtain⟨n1,n2⟩:=List.nodup_cons.mp h;refine List.nodup_cons.mpr ⟨λ q=>?_,jy n2⟩;obtain⟨y,hy,e⟩:=List.mem_map.mp q;rw[eO (z7 e)] at hy;exact n1 hy
theorem u5 {kvs:List (Key×Value)}{ks:List (List Nat)}(h:kvs.map (·.1)=ks.map kyS)(z:List Nat):(valueAt kvs (kyS z)).isSome=decide (z∈ks):=by
 unfold valueAt;rw[xF,wL,List.find?_isSome,decide_eq_true_iff]
 constructor
 ·rintro ⟨p,hp,e⟩
  have e:=of_decide_eq_true e;have:kyS z∈ks.map kyS:=by rw[<- h,<- e];exact List.mem_map.mpr ⟨p,hp,rfl⟩
  obtain⟨y,hy,e2⟩:=List.mem_map.mp this;rw[eO (z7 e2)] at hy;exact hy
 ·intro hz
  have:kyS z∈kvs.map (·.1):=by rw[h];exact List.mem_map.mpr ⟨z,hz,rfl⟩
  obtain⟨p,hp,e⟩:=List.mem_map.mp this;exact⟨p,hp,decide_eq_true e⟩
theorem sS {X:Cx}{a:Addr}{ks:List (List Nat)}(F:KeysK X.w X.K a ks):OpR X (compareOp .In) (λ x y H Q=>∃ z,x=.str (stO z)/\y=.ref a/\Q (.bl (decide (z∈ks))) H):=by
 intro pins s σ H x y v u Q I rx ry h;obtain⟨z,rfl,rfl,q⟩:=h;obtain⟨t,rfl⟩:=rx;cases ry;obtain⟨es,ep,l,f⟩:=F.lk;obtain⟨kvs,g1,g2,g3⟩:=gw (prog:=X.prog) f;have dd:s.heap.DictOf (ay X.prog X.w) a kvs:=⟨_,es,ep,I.kIn a _ l,⟨rfl,rfl,rfl⟩,rfl,λ e he=>g1 e (by simpa using he),g2,by rw[g3];exact jy F.nd⟩;refine wpAny_in_of (knd:=ay X.prog X.w) (k:=.inr (stO z)) (bZ (stO z) t) F.ns dd.mapOf ?_
 rw[show (valueAt kvs (.inr (stO z))).isSome=decide (z∈ks) from u5 g3 z];exact⟨.bl _,H,I.tok _,rfl,q⟩
theorem nB {C:Ctx}{a:Expr}{f:EE}{pos p:Pos}{aF:Addr}{n:Str}{ks:List (List Nat)}(F:KeysK C.X.w C.X.K aF ks)(hg:Gl C.X n)(hm:C.X.mg n=some (.ref aF))(ha:SE C a f)(hd:autoParam ((n == ("__debug__":Str))=false) ZC._auto_1)(hb:autoParam (behindInMarks .In (.Name n p)=false) ZL._auto_1):SC C (.Compare a [.In] [.Name n p] pos) (Dv.eB1 (Dv.inKD ks) f):=by
 obtain⟨ta,pa,qa⟩:=ha;refine⟨_,fP (sS F) pa (cm (v:=.ref aF) hg hm rfl hd) hb,λ σ H Hv ρ Q e s q=>?_⟩;refine qa.step e (.refl s) q λ v d fr Hv1 H1 _ x1 _ rp1 _ q1=>?_
 cases d with
 | str z=>
  unfold Rp at rp1;subst rp1;exact⟨Dv.clipS z,rfl,rfl,(show Ok C.X.K Hv H (C.W σ) C.cls (.ok (.bl (decide (Dv.clipS z∈ks))) true) _ from q1).at x1 bI rfl⟩
 | _=>exact Zf q1
theorem fents_nil {w:World}{K:yy}:g6 w K [] []:=trivial
theorem fents_cons {w:World}{K:yy}{e:DictEntry}{es:List DictEntry}{z:List Nat}{fs:List (List Nat)}{ps:Dv.Frm}{t:Tok}{b:Addr}{ot:Obj}{us:List Value}{nt:Nat}(h1:e.hash=ng w (.inr (stO z)))(h2:e.key=.str (stO z) t)(h3:e.val=.ref b)(h4:K.lookup b=some ot)(h5:ot.cls=.type "tuple")(h6:ot.data=.seq us.toArray nt)(h7:us.length<=100)(h8:Vals (fs.map λ z=>V.str (stO z)) us)(hr:g6 w K es ps):g6 w K (e::es) ((z,fs)::ps):=
 ⟨⟨h1,⟨t,h2⟩,b,ot,us,nt,h3,h4,h5,h6,h7,h8⟩,hr⟩
theorem kents_nil {w:World}:g9 w [] []:=trivial
theorem kents_cons {w:World}{e:DictEntry}{es:List DictEntry}{z:List Nat}{zs:List (List Nat)}{t:Tok}(h1:e.hash=ng w (.inr (stO z)))(h2:e.key=.str (stO z) t)(hr:g9 w es zs):g9 w (e::es) (z::zs):=⟨⟨h1,t,h2⟩,hr⟩
theorem vstr_cons {z:List Nat}{zs:List (List Nat)}{t:Tok}{us:List Value}(h:Vals (zs.map λ z=>V.str (stO z)) us):Vals ((z::zs).map λ z=>V.str (stO z)) (.str (stO z) t::us):=.cons ⟨t,rfl⟩ h
theorem vstr_nil:Vals (([]:List (List Nat)).map λ z=>V.str (stO z)) []:=.nil
theorem oC {C:Ctx}{a:Expr}:SC C a Dv.eBad:=⟨λ _ _ _=>False,λ _ _ _ _ _ _ h=>h.elim,λ _ _ _ _ _ _ _ q=>q⟩
theorem jD {C:Ctx}{x:Str}{z:List Nat}{t:Tok}{pos:Pos}(hg:Gl C.X x)(hm:C.X.mg x=some (.str (stO (Dv.clipS z)) t))(hd:autoParam ((x == ("__debug__":Str))=false) ZC._auto_1):SE C (.Name x pos) (Dv.eStr z):=
 ⟨_,cm (v:=.str (stO (Dv.clipS z))) hg hm ⟨t,rfl⟩ hd,λ _ _ _ _ _ _ s q=>q.now (v:=.str (stO (Dv.clipS z))) s bT rfl⟩
end Sd
namespace Cw
open Dv (eAnd eB1 eB2 eBl eCall eCm eComp eCompT eDict0 eDix eInt eIx eLst eNeg eNot eOp eOr eSlice eStr eTup eVar iDown iEnum iEnumS iRange2 iSeq iStr lCons lNil sAug sAugIx sCons sDMove sExpr sFor sForR sForT sIf sNil sPut sRaise sRet sRetO sRetT sSet sSetD sSetG sWhile)
open Dv (D R)
def b_Q0C:Dv.SS:=
 (sIf (eOr (eCm .lt (eVar 0) (eInt 1)) (eCm .gt (eVar 0) (eInt 60))) (sRaise "NoWheel") sNil)
def F_Q0C:List D->R:=Dv.fn 1 b_Q0C
def b_Q09_l1:Dv.SS:=
 (sCons (sIf (eOr (eCm .le (eVar 3) (eVar 2)) (eCm .ge (eVar 3) (eVar 1))) (sRaise "NoBeat") sNil) (sSetG [3] 2 (eVar 3)))
def b_Q09_t2:Dv.SS:=
 (sFor [0] 3 (iSeq (eVar 0)) b_Q09_l1)
def b_Q09_t1:Dv.SS:=
 (sCons (sSet 2 (eNeg (eInt 1))) b_Q09_t2)
def b_Q09:Dv.SS:=
 (sCons (sIf (eCm .eq (eB1 Dv.lenD (eVar 0)) (eInt 0)) (sRaise "NoBeat") sNil) b_Q09_t1)
def F_Q09:List D->R:=Dv.fn 4 b_Q09
def b_Q05_t1:Dv.SS:=
 (sExpr (eCall F_Q09 (lCons (eVar 1) (lCons (eVar 0) lNil))))
def b_Q05:Dv.SS:=
 (sCons (sExpr (eCall F_Q0C (lCons (eVar 0) lNil))) b_Q05_t1)
def F_Q05:List D->R:=Dv.fn 2 b_Q05
def b_Q0R_t3:Dv.SS:=
 (sRet (eOp .mod (eOp .mul (eVar 2) (eVar 2)) (eInt 2147483629)))
def b_Q0R_t2:Dv.SS:=
 (sCons (sIf (eCm .gt (eB1 Dv.lenD (eVar 0)) (eInt 0)) (sSet 2 (eOp .mod (eOp .add (eOp .mul (eIx (eVar 0) (eOp .mod (eVar 1) (eB1 Dv.lenD (eVar 0)))) (eInt 48271)) (eOp .mul (eVar 1) (eInt 7919))) (eInt 2147483647))) sNil) b_Q0R_t3)
def b_Q0R_t1:Dv.SS:=
 (sCons (sSet 2 (eOp .add (eOp .mul (eInt 7919) (eVar 1)) (eInt 5))) b_Q0R_t2)
def b_Q0R:Dv.SS:=
 (sCons (sIf (eCm .lt (eVar 1) (eB1 Dv.lenD (eVar 0))) (sRet (eIx (eVar 0) (eVar 1))) sNil) b_Q0R_t1)
def F_Q0R:List D->R:=Dv.fn 3 b_Q0R
def c_Q11_1:Dv.EE:=(eComp (eOp .mod (eVar 0) (eVar 1)) (eBl true) [0] (iSeq (eVar 1)))
def b_Q11_t3:Dv.SS:=
 (sRetO 2)
def b_Q11_t2:Dv.SS:=
 (sCons (sExpr (eCall F_Q05 (lCons (eVar 0) (lCons (eVar 2) lNil)))) b_Q11_t3)
def b_Q11_t1:Dv.SS:=
 (sCons (sSet 2 (eB1 Dv.sortedD c_Q11_1)) b_Q11_t2)
def b_Q11:Dv.SS:=
 (sCons (sExpr (eCall F_Q0C (lCons (eVar 0) lNil))) b_Q11_t1)
def F_Q11:List D->R:=Dv.fn 3 b_Q11
def b_Q04_l1:Dv.SS:=
 (sPut 1 (eVar 2) (eInt 1))
def b_Q04_t3:Dv.SS:=
 (sRetO 1)
def b_Q04_t2:Dv.SS:=
 (sCons (sFor [0] 2 (iSeq (eVar 0)) b_Q04_l1) b_Q04_t3)
def b_Q04_t1:Dv.SS:=
 (sCons (sSet 1 (eOp .mul (eLst (lCons (eInt 0) lNil)) (eOp .add (eIx (eVar 0) (eNeg (eInt 1))) (eInt 1)))) b_Q04_t2)
def b_Q04:Dv.SS:=
 (sCons (sIf (eCm .eq (eB1 Dv.lenD (eVar 0)) (eInt 0)) (sRet (eLst lNil)) sNil) b_Q04_t1)
def F_Q04:List D->R:=Dv.fn 3 b_Q04
def b_Q1G_l1:Dv.SS:=
 (sAug 1 .sub (eInt 1))
def b_Q1G_t2:Dv.SS:=
 (sRet (eSlice (eVar 0) none (some (eVar 1))))
def b_Q1G_t1:Dv.SS:=
 (sCons (sWhile 100000 (eAnd (eCm .gt (eVar 1) (eInt 0)) (eCm .eq (eIx (eVar 0) (eOp .sub (eVar 1) (eInt 1))) (eInt 0))) b_Q1G_l1) b_Q1G_t2)
def b_Q1G:Dv.SS:=
 (sCons (sSet 1 (eB1 Dv.lenD (eVar 0))) b_Q1G_t1)
def F_Q1G:List D->R:=Dv.fn 2 b_Q1G
def b_Q1F_l1:Dv.SS:=
 (sAugIx 3 .sub (eOp .add (eVar 5) (eVar 6)) (eOp .mul (eIx (eVar 4) (eVar 5)) (eVar 7)))
def b_Q1F_l2:Dv.SS:=
 (sCons (sPut 4 (eVar 5) (eIx (eVar 3) (eOp .add (eVar 5) (eVar 2)))) (sForT [1] (Dv.tupTo [6,7]) (iEnum (eVar 1)) b_Q1F_l1))
def b_Q1F_t5:Dv.SS:=
 (sRetT 4 (eCall F_Q1G (lCons (eSlice (eVar 3) none (some (eVar 2))) lNil)))
def b_Q1F_t4:Dv.SS:=
 (sCons (sForR 5 (iDown (eOp .sub (eB1 Dv.lenD (eVar 4)) (eInt 1)) (eNeg (eInt 1))) b_Q1F_l2) b_Q1F_t5)
def b_Q1F_t3:Dv.SS:=
 (sCons (sSet 4 (eOp .mul (eLst (lCons (eInt 0) lNil)) (eOp .sub (eB1 Dv.lenD (eVar 0)) (eVar 2)))) b_Q1F_t4)
def b_Q1F_t2:Dv.SS:=
 (sCons (sSet 3 (eB1 Dv.listD (eVar 0))) b_Q1F_t3)
def b_Q1F_t1:Dv.SS:=
 (sCons (sSet 2 (eOp .sub (eB1 Dv.lenD (eVar 1)) (eInt 1))) b_Q1F_t2)
def b_Q1F:Dv.SS:=
 (sCons (sIf (eOr (eCm .eq (eB1 Dv.lenD (eVar 1)) (eInt 0)) (eCm .ne (eIx (eVar 1) (eNeg (eInt 1))) (eInt 1))) (sRaise "NoPart") sNil) b_Q1F_t1)
def F_Q1F:List D->R:=Dv.fn 8 b_Q1F
def c_Q0F_1:Dv.EE:=(eComp (eVar 0) (eCm .eq (eOp .mod (eVar 1) (eVar 0)) (eInt 0)) [0] (iRange2 (eInt 1) (eOp .add (eVar 0) (eInt 1))))
def b_Q0F_t1:Dv.SS:=
 (sRet c_Q0F_1)
def b_Q0F:Dv.SS:=
 (sCons (sIf (eOr (eCm .lt (eVar 0) (eInt 1)) (eCm .gt (eVar 0) (eInt 60))) (sRaise "NoPart") sNil) b_Q0F_t1)
def F_Q0F:List D->R:=Dv.fn 1 b_Q0F
def b_Q16_l1:Dv.SS:=
 (sSet 3 (eIx (eCall F_Q1F (lCons (eVar 3) (lCons (eDix (eVar 1) (eVar 4)) lNil))) (eInt 0)))
def b_Q16_l2:Dv.SS:=
 (sCons (sSet 3 (eOp .add (eOp .add (eLst (lCons (eNeg (eInt 1)) lNil)) (eOp .mul (eLst (lCons (eInt 0) lNil)) (eOp .sub (eVar 2) (eInt 1)))) (eLst (lCons (eInt 1) lNil)))) (sCons (sFor [2] 4 (iSeq (eSlice (eCall F_Q0F (lCons (eVar 2) lNil)) none (some (eNeg (eInt 1))))) b_Q16_l1) (sDMove 1 3 (eVar 2))))
def b_Q16_t2:Dv.SS:=
 (sRetO 1)
def b_Q16_t1:Dv.SS:=
 (sCons (sFor [0] 2 (iSeq (eCall F_Q0F (lCons (eVar 0) lNil))) b_Q16_l2) b_Q16_t2)
def b_Q16:Dv.SS:=
 (sCons (sSetD 1 eDict0) b_Q16_t1)
def F_Q16:List D->R:=Dv.fn 5 b_Q16
def b_Q14:Dv.SS:=
 (sRet (eDix (eCall F_Q16 (lCons (eVar 0) lNil)) (eVar 0)))
def F_Q14:List D->R:=Dv.fn 1 b_Q14
def b_Q0Y:Dv.SS:=
 (sRet (eCm .eq (eIx (eCall F_Q1F (lCons (eCall F_Q04 (lCons (eVar 0) lNil)) (lCons (eVar 1) lNil))) (eInt 1)) (eLst lNil)))
def F_Q0Y:List D->R:=Dv.fn 2 b_Q0Y
def c_Q15_1:Dv.EE:=(eComp (eVar 0) (eCall F_Q0Y (lCons (eVar 1) (lCons (eDix (eVar 2) (eVar 0)) lNil))) [1,2] (iSeq (eSlice (eCall F_Q0F (lCons (eVar 0) lNil)) (some (eInt 1)) none)))
def b_Q15_t2:Dv.SS:=
 (sRet c_Q15_1)
def b_Q15_t1:Dv.SS:=
 (sCons (sSetD 2 (eCall F_Q16 (lCons (eVar 0) lNil))) b_Q15_t2)
def b_Q15:Dv.SS:=
 (sCons (sExpr (eCall F_Q05 (lCons (eVar 0) (lCons (eVar 1) lNil)))) b_Q15_t1)
def F_Q15:List D->R:=Dv.fn 3 b_Q15
def b_Q18:Dv.SS:=
 (sRet (eIx (eCall F_Q0F (lCons (eVar 0) lNil)) (eInt 1)))
def F_Q18:List D->R:=Dv.fn 1 b_Q18
def c_Q0H_1:Dv.EE:=(eComp (eCm .eq (eOp .mod (eVar 0) (eVar 1)) (eInt 0)) (eBl true) [1] (iSeq (eSlice (eCall F_Q0F (lCons (eVar 0) lNil)) (some (eInt 1)) none)))
def b_Q0H_t1:Dv.SS:=
 (sRet (eB1 Dv.allD c_Q0H_1))
def b_Q0H:Dv.SS:=
 (sCons (sSet 1 (eCall F_Q18 (lCons (eVar 0) lNil))) b_Q0H_t1)
def F_Q0H:List D->R:=Dv.fn 2 b_Q0H
def c_Q19_1:Dv.EE:=(eComp (eVar 0) (eCall F_Q0H (lCons (eVar 0) lNil)) [] (iSeq (eSlice (eCall F_Q0F (lCons (eVar 0) lNil)) (some (eInt 1)) none)))
def b_Q19_t1:Dv.SS:=
 (sRet c_Q19_1)
def b_Q19:Dv.SS:=
 (sCons (sExpr (eCall F_Q0C (lCons (eVar 0) lNil))) b_Q19_t1)
def F_Q19:List D->R:=Dv.fn 1 b_Q19
def c_Q17_1:Dv.EE:=(eComp (eVar 0) (eCm .isin (eVar 0) (eVar 1)) [2] (iSeq (eCall F_Q19 (lCons (eVar 0) lNil))))
def b_Q17_t1:Dv.SS:=
 (sRet c_Q17_1)
def b_Q17:Dv.SS:=
 (sCons (sSet 2 (eCall F_Q15 (lCons (eVar 0) (lCons (eVar 1) lNil)))) b_Q17_t1)
def F_Q17:List D->R:=Dv.fn 3 b_Q17
def b_Q0G_l1:Dv.SS:=
 (sAug 2 .mul (eCall F_Q18 (lCons (eVar 3) lNil)))
def b_Q0G_t2:Dv.SS:=
 (sRet (eCm .eq (eVar 2) (eB1 Dv.lenD (eVar 1))))
def b_Q0G_t1:Dv.SS:=
 (sCons (sFor [0,1] 3 (iSeq (eCall F_Q17 (lCons (eVar 0) (lCons (eVar 1) lNil)))) b_Q0G_l1) b_Q0G_t2)
def b_Q0G:Dv.SS:=
 (sCons (sSet 2 (eInt 1)) b_Q0G_t1)
def F_Q0G:List D->R:=Dv.fn 4 b_Q0G
def b_Q06_t1:Dv.SS:=
 (sIf (eOr (eCm .ne (eIx (eVar 0) (eInt 0)) (eInt 0)) (eCm .gt (eB1 Dv.lenD (eVar 0)) (eInt 12))) (sRaise "NoBeat") sNil)
def b_Q06:Dv.SS:=
 (sCons (sExpr (eCall F_Q09 (lCons (eVar 0) (lCons (eOp .add (eInt 60) (eInt 1)) lNil)))) b_Q06_t1)
def F_Q06:List D->R:=Dv.fn 1 b_Q06
def c_Q0I_1:Dv.EE:=(eComp (eB2 (Dv.inSD false) (eVar 0) (eVar 1)) (eBl true) [1] (iStr (eVar 0)))
def b_Q0I:Dv.SS:=
 (sRet (eB1 Dv.allD c_Q0I_1))
def F_Q0I:List D->R:=Dv.fn 2 b_Q0I
def c_Q1A_1:Dv.EE:=(eCompT 2 (eVar 0) (eCm .eq (eVar 1) (eStr [120])) [] (iEnumS (eVar 0)))
def b_Q1A_t2:Dv.SS:=
 (sRet (eTup (lCons (eB1 Dv.lenSD (eVar 0)) (lCons c_Q1A_1 lNil))))
def b_Q1A_t1:Dv.SS:=
 (sCons (sIf (eOr (eB2 (Dv.inSD true) (eStr [120]) (eVar 0)) (eNot (eCall F_Q0I (lCons (eVar 0) (lCons (eStr [120,46]) lNil))))) (sRaise "NoText") sNil) b_Q1A_t2)
def b_Q1A:Dv.SS:=
 (sCons (sIf (eOr (eNot (eB1 Dv.isStrD (eVar 0))) (eCm .gt (eB1 Dv.lenSD (eVar 0)) (eInt 60))) (sRaise "NoText") sNil) b_Q1A_t1)
def F_Q1A:List D->R:=Dv.fn 1 b_Q1A
end Cw
namespace Cw
open Dv (eB1 eB2 eBad eBl eCall eCm eComp eIf eInt eIx eLst eNeg eNot eOp eOr eSlice eSliceS eSplit eStart eStr eTup eVar eWh iRange iSeq lCons lNil sCons sDesk1 sDesk2 sDeskF sExpr sExtF sFor sIf sNever sNil sRaise sRet sRetO sSet sSetG sTryAs)
open Dv (D R)
def b_Q0A_t1:Dv.SS:=
 (sExpr (eCall F_Q0C (lCons (eOp .mul (eIx (eVar 0) (eInt 0)) (eIx (eVar 0) (eInt 1))) lNil)))
def b_Q0A:Dv.SS:=
 (sCons (sIf (eOr (eCm .ne (eB1 Dv.lenD (eVar 0)) (eInt 2)) (eCm .lt (eB1 Dv.minTD (eVar 0)) (eInt 1))) (sRaise "NoWheel") sNil) b_Q0A_t1)
def F_Q0A:List D->R:=Dv.fn 1 b_Q0A
def c_Q00_1:Dv.EE:=(eComp (eTup (lCons (eVar 1) (lCons (eVar 0) lNil))) (eBl true) [2] (iRange (eIx (eVar 0) (eInt 1))))
def b_Q00_l1:Dv.SS:=
 (sExtF 1 c_Q00_1)
def b_Q00_t2:Dv.SS:=
 (sRetO 1)
def b_Q00_t1:Dv.SS:=
 (sCons (sFor [0] 2 (iRange (eIx (eVar 0) (eInt 0))) b_Q00_l1) b_Q00_t2)
def b_Q00:Dv.SS:=
 (sCons (sSet 1 (eLst lNil)) b_Q00_t1)
def F_Q00:List D->R:=Dv.fn 3 b_Q00
def c_Q0B_1:Dv.EE:=(eComp (eVar 0) (eB2 (Dv.inG false) (eVar 0) (eVar 1)) [1] (iSeq (eCall F_Q00 (lCons (eVar 0) lNil))))
def b_Q0B_t1:Dv.SS:=
 (sIf (eOr (eCm .eq (eB1 Dv.lenD (eVar 1)) (eInt 0)) (eCm .ne (eVar 1) c_Q0B_1)) (sRaise "NoBeat") sNil)
def b_Q0B:Dv.SS:=
 (sCons (sExpr (eCall F_Q0A (lCons (eVar 0) lNil))) b_Q0B_t1)
def F_Q0B:List D->R:=Dv.fn 2 b_Q0B
def c_Q08_1:Dv.EE:=(eComp (eCm .eq (eOp .mod (eIx (eVar 1) (eInt 1)) (eVar 0)) (eInt 0)) (eBl true) [0] (iSeq (eSlice (eCall F_Q0F (lCons (eIx (eVar 0) (eInt 0)) lNil)) (some (eInt 1)) none)))
def b_Q08:Dv.SS:=
 (sIf (eB1 Dv.anyD c_Q08_1) (sRaise "NoPair") sNil)
def F_Q08:List D->R:=Dv.fn 1 b_Q08
def gc:Dv.Frm:=[([98,101,97,116],[[110,101,119],[116,101,120,116]]),([116,117,114,110],[[110,101,119],[107,101,112,116],[110,117,109,98,101,114]]),([109,117,108,116,105,112,108,121],[[110,101,119],[107,101,112,116],[110,117,109,98,101,114]]),([114,101,112,101,97,116],[[110,101,119],[107,101,112,116],[110,117,109,98,101,114]]),([115,112,114,101,97,100],[[110,101,119],[107,101,112,116],[110,117,109,98,101,114]]),([109,97,100,101],[[110,101,119],[107,101,112,116]]),([100,114,111,112],[[107,101,112,116]]),([112,97,114,116,110,101,114],[[110,101,119],[107,101,112,116]]),([115,104,111,119],[[107,101,112,116]]),([102,105,108,108,115],[[107,101,112,116],[107,101,112,116]]),([112,97,114,116,115],[[107,101,112,116]]),([114,117,108,101,115],[[107,101,112,116]]),([107,105,110,100,115],[[107,101,112,116]]),([111,119,110],[[107,101,112,116]]),([110,97,109,101,115],[])]
def t9:List (List Nat):=[[115,104,111,119],[112,97,114,116,115],[114,117,108,101,115],[107,105,110,100,115],[111,119,110]]
def tT:List (List Nat):=[[116,117,114,110],[109,117,108,116,105,112,108,121],[114,101,112,101,97,116],[115,112,114,101,97,100]]
theorem l3:∀ p∈gc,∀ z∈p.2,∀ x∈z,x<1114112:=by decide
def b_Q03_t1:Dv.SS:=
 sNever
def b_Q03:Dv.SS:=
 (sCons (sExpr (eCall F_Q05 (lCons (eVar 0) (lCons (eVar 1) lNil)))) b_Q03_t1)
def F_Q03:List D->R:=Dv.fn 6 b_Q03
def b_Q0K:Dv.SS:=
 (sRet (eCm .eq (eCall F_Q03 (lCons (eVar 0) (lCons (eVar 1) (lCons (eVar 2) lNil)))) (eOp .mul (eLst (lCons (eInt 1) lNil)) (eVar 0))))
def F_Q0K:List D->R:=Dv.fn 3 b_Q0K
def b_Q13_t1:Dv.SS:=
 sNever
def b_Q13:Dv.SS:=
 (sCons (sIf (eOr (eNot (eCall F_Q0G (lCons (eVar 0) (lCons (eVar 1) lNil)))) eBad) (sRaise "NoRule") sNil) b_Q13_t1)
def F_Q13:List D->R:=Dv.fn 5 b_Q13
def b_Q1H_t3:Dv.SS:=
 (sRetO 1)
def b_Q1H_t2:Dv.SS:=
 (sCons (sIf (eOr (eB1 (Dv.ninFD gc) (eIx (eVar 1) (eInt 0))) (eCm .ne (eB1 Dv.lenD (eVar 1)) (eOp .add (eB1 (Dv.lenFD gc) (eIx (eVar 1) (eInt 0))) (eInt 1)))) (sRaise "NoDeed") sNil) b_Q1H_t3)
def b_Q1H_t1:Dv.SS:=
 (sCons (sSet 1 (eSplit (eVar 0) (eStr [32]))) b_Q1H_t2)
def b_Q1H:Dv.SS:=
 (sCons (sIf (eNot (eB1 Dv.isStrD (eVar 0))) (sRaise "NoDeed") sNil) b_Q1H_t1)
def F_Q1H:List D->R:=Dv.fn 2 b_Q1H
def b_Q07:Dv.SS:=
 (sIf (eOr (eCm .lt (eB1 Dv.lenSD (eVar 0)) (eInt 1)) (eOr (eCm .gt (eB1 Dv.lenSD (eVar 0)) (eInt 8)) (eNot (eCall F_Q0I (lCons (eVar 0) (lCons (eStr [97,98,99,100,101,102,103,104,105,106,107,108,109,110,111,112,113,114,115,116,117,118,119,120,121,122]) lNil)))))) (sRaise "NoName") sNil)
def F_Q07:List D->R:=Dv.fn 1 b_Q07
def b_Q1B_t2:Dv.SS:=
 sNever
def b_Q1B_t1:Dv.SS:=
 (sCons (sIf (eOr (eCm .lt (eB1 Dv.lenSD (eVar 1)) (eInt 1)) (eOr (eCm .gt (eB1 Dv.lenSD (eVar 1)) (eInt 6)) (eNot (eCall F_Q0I (lCons (eVar 1) (lCons (eStr [48,49,50,51,52,53,54,55,56,57]) lNil)))))) (sRaise "NoNumber") sNil) b_Q1B_t2)
def b_Q1B:Dv.SS:=
 (sCons (sSetG [0] 1 (eIf (eStart (eVar 0) (eStr [45])) (eSliceS (eVar 0) (some (eInt 1)) none) (eVar 0))) b_Q1B_t1)
def F_Q1B:List D->R:=Dv.fn 2 b_Q1B
def b_Q0E_t1:Dv.SS:=
 (sIf (eOr (eCm .lt (eVar 1) (eInt 0)) eBad) (sRaise "NoWindow") sNil)
def b_Q0E:Dv.SS:=
 (sCons (sExpr (eCall F_Q06 (lCons (eVar 0) lNil))) b_Q0E_t1)
def F_Q0E:List D->R:=Dv.fn 2 b_Q0E
def b_Q10_t1:Dv.SS:=
 sNever
def b_Q10:Dv.SS:=
 (sCons (sExpr (eCall F_Q0E (lCons (eVar 0) (lCons (eVar 1) lNil)))) b_Q10_t1)
def F_Q10:List D->R:=Dv.fn 3 b_Q10
def b_Q0N_t2:Dv.SS:=
 sNever
def b_Q0N_t1:Dv.SS:=
 (sCons (sExpr (eCall F_Q08 (lCons (eVar 0) lNil))) b_Q0N_t2)
def b_Q0N:Dv.SS:=
 (sCons (sExpr (eCall F_Q0B (lCons (eVar 0) (lCons (eVar 1) lNil)))) b_Q0N_t1)
def F_Q0N:List D->R:=Dv.fn 2 b_Q0N
def b_Q0V_t3:Dv.SS:=
 (sRet (eOp .add (eVar 1) (eLst (lCons (eB1 (Dv.isXD ["WheelError","NoWheel","NoBeat","NoPart","NoRule","NoWindow","NoPair","NoText","NoName","NoNumber","NoDeed","TooMany"] ["ValueError"]) (eVar 0)) lNil))))
def b_Q0V_t2:Dv.SS:=
 (sCons (sSet 1 (eOp .add (eVar 1) (eLst (lCons (eB1 (Dv.isXD ["WheelError","NoWheel","NoBeat","NoPart","NoRule","NoWindow","NoPair","NoText","NoName","NoNumber","NoDeed","TooMany"] ["NoDeed"]) (eVar 0)) (lCons (eB1 (Dv.isXD ["WheelError","NoWheel","NoBeat","NoPart","NoRule","NoWindow","NoPair","NoText","NoName","NoNumber","NoDeed","TooMany"] ["TooMany"]) (eVar 0)) (lCons (eB1 (Dv.isXD ["WheelError","NoWheel","NoBeat","NoPart","NoRule","NoWindow","NoPair","NoText","NoName","NoNumber","NoDeed","TooMany"] ["NoNumber"]) (eVar 0)) lNil)))))) b_Q0V_t3)
def b_Q0V_t1:Dv.SS:=
 (sCons (sSet 1 (eOp .add (eVar 1) (eLst (lCons (eB1 (Dv.isXD ["WheelError","NoWheel","NoBeat","NoPart","NoRule","NoWindow","NoPair","NoText","NoName","NoNumber","NoDeed","TooMany"] ["NoWindow"]) (eVar 0)) (lCons (eB1 (Dv.isXD ["WheelError","NoWheel","NoBeat","NoPart","NoRule","NoWindow","NoPair","NoText","NoName","NoNumber","NoDeed","TooMany"] ["NoPair"]) (eVar 0)) (lCons (eB1 (Dv.isXD ["WheelError","NoWheel","NoBeat","NoPart","NoRule","NoWindow","NoPair","NoText","NoName","NoNumber","NoDeed","TooMany"] ["NoText"]) (eVar 0)) (lCons (eB1 (Dv.isXD ["WheelError","NoWheel","NoBeat","NoPart","NoRule","NoWindow","NoPair","NoText","NoName","NoNumber","NoDeed","TooMany"] ["NoName"]) (eVar 0)) lNil))))))) b_Q0V_t2)
def b_Q0V:Dv.SS:=
 (sCons (sSet 1 (eLst (lCons (eB1 (Dv.isXD ["WheelError","NoWheel","NoBeat","NoPart","NoRule","NoWindow","NoPair","NoText","NoName","NoNumber","NoDeed","TooMany"] ["NoWheel"]) (eVar 0)) (lCons (eB1 (Dv.isXD ["WheelError","NoWheel","NoBeat","NoPart","NoRule","NoWindow","NoPair","NoText","NoName","NoNumber","NoDeed","TooMany"] ["NoBeat"]) (eVar 0)) (lCons (eB1 (Dv.isXD ["WheelError","NoWheel","NoBeat","NoPart","NoRule","NoWindow","NoPair","NoText","NoName","NoNumber","NoDeed","TooMany"] ["NoPart"]) (eVar 0)) (lCons (eB1 (Dv.isXD ["WheelError","NoWheel","NoBeat","NoPart","NoRule","NoWindow","NoPair","NoText","NoName","NoNumber","NoDeed","TooMany"] ["NoRule"]) (eVar 0)) lNil)))))) b_Q0V_t1)
def F_Q0V:List D->R:=Dv.fn 2 b_Q0V
def b_Q1C_t1:Dv.SS:=
 (sRet (eWh (eIx (eVar 1) (eInt 0)) (eIx (eVar 1) (eInt 1))))
def b_Q1C:Dv.SS:=
 (sCons (sSetG [0] 1 (eCall F_Q1A (lCons (eVar 0) lNil))) b_Q1C_t1)
def F_Q1C:List D->R:=Dv.fn 2 b_Q1C
def kD:Dv.Dk:=⟨(eCm .eq (eVar 1) (eStr [110,117,109,98,101,114])),(eCall F_Q1B (lCons (eVar 2) lNil)),(eCm .eq (eVar 1) (eStr [116,101,120,116])),(eCall F_Q1C (lCons (eVar 2) lNil)),(eCall F_Q07 (lCons (eVar 2) lNil)),(eCm .eq (eVar 1) (eStr [110,101,119])),(eIx (eVar 1) (eInt 0)),(eB1 (Dv.inKD t9) (eVar 3)),(eB1 (Dv.inKD tT) (eVar 3)),(eCm .eq (eVar 3) (eStr [98,101,97,116])),(eIx (eVar 1) (eInt 1)),(eCall F_Q1H (lCons (eVar 1) lNil)),(eSlice (eVar 2) (some (eInt 1)) none),(eIx (eVar 2) (eInt 0)),gc⟩
def b_Q0S_t1:Dv.SS:=
 (sDeskF 1 2 kD (iRange (eInt 31)) (eB2 Dv.addSD (eB2 Dv.addSD (eStr [98,101,97,116,32]) (eB2 Dv.mulSD (eB2 Dv.ixSD (eVar 0) (eOp .mod (eVar 2) (eInt 26))) (eOp .add (eInt 1) (eOp .fdiv (eVar 2) (eInt 26))))) (eStr [32,120])))
def b_Q0S:Dv.SS:=
 (sCons (sSet 0 (eStr [97,98,99,100,101,102,103,104,105,106,107,108,109,110,111,112,113,114,115,116,117,118,119,120,121,122])) b_Q0S_t1)
def F_Q0S:List D->R:=Dv.fn 3 b_Q0S
def b_Q0Q_t10:Dv.SS:=
 (sIf (eCm .eq (eVar 0) (eInt 10)) (sDesk2 3 kD (eStr [98,101,97,116,32,97,32,120]) (eB2 Dv.addSD (eStr [116,117,114,110,32,97,32,97,32,43]) (eB1 Dv.strID (eVar 2)))) sNil)
def b_Q0Q_t9:Dv.SS:=
 (sCons (sIf (eCm .eq (eVar 0) (eInt 9)) (sExpr (eCall F_Q0S lNil)) sNil) b_Q0Q_t10)
def b_Q0Q_t8:Dv.SS:=
 (sCons (sIf (eCm .eq (eVar 0) (eInt 8)) (sDesk1 kD (eB2 Dv.addSD (eStr [110,97,109,101,115,32]) (eB1 Dv.strID (eVar 2)))) sNil) b_Q0Q_t9)
def b_Q0Q_t7:Dv.SS:=
 (sCons (sIf (eCm .eq (eVar 0) (eInt 7)) (sDesk1 kD (eB2 Dv.addSD (eStr [115,104,111,119,32]) (eSliceS (eStr [97,98,99,100,101,102,103,104]) (some (eOp .mod (eVar 2) (eInt 8))) none))) sNil) b_Q0Q_t8)
def b_Q0Q_t6:Dv.SS:=
 (sCons (sIf (eCm .eq (eVar 0) (eInt 6)) (sExpr (eCall F_Q1A (lCons (eB2 Dv.addSD (eStr [120]) (eB1 Dv.strID (eVar 2))) lNil))) sNil) b_Q0Q_t7)
def b_Q0Q_t5:Dv.SS:=
 (sCons (sIf (eCm .eq (eVar 0) (eInt 5)) (sExpr (eCall F_Q0N (lCons (eTup (lCons (eOp .add (eInt 2) (eOp .mul (eOp .mod (eVar 2) (eInt 2)) (eInt 2))) (lCons (eOp .add (eInt 2) (eOp .mul (eOp .mod (eOp .fdiv (eVar 2) (eInt 2)) (eInt 3)) (eInt 2))) lNil))) (lCons (eLst (lCons (eTup (lCons (eInt 0) (lCons (eInt 0) lNil))) lNil)) lNil)))) sNil) b_Q0Q_t6)
def b_Q0Q_t4:Dv.SS:=
 (sCons (sIf (eCm .eq (eVar 0) (eInt 4)) (sExpr (eCall F_Q10 (lCons (eLst (lCons (eInt 0) (lCons (eOp .add (eInt 1) (eOp .mod (eVar 2) (eInt 60))) lNil))) (lCons (eOp .sub (eNeg (eInt 1)) (eVar 2)) lNil)))) sNil) b_Q0Q_t5)
def b_Q0Q_t3:Dv.SS:=
 (sCons (sIf (eCm .eq (eVar 0) (eInt 3)) (sExpr (eCall F_Q13 (lCons (eInt 8) (lCons (eLst (lCons (eInt 0) (lCons (eInt 1) (lCons (eInt 3) lNil)))) lNil)))) sNil) b_Q0Q_t4)
def b_Q0Q_t2:Dv.SS:=
 (sCons (sIf (eCm .eq (eVar 0) (eInt 2)) (sExpr (eCall F_Q14 (lCons (eOp .sub (eInt 0) (eVar 2)) lNil))) sNil) b_Q0Q_t3)
def b_Q0Q_t1:Dv.SS:=
 (sCons (sIf (eCm .eq (eVar 0) (eInt 1)) (sExpr (eCall F_Q11 (lCons (eVar 1) (lCons (eLst (lCons (eVar 2) (lCons (eOp .add (eVar 2) (eVar 1)) lNil))) lNil)))) sNil) b_Q0Q_t2)
def b_Q0Q:Dv.SS:=
 (sCons (sIf (eCm .eq (eVar 0) (eInt 0)) (sExpr (eCall F_Q0K (lCons (eOp .add (eInt 61) (eVar 2)) (lCons (eLst (lCons (eInt 0) lNil)) (lCons (eLst (lCons (eInt 0) lNil)) lNil))))) sNil) b_Q0Q_t1)
def F_Q0Q:List D->R:=Dv.fn 4 b_Q0Q
def b_Q0X_t2:Dv.SS:=
 (sRetO 3)
def b_Q0X_t1:Dv.SS:=
 (sCons (sTryAs ["WheelError","NoWheel","NoBeat","NoPart","NoRule","NoWindow","NoPair","NoText","NoName","NoNumber","NoDeed","TooMany"] 4 "WheelError" (sExpr (eCall F_Q0Q (lCons (eVar 0) (lCons (eVar 1) (lCons (eVar 2) lNil))))) (sSet 3 (eCall F_Q0V (lCons (eVar 4) lNil)))) b_Q0X_t2)
def b_Q0X:Dv.SS:=
 (sCons (sSet 3 (eLst lNil)) b_Q0X_t1)
def F_Q0X:List D->R:=Dv.fn 5 b_Q0X
def c_Q0T_1:Dv.EE:=(eComp (eCm .eq (eVar 1) (eVar 0)) (eBl true) [3] (iRange (eInt 11)))
def b_Q0T_l1:Dv.SS:=
 (sIf (eCm .ne (eCall F_Q0X (lCons (eVar 3) (lCons (eVar 1) (lCons (eVar 2) lNil)))) (eOp .add c_Q0T_1 (eLst (lCons (eBl true) lNil)))) (sRet (eBl false)) sNil)
def b_Q0T_t3:Dv.SS:=
 (sRet (eBl true))
def b_Q0T_t2:Dv.SS:=
 (sCons (sFor [] 3 (iRange (eInt 11)) b_Q0T_l1) b_Q0T_t3)
def b_Q0T_t1:Dv.SS:=
 (sCons (sSet 2 (eOp .mod (eOp .mul (eCall F_Q0R (lCons (eVar 0) (lCons (eInt 1) lNil))) (eInt 69621)) (eOp .add (eOp .pow (eInt 10) (eInt 9)) (eInt 1)))) b_Q0T_t2)
def b_Q0T:Dv.SS:=
 (sCons (sSet 1 (eOp .add (eInt 2) (eOp .mod (eCall F_Q0R (lCons (eVar 0) (lCons (eInt 0) lNil))) (eInt 59)))) b_Q0T_t1)
def F_Q0T:List D->R:=Dv.fn 4 b_Q0T
end Cw
namespace Lk75
open PySem PySem.Spec PyProof.Rows L2 Sd Cw
open Dv (D R RL EE EL EI RI Sl Out SS)
def top (i:Nat):Stmt:=PySem.Challenge.pw_canonwheel_k75_refusals_apart.main.body.getD i (.Pass ⟨0,0,0,0⟩)
section
variable {P:Program}{w:World}{K:yy}{mg:Str->Option Value}{base:Heap}{ad:String->Option Addr}
abbrev s_Q0C:Stmt:=top 15
theorem sc_check_wheel:FnScope ["length"] ["length"] (ae s_Q0C):=by constructor<;>first|rfl|decide +kernel
theorem ok_Q0C {f:Addr}{fd:FuncData}(d:Df K mg "check_wheel" s_Q0C ["length"] f fd)(xa:XAll K mg ad){C_12:Addr}(h_NoWheel:ad "NoWheel"=some C_12){t_LONGEST:Tok}(n_LONGEST:mg "LONGEST"=some (.int 60 t_LONGEST)):
  FnOk P w K mg base (CXe P w) 1 f fd ["length"] (spD K (ar ad) F_Q0C 1):=by
 have nd:=sc_check_wheel.nd;refine Df.is cxe_ok ["length"] 0 b_Q0C d sc_check_wheel rfl rfl rfl λ cdv A outer s H E hr=>?_
 exact(aq (aN (dM (bU (gg (aa 0) ag) (bz _ (fm (aa 0) (dQ rfl n_LONGEST))))) (aJ (xa.cl _ _ h_NoWheel).1 (aB h_NoWheel) rfl) aA))
abbrev bw:=Fu "check_wheel" s_Q0C ["length"] 1 F_Q0C 1
abbrev s_Q09:Stmt:=top 16
theorem sc_check_rising:FnScope ["numbers","end","before","number"] ["numbers","end"] (ae s_Q09):=by constructor<;>first|rfl|decide +kernel
theorem ok_Q09 {f:Addr}{fd:FuncData}(d:Df K mg "check_rising" s_Q09 ["numbers","end"] f fd)(xa:XAll K mg ad){C_4:Addr}(h_NoBeat:ad "NoBeat"=some C_4)(z_len:mg "len"=none):
  FnOk P w K mg base (CXe P w) 1 f fd ["numbers","end"] (spD K (ar ad) F_Q09 2):=by
 have nd:=sc_check_rising.nd;refine Df.is cxe_ok ["numbers","end","before","number"] 0 b_Q09 d sc_check_rising rfl rfl rfl λ cdv A outer s H E hr=>?_
 exact(ah (aN (bj (bA z_len rfl (aa 0)) ag) (aJ (xa.cl _ _ h_NoBeat).1 (aB h_NoBeat) rfl) aA) (ah (aI (i:=2) (c9 ag) nd rfl (Or.inl rfl)) (aq (dS [0] (i:=3) (bx (aa 0)) (ah (aN (dM (bU (u9 (aa 3) (aa 2)) (bz _ (uu (aa 3) (aa 1))))) (aJ (xa.cl _ _ h_NoBeat).1 (aB h_NoBeat) rfl) aA) (aq (iM [3] (i:=2) (aa 3) nd rfl (Or.inl rfl)))) nd rfl (Or.inl rfl)))))
abbrev cj:=Fu "check_rising" s_Q09 ["numbers","end"] 1 F_Q09 2
abbrev s_Q05:Stmt:=top 17
theorem sc_check_beat:FnScope ["length","beat"] ["length","beat"] (ae s_Q05):=by constructor<;>first|rfl|decide +kernel
theorem ok_Q05 {f:Addr}{fd:FuncData}(d:Df K mg "check_beat" s_Q05 ["length","beat"] f fd)(q_check_wheel:bw P w K mg base ad)(q_check_rising:cj P w K mg base ad):
  FnOk P w K mg base (CXe P w) 2 f fd ["length","beat"] (spD K (ar ad) F_Q05 2):=by
 have nd:=sc_check_beat.nd;refine Df.is cxe_ok ["length","beat"] 1 b_Q05 d sc_check_beat rfl rfl rfl λ cdv A outer s H E hr=>?_
 exact(ah (aC (av q_check_wheel.d q_check_wheel.o hr (by decide) rfl (af (aa 0) aj))) (aq (aC (av q_check_rising.d q_check_rising.o hr (by decide) rfl (af (aa 1) (af (aa 0) aj))))))
abbrev bY:=Fu "check_beat" s_Q05 ["length","beat"] 2 F_Q05 2
abbrev s_Q11:Stmt:=top 18
theorem sc_made_beat:FnScope ["length","numbers","beat"] ["length","numbers"] (ae s_Q11):=by constructor<;>first|rfl|decide +kernel
theorem ok_Q11 {f:Addr}{fd:FuncData}(d:Df K mg "made_beat" s_Q11 ["length","numbers"] f fd)(q_check_wheel:bw P w K mg base ad)(q_check_beat:bY P w K mg base ad)(z_sorted:mg "sorted"=none):
  FnOk P w K mg base (CXe P w) 3 f fd ["length","numbers"] (spD K (ar ad) F_Q11 2):=by
 have nd:=sc_made_beat.nd;refine Df.is cxe_ok ["length","numbers","beat"] 2 b_Q11 d sc_made_beat rfl rfl rfl λ cdv A outer s H E hr=>?_
 exact(ah (aC (av q_check_wheel.d q_check_wheel.o hr (by decide) rfl (af (aa 0) aj))) (ah (aI (i:=2) (lC z_sorted rfl (bF (fs:=["length"]) (is:=[0]) (fe:=(Dv.eOp .mod (Dv.eVar 0) (Dv.eVar 1))) (fc:=(Dv.eBl true)) (az (fsc:=ae s_Q11) (N:=["length","numbers","beat"]) rfl rfl (by decide +kernel)) (bx (aa 1)) (λ cl L s₀ H₀ ex=>(bG (aa 0) (aa 1))) (λ cl L s₀ H₀ ex=>eT))) nd rfl (Or.inl rfl)) (ah (aC (av q_check_beat.d q_check_beat.o hr (by decide) rfl (af (aa 0) (af (aa 2) aj)))) (aq (dq 2)))))
abbrev ft:=Fu "made_beat" s_Q11 ["length","numbers"] 3 F_Q11 2
abbrev s_Q02:Stmt:=top 19
theorem sc_beat_counts:FnScope ["length","beat","starts","counts","start","place"] ["length","beat","starts"] (ae s_Q02):=by constructor<;>first|rfl|decide +kernel
theorem ok_Q02 {f:Addr}{fd:FuncData}(d:Df K mg "beat_counts" s_Q02 ["length","beat","starts"] f fd)(q_check_beat:bY P w K mg base ad):
  FnOk P w K mg base (CXe P w) 3 f fd ["length","beat","starts"] (spD K (ar ad) F_Q03 3):=by
 have nd:=sc_beat_counts.nd;refine Df.is cxe_ok ["length","beat","starts","counts","start","place"] 2 b_Q03 d sc_beat_counts rfl rfl rfl λ cdv A outer s H E hr=>?_
 exact(ah (aC (av q_check_beat.d q_check_beat.o hr (by decide) rfl (af (aa 0) (af (aa 1) aj)))) cV)
abbrev dv:=Fu "beat_counts" s_Q02 ["length","beat","starts"] 3 F_Q03 3
abbrev s_Q0J:Stmt:=top 20
theorem sc_is_partner:FnScope ["length","beat","starts"] ["length","beat","starts"] (ae s_Q0J):=by constructor<;>first|rfl|decide +kernel
theorem ok_Q0J {f:Addr}{fd:FuncData}(d:Df K mg "is_partner" s_Q0J ["length","beat","starts"] f fd)(q_beat_counts:dv P w K mg base ad):
  FnOk P w K mg base (CXe P w) 4 f fd ["length","beat","starts"] (spD K (ar ad) F_Q0K 3):=by
 have nd:=sc_is_partner.nd;refine Df.is cxe_ok ["length","beat","starts"] 3 b_Q0K d sc_is_partner rfl rfl rfl λ cdv A outer s H E hr=>?_
 exact(aq (aR (iu (av q_beat_counts.d q_beat_counts.o hr (by decide) rfl (af (aa 0) (af (aa 1) (af (aa 2) aj)))) (bN (aL (af ag aj)) (aa 0)))))
abbrev eF:=Fu "is_partner" s_Q0J ["length","beat","starts"] 4 F_Q0K 3
abbrev s_Q04:Stmt:=top 22
theorem sc_beat_sum:FnScope ["beat","numbers","place"] ["beat"] (ae s_Q04):=by constructor<;>first|rfl|decide +kernel
theorem ok_Q04 {f:Addr}{fd:FuncData}(d:Df K mg "beat_sum" s_Q04 ["beat"] f fd)(z_len:mg "len"=none):
  FnOk P w K mg base (CXe P w) 1 f fd ["beat"] (spD K (ar ad) F_Q04 1):=by
 have nd:=sc_beat_sum.nd;refine Df.is cxe_ok ["beat","numbers","place"] 0 b_Q04 d sc_beat_sum rfl rfl rfl λ cdv A outer s H E hr=>?_
 exact(ah (aN (bj (bA z_len rfl (aa 0)) ag) (aq (aR (aL aj))) aA) (ah (aI (i:=1) (bN (aL (af ag aj)) (aK (aY (aa 0) (c9 ag)) ag)) nd rfl (Or.inl rfl)) (ah (dS [0] (i:=2) (bx (aa 0)) (aq (mQ (i:=1) ag (aa 2))) nd rfl (Or.inl rfl)) (aq (dq 1)))))
abbrev gy:=Fu "beat_sum" s_Q04 ["beat"] 1 F_Q04 1
abbrev s_Q1G:Stmt:=top 23
theorem sc_without_last_noughts:FnScope ["numbers","size"] ["numbers"] (ae s_Q1G):=by constructor<;>first|rfl|decide +kernel
theorem ok_Q1G {f:Addr}{fd:FuncData}(d:Df K mg "without_last_noughts" s_Q1G ["numbers"] f fd)(z_len:mg "len"=none):
  FnOk P w K mg base (CXe P w) 1 f fd ["numbers"] (spD K (ar ad) F_Q1G 1):=by
 have nd:=sc_without_last_noughts.nd;refine Df.is cxe_ok ["numbers","size"] 0 b_Q1G d sc_without_last_noughts rfl rfl rfl λ cdv A outer s H E hr=>?_
 exact(ah (aI (i:=1) (bA z_len rfl (aa 0)) nd rfl (Or.inl rfl)) (ah (oZ 100000 (dM (rV (fm (aa 1) ag) (bz _ (bj (aY (aa 0) (dO (aa 1) ag)) ag)))) (aq (lR (i:=1) ag nd rfl (Or.inl rfl)))) (aq (aR (bQ (aa 0) bP (bO (aa 1)))))))
abbrev bH:=Fu "without_last_noughts" s_Q1G ["numbers"] 1 F_Q1G 1
abbrev s_Q1F:Stmt:=top 24
theorem sc_sum_divided:FnScope ["one","other","last","rest","share","low","high","number"] ["one","other"] (ae s_Q1F):=by constructor<;>first|rfl|decide +kernel
theorem ok_Q1F {f:Addr}{fd:FuncData}(d:Df K mg "sum_divided" s_Q1F ["one","other"] f fd)(q_without_last_noughts:bH P w K mg base ad)(xa:XAll K mg ad){C_9:Addr}(h_NoPart:ad "NoPart"=some C_9)(z_len:mg "len"=none)(z_list:mg "list"=none)(z_range:mg "range"=none)(z_enumerate:mg "enumerate"=none):
  FnOk P w K mg base (CXe P w) 2 f fd ["one","other"] (spD K (ar ad) F_Q1F 2):=by
 have nd:=sc_sum_divided.nd;refine Df.is cxe_ok ["one","other","last","rest","share","low","high","number"] 1 b_Q1F d sc_sum_divided rfl rfl rfl λ cdv A outer s H E hr=>?_
 exact(ah (aN (dM (bU (bj (bA z_len rfl (aa 1)) ag) (bz _ (ij (aY (aa 1) (c9 ag)) ag)))) (aJ (xa.cl _ _ h_NoPart).1 (aB h_NoPart) rfl) aA) (ah (aI (i:=2) (dO (bA z_len rfl (aa 1)) ag) nd rfl (Or.inl rfl)) (ah (aI (i:=3) (pf z_list rfl (aa 0)) nd rfl (Or.inl rfl)) (ah (aI (i:=4) (bN (aL (af ag aj)) (dO (bA z_len rfl (aa 0)) (aa 2))) nd rfl (Or.inl rfl)) (ah (qZ (i:=5) (pL rfl z_range (dO (bA z_len rfl (aa 4)) ag) (c9 ag) (c9 ag)) (ah (mQ (i:=4) (aY (aa 3) (aK (aa 5) (aa 2))) (aa 5)) (aq (lg [1] (qu rfl z_enumerate (aa 1)) (rP (xs:=[6,7]) (kR (i:=6) (kR (i:=7) sF nd rfl (Or.inl rfl)) nd rfl (Or.inl rfl)) rfl) (aq (mq (i:=3) (bN (aY (aa 4) (aa 5)) (aa 7)) (aK (aa 5) (aa 6))))))) nd rfl (Or.inl rfl)) (aq (qC (i:=4) (av q_without_last_noughts.d q_without_last_noughts.o hr (by decide) rfl (af (bQ (aa 3) bP (bO (aa 2))) aj)))))))))
abbrev cu:=Fu "sum_divided" s_Q1F ["one","other"] 2 F_Q1F 2
abbrev s_Q0F:Stmt:=top 27
theorem sc_divisors:FnScope ["number"] ["number"] (ae s_Q0F):=by constructor<;>first|rfl|decide +kernel
theorem ok_Q0F {f:Addr}{fd:FuncData}(d:Df K mg "divisors" s_Q0F ["number"] f fd)(xa:XAll K mg ad){C_9:Addr}(h_NoPart:ad "NoPart"=some C_9)(z_range:mg "range"=none){t_LAST_PART:Tok}(n_LAST_PART:mg "LAST_PART"=some (.int 60 t_LAST_PART)):
  FnOk P w K mg base (CXe P w) 1 f fd ["number"] (spD K (ar ad) F_Q0F 1):=by
 have nd:=sc_divisors.nd;refine Df.is cxe_ok ["number"] 0 b_Q0F d sc_divisors rfl rfl rfl λ cdv A outer s H E hr=>?_
 exact(ah (aN (dM (bU (gg (aa 0) ag) (bz _ (fm (aa 0) (dQ rfl n_LAST_PART))))) (aJ (xa.cl _ _ h_NoPart).1 (aB h_NoPart) rfl) aA) (aq (aR (bF (fs:=["number"]) (is:=[0]) (fe:=(Dv.eVar 0)) (fc:=(Dv.eCm .eq (Dv.eOp .mod (Dv.eVar 1) (Dv.eVar 0)) (Dv.eInt 0))) (az (fsc:=ae s_Q0F) (N:=["number"]) rfl rfl (by decide +kernel)) (lq rfl z_range ag (aK (aa 0) ag)) (λ cl L s₀ H₀ ex=>(aa 0)) (λ cl L s₀ H₀ ex=>(eU (bj (bG (aa 1) (aa 0)) ag)))))))
abbrev bB:=Fu "divisors" s_Q0F ["number"] 1 F_Q0F 1
abbrev s_Q16:Stmt:=top 28
theorem sc_parts_of_divisors:FnScope ["number","found","divisor","left","ahead"] ["number"] (ae s_Q16):=by constructor<;>first|rfl|decide +kernel
theorem ok_Q16 {f:Addr}{fd:FuncData}(d:Df K mg "parts_of_divisors" s_Q16 ["number"] f fd)(q_divisors:bB P w K mg base ad)(q_sum_divided:cu P w K mg base ad):
  FnOk P w K mg base (CXe P w) 3 f fd ["number"] (spD K (ar ad) F_Q16 1):=by
 have nd:=sc_parts_of_divisors.nd;refine Df.is cxe_ok ["number","found","divisor","left","ahead"] 2 b_Q16 d sc_parts_of_divisors rfl rfl rfl λ cdv A outer s H E hr=>?_
 exact(ah (kY (i:=1) nH nd rfl (Or.inl rfl)) (ah (dS [0] (i:=2) (bx (av q_divisors.d q_divisors.o hr (by decide) rfl (af (aa 0) aj))) (ah (aI (i:=3) (aK (aK (aL (af (c9 ag) aj)) (bN (aL (af ag aj)) (dO (aa 2) ag))) (aL (af ag aj))) nd rfl (Or.inl rfl)) (ah (dS [2] (i:=4) (bx (bQ (av q_divisors.d q_divisors.o hr (by decide) rfl (af (aa 2) aj)) bP (bO (c9 ag)))) (aq (aI (i:=3) (aY (av q_sum_divided.d q_sum_divided.o hr (by decide) rfl (af (aa 3) (af (jT (aa 1) (aa 4)) aj))) ag) nd rfl (Or.inl rfl))) nd rfl (Or.inl rfl)) (aq (nC (i:=1) (y:=3) (aa 2))))) nd rfl (Or.inl rfl)) (aq (dq 1))))
abbrev bo:=Fu "parts_of_divisors" s_Q16 ["number"] 3 F_Q16 1
abbrev s_Q14:Stmt:=top 29
theorem sc_part:FnScope ["number"] ["number"] (ae s_Q14):=by constructor<;>first|rfl|decide +kernel
theorem ok_Q14 {f:Addr}{fd:FuncData}(d:Df K mg "part" s_Q14 ["number"] f fd)(q_parts_of_divisors:bo P w K mg base ad):
  FnOk P w K mg base (CXe P w) 4 f fd ["number"] (spD K (ar ad) F_Q14 1):=by
 have nd:=sc_part.nd;refine Df.is cxe_ok ["number"] 3 b_Q14 d sc_part rfl rfl rfl λ cdv A outer s H E hr=>?_
 exact(aq (aR (jT (av q_parts_of_divisors.d q_parts_of_divisors.o hr (by decide) rfl (af (aa 0) aj)) (aa 0))))
abbrev mD:=Fu "part" s_Q14 ["number"] 4 F_Q14 1
abbrev s_Q0Y:Stmt:=top 30
theorem sc_leaves_nought:FnScope ["beat","divisor"] ["beat","divisor"] (ae s_Q0Y):=by constructor<;>first|rfl|decide +kernel
theorem ok_Q0Y {f:Addr}{fd:FuncData}(d:Df K mg "leaves_nought" s_Q0Y ["beat","divisor"] f fd)(q_sum_divided:cu P w K mg base ad)(q_beat_sum:gy P w K mg base ad):
  FnOk P w K mg base (CXe P w) 3 f fd ["beat","divisor"] (spD K (ar ad) F_Q0Y 2):=by
 have nd:=sc_leaves_nought.nd;refine Df.is cxe_ok ["beat","divisor"] 2 b_Q0Y d sc_leaves_nought rfl rfl rfl λ cdv A outer s H E hr=>?_
 exact(aq (aR (iu (aY (av q_sum_divided.d q_sum_divided.o hr (by decide) rfl (af (av q_beat_sum.d q_beat_sum.o hr (by decide) rfl (af (aa 0) aj)) (af (aa 1) aj))) ag) (aL aj))))
abbrev cL:=Fu "leaves_nought" s_Q0Y ["beat","divisor"] 3 F_Q0Y 2
abbrev s_Q15:Stmt:=top 31
theorem sc_parts_had:FnScope ["length","beat","found"] ["length","beat"] (ae s_Q15):=by constructor<;>first|rfl|decide +kernel
theorem ok_Q15 {f:Addr}{fd:FuncData}(d:Df K mg "parts_had" s_Q15 ["length","beat"] f fd)(q_check_beat:bY P w K mg base ad)(q_parts_of_divisors:bo P w K mg base ad)(q_divisors:bB P w K mg base ad)(q_leaves_nought:cL P w K mg base ad):
  FnOk P w K mg base (CXe P w) 4 f fd ["length","beat"] (spD K (ar ad) F_Q15 2):=by
 have nd:=sc_parts_had.nd;refine Df.is cxe_ok ["length","beat","found"] 3 b_Q15 d sc_parts_had rfl rfl rfl λ cdv A outer s H E hr=>?_
 exact(ah (aC (av q_check_beat.d q_check_beat.o hr (by decide) rfl (af (aa 0) (af (aa 1) aj)))) (ah (kY (i:=2) (av q_parts_of_divisors.d q_parts_of_divisors.o hr (by decide) rfl (af (aa 0) aj)) nd rfl (Or.inr rfl)) (aq (aR (bF (fs:=["beat","found"]) (is:=[1,2]) (fe:=(Dv.eVar 0)) (fc:=(Dv.eCall F_Q0Y (Dv.lCons (Dv.eVar 1) (Dv.lCons (Dv.eDix (Dv.eVar 2) (Dv.eVar 0)) Dv.lNil)))) (az (fsc:=ae s_Q15) (N:=["length","beat","found"]) rfl rfl (by decide +kernel)) (bx (bQ (av q_divisors.d q_divisors.o hr (by decide) rfl (af (aa 0) aj)) (bO ag) bP)) (λ cl L s₀ H₀ ex=>(aa 0)) (λ cl L s₀ H₀ ex=>(eU (cy (av q_leaves_nought.d q_leaves_nought.o hr (by decide) rfl (af (aa 1) (af (jT (aa 2) (aa 0)) aj)))))))))))
abbrev fF:=Fu "parts_had" s_Q15 ["length","beat"] 4 F_Q15 2
abbrev s_Q18:Stmt:=top 33
theorem sc_prime_of:FnScope ["number"] ["number"] (ae s_Q18):=by constructor<;>first|rfl|decide +kernel
theorem ok_Q18 {f:Addr}{fd:FuncData}(d:Df K mg "prime_of" s_Q18 ["number"] f fd)(q_divisors:bB P w K mg base ad):
  FnOk P w K mg base (CXe P w) 2 f fd ["number"] (spD K (ar ad) F_Q18 1):=by
 have nd:=sc_prime_of.nd;refine Df.is cxe_ok ["number"] 1 b_Q18 d sc_prime_of rfl rfl rfl λ cdv A outer s H E hr=>?_
 exact(aq (aR (aY (av q_divisors.d q_divisors.o hr (by decide) rfl (af (aa 0) aj)) ag)))
abbrev dN:=Fu "prime_of" s_Q18 ["number"] 2 F_Q18 1
abbrev s_Q0H:Stmt:=top 34
theorem sc_has_one_prime:FnScope ["number","prime"] ["number"] (ae s_Q0H):=by constructor<;>first|rfl|decide +kernel
theorem ok_Q0H {f:Addr}{fd:FuncData}(d:Df K mg "has_one_prime" s_Q0H ["number"] f fd)(q_prime_of:dN P w K mg base ad)(q_divisors:bB P w K mg base ad)(z_all:mg "all"=none):
  FnOk P w K mg base (CXe P w) 3 f fd ["number"] (spD K (ar ad) F_Q0H 1):=by
 have nd:=sc_has_one_prime.nd;refine Df.is cxe_ok ["number","prime"] 2 b_Q0H d sc_has_one_prime rfl rfl rfl λ cdv A outer s H E hr=>?_
 exact(ah (aI (i:=1) (av q_prime_of.d q_prime_of.o hr (by decide) rfl (af (aa 0) aj)) nd rfl (Or.inr rfl)) (aq (aR (oU z_all rfl (bF (fs:=["prime"]) (is:=[1]) (fe:=(Dv.eCm .eq (Dv.eOp .mod (Dv.eVar 0) (Dv.eVar 1)) (Dv.eInt 0))) (fc:=(Dv.eBl true)) (az (fsc:=ae s_Q0H) (N:=["number","prime"]) rfl rfl (by decide +kernel)) (bx (bQ (av q_divisors.d q_divisors.o hr (by decide) rfl (af (aa 0) aj)) (bO ag) bP)) (λ cl L s₀ H₀ ex=>(iu (bG (aa 0) (aa 1)) ag)) (λ cl L s₀ H₀ ex=>eT))))))
abbrev cM:=Fu "has_one_prime" s_Q0H ["number"] 3 F_Q0H 1
abbrev s_Q19:Stmt:=top 35
theorem sc_prime_powers:FnScope ["length"] ["length"] (ae s_Q19):=by constructor<;>first|rfl|decide +kernel
theorem ok_Q19 {f:Addr}{fd:FuncData}(d:Df K mg "prime_powers" s_Q19 ["length"] f fd)(q_check_wheel:bw P w K mg base ad)(q_divisors:bB P w K mg base ad)(q_has_one_prime:cM P w K mg base ad):
  FnOk P w K mg base (CXe P w) 4 f fd ["length"] (spD K (ar ad) F_Q19 1):=by
 have nd:=sc_prime_powers.nd;refine Df.is cxe_ok ["length"] 3 b_Q19 d sc_prime_powers rfl rfl rfl λ cdv A outer s H E hr=>?_
 exact(ah (aC (av q_check_wheel.d q_check_wheel.o hr (by decide) rfl (af (aa 0) aj))) (aq (aR (bF (fs:=[]) (is:=[]) (fe:=(Dv.eVar 0)) (fc:=(Dv.eCall F_Q0H (Dv.lCons (Dv.eVar 0) Dv.lNil))) (az (fsc:=ae s_Q19) (N:=["length"]) rfl rfl (by decide +kernel)) (bx (bQ (av q_divisors.d q_divisors.o hr (by decide) rfl (af (aa 0) aj)) (bO ag) bP)) (λ cl L s₀ H₀ ex=>(aa 0)) (λ cl L s₀ H₀ ex=>(eU (cy (av q_has_one_prime.d q_has_one_prime.o hr (by decide) rfl (af (aa 0) aj)))))))))
abbrev cZ:=Fu "prime_powers" s_Q19 ["length"] 4 F_Q19 1
abbrev s_Q17:Stmt:=top 37
theorem sc_powers_had:FnScope ["length","beat","had"] ["length","beat"] (ae s_Q17):=by constructor<;>first|rfl|decide +kernel
theorem ok_Q17 {f:Addr}{fd:FuncData}(d:Df K mg "powers_had" s_Q17 ["length","beat"] f fd)(q_parts_had:fF P w K mg base ad)(q_prime_powers:cZ P w K mg base ad):
  FnOk P w K mg base (CXe P w) 5 f fd ["length","beat"] (spD K (ar ad) F_Q17 2):=by
 have nd:=sc_powers_had.nd;refine Df.is cxe_ok ["length","beat","had"] 4 b_Q17 d sc_powers_had rfl rfl rfl λ cdv A outer s H E hr=>?_
 exact(ah (aI (i:=2) (av q_parts_had.d q_parts_had.o hr (by decide) rfl (af (aa 0) (af (aa 1) aj))) nd rfl (Or.inr rfl)) (aq (aR (bF (fs:=["had"]) (is:=[2]) (fe:=(Dv.eVar 0)) (fc:=(Dv.eCm .isin (Dv.eVar 0) (Dv.eVar 1))) (az (fsc:=ae s_Q17) (N:=["length","beat","had"]) rfl rfl (by decide +kernel)) (bx (av q_prime_powers.d q_prime_powers.o hr (by decide) rfl (af (aa 0) aj))) (λ cl L s₀ H₀ ex=>(aa 0)) (λ cl L s₀ H₀ ex=>(eU (uh (aa 0) (aa 1))))))))
abbrev dX:=Fu "powers_had" s_Q17 ["length","beat"] 5 F_Q17 2
abbrev s_Q0G:Stmt:=top 38
theorem sc_first_rule:FnScope ["length","beat","product","power"] ["length","beat"] (ae s_Q0G):=by constructor<;>first|rfl|decide +kernel
theorem ok_Q0G {f:Addr}{fd:FuncData}(d:Df K mg "first_rule" s_Q0G ["length","beat"] f fd)(q_powers_had:dX P w K mg base ad)(q_prime_of:dN P w K mg base ad)(z_len:mg "len"=none):
  FnOk P w K mg base (CXe P w) 6 f fd ["length","beat"] (spD K (ar ad) F_Q0G 2):=by
 have nd:=sc_first_rule.nd;refine Df.is cxe_ok ["length","beat","product","power"] 5 b_Q0G d sc_first_rule rfl rfl rfl λ cdv A outer s H E hr=>?_
 exact(ah (aI (i:=2) ag nd rfl (Or.inl rfl)) (ah (dS [0,1] (i:=3) (bx (av q_powers_had.d q_powers_had.o hr (by decide) rfl (af (aa 0) (af (aa 1) aj)))) (aq (l7 (i:=2) (av q_prime_of.d q_prime_of.o hr (by decide) rfl (af (aa 3) aj)) nd rfl (Or.inl rfl))) nd rfl (Or.inl rfl)) (aq (aR (iu (aa 2) (bA z_len rfl (aa 1)))))))
abbrev d6:=Fu "first_rule" s_Q0G ["length","beat"] 6 F_Q0G 2
abbrev s_Q12:Stmt:=top 43
theorem sc_made_partner:FnScope ["length","beat","had","starts","power"] ["length","beat"] (ae s_Q12):=by constructor<;>first|rfl|decide +kernel
theorem ok_Q12 {f:Addr}{fd:FuncData}(d:Df K mg "made_partner" s_Q12 ["length","beat"] f fd)(q_first_rule:d6 P w K mg base ad)(xa:XAll K mg ad){C_10:Addr}(h_NoRule:ad "NoRule"=some C_10):
  FnOk P w K mg base (CXe P w) 7 f fd ["length","beat"] (spD K (ar ad) F_Q13 2):=by
 have nd:=sc_made_partner.nd;refine Df.is cxe_ok ["length","beat","had","starts","power"] 6 b_Q13 d sc_made_partner rfl rfl rfl λ cdv A outer s H E hr=>?_
 exact(ah (aN (dM (bU (eR (cy (av q_first_rule.d q_first_rule.o hr (by decide) rfl (af (aa 0) (af (aa 1) aj))))) (bz _ oC))) (aJ (xa.cl _ _ h_NoRule).1 (aB h_NoRule) rfl) aA) cV)
abbrev cT:=Fu "made_partner" s_Q12 ["length","beat"] 7 F_Q13 2
abbrev s_Q0I:Stmt:=top 67
theorem sc_has_only:FnScope ["text","signs"] ["text","signs"] (ae s_Q0I):=by constructor<;>first|rfl|decide +kernel
theorem ok_Q0I {f:Addr}{fd:FuncData}(d:Df K mg "has_only" s_Q0I ["text","signs"] f fd)(z_all:mg "all"=none):
  FnOk P w K mg base (CXe P w) 1 f fd ["text","signs"] (spD K (ar ad) F_Q0I 2):=by
 have nd:=sc_has_only.nd;refine Df.is cxe_ok ["text","signs"] 0 b_Q0I d sc_has_only rfl rfl rfl λ cdv A outer s H E hr=>?_
 exact(aq (aR (oU z_all rfl (bF (fs:=["signs"]) (is:=[1]) (fe:=(Dv.eB2 (Dv.inSD false) (Dv.eVar 0) (Dv.eVar 1))) (fc:=(Dv.eBl true)) (az (fsc:=ae s_Q0I) (N:=["text","signs"]) rfl rfl (by decide +kernel)) (sO (aa 0)) (λ cl L s₀ H₀ ex=>(rM (aa 0) (aa 1))) (λ cl L s₀ H₀ ex=>eT)))))
abbrev cC:=Fu "has_only" s_Q0I ["text","signs"] 1 F_Q0I 2
abbrev s_Q1A:Stmt:=top 68
theorem sc_read_beat:FnScope ["text"] ["text"] (ae s_Q1A):=by constructor<;>first|rfl|decide +kernel
theorem ok_Q1A {f:Addr}{fd:FuncData}(d:Df K mg "read_beat" s_Q1A ["text"] f fd)(q_has_only:cC P w K mg base ad)(xa:XAll K mg ad){C_11:Addr}(h_NoText:ad "NoText"=some C_11)(z_isinstance:mg "isinstance"=none)(z_str:mg "str"=none)(z_len:mg "len"=none)(z_enumerate:mg "enumerate"=none){t_LONGEST:Tok}(n_LONGEST:mg "LONGEST"=some (.int 60 t_LONGEST)):
  FnOk P w K mg base (CXe P w) 2 f fd ["text"] (spD K (ar ad) F_Q1A 1):=by
 have nd:=sc_read_beat.nd;refine Df.is cxe_ok ["text"] 1 b_Q1A d sc_read_beat rfl rfl rfl λ cdv A outer s H E hr=>?_
 exact(ah (aN (dM (bU (eR (cy (jA z_isinstance z_str rfl rfl (aa 0)))) (bz _ (fm (da z_len rfl (aa 0)) (dQ rfl n_LONGEST))))) (aJ (xa.cl _ _ h_NoText).1 (aB h_NoText) rfl) aA) (ah (aN (dM (bU (lz aV (aa 0)) (bz _ (eR (cy (av q_has_only.d q_has_only.o hr (by decide) rfl (af (aa 0) (af aV aj)))))))) (aJ (xa.cl _ _ h_NoText).1 (aB h_NoText) rfl) aA) (aq (aR (jc (af (da z_len rfl (aa 0)) (af (nJ (ts:=["place","sign"]) (fs:=[]) (is:=[]) (fe:=(Dv.eVar 0)) (fc:=(Dv.eCm .eq (Dv.eVar 1) (Dv.eStr [120]))) (az (fsc:=ae s_Q1A) (N:=["text"]) rfl rfl (by decide +kernel)) (.cons (.cons .nil)) (λ _=>rfl) (λ _=>rfl) (nT rfl z_enumerate (aa 0)) (λ cl L s₀ H₀ ex=>(aa 0)) (λ cl L s₀ H₀ ex=>(eU (bj (aa 1) aV)))) aj)))))))
abbrev cY:=Fu "read_beat" s_Q1A ["text"] 2 F_Q1A 1
abbrev s_Q1H:Stmt:=top 78
theorem sc_words_of:FnScope ["command","words"] ["command"] (ae s_Q1H):=by constructor<;>first|rfl|decide +kernel
theorem ok_Q1H {f:Addr}{fd:FuncData}(d:Df K mg "words_of" s_Q1H ["command"] f fd){a_FORMS:Addr}(kF:FormsK w K a_FORMS gc)(m_FORMS:mg "FORMS"=some (.ref a_FORMS))(xa:XAll K mg ad){C_5:Addr}(h_NoDeed:ad "NoDeed"=some C_5)(z_isinstance:mg "isinstance"=none)(z_str:mg "str"=none)(z_len:mg "len"=none):
  FnOk P w K mg base (CXe P w) 1 f fd ["command"] (spD K (ar ad) F_Q1H 1):=by
 have nd:=sc_words_of.nd;refine Df.is cxe_ok ["command","words"] 0 b_Q1H d sc_words_of rfl rfl rfl λ cdv A outer s H E hr=>?_
 exact(ah (aN (eR (cy (jA z_isinstance z_str rfl rfl (aa 0)))) (aJ (xa.cl _ _ h_NoDeed).1 (aB h_NoDeed) rfl) aA) (ah (aI (i:=1) (og (aa 0) aV) nd rfl (Or.inl rfl)) (ah (aN (dM (bU (pB kF rfl m_FORMS (aY (aa 1) ag)) (bz _ (ij (bA z_len rfl (aa 1)) (aK (pV kF rfl m_FORMS rfl z_len (aY (aa 1) ag)) ag))))) (aJ (xa.cl _ _ h_NoDeed).1 (aB h_NoDeed) rfl) aA) (aq (dq 1)))))
abbrev gq:=Fu "words_of" s_Q1H ["command"] 1 F_Q1H 1
abbrev s_Q07:Stmt:=top 79
theorem sc_check_name:FnScope ["word"] ["word"] (ae s_Q07):=by constructor<;>first|rfl|decide +kernel
theorem ok_Q07 {f:Addr}{fd:FuncData}(d:Df K mg "check_name" s_Q07 ["word"] f fd){t_LETTERS:Tok}(n_LETTERS:mg "LETTERS"=some (.str (stO (Dv.clipS [97,98,99,100,101,102,103,104,105,106,107,108,109,110,111,112,113,114,115,116,117,118,119,120,121,122])) t_LETTERS))(q_has_only:cC P w K mg base ad)(xa:XAll K mg ad){C_6:Addr}(h_NoName:ad "NoName"=some C_6)(z_len:mg "len"=none){t_LONGEST_NAME:Tok}(n_LONGEST_NAME:mg "LONGEST_NAME"=some (.int 8 t_LONGEST_NAME)):
  FnOk P w K mg base (CXe P w) 2 f fd ["word"] (spD K (ar ad) F_Q07 1):=by
 have nd:=sc_check_name.nd;refine Df.is cxe_ok ["word"] 1 b_Q07 d sc_check_name rfl rfl rfl λ cdv A outer s H E hr=>?_
 exact(aq (aN (dM (bU (gg (da z_len rfl (aa 0)) ag) (bU (fm (da z_len rfl (aa 0)) (dQ rfl n_LONGEST_NAME)) (bz _ (eR (cy (av q_has_only.d q_has_only.o hr (by decide) rfl (af (aa 0) (af (jD (z:=[97,98,99,100,101,102,103,104,105,106,107,108,109,110,111,112,113,114,115,116,117,118,119,120,121,122]) rfl n_LETTERS) aj))))))))) (aJ (xa.cl _ _ h_NoName).1 (aB h_NoName) rfl) aA))
abbrev dZ:=Fu "check_name" s_Q07 ["word"] 2 F_Q07 1
abbrev s_Q1B:Stmt:=top 81
theorem sc_read_number:FnScope ["word","figures"] ["word"] (ae s_Q1B):=by constructor<;>first|rfl|decide +kernel
theorem ok_Q1B {f:Addr}{fd:FuncData}(d:Df K mg "read_number" s_Q1B ["word"] f fd){t_FIGURES:Tok}(n_FIGURES:mg "FIGURES"=some (.str (stO (Dv.clipS [48,49,50,51,52,53,54,55,56,57])) t_FIGURES))(q_has_only:cC P w K mg base ad)(xa:XAll K mg ad){C_7:Addr}(h_NoNumber:ad "NoNumber"=some C_7)(z_len:mg "len"=none){t_MOST_FIGURES:Tok}(n_MOST_FIGURES:mg "MOST_FIGURES"=some (.int 6 t_MOST_FIGURES)):
  FnOk P w K mg base (CXe P w) 2 f fd ["word"] (spD K (ar ad) F_Q1B 1):=by
 have nd:=sc_read_number.nd;refine Df.is cxe_ok ["word","figures"] 1 b_Q1B d sc_read_number rfl rfl rfl λ cdv A outer s H E hr=>?_
 exact(ah (iM [0] (i:=1) (tf (cy (oQ (aa 0) aV)) (il (aa 0) (bO ag) bP) (aa 0)) nd rfl (Or.inl rfl)) (ah (aN (dM (bU (gg (da z_len rfl (aa 1)) ag) (bU (fm (da z_len rfl (aa 1)) (dQ rfl n_MOST_FIGURES)) (bz _ (eR (cy (av q_has_only.d q_has_only.o hr (by decide) rfl (af (aa 1) (af (jD (z:=[48,49,50,51,52,53,54,55,56,57]) rfl n_FIGURES) aj))))))))) (aJ (xa.cl _ _ h_NoNumber).1 (aB h_NoNumber) rfl) aA) cV))
abbrev dz:=Fu "read_number" s_Q1B ["word"] 2 F_Q1B 1
abbrev s_Q06:Stmt:=top 100
theorem sc_check_line_beat:FnScope ["beat"] ["beat"] (ae s_Q06):=by constructor<;>first|rfl|decide +kernel
theorem ok_Q06 {f:Addr}{fd:FuncData}(d:Df K mg "check_line_beat" s_Q06 ["beat"] f fd)(q_check_rising:cj P w K mg base ad)(xa:XAll K mg ad){C_4:Addr}(h_NoBeat:ad "NoBeat"=some C_4)(z_len:mg "len"=none){t_LAST_NUMBER:Tok}(n_LAST_NUMBER:mg "LAST_NUMBER"=some (.int 60 t_LAST_NUMBER)){t_MOST_NUMBERS:Tok}(n_MOST_NUMBERS:mg "MOST_NUMBERS"=some (.int 12 t_MOST_NUMBERS)):
  FnOk P w K mg base (CXe P w) 2 f fd ["beat"] (spD K (ar ad) F_Q06 1):=by
 have nd:=sc_check_line_beat.nd;refine Df.is cxe_ok ["beat"] 1 b_Q06 d sc_check_line_beat rfl rfl rfl λ cdv A outer s H E hr=>?_
 exact(ah (aC (av q_check_rising.d q_check_rising.o hr (by decide) rfl (af (aa 0) (af (aK (dQ rfl n_LAST_NUMBER) ag) aj)))) (aq (aN (dM (bU (ij (aY (aa 0) ag) ag) (bz _ (fm (bA z_len rfl (aa 0)) (dQ rfl n_MOST_NUMBERS))))) (aJ (xa.cl _ _ h_NoBeat).1 (aB h_NoBeat) rfl) aA)))
abbrev cp:=Fu "check_line_beat" s_Q06 ["beat"] 2 F_Q06 1
abbrev s_Q0D:Stmt:=top 101
theorem sc_check_window:FnScope ["beat","window"] ["beat","window"] (ae s_Q0D):=by constructor<;>first|rfl|decide +kernel
theorem ok_Q0D {f:Addr}{fd:FuncData}(d:Df K mg "check_window" s_Q0D ["beat","window"] f fd)(q_check_line_beat:cp P w K mg base ad)(xa:XAll K mg ad){C_13:Addr}(h_NoWindow:ad "NoWindow"=some C_13):
  FnOk P w K mg base (CXe P w) 3 f fd ["beat","window"] (spD K (ar ad) F_Q0E 2):=by
 have nd:=sc_check_window.nd;refine Df.is cxe_ok ["beat","window"] 2 b_Q0E d sc_check_window rfl rfl rfl λ cdv A outer s H E hr=>?_
 exact(ah (aC (av q_check_line_beat.d q_check_line_beat.o hr (by decide) rfl (af (aa 0) aj))) (aq (aN (dM (bU (gg (aa 1) ag) (bz _ oC))) (aJ (xa.cl _ _ h_NoWindow).1 (aB h_NoWindow) rfl) aA)))
abbrev c8:=Fu "check_window" s_Q0D ["beat","window"] 3 F_Q0E 2
abbrev s_Q0Z:Stmt:=top 103
theorem sc_line_step:FnScope ["beat","window","shape"] ["beat","window"] (ae s_Q0Z):=by constructor<;>first|rfl|decide +kernel
theorem ok_Q0Z {f:Addr}{fd:FuncData}(d:Df K mg "line_step" s_Q0Z ["beat","window"] f fd)(q_check_window:c8 P w K mg base ad):
  FnOk P w K mg base (CXe P w) 4 f fd ["beat","window"] (spD K (ar ad) F_Q10 2):=by
 have nd:=sc_line_step.nd;refine Df.is cxe_ok ["beat","window","shape"] 3 b_Q10 d sc_line_step rfl rfl rfl λ cdv A outer s H E hr=>?_
 exact(ah (aC (av q_check_window.d q_check_window.o hr (by decide) rfl (af (aa 0) (af (aa 1) aj)))) cV)
abbrev fE:=Fu "line_step" s_Q0Z ["beat","window"] 4 F_Q10 2
abbrev s_Q0A:Stmt:=top 105
theorem sc_check_sides:FnScope ["sides"] ["sides"] (ae s_Q0A):=by constructor<;>first|rfl|decide +kernel
theorem ok_Q0A {f:Addr}{fd:FuncData}(d:Df K mg "check_sides" s_Q0A ["sides"] f fd)(q_check_wheel:bw P w K mg base ad)(xa:XAll K mg ad){C_12:Addr}(h_NoWheel:ad "NoWheel"=some C_12)(z_len:mg "len"=none)(z_min:mg "min"=none):
  FnOk P w K mg base (CXe P w) 2 f fd ["sides"] (spD K (ar ad) F_Q0A 1):=by
 have nd:=sc_check_sides.nd;refine Df.is cxe_ok ["sides"] 1 b_Q0A d sc_check_sides rfl rfl rfl λ cdv A outer s H E hr=>?_
 exact(ah (aN (dM (bU (ij (bA z_len rfl (aa 0)) ag) (bz _ (gg (qG z_min rfl (aa 0)) ag)))) (aJ (xa.cl _ _ h_NoWheel).1 (aB h_NoWheel) rfl) aA) (aq (aC (av q_check_wheel.d q_check_wheel.o hr (by decide) rfl (af (bN (aY (aa 0) ag) (aY (aa 0) ag)) aj)))))
abbrev dC:=Fu "check_sides" s_Q0A ["sides"] 2 F_Q0A 1
abbrev s_Q00:Stmt:=top 106
theorem sc_all_spots:FnScope ["sides","spots","across"] ["sides"] (ae s_Q00):=by constructor<;>first|rfl|decide +kernel
theorem ok_Q00 {f:Addr}{fd:FuncData}(d:Df K mg "all_spots" s_Q00 ["sides"] f fd)(z_range:mg "range"=none):
  FnOk P w K mg base (CXe P w) 1 f fd ["sides"] (spD K (ar ad) F_Q00 1):=by
 have nd:=sc_all_spots.nd;refine Df.is cxe_ok ["sides","spots","across"] 0 b_Q00 d sc_all_spots rfl rfl rfl λ cdv A outer s H E hr=>?_
 exact(ah (aI (i:=1) (aL aj) nd rfl (Or.inl rfl)) (ah (dS [0] (i:=2) (cR rfl z_range (aY (aa 0) ag)) (aq (p7 (i:=1) (bF (fs:=["across"]) (is:=[2]) (fe:=(Dv.eTup (Dv.lCons (Dv.eVar 1) (Dv.lCons (Dv.eVar 0) Dv.lNil)))) (fc:=(Dv.eBl true)) (az (fsc:=ae s_Q00) (N:=["sides","spots","across"]) rfl rfl (by decide +kernel)) (cR rfl z_range (aY (aa 0) ag)) (λ cl L s₀ H₀ ex=>(jc (af (aa 1) (af (aa 0) aj)))) (λ cl L s₀ H₀ ex=>eT)))) nd rfl (Or.inr rfl)) (aq (dq 1))))
abbrev fJ:=Fu "all_spots" s_Q00 ["sides"] 1 F_Q00 1
abbrev s_Q0B:Stmt:=top 107
theorem sc_check_torus_beat:FnScope ["sides","beat"] ["sides","beat"] (ae s_Q0B):=by constructor<;>first|rfl|decide +kernel
theorem ok_Q0B {f:Addr}{fd:FuncData}(d:Df K mg "check_torus_beat" s_Q0B ["sides","beat"] f fd)(q_check_sides:dC P w K mg base ad)(q_all_spots:fJ P w K mg base ad)(xa:XAll K mg ad){C_4:Addr}(h_NoBeat:ad "NoBeat"=some C_4)(z_len:mg "len"=none):
  FnOk P w K mg base (CXe P w) 3 f fd ["sides","beat"] (spD K (ar ad) F_Q0B 2):=by
 have nd:=sc_check_torus_beat.nd;refine Df.is cxe_ok ["sides","beat"] 2 b_Q0B d sc_check_torus_beat rfl rfl rfl λ cdv A outer s H E hr=>?_
 exact(ah (aC (av q_check_sides.d q_check_sides.o hr (by decide) rfl (af (aa 0) aj))) (aq (aN (dM (bU (bj (bA z_len rfl (aa 1)) ag) (bz _ (ij (aa 1) (bF (fs:=["beat"]) (is:=[1]) (fe:=(Dv.eVar 0)) (fc:=(Dv.eB2 (Dv.inG false) (Dv.eVar 0) (Dv.eVar 1))) (az (fsc:=ae s_Q0B) (N:=["sides","beat"]) rfl rfl (by decide +kernel)) (bx (av q_all_spots.d q_all_spots.o hr (by decide) rfl (af (aa 0) aj))) (λ cl L s₀ H₀ ex=>(aa 0)) (λ cl L s₀ H₀ ex=>(eU (rZ (aa 0) (aa 1))))))))) (aJ (xa.cl _ _ h_NoBeat).1 (aB h_NoBeat) rfl) aA)))
abbrev cc:=Fu "check_torus_beat" s_Q0B ["sides","beat"] 3 F_Q0B 2
abbrev s_Q08:Stmt:=top 108
theorem sc_check_pair:FnScope ["sides"] ["sides"] (ae s_Q08):=by constructor<;>first|rfl|decide +kernel
theorem ok_Q08 {f:Addr}{fd:FuncData}(d:Df K mg "check_pair" s_Q08 ["sides"] f fd)(q_divisors:bB P w K mg base ad)(xa:XAll K mg ad){C_8:Addr}(h_NoPair:ad "NoPair"=some C_8)(z_any:mg "any"=none):
  FnOk P w K mg base (CXe P w) 2 f fd ["sides"] (spD K (ar ad) F_Q08 1):=by
 have nd:=sc_check_pair.nd;refine Df.is cxe_ok ["sides"] 1 b_Q08 d sc_check_pair rfl rfl rfl λ cdv A outer s H E hr=>?_
 exact(aq (aN (cy (sr z_any rfl (bF (fs:=["sides"]) (is:=[0]) (fe:=(Dv.eCm .eq (Dv.eOp .mod (Dv.eIx (Dv.eVar 1) (Dv.eInt 1)) (Dv.eVar 0)) (Dv.eInt 0))) (fc:=(Dv.eBl true)) (az (fsc:=ae s_Q08) (N:=["sides"]) rfl rfl (by decide +kernel)) (bx (bQ (av q_divisors.d q_divisors.o hr (by decide) rfl (af (aY (aa 0) ag) aj)) (bO ag) bP)) (λ cl L s₀ H₀ ex=>(iu (bG (aY (aa 1) ag) (aa 0)) ag)) (λ cl L s₀ H₀ ex=>eT)))) (aJ (xa.cl _ _ h_NoPair).1 (aB h_NoPair) rfl) aA))
abbrev en:=Fu "check_pair" s_Q08 ["sides"] 2 F_Q08 1
abbrev s_Q0M:Stmt:=top 110
theorem sc_laid_flat:FnScope ["sides","beat"] ["sides","beat"] (ae s_Q0M):=by constructor<;>first|rfl|decide +kernel
theorem ok_Q0M {f:Addr}{fd:FuncData}(d:Df K mg "laid_flat" s_Q0M ["sides","beat"] f fd)(q_check_torus_beat:cc P w K mg base ad)(q_check_pair:en P w K mg base ad):
  FnOk P w K mg base (CXe P w) 4 f fd ["sides","beat"] (spD K (ar ad) F_Q0N 2):=by
 have nd:=sc_laid_flat.nd;refine Df.is cxe_ok ["sides","beat"] 3 b_Q0N d sc_laid_flat rfl rfl rfl λ cdv A outer s H E hr=>?_
 exact(ah (aC (av q_check_torus_beat.d q_check_torus_beat.o hr (by decide) rfl (af (aa 0) (af (aa 1) aj)))) (ah (aC (av q_check_pair.d q_check_pair.o hr (by decide) rfl (af (aa 0) aj))) cV))
abbrev fu:=Fu "laid_flat" s_Q0M ["sides","beat"] 4 F_Q0N 2
abbrev s_Q0R:Stmt:=top 112
theorem sc_law_cell:FnScope ["_law_script","_law_k","_law_number"] ["_law_script","_law_k"] (ae s_Q0R):=by constructor<;>first|rfl|decide +kernel
theorem ok_Q0R {f:Addr}{fd:FuncData}(d:Df K mg "_law_cell" s_Q0R ["_law_script","_law_k"] f fd)(z_len:mg "len"=none):
  FnOk P w K mg base (CXe P w) 1 f fd ["_law_script","_law_k"] (spD K (ar ad) F_Q0R 2):=by
 have nd:=sc_law_cell.nd;refine Df.is cxe_ok ["_law_script","_law_k","_law_number"] 0 b_Q0R d sc_law_cell rfl rfl rfl λ cdv A outer s H E hr=>?_
 exact(ah (aN (gg (aa 1) (bA z_len rfl (aa 0))) (aq (aR (aY (aa 0) (aa 1)))) aA) (ah (aI (i:=2) (aK (bN ag (aa 1)) ag) nd rfl (Or.inl rfl)) (ah (aN (fm (bA z_len rfl (aa 0)) ag) (aq (aI (i:=2) (bG (aK (bN (aY (aa 0) (bG (aa 1) (bA z_len rfl (aa 0)))) ag) (bN (aa 1) ag)) ag) nd rfl (Or.inl rfl))) aA) (aq (aR (bG (bN (aa 2) (aa 2)) ag))))))
abbrev gh:=Fu "_law_cell" s_Q0R ["_law_script","_law_k"] 1 F_Q0R 2
abbrev s_Q0U:Stmt:=top 117
theorem sc_law_kinds:FnScope ["_law_e","_law_found"] ["_law_e"] (ae s_Q0U):=by constructor<;>first|rfl|decide +kernel
theorem ok_Q0U {f:Addr}{fd:FuncData}(d:Df K mg "_law_kinds" s_Q0U ["_law_e"] f fd)(xa:XAll K mg ad){C_10:Addr}(h_NoRule:ad "NoRule"=some C_10){C_9:Addr}(h_NoPart:ad "NoPart"=some C_9){C_4:Addr}(h_NoBeat:ad "NoBeat"=some C_4){C_12:Addr}(h_NoWheel:ad "NoWheel"=some C_12){C_6:Addr}(h_NoName:ad "NoName"=some C_6){C_11:Addr}(h_NoText:ad "NoText"=some C_11){C_8:Addr}(h_NoPair:ad "NoPair"=some C_8){C_13:Addr}(h_NoWindow:ad "NoWindow"=some C_13){C_7:Addr}(h_NoNumber:ad "NoNumber"=some C_7){C_14:Addr}(h_TooMany:ad "TooMany"=some C_14){C_5:Addr}(h_NoDeed:ad "NoDeed"=some C_5)(hkn:∀ c∈(["WheelError","NoWheel","NoBeat","NoPart","NoRule","NoWindow","NoPair","NoText","NoName","NoNumber","NoDeed","TooMany"]:List String),∃ Ca,ad c=some Ca)(z_isinstance:mg "isinstance"=none)(z_ValueError:mg "ValueError"=none):
  FnOk P w K mg base (CXe P w) 1 f fd ["_law_e"] (spD K (ar ad) F_Q0V 1):=by
 have nd:=sc_law_kinds.nd;refine Df.is cxe_ok ["_law_e","_law_found"] 0 b_Q0V d sc_law_kinds rfl rfl rfl λ cdv A outer s H E hr=>?_
 exact(ah (aI (i:=1) (aL (af (aP xa hkn h_NoWheel z_isinstance rfl rfl (aa 0)) (af (aP xa hkn h_NoBeat z_isinstance rfl rfl (aa 0)) (af (aP xa hkn h_NoPart z_isinstance rfl rfl (aa 0)) (af (aP xa hkn h_NoRule z_isinstance rfl rfl (aa 0)) aj))))) nd rfl (Or.inl rfl)) (ah (aI (i:=1) (aK (aa 1) (aL (af (aP xa hkn h_NoWindow z_isinstance rfl rfl (aa 0)) (af (aP xa hkn h_NoPair z_isinstance rfl rfl (aa 0)) (af (aP xa hkn h_NoText z_isinstance rfl rfl (aa 0)) (af (aP xa hkn h_NoName z_isinstance rfl rfl (aa 0)) aj)))))) nd rfl (Or.inl rfl)) (ah (aI (i:=1) (aK (aa 1) (aL (af (aP xa hkn h_NoDeed z_isinstance rfl rfl (aa 0)) (af (aP xa hkn h_TooMany z_isinstance rfl rfl (aa 0)) (af (aP xa hkn h_NoNumber z_isinstance rfl rfl (aa 0)) aj))))) nd rfl (Or.inl rfl)) (aq (aR (aK (aa 1) (aL (af (n8 xa hkn z_isinstance z_ValueError rfl rfl (aa 0)) aj))))))))
abbrev fo:=Fu "_law_kinds" s_Q0U ["_law_e"] 1 F_Q0V 1
theorem qN {f:Addr}{fd:FuncData}(d:Df K mg "_law_kinds" s_Q0U ["_law_e"] f fd)(xa:XAll K mg ad){C_10:Addr}(h_NoRule:ad "NoRule"=some C_10){C_9:Addr}(h_NoPart:ad "NoPart"=some C_9){C_4:Addr}(h_NoBeat:ad "NoBeat"=some C_4){C_12:Addr}(h_NoWheel:ad "NoWheel"=some C_12){C_6:Addr}(h_NoName:ad "NoName"=some C_6){C_11:Addr}(h_NoText:ad "NoText"=some C_11){C_8:Addr}(h_NoPair:ad "NoPair"=some C_8){C_13:Addr}(h_NoWindow:ad "NoWindow"=some C_13){C_7:Addr}(h_NoNumber:ad "NoNumber"=some C_7){C_14:Addr}(h_TooMany:ad "TooMany"=some C_14){C_5:Addr}(h_NoDeed:ad "NoDeed"=some C_5)(hkn:∀ c∈(["WheelError","NoWheel","NoBeat","NoPart","NoRule","NoWindow","NoPair","NoText","NoName","NoNumber","NoDeed","TooMany"]:List String),∃ Ca,ad c=some Ca)(z_isinstance:mg "isinstance"=none)(z_ValueError:mg "ValueError"=none):
  FnOkH P w K mg base 1 f fd ["_law_e"] (spD K (ar ad) F_Q0V 1):=by
 have nd:=sc_law_kinds.nd;refine Df.isH (cxe_ok (P:=P) (w:=w)) ["_law_e","_law_found"] 0 b_Q0V d sc_law_kinds rfl rfl rfl λ cdv A outer s H hr=>?_
 exact(ah (aI (i:=1) (aL (af (aP xa hkn h_NoWheel z_isinstance rfl rfl (aa 0)) (af (aP xa hkn h_NoBeat z_isinstance rfl rfl (aa 0)) (af (aP xa hkn h_NoPart z_isinstance rfl rfl (aa 0)) (af (aP xa hkn h_NoRule z_isinstance rfl rfl (aa 0)) aj))))) nd rfl (Or.inl rfl)) (ah (aI (i:=1) (aK (aa 1) (aL (af (aP xa hkn h_NoWindow z_isinstance rfl rfl (aa 0)) (af (aP xa hkn h_NoPair z_isinstance rfl rfl (aa 0)) (af (aP xa hkn h_NoText z_isinstance rfl rfl (aa 0)) (af (aP xa hkn h_NoName z_isinstance rfl rfl (aa 0)) aj)))))) nd rfl (Or.inl rfl)) (ah (aI (i:=1) (aK (aa 1) (aL (af (aP xa hkn h_NoDeed z_isinstance rfl rfl (aa 0)) (af (aP xa hkn h_TooMany z_isinstance rfl rfl (aa 0)) (af (aP xa hkn h_NoNumber z_isinstance rfl rfl (aa 0)) aj))))) nd rfl (Or.inl rfl)) (aq (aR (aK (aa 1) (aL (af (n8 xa hkn z_isinstance z_ValueError rfl rfl (aa 0)) aj))))))))
abbrev bf:Stmt:=L2.inClass (top 77) 0
theorem gL:FnScope ["self","length","beat"] ["self","length","beat"] (ae bf):=by constructor<;>first|rfl|decide +kernel
theorem gK {CD CH f:Addr}{fd:FuncData}(d:Mf K "__init__" "Wheel.__init__" bf ["self","length","beat"] f fd)(T:DkT K CD CH):FnOk P w K mg base (CXe P w) 1 f fd ["self","length","beat"] (mU CH):=
 d.okL ["self","length","beat"] 0 gL mV λ cdv A outer s H vs Q E hr h=>⟨_,aG (j1 (pv 0) (pv 1) rfl) (aS (j1 (pv 0) (pv 2) rfl)),p6 T h⟩
abbrev s_Q1C:Stmt:=top 80
theorem sc_read_text:FnScope ["word","told"] ["word"] (ae s_Q1C):=by constructor<;>first|rfl|decide +kernel
theorem ok_Q1C {f:Addr}{fd:FuncData}(d:Df K mg "read_text" s_Q1C ["word"] f fd){CD CH:Addr}(Wc:WhC P w K mg base (CXe P w) CD CH)(q_read_beat:cY P w K mg base ad):
  FnOk P w K mg base (CXe P w) 3 f fd ["word"] (spD K (ar ad) F_Q1C 1):=by
 have nd:=sc_read_text.nd;refine Df.is cxe_ok ["word","told"] 2 b_Q1C d sc_read_text rfl rfl rfl λ cdv A outer s H E hr=>?_
 exact(ah (iM [0] (i:=1) (av q_read_beat.d q_read_beat.o hr (by decide) rfl (af (aa 0) aj)) nd rfl (Or.inl rfl)) (aq (aR (nR Wc hr (by decide) rfl (aY (aa 1) ag) (aY (aa 1) ag)))))
abbrev fq:=Fu "read_text" s_Q1C ["word"] 3 F_Q1C 1
abbrev bE:Stmt:=L2.inClass (top 96) 0
theorem i8:FnScope ["self"] ["self"] (ae bE):=by constructor<;>first|rfl|decide +kernel
abbrev s_Q1E:Stmt:=L2.inClass (top 96) 1
theorem sc_say:FnScope ["self","command","words","values"] ["self","command"] (ae s_Q1E):=by constructor<;>first|rfl|decide +kernel
abbrev s_Q1D:Stmt:=L2.inClass (top 96) 2
theorem sc_read_word:FnScope ["self","form","word"] ["self","form","word"] (ae s_Q1D):=by constructor<;>first|rfl|decide +kernel
abbrev s_Q01:Stmt:=L2.inClass (top 96) 3
theorem sc_answer:FnScope ["self","words","values","deed"] ["self","words","values"] (ae s_Q01):=by constructor<;>first|rfl|decide +kernel
abbrev s_Q0L:Stmt:=L2.inClass (top 96) 4
theorem qx:FnScope ["self","name","wheel"] ["self","name","wheel"] (ae s_Q0L):=by constructor<;>first|rfl|decide +kernel
theorem i7 {CD CH f:Addr}{fd:FuncData}(d:Mf K "__init__" "Desk.__init__" bE ["self"] f fd)(T:DkT K CD CH):FnOk P w K mg base (CXe P w) 1 f fd ["self"] (jV CD):=
 d.okL ["self"] 0 i8 oM λ cdv A outer s H vs Q E hr h=>⟨_,aS (j1 (pv 0) jh rfl),pW T h⟩
theorem ok_Q0L {CD CH f:Addr}{fd:FuncData}(d:Mf K "keep" "Desk.keep" s_Q0L ["self","name","wheel"] f fd)(T:DkT K CD CH)(xa:XAll K mg ad){C_14:Addr}(h_TooMany:ad "TooMany"=some C_14)(z_len:mg "len"=none){t_MOST_NAMES:Tok}(n_MOST_NAMES:mg "MOST_NAMES"=some (.int 30 t_MOST_NAMES)):FnOk P w K mg base (CXe P w) 1 f fd ["self","name","wheel"] (md CD (ar ad)):=
 d.okL ["self","name","wheel"] 0 qx nV λ cdv A outer s H vs Q E hr h=>⟨_,aG (eh (PW.pt (oy (oj (gX (xn (xj (by decide) _) hr.units) (pv 1) (f7 (pv 0) rfl))) (kB (fP vo (cB kg rfl z_len Ar (au (f7 (pv 0) rfl) aM)) (cm (v:=.int 30) rfl n_MOST_NAMES ⟨_,rfl⟩) (nomark _))))) (aS (gA (xa.cl _ _ h_TooMany).1 rfl (by decide) hr.hd)) bW) (aG (kx (xn (xj (by decide) _) hr.units) (f7 (pv 0) rfl) (pv 1) (pv 2) rfl) (aS (cw jY))),pE T (aB h_TooMany) h⟩
theorem ok_Q1D {CD CH f:Addr}{fd:FuncData}(d:Mf K "read_word" "Desk.read_word" s_Q1D ["self","form","word"] f fd)(T:DkT K CD CH)(q_read_number:dz P w K mg base ad)(q_read_text:fq P w K mg base ad)(q_check_name:dZ P w K mg base ad)(xa:XAll K mg ad){C_6:Addr}(h_NoName:ad "NoName"=some C_6):FnOk P w K mg base (CXe P w) 4 f fd ["self","form","word"] (ly CD (ar ad) kD):=by
 have nd:=sc_read_word.nd;refine d.okL ["self","form","word"] 3 sc_read_word mZ λ cdv A outer s H vs Q E hr h=>?_
 exact eZ (C:=bh (cxe_ok (P:=P) (w:=w)) (ar ad) K mg base ["self","form","word"] "Desk.read_word" (ae s_Q1D) f cdv A outer s H E hr) (bj (aa 1) aV) λ tp1 p1 qp1=>eZ (C:=bh (cxe_ok (P:=P) (w:=w)) (ar ad) K mg base ["self","form","word"] "Desk.read_word" (ae s_Q1D) f cdv A outer s H E hr) (bj (aa 1) aV) λ tp2 p2 qp2=>eZ (C:=bh (cxe_ok (P:=P) (w:=w)) (ar ad) K mg base ["self","form","word"] "Desk.read_word" (ae s_Q1D) f cdv A outer s H E hr) (bj (aa 1) aV) λ tp3 p3 qp3=>eX (C:=bh (cxe_ok (P:=P) (w:=w)) (ar ad) K mg base ["self","form","word"] "Desk.read_word" (ae s_Q1D) f cdv A outer s H E hr) (av q_read_number.d q_read_number.o hr (by decide) rfl (af (aa 2) aj)) λ tr1 r1 qr1=>eX (C:=bh (cxe_ok (P:=P) (w:=w)) (ar ad) K mg base ["self","form","word"] "Desk.read_word" (ae s_Q1D) f cdv A outer s H E hr) (av q_read_text.d q_read_text.o hr (by decide) rfl (af (aa 2) aj)) λ tr2 r2 qr2=>eX (C:=bh (cxe_ok (P:=P) (w:=w)) (ar ad) K mg base ["self","form","word"] "Desk.read_word" (ae s_Q1D) f cdv A outer s H E hr) (av q_check_name.d q_check_name.o hr (by decide) rfl (af (aa 2) aj)) λ tr3 r3 qr3=>⟨_,aG (eh p1 (aS (cw r1)) bW) (aG (eh p2 (aS (cw r2)) bW) (aG (cE r3) (aG (eh p3 (aS (cw (pv 2))) bW) (aG (eh (oj (gX (xn (xj (by decide) _) hr.units) (pv 2) (f7 (pv 0) rfl))) (aS (gA (xa.cl _ _ h_NoName).1 rfl (by decide) hr.hd)) bW) (aS (cw (kq (xn (xj (by decide) _) hr.units) (f7 (pv 0) rfl) (pv 2) (λ _ _=>rfl)))))))),qM (C:=bh (cxe_ok (P:=P) (w:=w)) (ar ad) K mg base ["self","form","word"] "Desk.read_word" (ae s_Q1D) f cdv A outer s H E hr) (k:=kD) T (aB h_NoName) (λ _=>rfl) qp1 qp2 qp3 qr1 qr2 qr3 h⟩
theorem ok_Q01 {CD CH f:Addr}{fd:FuncData}(d:Mf K "answer" "Desk.answer" s_Q01 ["self","words","values"] f fd)(T:DkT K CD CH){fK:Addr}{fdK:FuncData}(dK:Mf K "keep" "Desk.keep" s_Q0L ["self","name","wheel"] fK fdK)(oK:FnOk P w K mg base (CXe P w) 1 fK fdK ["self","name","wheel"] (md CD (ar ad)))(mK:Meth K CD "keep" fK){a_ANSWERS a_MOVES:Addr}(kA:KeysK w K a_ANSWERS t9)(m_ANSWERS:mg "ANSWERS"=some (.ref a_ANSWERS))(kM:KeysK w K a_MOVES tT)(m_MOVES:mg "MOVES"=some (.ref a_MOVES)):FnOk P w K mg base (CXe P w) 2 f fd ["self","words","values"] (mr K CD (ar ad) kD):=by
 have nd:=sc_answer.nd;refine d.okL ["self","words","values","deed"] 1 sc_answer oO λ cdv A outer s H vs Q E hr h=>?_
 exact eX (C:=bh (cxe_ok (P:=P) (w:=w)) (ar ad) K mg base ["self","words","values","deed"] "Desk.answer" (ae s_Q01) f cdv A outer s H E hr) (aY (aa 1) ag) λ trz rz qrz=>eZ (C:=bh (cxe_ok (P:=P) (w:=w)) (ar ad) K mg base ["self","words","values","deed"] "Desk.answer" (ae s_Q01) f cdv A outer s H E hr) (nB (n:="ANSWERS") kA rfl m_ANSWERS (aa 3)) λ tp1 p1 qp1=>eZ (C:=bh (cxe_ok (P:=P) (w:=w)) (ar ad) K mg base ["self","words","values","deed"] "Desk.answer" (ae s_Q01) f cdv A outer s H E hr) (nB (n:="MOVES") kM rfl m_MOVES (aa 3)) λ tp2 p2 qp2=>eZ (C:=bh (cxe_ok (P:=P) (w:=w)) (ar ad) K mg base ["self","words","values","deed"] "Desk.answer" (ae s_Q01) f cdv A outer s H E hr) (bj (aa 3) aV) λ tp3 p3 qp3=>eX (C:=bh (cxe_ok (P:=P) (w:=w)) (ar ad) K mg base ["self","words","values","deed"] "Desk.answer" (ae s_Q01) f cdv A outer s H E hr) (aY (aa 1) ag) λ trf rf qrf=>⟨_,aG (dG (i:=3) nd rfl (Or.inl rfl) rz) (aG (eh p1 dh bW) (aG (eh p2 dh bW) (aG (eh p3 (aS (cw (fS (pv 0) T.clD mK oK hr dK.bd .nil gr (au rf (au (nW ix_list (pv 2) mM (λ _ _=>rfl)) aM))))) bW) dh))),qF (C:=bh (cxe_ok (P:=P) (w:=w)) (ar ad) K mg base ["self","words","values","deed"] "Desk.answer" (ae s_Q01) f cdv A outer s H E hr) (k:=kD) (λ _=>rfl) qrz qp1 qp2 qp3 qrf h⟩
theorem ok_Q1E {CD CH f:Addr}{fd:FuncData}(d:Mf K "say" "Desk.say" s_Q1E ["self","command"] f fd)(T:DkT K CD CH){fR:Addr}{fdR:FuncData}(dR:Mf K "read_word" "Desk.read_word" s_Q1D ["self","form","word"] fR fdR)(oR:FnOk P w K mg base (CXe P w) 4 fR fdR ["self","form","word"] (ly CD (ar ad) kD))(mR:Meth K CD "read_word" fR){fA:Addr}{fdA:FuncData}(dA:Mf K "answer" "Desk.answer" s_Q01 ["self","words","values"] fA fdA)(oA:FnOk P w K mg base (CXe P w) 2 fA fdA ["self","words","values"] (mr K CD (ar ad) kD))(mA:Meth K CD "answer" fA){a_FORMS:Addr}(kF:FormsK w K a_FORMS gc)(m_FORMS:mg "FORMS"=some (.ref a_FORMS))(q_words_of:gq P w K mg base ad)(z_zip:mg "zip"=none):FnOk P w K mg base (CXe P w) 5 f fd ["self","command"] (gP K CD (ar ad) kD):=by
 have nd:=sc_say.nd;refine d.okL ["self","command","words","values"] 4 sc_say lZ λ cdv A outer s H vs Q E hr h=>?_
 exact eX (C:=bh (cxe_ok (P:=P) (w:=w)) (ar ad) K mg base ["self","command","words","values"] "Desk.say" (ae s_Q1E) f cdv A outer s H E hr) (av q_words_of.d q_words_of.o hr (by decide) rfl (af (aa 1) aj)) λ trw rw qrw=>⟨_,aG (dG (i:=2) nd rfl (Or.inl rfl) rw) (aG (jC (C:=bh (cxe_ok (P:=P) (w:=w)) (ar ad) K mg base ["self","command","words","values"] "Desk.say" (ae s_Q1E) f cdv A outer s H E hr) (ts:=["form","word"]) (fs:=["self"]) (is:=[0]) (i:=3) rfl (az (fsc:=ae s_Q1E) (N:=["self","command","words","values"]) rfl rfl (by decide +kernel)) (nO (is:=[0]) rfl (az (fsc:=ae s_Q1E) (N:=["self","command","words","values"]) rfl rfl (by decide +kernel)) (.cons (.cons .nil)) (λ _=>rfl) (λ _=>rfl)) (pD (n:="FORMS") kF l3 rfl m_FORMS rfl z_zip (aY (aa 2) ag) (bQ (aa 2) (bO ag) bP)) rfl (qB hr) rfl (λ cl L s₀ H₀ ex pn xe hp=>fS (pv 2) T.clD mR oR (hr.mono (by decide)) dR.bd .nil hp (au (pv 0) (au (pv 1) aM))) nd rfl rfl rfl (λ _=>rfl)) (aS (cw (fS (pv 0) T.clD mA oA (hr.mono (by decide)) dA.bd .nil gr (au (pv 2) (au (pv 3) aM)))))),mJ (C:=bh (cxe_ok (P:=P) (w:=w)) (ar ad) K mg base ["self","command","words","values"] "Desk.say" (ae s_Q1E) f cdv A outer s H E hr) (k:=kD) (λ _=>rfl) qrw h⟩
abbrev s_Q0S:Stmt:=top 115
theorem sc_law_full:FnScope ["_law_letters","_law_desk","_law_k"] [] (ae s_Q0S):=by constructor<;>first|rfl|decide +kernel
theorem ok_Q0S {f:Addr}{fd:FuncData}(d:Df K mg "_law_full" s_Q0S [] f fd){CD CH:Addr}(Dc:DkC P w K mg base (CXe P w) (ar ad) CD CH kD 5)(z_range:mg "range"=none):
  FnOk P w K mg base (CXe P w) 6 f fd [] (spD K (ar ad) F_Q0S 0):=by
 have nd:=sc_law_full.nd;refine Df.is cxe_ok ["_law_letters","_law_desk","_law_k"] 5 b_Q0S d sc_law_full rfl rfl rfl λ cdv A outer s H E hr=>?_
 exact(ah (aI (i:=0) aV nd rfl (Or.inl rfl)) (n5 (i:=1) (j:=2) Dc hr (by decide) (by decide) (λ _=>rfl) gr BJ rfl rfl nd rfl (Or.inl rfl) (pv 1) (eB (i:=2) nd rfl (Or.inl rfl)) (cR rfl z_range ag) (de (de aV (qQ (sY (aa 0) (bG (aa 2) ag)) (aK ag (kX (aa 2) ag)))) aV)))
abbrev gd:=Fu "_law_full" s_Q0S [] 6 F_Q0S 0
abbrev s_Q0P:Stmt:=top 116
theorem sc_law_asked:FnScope ["_law_way","_law_length","_law_number","_law_desk"] ["_law_way","_law_length","_law_number"] (ae s_Q0P):=by constructor<;>first|rfl|decide +kernel
theorem ok_Q0P {f:Addr}{fd:FuncData}(d:Df K mg "_law_asked" s_Q0P ["_law_way","_law_length","_law_number"] f fd){CD CH:Addr}(Dc:DkC P w K mg base (CXe P w) (ar ad) CD CH kD 5)(q_is_partner:eF P w K mg base ad)(q_made_beat:ft P w K mg base ad)(q_part:mD P w K mg base ad)(q_made_partner:cT P w K mg base ad)(q_line_step:fE P w K mg base ad)(q_laid_flat:fu P w K mg base ad)(q_read_beat:cY P w K mg base ad)(q_law_full:gd P w K mg base ad)(z_str:mg "str"=none):
  FnOk P w K mg base (CXe P w) 8 f fd ["_law_way","_law_length","_law_number"] (spD K (ar ad) F_Q0Q 3):=by
 have nd:=sc_law_asked.nd;refine Df.is cxe_ok ["_law_way","_law_length","_law_number","_law_desk"] 7 b_Q0Q d sc_law_asked rfl rfl rfl λ cdv A outer s H E hr=>?_
 exact(ah (aN (bj (aa 0) ag) (aq (aC (av q_is_partner.d q_is_partner.o hr (by decide) rfl (af (aK ag (aa 2)) (af (aL (af ag aj)) (af (aL (af ag aj)) aj)))))) aA) (ah (aN (bj (aa 0) ag) (aq (aC (av q_made_beat.d q_made_beat.o hr (by decide) rfl (af (aa 1) (af (aL (af (aa 2) (af (aK (aa 2) (aa 1)) aj))) aj))))) aA) (ah (aN (bj (aa 0) ag) (aq (aC (av q_part.d q_part.o hr (by decide) rfl (af (dO ag (aa 2)) aj)))) aA) (ah (aN (bj (aa 0) ag) (aq (aC (av q_made_partner.d q_made_partner.o hr (by decide) rfl (af ag (af (aL (af ag (af ag (af ag aj)))) aj))))) aA) (ah (aN (bj (aa 0) ag) (aq (aC (av q_line_step.d q_line_step.o hr (by decide) rfl (af (aL (af ag (af (aK ag (bG (aa 2) ag)) aj))) (af (dO (c9 ag) (aa 2)) aj))))) aA) (ah (aN (bj (aa 0) ag) (aq (aC (av q_laid_flat.d q_laid_flat.o hr (by decide) rfl (af (jc (af (aK ag (bN (bG (aa 2) ag) ag)) (af (aK ag (bN (bG (kX (aa 2) ag) ag) ag)) aj))) (af (aL (af (jc (af ag (af ag aj))) aj)) aj))))) aA) (ah (aN (bj (aa 0) ag) (aq (aC (av q_read_beat.d q_read_beat.o hr (by decide) rfl (af (de aV (i5 z_str rfl (aa 2))) aj)))) aA) (ah (aN (bj (aa 0) ag) (aq (jx Dc hr (by decide) (by decide) (λ _=>rfl) gr rfl (de aV (il aV (bO (bG (aa 2) ag)) bP)))) aA) (ah (aN (bj (aa 0) ag) (aq (jx Dc hr (by decide) (by decide) (λ _=>rfl) gr rfl (de aV (i5 z_str rfl (aa 2))))) aA) (ah (aN (bj (aa 0) ag) (aq (aC (t7 q_law_full.d q_law_full.o hr (by decide) rfl (λ _=>rfl) gr))) aA) (aq (aN (bj (aa 0) ag) (mY (i:=3) Dc hr (by decide) (by decide) (λ _=>rfl) gr rfl nd rfl (Or.inl rfl) (pv 3) aV (de aV (i5 z_str rfl (aa 2)))) aA))))))))))))
abbrev fk:=Fu "_law_asked" s_Q0P ["_law_way","_law_length","_law_number"] 8 F_Q0Q 3
abbrev s_Q0W:Stmt:=top 118
theorem sc_law_said:FnScope ["_law_way","_law_length","_law_number","_law_found","_law_e"] ["_law_way","_law_length","_law_number"] (ae s_Q0W):=by constructor<;>first|rfl|decide +kernel
theorem ok_Q0W {f:Addr}{fd:FuncData}(d:Df K mg "_law_said" s_Q0W ["_law_way","_law_length","_law_number"] f fd)(q_law_asked:fk P w K mg base ad)(q_law_kinds:fo P w K mg base ad)(oH_Q0U:FnOkH P w K mg base 1 q_law_kinds.f q_law_kinds.fd ["_law_e"] (spD K (ar ad) F_Q0V 1))(xa:XAll K mg ad){C_16:Addr}(h_WheelError:ad "WheelError"=some C_16)(hkn:∀ c∈(["WheelError","NoWheel","NoBeat","NoPart","NoRule","NoWindow","NoPair","NoText","NoName","NoNumber","NoDeed","TooMany"]:List String),∃ Ca,ad c=some Ca):
  FnOk P w K mg base (CXe P w) 9 f fd ["_law_way","_law_length","_law_number"] (spD K (ar ad) F_Q0X 3):=by
 have nd:=sc_law_said.nd;refine Df.is cxe_ok ["_law_way","_law_length","_law_number","_law_found","_law_e"] 8 b_Q0X d sc_law_said rfl rfl rfl λ cdv A outer s H E hr=>?_
 exact(ah (aI (i:=3) (aL aj) nd rfl (Or.inl rfl)) (ah (o9 xa (kn2 hkn) h_WheelError (i:=4) nd rfl rfl (λ pins xe W own pass=>(aq (aC (av q_law_asked.d q_law_asked.o hr (by decide) rfl (af (aa 0) (af (aa 1) (af (aa 2) aj))))))) (λ pins e=>(aq (aI (i:=3) (tX q_law_kinds.d oH_Q0U (uY hr) (by decide) rfl rfl (af (aa 4) aj)) nd rfl (Or.inl rfl))))) (aq (dq 3))))
abbrev gH:=Fu "_law_said" s_Q0W ["_law_way","_law_length","_law_number"] 9 F_Q0X 3
abbrev s_Q0O:Stmt:=top 119
theorem sc_law:FnScope ["_law_script","_law_length","_law_number","_law_way"] ["_law_script"] (ae s_Q0O):=by constructor<;>first|rfl|decide +kernel
theorem ok_Q0O {f:Addr}{fd:FuncData}(d:Df K mg "law" s_Q0O ["_law_script"] f fd)(q_law_cell:gh P w K mg base ad)(q_law_said:gH P w K mg base ad)(z_range:mg "range"=none):
  FnOk P w K mg base (CXe P w) 10 f fd ["_law_script"] (spD K (ar ad) F_Q0T 1):=by
 have nd:=sc_law.nd;refine Df.is cxe_ok ["_law_script","_law_length","_law_number","_law_way"] 9 b_Q0T d sc_law rfl rfl rfl λ cdv A outer s H E hr=>?_
 exact(ah (aI (i:=1) (aK ag (bG (av q_law_cell.d q_law_cell.o hr (by decide) rfl (af (aa 0) (af ag aj))) ag)) nd rfl (Or.inl rfl)) (ah (aI (i:=2) (bG (bN (av q_law_cell.d q_law_cell.o hr (by decide) rfl (af (aa 0) (af ag aj))) ag) (aK (sI ag ag) ag)) nd rfl (Or.inl rfl)) (ah (dS [] (i:=3) (cR rfl z_range ag) (aq (aN (ij (av q_law_said.d q_law_said.o hr (by decide) rfl (af (aa 3) (af (aa 1) (af (aa 2) aj)))) (aK (bF (fs:=["_law_way"]) (is:=[3]) (fe:=(Dv.eCm .eq (Dv.eVar 1) (Dv.eVar 0))) (fc:=(Dv.eBl true)) (az (fsc:=ae s_Q0O) (N:=["_law_script","_law_length","_law_number","_law_way"]) rfl rfl (by decide +kernel)) (cR rfl z_range ag) (λ cl L s₀ H₀ ex=>(iu (aa 1) (aa 0))) (λ cl L s₀ H₀ ex=>eT)) (aL (af ny aj)))) (aq (aR ny)) aA)) nd rfl (Or.inr rfl)) (aq (aR ny)))))
end
theorem gD {P:List Value->Prop}(h:P []):∀ us:List Value,us.length=0->P us:=λ us hl=>(wM hl)▸h
theorem br {P:List Value->Prop}{k:Nat}(h:∀ a (us:List Value),us.length=k->P (a::us)):∀ us:List Value,us.length=k+1->P us:=by
 intro us hl;cases us with
 | nil=>exact absurd hl (Nat.succ_ne_zero k).symm
 | cons a r=>exact h a r (Nat.succ.inj hl)
theorem bu {P:List Value->Prop}(h:∀ a0,P [a0]):∀ us:List Value,us.length=1->P us:=br (P:=P) λ a0=>gD (P:=λ us=>P (a0:: us)) (h a0)
theorem bV {P:List Value->Prop}(h:∀ a0 a1,P [a0,a1]):∀ us:List Value,us.length=2->P us:=br (P:=P) λ a0=>br (P:=λ us=>P (a0:: us)) λ a1=>gD (P:=λ us=>P (a0::a1:: us)) (h a0 a1)
theorem fH {P:List Value->Prop}(h:∀ a0 a1 a2,P [a0,a1,a2]):∀ us:List Value,us.length=3->P us:=br (P:=P) λ a0=>br (P:=λ us=>P (a0:: us)) λ a1=>br (P:=λ us=>P (a0::a1:: us)) λ a2=>gD (P:=λ us=>P (a0::a1::a2:: us)) (h a0 a1 a2)
theorem vZ {P:List Value->Prop}(h:∀ a0 a1 a2 a3,P [a0,a1,a2,a3]):∀ us:List Value,us.length=4->P us:=br (P:=P) λ a0=>br (P:=λ us=>P (a0:: us)) λ a1=>br (P:=λ us=>P (a0::a1:: us)) λ a2=>br (P:=λ us=>P (a0::a1::a2:: us)) λ a3=>gD (P:=λ us=>P (a0::a1::a2::a3:: us)) (h a0 a1 a2 a3)
theorem vY {P:List Value->Prop}(h:∀ a0 a1 a2 a3 a4,P [a0,a1,a2,a3,a4]):∀ us:List Value,us.length=5->P us:=br (P:=P) λ a0=>br (P:=λ us=>P (a0:: us)) λ a1=>br (P:=λ us=>P (a0::a1:: us)) λ a2=>br (P:=λ us=>P (a0::a1::a2:: us)) λ a3=>br (P:=λ us=>P (a0::a1::a2::a3:: us)) λ a4=>gD (P:=λ us=>P (a0::a1::a2::a3::a4:: us)) (h a0 a1 a2 a3 a4)
theorem vX {P:List Value->Prop}(h:∀ a0 a1 a2 a3 a4 a5,P [a0,a1,a2,a3,a4,a5]):∀ us:List Value,us.length=6->P us:=br (P:=P) λ a0=>br (P:=λ us=>P (a0:: us)) λ a1=>br (P:=λ us=>P (a0::a1:: us)) λ a2=>br (P:=λ us=>P (a0::a1::a2:: us)) λ a3=>br (P:=λ us=>P (a0::a1::a2::a3:: us)) λ a4=>br (P:=λ us=>P (a0::a1::a2::a3::a4:: us)) λ a5=>gD (P:=λ us=>P (a0::a1::a2::a3::a4::a5:: us)) (h a0 a1 a2 a3 a4 a5)
abbrev adA (a0 a1 a2 a3 a4 a5 a6 a7 a8 a9 a10 a11:Addr):=ls [("WheelError",a0),("NoWheel",a1),("NoBeat",a2),("NoPart",a3),("NoRule",a4),("NoWindow",a5),("NoPair",a6),("NoText",a7),("NoName",a8),("NoNumber",a9),("NoDeed",a10),("TooMany",a11)]
abbrev hA (K:yy)(n:Str)(f:Addr):Prop:=yH K mainGlobals n=some (some (.ref f))
abbrev hL (K:yy)(n:Str)(s:Stmt)(f:Addr)(oc:Value)(od:Option Addr)(kV dc pm:Value)(an:Option Addr)(cd ct:Value)(sl:Array (Option Value)):Prop:=K.lookup f=some ⟨oc,od,.func (yJ n n (aE s) (ax s) (ae s) .none kV dc pm an cd ct),sl⟩
abbrev hC (K:yy)(c:Value)(n:Str):Prop:=zc K c n=true
abbrev hK (K:yy)(f:Addr):Prop:=yR K (.ref f)=true
abbrev hS (K:yy)(a b:Addr)(v:Bool):Prop:=yU K (.ref a) (.ref b)=some v
theorem all_mk {l:PySem.W.OpenLaw}{w:World}{K:yy}{h:Heap}{mg:Str->Option Value}{fa:Addr}(X:K.In h)(G:h.Ns mainGlobals mg)(hfa:mg "law"=some (.ref fa))
    {f_Q0O C_1 C_15 f_Wheel_init f_Desk_init f_Q0L f_Q1D f_Q01 f_Q1E C_2 C_0 C_3 C_16 C_12 C_4 C_9 C_10 C_13 C_8 C_11 C_6 C_7 C_5 C_14:Addr}{od_Q0O an_Q0O od_Wheel_init an_Wheel_init od_Desk_init an_Desk_init od_Q0L an_Q0L od_Q1D an_Q1D od_Q01 an_Q01 od_Q1E an_Q1E:Option Addr}{sl_Q0O sl_Wheel_init sl_Desk_init sl_Q0L sl_Q1D sl_Q01 sl_Q1E:Array (Option Value)}{oc_Q0O kV_Q0O dc_Q0O pm_Q0O cd_Q0O ct_Q0O oc_Wheel_init kV_Wheel_init dc_Wheel_init pm_Wheel_init cd_Wheel_init ct_Wheel_init oc_Desk_init kV_Desk_init dc_Desk_init pm_Desk_init cd_Desk_init ct_Desk_init oc_Q0L kV_Q0L dc_Q0L pm_Q0L cd_Q0L ct_Q0L oc_Q1D kV_Q1D dc_Q1D pm_Q1D cd_Q1D ct_Q1D oc_Q01 kV_Q01 dc_Q01 pm_Q01 cd_Q01 ct_Q01 oc_Q1E kV_Q1E dc_Q1E pm_Q1E cd_Q1E ct_Q1E:Value}{t_LONGEST t_LAST_PART t_LONGEST_NAME t_MOST_FIGURES t_LAST_NUMBER t_MOST_NUMBERS t_MOST_NAMES t_LETTERS t_FIGURES:Tok}
    (D_check_wheel:hD K "check_wheel" s_Q0C) (D_check_rising:hD K "check_rising" s_Q09) (D_check_beat:hD K "check_beat" s_Q05) (D_made_beat:hD K "made_beat" s_Q11) (D_beat_counts:hD K "beat_counts" s_Q02) (D_is_partner:hD K "is_partner" s_Q0J) (D_beat_sum:hD K "beat_sum" s_Q04) (D_without_last_noughts:hD K "without_last_noughts" s_Q1G) (D_sum_divided:hD K "sum_divided" s_Q1F) (D_divisors:hD K "divisors" s_Q0F) (D_parts_of_divisors:hD K "parts_of_divisors" s_Q16) (D_part:hD K "part" s_Q14) (D_leaves_nought:hD K "leaves_nought" s_Q0Y) (D_parts_had:hD K "parts_had" s_Q15) (D_prime_of:hD K "prime_of" s_Q18) (D_has_one_prime:hD K "has_one_prime" s_Q0H) (D_prime_powers:hD K "prime_powers" s_Q19) (D_powers_had:hD K "powers_had" s_Q17) (D_first_rule:hD K "first_rule" s_Q0G) (D_made_partner:hD K "made_partner" s_Q12) (D_has_only:hD K "has_only" s_Q0I) (D_read_beat:hD K "read_beat" s_Q1A) (D_words_of:hD K "words_of" s_Q1H) (D_check_name:hD K "check_name" s_Q07) (D_read_number:hD K "read_number" s_Q1B) (D_check_line_beat:hD K "check_line_beat" s_Q06) (D_check_window:hD K "check_window" s_Q0D) (D_line_step:hD K "line_step" s_Q0Z) (D_check_sides:hD K "check_sides" s_Q0A) (D_all_spots:hD K "all_spots" s_Q00) (D_check_torus_beat:hD K "check_torus_beat" s_Q0B) (D_check_pair:hD K "check_pair" s_Q08) (D_laid_flat:hD K "laid_flat" s_Q0M) (D_law_cell:hD K "_law_cell" s_Q0R) (D_law_kinds:hD K "_law_kinds" s_Q0U) (D_read_text:hD K "read_text" s_Q1C) (D_law_full:hD K "_law_full" s_Q0S) (D_law_asked:hD K "_law_asked" s_Q0P) (D_law_said:hD K "_law_said" s_Q0W) (a_Q0O:hA K "law" f_Q0O) (l_Q0O:hL K "law" s_Q0O f_Q0O oc_Q0O od_Q0O kV_Q0O dc_Q0O pm_Q0O an_Q0O cd_Q0O ct_Q0O sl_Q0O) (c_Q0O:hC K cd_Q0O "law") (k_Q0O:hK K f_Q0O)
    (z_len:yH K mainGlobals "len"=some none) (z_sorted:yH K mainGlobals "sorted"=some none) (z_list:yH K mainGlobals "list"=some none) (z_range:yH K mainGlobals "range"=some none) (z_enumerate:yH K mainGlobals "enumerate"=some none) (z_all:yH K mainGlobals "all"=some none) (z_isinstance:yH K mainGlobals "isinstance"=some none) (z_str:yH K mainGlobals "str"=some none) (z_min:yH K mainGlobals "min"=some none) (z_any:yH K mainGlobals "any"=some none) (z_ValueError:yH K mainGlobals "ValueError"=some none) (z_zip:yH K mainGlobals "zip"=some none) (n_LONGEST:yH K mainGlobals "LONGEST"=some (some (.int 60 t_LONGEST))) (n_LAST_PART:yH K mainGlobals "LAST_PART"=some (some (.int 60 t_LAST_PART))) (n_LONGEST_NAME:yH K mainGlobals "LONGEST_NAME"=some (some (.int 8 t_LONGEST_NAME))) (n_MOST_FIGURES:yH K mainGlobals "MOST_FIGURES"=some (some (.int 6 t_MOST_FIGURES))) (n_LAST_NUMBER:yH K mainGlobals "LAST_NUMBER"=some (some (.int 60 t_LAST_NUMBER))) (n_MOST_NUMBERS:yH K mainGlobals "MOST_NUMBERS"=some (some (.int 12 t_MOST_NUMBERS))) (n_MOST_NAMES:yH K mainGlobals "MOST_NAMES"=some (some (.int 30 t_MOST_NAMES)))
   (a_Desk:hA K "Desk" C_1) (pg_Desk:zu K C_1 BU=true) (hd_Desk:zH K C_1=true) (po_Desk:zZ K C_1=true) (sa_Desk:yI K (.ref C_1) "__setattr__"=some (some (.builtin "object.__setattr__"))) (mk_Desk:Af K C_1=true) (kc_Desk:yR K (.ref C_1)=true) (na_Desk_wheels:yI K (.ref C_1) "wheels"=some none)
   (a_Wheel:hA K "Wheel" C_15) (pg_Wheel:zu K C_15 BU=true) (hd_Wheel:zH K C_15=true) (po_Wheel:zZ K C_15=true) (sa_Wheel:yI K (.ref C_15) "__setattr__"=some (some (.builtin "object.__setattr__"))) (mk_Wheel:Af K C_15=true) (kc_Wheel:yR K (.ref C_15)=true) (na_Wheel_length:yI K (.ref C_15) "length"=some none) (na_Wheel_beat:yI K (.ref C_15) "beat"=some none)
   (a_Wheel_init:yI K (.ref C_15) "__init__"=some (some (.ref f_Wheel_init))) (i_Wheel_init:zo K (.ref f_Wheel_init)=true) (l_Wheel_init:K.lookup f_Wheel_init=some ⟨oc_Wheel_init,od_Wheel_init,.func (yJ "__init__" "Wheel.__init__" (aE bf) (ax bf) (ae bf) .none kV_Wheel_init dc_Wheel_init pm_Wheel_init an_Wheel_init cd_Wheel_init ct_Wheel_init),sl_Wheel_init⟩) (c_Wheel_init:hC K cd_Wheel_init "Wheel.__init__") (k_Wheel_init:hK K f_Wheel_init)
   (a_Desk_init:yI K (.ref C_1) "__init__"=some (some (.ref f_Desk_init))) (i_Desk_init:zo K (.ref f_Desk_init)=true) (l_Desk_init:K.lookup f_Desk_init=some ⟨oc_Desk_init,od_Desk_init,.func (yJ "__init__" "Desk.__init__" (aE bE) (ax bE) (ae bE) .none kV_Desk_init dc_Desk_init pm_Desk_init an_Desk_init cd_Desk_init ct_Desk_init),sl_Desk_init⟩) (c_Desk_init:hC K cd_Desk_init "Desk.__init__") (k_Desk_init:hK K f_Desk_init)
   (a_Q0L:yI K (.ref C_1) "keep"=some (some (.ref f_Q0L))) (i_keep:zo K (.ref f_Q0L)=true) (l_Q0L:K.lookup f_Q0L=some ⟨oc_Q0L,od_Q0L,.func (yJ "keep" "Desk.keep" (aE s_Q0L) (ax s_Q0L) (ae s_Q0L) .none kV_Q0L dc_Q0L pm_Q0L an_Q0L cd_Q0L ct_Q0L),sl_Q0L⟩) (c_Q0L:hC K cd_Q0L "Desk.keep") (k_Q0L:hK K f_Q0L)
   (a_Q1D:yI K (.ref C_1) "read_word"=some (some (.ref f_Q1D))) (i_read_word:zo K (.ref f_Q1D)=true) (l_Q1D:K.lookup f_Q1D=some ⟨oc_Q1D,od_Q1D,.func (yJ "read_word" "Desk.read_word" (aE s_Q1D) (ax s_Q1D) (ae s_Q1D) .none kV_Q1D dc_Q1D pm_Q1D an_Q1D cd_Q1D ct_Q1D),sl_Q1D⟩) (c_Q1D:hC K cd_Q1D "Desk.read_word") (k_Q1D:hK K f_Q1D)
   (a_Q01:yI K (.ref C_1) "answer"=some (some (.ref f_Q01))) (i_answer:zo K (.ref f_Q01)=true) (l_Q01:K.lookup f_Q01=some ⟨oc_Q01,od_Q01,.func (yJ "answer" "Desk.answer" (aE s_Q01) (ax s_Q01) (ae s_Q01) .none kV_Q01 dc_Q01 pm_Q01 an_Q01 cd_Q01 ct_Q01),sl_Q01⟩) (c_Q01:hC K cd_Q01 "Desk.answer") (k_Q01:hK K f_Q01)
   (a_Q1E:yI K (.ref C_1) "say"=some (some (.ref f_Q1E))) (i_say:zo K (.ref f_Q1E)=true) (l_Q1E:K.lookup f_Q1E=some ⟨oc_Q1E,od_Q1E,.func (yJ "say" "Desk.say" (aE s_Q1E) (ax s_Q1E) (ae s_Q1E) .none kV_Q1E dc_Q1E pm_Q1E an_Q1E cd_Q1E ct_Q1E),sl_Q1E⟩) (c_Q1E:hC K cd_Q1E "Desk.say") (k_Q1E:hK K f_Q1E)
   (a_FORMS:hA K "FORMS" C_2) (K_FORMS:FormsK w K C_2 gc)
   (a_ANSWERS:hA K "ANSWERS" C_0) (K_ANSWERS:KeysK w K C_0 t9)
   (a_MOVES:hA K "MOVES" C_3) (K_MOVES:KeysK w K C_3 tT) (n_LETTERS:yH K mainGlobals "LETTERS"=some (some (.str (stO (Dv.clipS [97,98,99,100,101,102,103,104,105,106,107,108,109,110,111,112,113,114,115,116,117,118,119,120,121,122])) t_LETTERS))) (n_FIGURES:yH K mainGlobals "FIGURES"=some (some (.str (stO (Dv.clipS [48,49,50,51,52,53,54,55,56,57])) t_FIGURES)))
   (xk:hXs K [("WheelError",C_16),("NoWheel",C_12),("NoBeat",C_4),("NoPart",C_9),("NoRule",C_10),("NoWindow",C_13),("NoPair",C_8),("NoText",C_11),("NoName",C_6),("NoNumber",C_7),("NoDeed",C_5),("TooMany",C_14)]):∃ (fd:FuncData) (cls:String->Value),(∀ (s:Shared) (v:Value),BindsTo s fd ⟨[v],[]⟩ [("_law_script",v)])/\∀ base:Heap,K.In base->base.Ns mainGlobals mg->FnOk l.prog w K mg base (CXe l.prog w) 10 fa fd ["_law_script"] (spD K cls F_Q0T 1):=by
  have e:=hfa.symm.trans (yL X G a_Q0O);cases e;have T:DkT K C_1 C_15:=⟨⟨pg_Desk,hd_Desk,po_Desk,sa_Desk⟩,⟨pg_Wheel,hd_Wheel,po_Wheel,sa_Wheel⟩,na_Desk_wheels,na_Wheel_length,na_Wheel_beat⟩;have d_Wheel_init:=ib (st:=bf) (ps:=["self","length","beat"]) l_Wheel_init c_Wheel_init λ _ _ _ _ _ _=>fH λ _ _ _=>rfl
  have d_Desk_init:=ib (st:=bE) (ps:=["self"]) l_Desk_init c_Desk_init λ _ _ _ _ _ _=>bu λ _=>rfl
  have d_Q0L:=ib (st:=s_Q0L) (ps:=["self","name","wheel"]) l_Q0L c_Q0L λ _ _ _ _ _ _=>fH λ _ _ _=>rfl
  have d_Q1D:=ib (st:=s_Q1D) (ps:=["self","form","word"]) l_Q1D c_Q1D λ _ _ _ _ _ _=>fH λ _ _ _=>rfl
  have d_Q01:=ib (st:=s_Q01) (ps:=["self","words","values"]) l_Q01 c_Q01 λ _ _ _ _ _ _=>fH λ _ _ _=>rfl
  have d_Q1E:=ib (st:=s_Q1E) (ps:=["self","command"]) l_Q1E c_Q1E λ _ _ _ _ _ _=>bV λ _ _=>rfl
  have M_Desk:Mk K C_1 f_Desk_init:=⟨mk_Desk,a_Desk_init,i_Desk_init,kc_Desk⟩;have M_Wheel:Mk K C_15 f_Wheel_init:=⟨mk_Wheel,a_Wheel_init,i_Wheel_init,kc_Wheel⟩;have m_keep:Meth K C_1 "keep" f_Q0L:=⟨a_Q0L,i_keep,k_Q0L⟩;have m_read_word:Meth K C_1 "read_word" f_Q1D:=⟨a_Q1D,i_read_word,k_Q1D⟩;have m_answer:Meth K C_1 "answer" f_Q01:=⟨a_Q01,i_answer,k_Q01⟩;have m_say:Meth K C_1 "say" f_Q1E:=⟨a_Q1E,i_say,k_Q1E⟩;have m_FORMS:=yL X G a_FORMS;have m_ANSWERS:=yL X G a_ANSWERS;have m_MOVES:=yL X G a_MOVES;have n_LETTERS:=yL X G n_LETTERS;have n_FIGURES:=yL X G n_FIGURES;obtain⟨f_Q0C,fd_check_wheel,d_Q0C⟩:=dfE (st:=s_Q0C) (ps:=["length"]) X G D_check_wheel λ _ _ _ _ _ _=>bu λ _=>rfl
  obtain⟨f_Q09,fd_check_rising,d_Q09⟩:=dfE (st:=s_Q09) (ps:=["numbers","end"]) X G D_check_rising λ _ _ _ _ _ _=>bV λ _ _=>rfl
  obtain⟨f_Q05,fd_check_beat,d_Q05⟩:=dfE (st:=s_Q05) (ps:=["length","beat"]) X G D_check_beat λ _ _ _ _ _ _=>bV λ _ _=>rfl
  obtain⟨f_Q11,fd_made_beat,d_Q11⟩:=dfE (st:=s_Q11) (ps:=["length","numbers"]) X G D_made_beat λ _ _ _ _ _ _=>bV λ _ _=>rfl
  obtain⟨f_Q02,fd_beat_counts,d_Q02⟩:=dfE (st:=s_Q02) (ps:=["length","beat","starts"]) X G D_beat_counts λ _ _ _ _ _ _=>fH λ _ _ _=>rfl
  obtain⟨f_Q0J,fd_is_partner,d_Q0J⟩:=dfE (st:=s_Q0J) (ps:=["length","beat","starts"]) X G D_is_partner λ _ _ _ _ _ _=>fH λ _ _ _=>rfl
  obtain⟨f_Q04,fd_beat_sum,d_Q04⟩:=dfE (st:=s_Q04) (ps:=["beat"]) X G D_beat_sum λ _ _ _ _ _ _=>bu λ _=>rfl
  obtain⟨f_Q1G,fd_without_last_noughts,d_Q1G⟩:=dfE (st:=s_Q1G) (ps:=["numbers"]) X G D_without_last_noughts λ _ _ _ _ _ _=>bu λ _=>rfl
  obtain⟨f_Q1F,fd_sum_divided,d_Q1F⟩:=dfE (st:=s_Q1F) (ps:=["one","other"]) X G D_sum_divided λ _ _ _ _ _ _=>bV λ _ _=>rfl
  obtain⟨f_Q0F,fd_divisors,d_Q0F⟩:=dfE (st:=s_Q0F) (ps:=["number"]) X G D_divisors λ _ _ _ _ _ _=>bu λ _=>rfl
  obtain⟨f_Q16,fd_parts_of_divisors,d_Q16⟩:=dfE (st:=s_Q16) (ps:=["number"]) X G D_parts_of_divisors λ _ _ _ _ _ _=>bu λ _=>rfl
  obtain⟨f_Q14,fd_part,d_Q14⟩:=dfE (st:=s_Q14) (ps:=["number"]) X G D_part λ _ _ _ _ _ _=>bu λ _=>rfl
  obtain⟨f_Q0Y,fd_leaves_nought,d_Q0Y⟩:=dfE (st:=s_Q0Y) (ps:=["beat","divisor"]) X G D_leaves_nought λ _ _ _ _ _ _=>bV λ _ _=>rfl
  obtain⟨f_Q15,fd_parts_had,d_Q15⟩:=dfE (st:=s_Q15) (ps:=["length","beat"]) X G D_parts_had λ _ _ _ _ _ _=>bV λ _ _=>rfl
  obtain⟨f_Q18,fd_prime_of,d_Q18⟩:=dfE (st:=s_Q18) (ps:=["number"]) X G D_prime_of λ _ _ _ _ _ _=>bu λ _=>rfl
  obtain⟨f_Q0H,fd_has_one_prime,d_Q0H⟩:=dfE (st:=s_Q0H) (ps:=["number"]) X G D_has_one_prime λ _ _ _ _ _ _=>bu λ _=>rfl
  obtain⟨f_Q19,fd_prime_powers,d_Q19⟩:=dfE (st:=s_Q19) (ps:=["length"]) X G D_prime_powers λ _ _ _ _ _ _=>bu λ _=>rfl
  obtain⟨f_Q17,fd_powers_had,d_Q17⟩:=dfE (st:=s_Q17) (ps:=["length","beat"]) X G D_powers_had λ _ _ _ _ _ _=>bV λ _ _=>rfl
  obtain⟨f_Q0G,fd_first_rule,d_Q0G⟩:=dfE (st:=s_Q0G) (ps:=["length","beat"]) X G D_first_rule λ _ _ _ _ _ _=>bV λ _ _=>rfl
  obtain⟨f_Q12,fd_made_partner,d_Q12⟩:=dfE (st:=s_Q12) (ps:=["length","beat"]) X G D_made_partner λ _ _ _ _ _ _=>bV λ _ _=>rfl
  obtain⟨f_Q0I,fd_has_only,d_Q0I⟩:=dfE (st:=s_Q0I) (ps:=["text","signs"]) X G D_has_only λ _ _ _ _ _ _=>bV λ _ _=>rfl
  obtain⟨f_Q1A,fd_read_beat,d_Q1A⟩:=dfE (st:=s_Q1A) (ps:=["text"]) X G D_read_beat λ _ _ _ _ _ _=>bu λ _=>rfl
  obtain⟨f_Q1H,fd_words_of,d_Q1H⟩:=dfE (st:=s_Q1H) (ps:=["command"]) X G D_words_of λ _ _ _ _ _ _=>bu λ _=>rfl
  obtain⟨f_Q07,fd_check_name,d_Q07⟩:=dfE (st:=s_Q07) (ps:=["word"]) X G D_check_name λ _ _ _ _ _ _=>bu λ _=>rfl
  obtain⟨f_Q1B,fd_read_number,d_Q1B⟩:=dfE (st:=s_Q1B) (ps:=["word"]) X G D_read_number λ _ _ _ _ _ _=>bu λ _=>rfl
  obtain⟨f_Q06,fd_check_line_beat,d_Q06⟩:=dfE (st:=s_Q06) (ps:=["beat"]) X G D_check_line_beat λ _ _ _ _ _ _=>bu λ _=>rfl
  obtain⟨f_Q0D,fd_check_window,d_Q0D⟩:=dfE (st:=s_Q0D) (ps:=["beat","window"]) X G D_check_window λ _ _ _ _ _ _=>bV λ _ _=>rfl
  obtain⟨f_Q0Z,fd_line_step,d_Q0Z⟩:=dfE (st:=s_Q0Z) (ps:=["beat","window"]) X G D_line_step λ _ _ _ _ _ _=>bV λ _ _=>rfl
  obtain⟨f_Q0A,fd_check_sides,d_Q0A⟩:=dfE (st:=s_Q0A) (ps:=["sides"]) X G D_check_sides λ _ _ _ _ _ _=>bu λ _=>rfl
  obtain⟨f_Q00,fd_all_spots,d_Q00⟩:=dfE (st:=s_Q00) (ps:=["sides"]) X G D_all_spots λ _ _ _ _ _ _=>bu λ _=>rfl
  obtain⟨f_Q0B,fd_check_torus_beat,d_Q0B⟩:=dfE (st:=s_Q0B) (ps:=["sides","beat"]) X G D_check_torus_beat λ _ _ _ _ _ _=>bV λ _ _=>rfl
  obtain⟨f_Q08,fd_check_pair,d_Q08⟩:=dfE (st:=s_Q08) (ps:=["sides"]) X G D_check_pair λ _ _ _ _ _ _=>bu λ _=>rfl
  obtain⟨f_Q0M,fd_laid_flat,d_Q0M⟩:=dfE (st:=s_Q0M) (ps:=["sides","beat"]) X G D_laid_flat λ _ _ _ _ _ _=>bV λ _ _=>rfl
  obtain⟨f_Q0R,fd_law_cell,d_Q0R⟩:=dfE (st:=s_Q0R) (ps:=["_law_script","_law_k"]) X G D_law_cell λ _ _ _ _ _ _=>bV λ _ _=>rfl
  obtain⟨f_Q0U,fd_law_kinds,d_Q0U⟩:=dfE (st:=s_Q0U) (ps:=["_law_e"]) X G D_law_kinds λ _ _ _ _ _ _=>bu λ _=>rfl
  obtain⟨f_Q1C,fd_read_text,d_Q1C⟩:=dfE (st:=s_Q1C) (ps:=["word"]) X G D_read_text λ _ _ _ _ _ _=>bu λ _=>rfl
  obtain⟨f_Q0S,fd_law_full,d_Q0S⟩:=dfE (st:=s_Q0S) (ps:=[]) X G D_law_full λ _ _ _ _ _ _=>gD rfl
  obtain⟨f_Q0P,fd_law_asked,d_Q0P⟩:=dfE (st:=s_Q0P) (ps:=["_law_way","_law_length","_law_number"]) X G D_law_asked λ _ _ _ _ _ _=>fH λ _ _ _=>rfl
  obtain⟨f_Q0W,fd_law_said,d_Q0W⟩:=dfE (st:=s_Q0W) (ps:=["_law_way","_law_length","_law_number"]) X G D_law_said λ _ _ _ _ _ _=>fH λ _ _ _=>rfl
  have d_Q0O:=rq (st:=s_Q0O) (ps:=["_law_script"]) (yL X G a_Q0O) l_Q0O c_Q0O k_Q0O λ _ _ _ _ _ _=>bu λ _=>rfl
  have z_len:=yM X G z_len;have z_sorted:=yM X G z_sorted;have z_list:=yM X G z_list;have z_range:=yM X G z_range;have z_enumerate:=yM X G z_enumerate;have z_all:=yM X G z_all;have z_isinstance:=yM X G z_isinstance;have z_str:=yM X G z_str;have z_min:=yM X G z_min;have z_any:=yM X G z_any;have z_ValueError:=yM X G z_ValueError;have z_zip:=yM X G z_zip;have n_LONGEST:=yL X G n_LONGEST;have n_LAST_PART:=yL X G n_LAST_PART;have n_LONGEST_NAME:=yL X G n_LONGEST_NAME;have n_MOST_FIGURES:=yL X G n_MOST_FIGURES;have n_LAST_NUMBER:=yL X G n_LAST_NUMBER;have n_MOST_NUMBERS:=yL X G n_MOST_NUMBERS;have n_MOST_NAMES:=yL X G n_MOST_NAMES;have xa:XAll K mg (adA C_16 C_12 C_4 C_9 C_10 C_13 C_8 C_11 C_6 C_7 C_5 C_14):=uK X G xk;have h_WheelError:(adA C_16 C_12 C_4 C_9 C_10 C_13 C_8 C_11 C_6 C_7 C_5 C_14) "WheelError"=some C_16:=rfl;have h_NoWheel:(adA C_16 C_12 C_4 C_9 C_10 C_13 C_8 C_11 C_6 C_7 C_5 C_14) "NoWheel"=some C_12:=rfl;have h_NoBeat:(adA C_16 C_12 C_4 C_9 C_10 C_13 C_8 C_11 C_6 C_7 C_5 C_14) "NoBeat"=some C_4:=rfl;have h_NoPart:(adA C_16 C_12 C_4 C_9 C_10 C_13 C_8 C_11 C_6 C_7 C_5 C_14) "NoPart"=some C_9:=rfl;have h_NoRule:(adA C_16 C_12 C_4 C_9 C_10 C_13 C_8 C_11 C_6 C_7 C_5 C_14) "NoRule"=some C_10:=rfl;have h_NoWindow:(adA C_16 C_12 C_4 C_9 C_10 C_13 C_8 C_11 C_6 C_7 C_5 C_14) "NoWindow"=some C_13:=rfl;have h_NoPair:(adA C_16 C_12 C_4 C_9 C_10 C_13 C_8 C_11 C_6 C_7 C_5 C_14) "NoPair"=some C_8:=rfl;have h_NoText:(adA C_16 C_12 C_4 C_9 C_10 C_13 C_8 C_11 C_6 C_7 C_5 C_14) "NoText"=some C_11:=rfl;have h_NoName:(adA C_16 C_12 C_4 C_9 C_10 C_13 C_8 C_11 C_6 C_7 C_5 C_14) "NoName"=some C_6:=rfl;have h_NoNumber:(adA C_16 C_12 C_4 C_9 C_10 C_13 C_8 C_11 C_6 C_7 C_5 C_14) "NoNumber"=some C_7:=rfl;have h_NoDeed:(adA C_16 C_12 C_4 C_9 C_10 C_13 C_8 C_11 C_6 C_7 C_5 C_14) "NoDeed"=some C_5:=rfl;have h_TooMany:(adA C_16 C_12 C_4 C_9 C_10 C_13 C_8 C_11 C_6 C_7 C_5 C_14) "TooMany"=some C_14:=rfl;have hkn:∀ c∈(["WheelError","NoWheel","NoBeat","NoPart","NoRule","NoWindow","NoPair","NoText","NoName","NoNumber","NoDeed","TooMany"]:List String),∃ Ca,(adA C_16 C_12 C_4 C_9 C_10 C_13 C_8 C_11 C_6 C_7 C_5 C_14) c=some Ca:=aU ⟨C_16,rfl⟩ (aU ⟨C_12,rfl⟩ (aU ⟨C_4,rfl⟩ (aU ⟨C_9,rfl⟩ (aU ⟨C_10,rfl⟩ (aU ⟨C_13,rfl⟩ (aU ⟨C_8,rfl⟩ (aU ⟨C_11,rfl⟩ (aU ⟨C_6,rfl⟩ (aU ⟨C_7,rfl⟩ (aU ⟨C_5,rfl⟩ (aU ⟨C_14,rfl⟩ (fm_nil))))))))))));refine⟨yJ "law" "law" (aE s_Q0O) (ax s_Q0O) (ae s_Q0O) .none kV_Q0O dc_Q0O pm_Q0O an_Q0O cd_Q0O ct_Q0O,ar (adA C_16 C_12 C_4 C_9 C_10 C_13 C_8 C_11 C_6 C_7 C_5 C_14),λ s v=>.of_eq rfl,λ base _ _=>?_⟩;have q_check_wheel:bw l.prog w K mg base (adA C_16 C_12 C_4 C_9 C_10 C_13 C_8 C_11 C_6 C_7 C_5 C_14):=⟨_,_,d_Q0C,ok_Q0C d_Q0C  xa h_NoWheel  n_LONGEST⟩;have q_check_rising:cj l.prog w K mg base (adA C_16 C_12 C_4 C_9 C_10 C_13 C_8 C_11 C_6 C_7 C_5 C_14):=⟨_,_,d_Q09,ok_Q09 d_Q09  xa h_NoBeat z_len ⟩;have q_check_beat:bY l.prog w K mg base (adA C_16 C_12 C_4 C_9 C_10 C_13 C_8 C_11 C_6 C_7 C_5 C_14):=⟨_,_,d_Q05,ok_Q05 d_Q05 q_check_wheel q_check_rising  ⟩;have q_made_beat:ft l.prog w K mg base (adA C_16 C_12 C_4 C_9 C_10 C_13 C_8 C_11 C_6 C_7 C_5 C_14):=⟨_,_,d_Q11,ok_Q11 d_Q11 q_check_wheel q_check_beat z_sorted ⟩;have q_beat_counts:dv l.prog w K mg base (adA C_16 C_12 C_4 C_9 C_10 C_13 C_8 C_11 C_6 C_7 C_5 C_14):=⟨_,_,d_Q02,ok_Q02 d_Q02 q_check_beat  ⟩;have q_is_partner:eF l.prog w K mg base (adA C_16 C_12 C_4 C_9 C_10 C_13 C_8 C_11 C_6 C_7 C_5 C_14):=⟨_,_,d_Q0J,ok_Q0J d_Q0J q_beat_counts  ⟩;have q_beat_sum:gy l.prog w K mg base (adA C_16 C_12 C_4 C_9 C_10 C_13 C_8 C_11 C_6 C_7 C_5 C_14):=⟨_,_,d_Q04,ok_Q04 d_Q04  z_len ⟩;have q_without_last_noughts:bH l.prog w K mg base (adA C_16 C_12 C_4 C_9 C_10 C_13 C_8 C_11 C_6 C_7 C_5 C_14):=⟨_,_,d_Q1G,ok_Q1G d_Q1G  z_len ⟩;have q_sum_divided:cu l.prog w K mg base (adA C_16 C_12 C_4 C_9 C_10 C_13 C_8 C_11 C_6 C_7 C_5 C_14):=⟨_,_,d_Q1F,ok_Q1F d_Q1F q_without_last_noughts xa h_NoPart z_len z_list z_range z_enumerate ⟩;have q_divisors:bB l.prog w K mg base (adA C_16 C_12 C_4 C_9 C_10 C_13 C_8 C_11 C_6 C_7 C_5 C_14):=⟨_,_,d_Q0F,ok_Q0F d_Q0F  xa h_NoPart z_range n_LAST_PART⟩;have q_parts_of_divisors:bo l.prog w K mg base (adA C_16 C_12 C_4 C_9 C_10 C_13 C_8 C_11 C_6 C_7 C_5 C_14):=⟨_,_,d_Q16,ok_Q16 d_Q16 q_divisors q_sum_divided  ⟩;have q_part:mD l.prog w K mg base (adA C_16 C_12 C_4 C_9 C_10 C_13 C_8 C_11 C_6 C_7 C_5 C_14):=⟨_,_,d_Q14,ok_Q14 d_Q14 q_parts_of_divisors  ⟩;have q_leaves_nought:cL l.prog w K mg base (adA C_16 C_12 C_4 C_9 C_10 C_13 C_8 C_11 C_6 C_7 C_5 C_14):=⟨_,_,d_Q0Y,ok_Q0Y d_Q0Y q_sum_divided q_beat_sum  ⟩;have q_parts_had:fF l.prog w K mg base (adA C_16 C_12 C_4 C_9 C_10 C_13 C_8 C_11 C_6 C_7 C_5 C_14):=⟨_,_,d_Q15,ok_Q15 d_Q15 q_check_beat q_parts_of_divisors q_divisors q_leaves_nought  ⟩;have q_prime_of:dN l.prog w K mg base (adA C_16 C_12 C_4 C_9 C_10 C_13 C_8 C_11 C_6 C_7 C_5 C_14):=⟨_,_,d_Q18,ok_Q18 d_Q18 q_divisors  ⟩;have q_has_one_prime:cM l.prog w K mg base (adA C_16 C_12 C_4 C_9 C_10 C_13 C_8 C_11 C_6 C_7 C_5 C_14):=⟨_,_,d_Q0H,ok_Q0H d_Q0H q_prime_of q_divisors z_all ⟩;have q_prime_powers:cZ l.prog w K mg base (adA C_16 C_12 C_4 C_9 C_10 C_13 C_8 C_11 C_6 C_7 C_5 C_14):=⟨_,_,d_Q19,ok_Q19 d_Q19 q_check_wheel q_divisors q_has_one_prime  ⟩;have q_powers_had:dX l.prog w K mg base (adA C_16 C_12 C_4 C_9 C_10 C_13 C_8 C_11 C_6 C_7 C_5 C_14):=⟨_,_,d_Q17,ok_Q17 d_Q17 q_parts_had q_prime_powers  ⟩;have q_first_rule:d6 l.prog w K mg base (adA C_16 C_12 C_4 C_9 C_10 C_13 C_8 C_11 C_6 C_7 C_5 C_14):=⟨_,_,d_Q0G,ok_Q0G d_Q0G q_powers_had q_prime_of z_len ⟩;have q_made_partner:cT l.prog w K mg base (adA C_16 C_12 C_4 C_9 C_10 C_13 C_8 C_11 C_6 C_7 C_5 C_14):=⟨_,_,d_Q12,ok_Q12 d_Q12 q_first_rule xa h_NoRule  ⟩;have q_has_only:cC l.prog w K mg base (adA C_16 C_12 C_4 C_9 C_10 C_13 C_8 C_11 C_6 C_7 C_5 C_14):=⟨_,_,d_Q0I,ok_Q0I d_Q0I  z_all ⟩;have q_read_beat:cY l.prog w K mg base (adA C_16 C_12 C_4 C_9 C_10 C_13 C_8 C_11 C_6 C_7 C_5 C_14):=⟨_,_,d_Q1A,ok_Q1A d_Q1A q_has_only xa h_NoText z_isinstance z_str z_len z_enumerate n_LONGEST⟩;have q_words_of:gq l.prog w K mg base (adA C_16 C_12 C_4 C_9 C_10 C_13 C_8 C_11 C_6 C_7 C_5 C_14):=⟨_,_,d_Q1H,ok_Q1H d_Q1H K_FORMS m_FORMS  xa h_NoDeed z_isinstance z_str z_len ⟩;have q_check_name:dZ l.prog w K mg base (adA C_16 C_12 C_4 C_9 C_10 C_13 C_8 C_11 C_6 C_7 C_5 C_14):=⟨_,_,d_Q07,ok_Q07 d_Q07 n_LETTERS q_has_only xa h_NoName z_len n_LONGEST_NAME⟩;have q_read_number:dz l.prog w K mg base (adA C_16 C_12 C_4 C_9 C_10 C_13 C_8 C_11 C_6 C_7 C_5 C_14):=⟨_,_,d_Q1B,ok_Q1B d_Q1B n_FIGURES q_has_only xa h_NoNumber z_len n_MOST_FIGURES⟩;have q_check_line_beat:cp l.prog w K mg base (adA C_16 C_12 C_4 C_9 C_10 C_13 C_8 C_11 C_6 C_7 C_5 C_14):=⟨_,_,d_Q06,ok_Q06 d_Q06 q_check_rising xa h_NoBeat z_len n_LAST_NUMBER n_MOST_NUMBERS⟩;have q_check_window:c8 l.prog w K mg base (adA C_16 C_12 C_4 C_9 C_10 C_13 C_8 C_11 C_6 C_7 C_5 C_14):=⟨_,_,d_Q0D,ok_Q0D d_Q0D q_check_line_beat xa h_NoWindow  ⟩;have q_line_step:fE l.prog w K mg base (adA C_16 C_12 C_4 C_9 C_10 C_13 C_8 C_11 C_6 C_7 C_5 C_14):=⟨_,_,d_Q0Z,ok_Q0Z d_Q0Z q_check_window  ⟩;have q_check_sides:dC l.prog w K mg base (adA C_16 C_12 C_4 C_9 C_10 C_13 C_8 C_11 C_6 C_7 C_5 C_14):=⟨_,_,d_Q0A,ok_Q0A d_Q0A q_check_wheel xa h_NoWheel z_len z_min ⟩;have q_all_spots:fJ l.prog w K mg base (adA C_16 C_12 C_4 C_9 C_10 C_13 C_8 C_11 C_6 C_7 C_5 C_14):=⟨_,_,d_Q00,ok_Q00 d_Q00  z_range ⟩;have q_check_torus_beat:cc l.prog w K mg base (adA C_16 C_12 C_4 C_9 C_10 C_13 C_8 C_11 C_6 C_7 C_5 C_14):=⟨_,_,d_Q0B,ok_Q0B d_Q0B q_check_sides q_all_spots xa h_NoBeat z_len ⟩;have q_check_pair:en l.prog w K mg base (adA C_16 C_12 C_4 C_9 C_10 C_13 C_8 C_11 C_6 C_7 C_5 C_14):=⟨_,_,d_Q08,ok_Q08 d_Q08 q_divisors xa h_NoPair z_any ⟩;have q_laid_flat:fu l.prog w K mg base (adA C_16 C_12 C_4 C_9 C_10 C_13 C_8 C_11 C_6 C_7 C_5 C_14):=⟨_,_,d_Q0M,ok_Q0M d_Q0M q_check_torus_beat q_check_pair  ⟩;have q_law_cell:gh l.prog w K mg base (adA C_16 C_12 C_4 C_9 C_10 C_13 C_8 C_11 C_6 C_7 C_5 C_14):=⟨_,_,d_Q0R,ok_Q0R d_Q0R  z_len ⟩;have q_law_kinds:fo l.prog w K mg base (adA C_16 C_12 C_4 C_9 C_10 C_13 C_8 C_11 C_6 C_7 C_5 C_14):=⟨_,_,d_Q0U,ok_Q0U d_Q0U  xa h_NoRule h_NoPart h_NoBeat h_NoWheel h_NoName h_NoText h_NoPair h_NoWindow h_NoNumber h_TooMany h_NoDeed hkn z_isinstance z_ValueError ⟩;have oH_Q0U:FnOkH l.prog w K mg base 1 q_law_kinds.f q_law_kinds.fd ["_law_e"] (spD K (ar (adA C_16 C_12 C_4 C_9 C_10 C_13 C_8 C_11 C_6 C_7 C_5 C_14)) F_Q0V 1):=qN q_law_kinds.d  xa h_NoRule h_NoPart h_NoBeat h_NoWheel h_NoName h_NoText h_NoPair h_NoWindow h_NoNumber h_TooMany h_NoDeed hkn z_isinstance z_ValueError;have o_Wheel_init:FnOk l.prog w K mg base (CXe l.prog w) 1 f_Wheel_init _ ["self","length","beat"] (mU C_15):=gK d_Wheel_init T;have Wc:WhC l.prog w K mg base (CXe l.prog w) C_1 C_15:=⟨T,yL X G a_Wheel,_,_,_,d_Wheel_init,o_Wheel_init,M_Wheel⟩;have q_read_text:fq l.prog w K mg base (adA C_16 C_12 C_4 C_9 C_10 C_13 C_8 C_11 C_6 C_7 C_5 C_14):=⟨_,_,d_Q1C,ok_Q1C d_Q1C Wc q_read_beat  ⟩;have o_Desk_init:FnOk l.prog w K mg base (CXe l.prog w) 1 f_Desk_init _ ["self"] (jV C_1):=i7 d_Desk_init T;have o_Q0L:FnOk l.prog w K mg base (CXe l.prog w) 1 f_Q0L _ ["self","name","wheel"] (md C_1 (ar (adA C_16 C_12 C_4 C_9 C_10 C_13 C_8 C_11 C_6 C_7 C_5 C_14))):=ok_Q0L d_Q0L T  xa h_TooMany z_len n_MOST_NAMES;have o_Q1D:FnOk l.prog w K mg base (CXe l.prog w) 4 f_Q1D _ ["self","form","word"] (ly C_1 (ar (adA C_16 C_12 C_4 C_9 C_10 C_13 C_8 C_11 C_6 C_7 C_5 C_14)) kD):=ok_Q1D d_Q1D T q_read_number q_read_text q_check_name xa h_NoName;have o_Q01:FnOk l.prog w K mg base (CXe l.prog w) 2 f_Q01 _ ["self","words","values"] (mr K C_1 (ar (adA C_16 C_12 C_4 C_9 C_10 C_13 C_8 C_11 C_6 C_7 C_5 C_14)) kD):=ok_Q01 d_Q01 T d_Q0L o_Q0L m_keep K_ANSWERS m_ANSWERS K_MOVES m_MOVES;have o_Q1E:FnOk l.prog w K mg base (CXe l.prog w) 5 f_Q1E _ ["self","command"] (gP K C_1 (ar (adA C_16 C_12 C_4 C_9 C_10 C_13 C_8 C_11 C_6 C_7 C_5 C_14)) kD):=ok_Q1E d_Q1E T d_Q1D o_Q1D m_read_word d_Q01 o_Q01 m_answer K_FORMS m_FORMS q_words_of z_zip;have Dc:DkC l.prog w K mg base (CXe l.prog w) (ar (adA C_16 C_12 C_4 C_9 C_10 C_13 C_8 C_11 C_6 C_7 C_5 C_14)) C_1 C_15 kD 5:=⟨T,yL X G a_Desk,⟨_,_,_,d_Desk_init,o_Desk_init,M_Desk⟩,⟨_,_,_,d_Q1E,o_Q1E,m_say⟩⟩;have q_law_full:gd l.prog w K mg base (adA C_16 C_12 C_4 C_9 C_10 C_13 C_8 C_11 C_6 C_7 C_5 C_14):=⟨_,_,d_Q0S,ok_Q0S d_Q0S Dc  z_range ⟩;have q_law_asked:fk l.prog w K mg base (adA C_16 C_12 C_4 C_9 C_10 C_13 C_8 C_11 C_6 C_7 C_5 C_14):=⟨_,_,d_Q0P,ok_Q0P d_Q0P Dc q_is_partner q_made_beat q_part q_made_partner q_line_step q_laid_flat q_read_beat q_law_full z_str ⟩;have q_law_said:gH l.prog w K mg base (adA C_16 C_12 C_4 C_9 C_10 C_13 C_8 C_11 C_6 C_7 C_5 C_14):=⟨_,_,d_Q0W,ok_Q0W d_Q0W q_law_asked q_law_kinds oH_Q0U xa h_WheelError hkn  ⟩;exact ok_Q0O d_Q0O q_law_cell q_law_said z_range
end Lk75
namespace Bt
open Dv (ins isort)
structure Beat (n:Int)(xs:List Int):Prop where
 ne:xs≠[]
 up:xs.Pairwise (·<·)
 rg:∀ x∈xs,0<=x/\x<n
theorem cW {n a:Int}(hn:0<n):0<=a%n/\a%n<n:=⟨Int.emod_nonneg _ ⋯,Int.emod_lt_of_pos _ hn⟩
end Bt
namespace Cw
open Dv (cmD bS eBl eComp forGo keepD opD)
open Dv (D R RL EE EL EI RI Sl Out SS St)
open Bt
abbrev L (xs:List Int):D:=.lst (xs.map .int)
theorem oE:∀ xs:List Int,Dv.intsOf (xs.map .int)=some xs
 | []=>rfl
 | x::r=>by simp[Dv.intsOf,oE r]
theorem nY:∀ xs:List Int,Dv.flatL (xs.map .int)=true
 | []=>rfl
 | x::r=>by simp[Dv.flatL,Dv.scal,nY r]
theorem eq_int (a b:Int):Dv.eqD (.int a) (.int b)=some (decide (a=b)):=rfl
theorem fY (i:Int):Dv.depthD (.int i)=0:=by unfold Dv.depthD;rfl
theorem tF {s:List Int}{k:Int}(h:0<=k)(h2:k<s.length):Dv.at? (s.map .int) k=some (.int (s.getD k.toNat 0)):=by
 unfold Dv.at?;rw[if_pos h];have:k.toNat<s.length:=⋯
 simp[wx,xg,wD this]
theorem ud (a b:Int):cmD .eq (.int a) (.int b)=.ok (.bl (decide (a=b))) true:=by
 simp only[Dv.cmD_eq,Dv.cmD_ne,Dv.cmD_lt,Dv.cmD_le,Dv.cmD_gt,Dv.cmD_ge,Dv.cmD_in,Dv.cmD_ni,Dv.cmD_it,Dv.cmD_nt,fY,fY,eq_int,Dv.optB,yo];rfl
theorem jQ (a b:Int):cmD .ne (.int a) (.int b)=.ok (.bl (!decide (a=b))) true:=by
 simp only[Dv.cmD_eq,Dv.cmD_ne,Dv.cmD_lt,Dv.cmD_le,Dv.cmD_gt,Dv.cmD_ge,Dv.cmD_in,Dv.cmD_ni,Dv.cmD_it,Dv.cmD_nt,fY,fY,eq_int,Dv.optB,yo];rfl
theorem gb (x:List Nat):Dv.scal (.str x)=true:=rfl
theorem vp (a b:Int):cmD .lt (.int a) (.int b)=.ok (.bl (decide (a<b))) true:=rfl
theorem uD (a b:Int):cmD .le (.int a) (.int b)=.ok (.bl (decide (a<=b))) true:=rfl
theorem vF (a b:Int):cmD .gt (.int a) (.int b)=.ok (.bl (decide (b<a))) true:=rfl
theorem uJ (a b:Int):cmD .ge (.int a) (.int b)=.ok (.bl (decide (b<=a))) true:=rfl
theorem fV {i j:Int}(h:-(2 ^ 64)<i)(h2:i<2 ^ 64):Dv.mulOk i j=true:=by
 have:Dv.bits i<=64:=by
  unfold Dv.bits
  split
  ·omega
  ·have h3:i.natAbs<2 ^ 64:=⋯
   have:=(xU ⋯).mpr h3;omega
 simp[Dv.mulOk,this]
theorem eo {i j:Int}(h:-(2 ^ 64)<j)(h2:j<2 ^ 64):Dv.mulOk i j=true:=by
 have:Dv.bits j<=64:=by
  unfold Dv.bits
  split
  ·omega
  ·have h3:j.natAbs<2 ^ 64:=⋯
   have:=(xU ⋯).mpr h3;omega
 simp[Dv.mulOk,this]
theorem cH {i j:Int}(h:Dv.mulOk i j=true):opD .mul (.int i) (.int j)=.ok (.int (i*j)) true:=by
 simp[Dv.opD_ai,Dv.opD_al,Dv.opD_su,Dv.opD_mi,Dv.opD_ml,Dv.opD_mo,Dv.opD_fd,Dv.opD_po,Dv.opD_ba,Dv.opD_sh,h]
theorem bR {i j:Int}(h:0<j):opD .mod (.int i) (.int j)=.ok (.int (i%j)) true:=by
 simp[Dv.opD_ai,Dv.opD_al,Dv.opD_su,Dv.opD_mi,Dv.opD_ml,Dv.opD_mo,Dv.opD_fd,Dv.opD_po,Dv.opD_ba,Dv.opD_sh,h]
theorem oq {j:Int}(h:0<j)(h2:j<2 ^ 200):Dv.divOk j=true:=by
 have h3:j.natAbs<2 ^ 200:=⋯
 have:=(xU ⋯).mpr h3;simp only[Dv.divOk,v8,decide_eq_true_eq];omega
theorem qV {i j:Int}(h:0<j)(h2:j<2 ^ 200):opD .fdiv (.int i) (.int j)=.ok (.int (i/j)) true:=by
 simp[Dv.opD_ai,Dv.opD_al,Dv.opD_su,Dv.opD_mi,Dv.opD_ml,Dv.opD_mo,Dv.opD_fd,Dv.opD_po,Dv.opD_ba,Dv.opD_sh,oq h h2]
theorem tD (i j:Int):opD .add (.int i) (.int j)=.ok (.int (i+j)) true:=rfl
theorem nI (i j:Int):opD .sub (.int i) (.int j)=.ok (.int (i-j)) true:=rfl
theorem qo {xs:List Int}(h:xs.length<64)(f:Bool):Dv.sortedD (L xs) f=.ok (L (Dv.isort xs)) true:=by
 unfold Dv.sortedD;simp only[oE];rw[if_pos h]
theorem t5:Sl.get .no=none:=rfl
theorem lu (d:D):Sl.shared (.dp d)=none:=rfl
theorem tQ (d:D):Sl.get (.sh d)=some d:=rfl
theorem tR (d:D):Sl.get (.ow d)=some d:=rfl
theorem qX (d:D):Sl.give (.sh d)=.sh d:=rfl
theorem lI:Sl.shared .no=none:=rfl
theorem me (d:D):Sl.shared (.sh d)=some d:=rfl
theorem jJ (i:Int):Dv.scal (.int i)=true:=rfl
theorem m8 (i:List D):Dv.scal (.lst i)=false:=rfl
theorem n6 (i:Int)(f:Bool):keepD (.int i) f=some (.sh (.int i)):=rfl
theorem keep_nil:keepD (.lst []) true=some (.ow (.lst [])):=rfl
theorem r6 (xs:List Int):keepD (L xs) true=some (.ow (L xs)):=by simp[keepD,nY]
theorem o3 {elt cond:EE}{free:Dv.Env}{c:Int->Bool}{g:Int->Int}:∀ {xs:List Int},(∀ x∈xs,cond (some (.int x)::free)=.ok (.bl (c x)) true)->(∀ x∈xs,c x=true->elt (some (.int x)::free)=.ok (.int (g x)) true) ->
  bS elt cond free (xs.map .int)=.ok (((xs.filter c).map g).map .int) true
 | [],_,_=>rfl
 | x::r,h,k=>by
  rw[we];unfold bS;rw[h x (wc ..),o3 (c:=c) (g:=g) (λ y hy=>h y (v7 _ hy)) λ y hy=>k y (v7 _ hy)];cases e:c x with
  | true=>rw[k x (wc ..) e];simp[e]
  | false=>simp[e]
theorem oN {elt:EE}{free:Dv.Env}{g:Int->Int}{xs:List Int}(k:∀ x∈xs,elt (some (.int x)::free)=.ok (.int (g x)) true):
  bS elt (eBl true) free (xs.map .int)=.ok ((xs.map g).map .int) true:=by
 rw[o3 (c:=λ _=>true) (g:=g) (λ _ _=>rfl) λ x hx _=>k x hx,List.filter_eq_self.mpr (λ _ _=>rfl)]
theorem mo {elt:EE}{is:List Nat}{it:EI}{ρ:Dv.Env}{g:Int->Int}{xs:List Int}{f:Bool}(hi:it ρ=.ok (xs.map .int) f)(hl:xs.length<=100000)(k:∀ x∈xs,elt (some (.int x)::Dv.pick ρ is)=.ok (.int (g x)) true):
  eComp elt (eBl true) is it ρ=.ok (L (xs.map g)) true:=by
 unfold eComp;rw[hi];simp only[wg,Dv.mx,hl,if_true,oN k]
theorem aT {x:Nat}{body:SS}{d:D}{r:List D}{st st':St}(h:body (st.set x (.sh d))=.nx st'):forGo x body (d::r) st=forGo x body r st':=by
 conv=>lhs;unfold forGo
 rw[h]
theorem hZ {x:Nat}{body:SS}{d:D}{r:List D}{st st':St}{c:String}(h:body (st.set x (.sh d))=.exc c st'):forGo x body (d::r) st=.exc c st':=by
 conv=>lhs;unfold forGo
 rw[h]
end Cw
set_option hygiene false in
local macro_rules | `(tactic| simp! only[$x,*])=>`(tactic| simp only[Dv.fn,Dv.sCons,Dv.sNil,Dv.sSet,Dv.sSetG,n6,r6,keep_nil,Dv.give,Dv.open_,qX,lI,me,Dv.sIf,Dv.sRet,Dv.sRetO,Dv.sExpr,Dv.sFor,Dv.iSeq,Dv.iRange,Dv.eB1,Dv.eB2,Dv.eIx,Dv.eOr,Dv.eNot,Dv.eIf,Dv.eNeg,Dv.eCm,Dv.eOp,Dv.eVar,Dv.eInt,Dv.eBl,Dv.eStr,Dv.eLst,Dv.eTup,Dv.lNil,Dv.lCons,Dv.eCall,Dv.pick,Dv.ePart,Dv.all,Dv.R.bind,Dv.RL.bind,Dv.R.bindL,Dv.RL.bindL,Dv.Out.bind,t5,tQ,tR,lu,Dv.sSetD,Dv.eDict0,jJ,m8,we,xy,wt,yg,List.replicate,xf,xO,wZ,wR,List.set_cons_zero,List.set_cons_succ,xN,List.foldl_nil,wY,xG,Bool.or_true,yv,yr,yp,Bool.not_true,Bool.not_false,if_true,if_false,Nat.reduceAdd,Nat.reduceSub,Nat.reduceLeDiff,reduceIte,reduceCtorEq,decide_true,decide_false,w4,List.reverse_nil,tD,nI,vp,uD,vF,uJ,ud,jQ,gb,wg,$x,*])
namespace Cw
open Dv (forGo rngOk)
open Dv (D R RL EE EL EI RI Sl Out SS St)
open Bt
theorem gf {n:Int}(h:1<=n)(h2:n<=60):F_Q0C [.int n]=.ok .non true:=by
 simp! only[F_Q0C,b_Q0C,decide_eq_false (show ¬ n<1 by omega),decide_eq_false (show ¬ 60<n by omega)]
def dP (b n:Int):List Int->Bool
 | []=>true
 | x::r=>decide (b<x)&&decide (x<n)&&dP x n r
theorem upFrom_iff:∀ {xs:List Int} {b n:Int},dP b n xs=true ↔ xs.Pairwise (·<·)/\∀ x∈xs,b<x/\x<n
 | [],b,n=>by simp[dP]
 | x::r,b,n=>by
  unfold dP;rw[v8,v8,decide_eq_true_eq,decide_eq_true_eq,upFrom_iff,xX]
  constructor
  ·rintro ⟨⟨h1,h2⟩,h3,h4⟩
   refine⟨⟨λ y hy=>(h4 y hy).1,h3⟩,λ y hy=>?_⟩
   rcases List.mem_cons.mp hy with rfl|hy
   ·exact⟨h1,h2⟩
   ·have:=h4 y hy;omega
  ·rintro ⟨⟨h1,h2⟩,h3⟩
   have:=h3 x (wc ..);exact⟨this,h2,λ y hy=>⟨h1 y hy,(h3 y (v7 _ hy)).2⟩⟩
theorem cN (n:Int)(A:D):∀ (xs:List Int) (b:Int) (z:Sl),dP b n xs=true->∃ st',forGo 3 b_Q09_l1 (xs.map .int) [.sh A,.sh (.int n),.sh (.int b),z]=.nx st'
 | [],b,z,_=>⟨_,rfl⟩
 | x::r,b,z,hu=>by
  unfold dP at hu;rw[v8,v8,decide_eq_true_eq,decide_eq_true_eq] at hu;obtain⟨⟨h1,h2⟩,h3⟩:=hu;obtain⟨st',h⟩:=cN n A r x (.sh (.int x)) h3;refine⟨st',?_⟩;rw[we,aT (st':=[.sh A,.sh (.int n),.sh (.int x),.sh (.int x)]),h];simp! only[b_Q09_l1,decide_eq_false (show ¬ x<=b by omega),decide_eq_false (show ¬ n<=x by omega)]
theorem fN {n:Int}{xs:List Int}(h1:xs≠[])(h:dP (-1) n xs=true):F_Q09 [L xs,.int n]=.ok .non true:=by
 obtain⟨st',e⟩:=cN n (L xs) xs (-1) .no h;have h1:¬ ((xs.length:Int)=0):=by
  have:=List.length_pos_iff.mpr h1;omega
 simp! only[F_Q09,b_Q09,b_Q09_t2,b_Q09_t1,Dv.lenD,decide_eq_false h1,e]
def cell (s:List Int)(k:Int):Int:=
 if k<s.length then s.getD k.toNat 0 else
 if 0<s.length then
  (s.getD (k%s.length).toNat 0*48271+k*7919)%2147483647*((s.getD (k%s.length).toNat 0*48271+k*7919)%2147483647)%2147483629
 else (7919*k+5)*(7919*k+5)%2147483629
theorem lj {s:List Int}{k:Int}(h:0<=k)(h2:k<=1000000):F_Q0R [L s,.int k]=.ok (.int (cell s k)) true:=by
 by_cases hk:k<(s.length:Int)
 ·simp! only[F_Q0R,b_Q0R,b_Q0R_t3,b_Q0R_t2,b_Q0R_t1,Dv.lenD,Dv.ixD,tF h hk,decide_eq_true hk,cell,if_pos hk]
 ·by_cases hs:0<s.length
  ·have hs':(0:Int)<(s.length:Int):=⋯
   have hm:=cW (n:=(s.length:Int)) (a:=k) hs';have hz:=cW (n:=2147483647) (a:=s.getD (k%(s.length:Int)).toNat 0*48271+k*7919) ⋯;simp! only[F_Q0R,b_Q0R,b_Q0R_t3,b_Q0R_t2,b_Q0R_t1,Dv.lenD,Dv.ixD,decide_eq_false hk,cell,if_neg hk,if_pos hs,decide_eq_true hs',bR hs',tF hm.1 hm.2,cH (eo (j:=48271) (by decide) (by decide)),cH (eo (j:=7919) (by decide) (by decide)),cH (fV (i:=7919) (by decide) (by decide)),bR (j:=2147483647) (by decide),bR (j:=2147483629) (by decide)];simp only[cH (fV (i:=(s.getD (k%(s.length:Int)).toNat 0*48271+k*7919)%2147483647) ⋯ ⋯),bR (j:=2147483629) (by decide)]
  ·have hs':¬ (0:Int)<(s.length:Int):=⋯
   simp! only[F_Q0R,b_Q0R,b_Q0R_t3,b_Q0R_t2,b_Q0R_t1,Dv.lenD,decide_eq_false hk,cell,if_neg hk,if_neg hs,decide_eq_false hs',cH (fV (i:=7919) (by decide) (by decide)),cH (fV (i:=7919*k+5) ⋯ ⋯),bR (j:=2147483629) (by decide)]
def Sm (s:List Int):Prop:=∀ x∈s,Dv.bits x<=1048576
theorem so {n:Int}(h:0<=n)(h2:n<=1000):rngOk n=true:=by
 simp only[rngOk,v8,decide_eq_true_eq];omega
end Cw
namespace Cw
open Dv (forGo sRaise)
open Dv (D R RL EE EL EI RI Sl Out SS St)
open Bt
theorem b8 (n:Int):F_Q0C [.int n]=if 1<=n/\n<=60 then .ok .non true else .exc "NoWheel":=by
 by_cases h1:n<1
 ·have h3:¬ (1<=n/\n<=60):=⋯
  simp! only[F_Q0C,b_Q0C,decide_eq_true h1,if_neg h3,sRaise]
 ·by_cases h2:60<n
  ·have h3:¬ (1<=n/\n<=60):=⋯
   simp! only[F_Q0C,b_Q0C,decide_eq_true h2,decide_eq_false h1,if_neg h3,sRaise]
  ·have h3:1<=n/\n<=60:=⋯
   simp! only[F_Q0C,b_Q0C,decide_eq_false h2,decide_eq_false h1,if_pos h3,sRaise]
def bg (b n:Int):List Int->Bool
 | []=>true
 | x::r=>decide (b<x)&&decide (x<n)&&bg x n r
theorem fj:∀ {xs:List Int} {b n:Int},bg b n xs=true ↔ xs.Pairwise (·<·)/\∀ x∈xs,b<x/\x<n
 | [],b,n=>by simp[bg]
 | x::r,b,n=>by
  unfold bg;rw[v8,v8,decide_eq_true_eq,decide_eq_true_eq,fj,xX]
  constructor
  ·rintro ⟨⟨h1,h2⟩,h3,h4⟩
   refine⟨⟨λ y hy=>(h4 y hy).1,h3⟩,λ y hy=>?_⟩
   rcases List.mem_cons.mp hy with rfl|hy
   ·exact⟨h1,h2⟩
   ·have:=h4 y hy;omega
  ·rintro ⟨⟨h1,h2⟩,h3⟩
   have:=h3 x (wc ..);exact⟨this,h2,λ y hy=>⟨h1 y hy,(h3 y (v7 _ hy)).2⟩⟩
theorem beat_iffX {n:Int}{xs:List Int}:Beat n xs ↔ xs≠[]/\bg (-1) n xs=true:=by
 rw[fj]
 constructor
 ·intro h;exact⟨h.ne,h.up,λ x hx=>by have:=h.rg x hx;omega⟩
 ·rintro ⟨h1,h2,h3⟩;exact⟨h1,h2,λ x hx=>by have:=h3 x hx;omega⟩
theorem cz (n:Int)(A:D):∀ (xs:List Int) (b:Int) (z:Sl),∃ st',forGo 3 b_Q09_l1 (xs.map .int) [.sh A,.sh (.int n),.sh (.int b),z]=if bg b n xs then .nx st' else .exc "NoBeat" st'
 | [],b,z=>⟨_,rfl⟩
 | x::r,b,z=>by
  obtain⟨st',h⟩:=cz n A r x (.sh (.int x));by_cases h1:b<x
  ·by_cases h2:x<n
   ·refine⟨st',?_⟩
    rw[we,aT (st':=[.sh A,.sh (.int n),.sh (.int x),.sh (.int x)]),h]
    ·simp only[bg,decide_eq_true h1,decide_eq_true h2,yt]
    ·simp! only[b_Q09_l1,decide_eq_false (show ¬ x<=b by omega),decide_eq_false (show ¬ n<=x by omega)]
   ·refine⟨[.sh A,.sh (.int n),.sh (.int b),.sh (.int x)],?_⟩
    rw[we,hZ (c:="NoBeat") (st':=[.sh A,.sh (.int n),.sh (.int b),.sh (.int x)])]
    ·simp only[bg,decide_eq_true h1,decide_eq_false h2,yt,xV,w4,if_false]
    ·simp! only[b_Q09_l1,sRaise,decide_eq_false (show ¬ x<=b by omega),decide_eq_true (show n<=x by omega)]
  ·refine⟨[.sh A,.sh (.int n),.sh (.int b),.sh (.int x)],?_⟩
   rw[we,hZ (c:="NoBeat") (st':=[.sh A,.sh (.int n),.sh (.int b),.sh (.int x)])]
   ·simp only[bg,decide_eq_false h1,xV,w4,if_false]
   ·simp! only[b_Q09_l1,sRaise,decide_eq_true (show x<=b by omega)]
theorem cO (n:Int)(xs:List Int):F_Q09 [L xs,.int n]=if xs≠[]/\bg (-1) n xs=true then .ok .non true else .exc "NoBeat":=by
 obtain⟨st',e⟩:=cz n (L xs) xs (-1) .no;by_cases hx:xs=[]
 ·subst hx
  simp! only[F_Q09,b_Q09,b_Q09_t2,b_Q09_t1,Dv.lenD,sRaise,Int.natCast_zero];simp
 ·have h1:¬ ((xs.length:Int)=0):=by
   have:=List.length_pos_iff.mpr hx;omega
  simp! only[F_Q09,b_Q09,b_Q09_t2,b_Q09_t1,Dv.lenD,decide_eq_false h1,e];cases hu:bg (-1) n xs with
  | true=>simp[hx]
  | false=>simp
theorem dD (n:Int)(xs:List Int):F_Q05 [.int n,L xs]=if 1<=n/\n<=60 then (if xs≠[]/\bg (-1) n xs=true then .ok .non true else .exc "NoBeat") else .exc "NoWheel":=by
 by_cases h:1<=n/\n<=60
 ·by_cases h2:xs≠[]/\bg (-1) n xs=true
  ·have e:=cO n xs
   rw[if_pos h2] at e;rw[if_pos h,if_pos h2];simp! only[F_Q05,b_Q05,b_Q05_t1,b8,if_pos h,e]
  ·have e:=cO n xs
   rw[if_neg h2] at e;rw[if_pos h,if_neg h2];simp! only[F_Q05,b_Q05,b_Q05_t1,b8,if_pos h,e]
 ·simp! only[F_Q05,b_Q05,b_Q05_t1,b8,if_neg h]
theorem gM {n:Int}{xs:List Int}(h1:1<=n)(h2:n<=60)(h:¬ Beat n xs):F_Q05 [.int n,L xs]=.exc "NoBeat":=by
 rw[dD,if_pos ⟨h1,h2⟩,if_neg λ h3=>h (beat_iffX.mpr h3)]
theorem iC {n:Int}{xs:List Int}(hn:1<=n)(hn2:n<=60)(hl:xs.length<64)(hb:¬ Beat n (Dv.isort (xs.map (·%n)))):F_Q11 [.int n,L xs]=.exc "NoBeat":=by
 have hc:c_Q11_1 [some (.int n),some (L xs),none]=.ok (L (xs.map (·%n))) true:=by
  unfold c_Q11_1;exact mo (f:=false) rfl ⋯ λ x hx=>by simp! only[bR (show (0:Int)<n by omega)]
 simp! only[F_Q11,b_Q11,b_Q11_t3,b_Q11_t2,b_Q11_t1,gf hn hn2,hc,qo (xs:=xs.map (·%n)) (by simpa using hl),gM hn hn2 hb]
end Cw
namespace Cw
open Dv (Out R RL cmD bS eB2 eBl eCall eCm eComp eDix eInt eLst eOp ePart eSliceS eSplit eStart eStr eVar forGo iStr iZipF keepD lCons lNil opD sDesk1 sDesk2 sIf sRaise sTryAs)
open Dv (D R RL EE EL EI RI Sl Out SS St)
open Bt
theorem jq {n:Int}(h:¬ (1<=n/\n<=60)):F_Q0F [.int n]=.exc "NoPart":=by
 by_cases h1:n<1
 ·simp! only[F_Q0F,b_Q0F,b_Q0F_t1,decide_eq_true h1,sRaise]
 ·have h2:60<n:=⋯
  simp! only[F_Q0F,b_Q0F,b_Q0F_t1,decide_eq_false h1,decide_eq_true h2,sRaise]
theorem oV {n:Int}(h:¬ (1<=n/\n<=60)):F_Q16 [.int n]=.exc "NoPart":=by
 simp! only[F_Q16,b_Q16,b_Q16_t2,b_Q16_t1,jq h]
theorem pF {n:Int}(h:¬ (1<=n/\n<=60)):F_Q14 [.int n]=.exc "NoPart":=by
 simp! only[F_Q14,b_Q14,eDix,oV h]
structure LB (b:List Int):Prop where
 up:b.Pairwise (·<·)
 hd:∃ r,b=0::r
 rg:∀ x∈b,0<=x/\x<=60
 ln:b.length<=12
theorem LB.ne {b:List Int}(h:LB b):b≠[]:=by obtain⟨r,e⟩:=h.hd;rw[e];simp
theorem pT {xs:List Int}(h:xs≠[]):Dv.at? (xs.map D.int) 0=some (.int (xs.getD 0 0)):=by
 have:=List.length_pos_iff.mpr h;exact tF ⋯ ⋯
theorem LB.get0 {b:List Int}(h:LB b):b.getD 0 0=0:=by obtain⟨r,e⟩:=h.hd;rw[e];rfl
theorem iS {b:List Int}(h:LB b):F_Q06 [L b]=.ok .non true:=by
 have h1:=fN (n:=61) h.ne (upFrom_iff.mpr ⟨h.up,λ x hx=>by have:=h.rg x hx;omega⟩);have h2:=pT h.ne;rw[h.get0] at h2;have h3:¬ ((12:Int)<(b.length:Int)):=by have:=h.ln;omega
 simp! only[F_Q06,b_Q06,b_Q06_t1,Dv.lenD,Dv.ixD,Int.reduceAdd,h1,h2,decide_eq_false h3]
def Tx (t:List Nat):Prop:=∀ c∈t,c<1114112
theorem Tx.clip {t:List Nat}(h:Tx t):Dv.clipS t=t:=by
 unfold Dv.clipS;have:t.map (·%1114112)=t.map id:=xA λ c hc=>xK (h c hc)
 rw[this,yd]
theorem mE (x:List Nat)(f:Bool):keepD (.str x) f=some (.sh (.str x)):=rfl
theorem gQ {α:Type}{mk:α->D}{o:α->D}{p:α->Bool}{elt cond:EE}{free:Dv.Env}:∀ {xs:List α},(∀ x∈xs,cond (some (mk x)::free)=.ok (.bl (p x)) true)->(∀ x∈xs,p x=true->elt (some (mk x)::free)=.ok (o x) true) ->
  bS elt cond free (xs.map mk)=.ok ((xs.filter p).map o) true
 | [],_,_=>rfl
 | x::r,h,k=>by
  have ih:=gQ (λ y hy=>h y (v7 _ hy)) (λ y hy=>k y (v7 _ hy));have hx:=h x (wc ..);rw[we];unfold bS;rw[hx];cases hp:p x with
  | true=>simp only[k x (wc ..) hp,ih,yf,hp,if_true,we,yu]
  | false=>simp only[ih,yf,hp,w4,if_false]
theorem kN {α:Type}(g:α->Bool):∀ xs:List α,Dv.blsOf (xs.map λ x=>.bl (g x))=some (xs.map g)
 | []=>rfl
 | x::r=>by
  rw[we,we];unfold Dv.blsOf;rw[kN g r];rfl
theorem fB {t sg:List Nat}(ht:Tx t)(hg:Tx sg)(hl:t.length<=1000):F_Q0I [.str t,.str sg]=.ok (.bl (t.all λ c=>decide (c∈sg))) true:=by
 have hc:c_Q0I_1 [some (.str t),some (.str sg)]=.ok (.lst (t.map λ c=>.bl (decide (c∈sg)))) true:=by
  have e:=gQ (xs:=t) (mk:=λ c=>.str [c]) (o:=λ c=>.bl (decide (c∈sg))) (p:=λ _=>true) (elt:=eB2 (Dv.inSD false) (eVar 0) (eVar 1)) (cond:=eBl true) (free:=[some (.str sg)]) (λ _ _=>rfl) (λ c hc _=>by
   have:c%1114112=c:=xK (ht c hc);simp only[eB2,eVar,R.bind,RL.bind,Out.bind,wZ,wR,if_false,w4,gb,Dv.inSD,hg.clip,this])
  have hx:(t.map λ c=>D.str [c]).length<=Dv.mx:=by rw[wg];unfold Dv.mx;omega
  rw[show t.filter (λ _=>true)=t from List.filter_eq_self.mpr λ _ _=>rfl] at e;unfold c_Q0I_1 eComp;simp only[iStr,eVar,Dv.pick,we,xy,wZ,wR,wY,gb,wg,Dv.signsD] at hx ⊢;simp only[hx,if_true,e]
 simp! only[F_Q0I,b_Q0I,hc,Dv.allD,kN,List.all_map];rfl
def Good (t:List Nat):Prop:=120∈t/\(∀ c∈t,c=120\/c=46)/\t.length<=60
theorem len_str {t:List Nat}(h:t.length<=1000)(f:Bool):Dv.lenSD (.str t) f=.ok (.int t.length) true:=by
 have:t.length<=Dv.mx:=by unfold Dv.mx;omega
 simp only[Dv.lenSD,this,if_true]
theorem uO {t:List Nat}(ht:Tx t):Dv.inSD true (.str [120]) (.str t)=.ok (.bl (!decide (120∈t))) true:=by
 simp only[Dv.inSD,ht.clip,if_true,Nat.reduceMod]
theorem mL (t:List Nat):(t.all λ c=>decide (c∈[120,46]))=decide (∀ c∈t,c=120\/c=46):=by
 rw[wL];simp
theorem qf {t:List Nat}(ht:Tx t)(hl:t.length<=1000)(h:¬ Good t):F_Q1A [.str t]=.exc "NoText":=by
 by_cases h3:t.length<=60
 ·have hl2:¬ ((60:Int)<t.length):=⋯
  by_cases h1:120∈t
  ·have ho:=fB (sg:=[120,46]) ht (by intro c hc;simp at hc;omega) hl
   have h2:¬ (∀ c∈t,c=120\/c=46):=λ h2=>h ⟨h1,h2,h3⟩
   rw[mL,decide_eq_false h2] at ho;simp! only[F_Q1A,b_Q1A,b_Q1A_t2,b_Q1A_t1,Dv.isStrD,len_str (t:=t) hl,decide_eq_false hl2,uO ht,decide_eq_true h1,ho,sRaise]
  ·simp! only[F_Q1A,b_Q1A,b_Q1A_t2,b_Q1A_t1,Dv.isStrD,len_str (t:=t) hl,decide_eq_false hl2,uO ht,decide_eq_false h1,sRaise]
 ·have hl2:(60:Int)<t.length:=⋯
  simp! only[F_Q1A,b_Q1A,b_Q1A_t2,b_Q1A_t1,Dv.isStrD,len_str (t:=t) hl,decide_eq_true hl2,sRaise]
open Dv (D R RL EE EL EI RI Sl Out SS St DR)
def exI (c:String):R->Bool
 | .exc d=>decide (d=c)
 | _=>false
theorem jR {c:String}{r:R}(h:exI c r=true):r=.exc c:=by
 cases r with
 | exc d=>unfold exI at h;rw[of_decide_eq_true h]
 | _=>cases h
def exD (c:String):DR->Bool
 | .exc d=>decide (d=c)
 | _=>false
theorem tZ {c:String}{r:DR}(h:exD c r=true):r=.exc c:=by
 cases r with
 | exc d=>unfold exD at h;rw[of_decide_eq_true h]
 | _=>cases h
theorem eY {v:Int}(h0:0<=v)(h1:v<=1000000000):(∀ c∈Dv.decS v,48<=c/\c<=57)/\Dv.decS v≠[]/\(Dv.decS v).length<=10:=by
 have e:Dv.decS v=(Nat.toDigits 10 v.toNat).map λ c=>c.val.toNat:=by
  unfold Dv.decS;rw[Int.toString_eq_repr,Int.repr_eq_if,if_pos h0,Nat.toList_repr]
 rw[e];refine⟨λ c hc=>?_,λ z=>Nat.toDigits_ne_nil (List.map_eq_nil_iff.mp z),?_⟩
 ·obtain⟨x,hx,rfl⟩:=List.mem_map.mp hc
  have:=Nat.isDigit_of_mem_toDigits (by decide) (by decide) hx;unfold Char.isDigit at this;simp only[v8,decide_eq_true_eq,ge_iff_le,UInt32.le_iff_toNat_le] at this;exact this
 ·rw[wg]
  exact(Nat.length_toDigits_le_iff (by decide) (by decide)).mpr ⋯
theorem iZ {v:Int}(h0:0<=v)(h1:v<=1000000000)(b:Bool):Dv.strID (.int v) b=.ok (.str (Dv.decS v)) true:=by
 have h:v.natAbs.log2<1920:=by
  by_cases z:v.natAbs=0
  ·rw[z];decide
  ·exact wq ((xU z).mpr (show v.natAbs<2 ^ 40 by omega)) (by decide)
 simp only[Dv.strID,h,if_true]
section
variable {n v:Int}
theorem ug (h0:0<=v):F_Q0K [.int (61+v),.lst [.int 0],.lst [.int 0]]=.exc "NoWheel":=by
 have h:F_Q05 [.int (61+v),.lst [.int 0]]=.exc "NoWheel":=by
  have:=dD (n:=61+v) (xs:=[0]);rw[if_neg ⋯] at this;exact this
 simp! only[F_Q0K,b_Q0K,F_Q03,b_Q03,b_Q03_t1,h]
theorem vn (n1:2<=n)(n2:n<=60):F_Q11 [.int n,.lst [.int v,.int (v+n)]]=.exc "NoBeat":=by
 refine iC (xs:=[v,v+n]) ⋯ n2 (by show 2<64;decide) λ hb=>?_
 have e:[v,v+n].map (·%n)=[v%n,v%n]:=by simp
 rw[e] at hb;have e2:Dv.isort [v%n,v%n]=[v%n,v%n]:=by
  simp[Dv.isort,Dv.ins]
 rw[e2] at hb;have:=hb.up;simp at this
theorem vi:F_Q13 [.int 8,.lst [.int 0,.int 1,.int 3]]=.exc "NoRule":=jR (by decide +kernel)
theorem uQ (h0:0<=v):F_Q10 [.lst [.int 0,.int (1+v%60)],.int (-1-v)]=.exc "NoWindow":=by
 have hm:=cW (n:=60) (a:=v) ⋯;have hb:F_Q06 [.lst [.int 0,.int (1+v%60)]]=.ok .non true:=iS (b:=[0,1+v%60]) ⟨by simp;omega,⟨_,rfl⟩,λ x hx=>by simp at hx;omega,by show 2<=12;decide⟩;have hw:decide (-1-v<0)=true:=decide_eq_true ⋯;simp! only[F_Q10,b_Q10,b_Q10_t1,F_Q0E,b_Q0E,b_Q0E_t1,hb,hw,sRaise]
def cas5:List (Int×Int):=[(2,2),(2,4),(2,6),(4,2),(4,4),(4,6)]
theorem vQ:(cas5.all λ p=>exI "NoPair" (F_Q0N [.tup [.int p.1,.int p.2],.lst [.tup [.int 0,.int 0]]]))=true:=by decide +kernel
theorem uN {a b:Int}(h:(a,b)∈cas5):F_Q0N [.tup [.int a,.int b],.lst [.tup [.int 0,.int 0]]]=.exc "NoPair":=jR (List.all_eq_true.mp vQ (a,b) h)
theorem uC (h0:0<=v)(h1:v<=1000000000):F_Q1A [.str (120::Dv.decS v)]=.exc "NoText":=by
 obtain⟨d1,d2,d3⟩:=eY h0 h1;refine qf (λ c hc=>?_) (by rw[wt];omega) λ g=>?_
 ·rcases List.mem_cons.mp hc with rfl|hc
  ·decide
  ·have:=d1 c hc;omega
 ·cases hd:Dv.decS v with
  | nil=>exact d2 hd
  | cons c r=>
   have h1:=d1 c (by rw[hd];simp);have h2:=g.2.1 c (by rw[hd];simp);omega
def cas7:List Nat:=[0,1,2,3,4,5,6,7]
theorem vN:(cas7.all λ k=>exD "NoName" (Dv.sayW kD [] (.str ([115,104,111,119,32]++[97,98,99,100,101,102,103,104].drop k))))=true:=by decide +kernel
theorem vb:F_Q0S []=.exc "TooMany":=jR (by decide +kernel)
def uB:List Nat:=[110,97,109,101,115]
theorem fg:∀ l:List (List Nat),Dv.flatL (l.map .str)=true
 | []=>rfl
 | x::r=>by
  rw[we];unfold Dv.flatL;rw[fg r];rfl
theorem g0 (l:List (List Nat)):keepD (.lst (l.map .str)) true=some (.ow (.lst (l.map .str))):=by
 unfold keepD;simp only[fg,yu,if_true]
theorem eC {z:List Nat}(hz:Tx z)(hl:z.length<=1000):Dv.splitD (.str z) (.str [32])=.ok (.lst ((Dv.splitS 32 z).map .str)) true:=by
 have h:z.length+2<=Dv.mx:=by unfold Dv.mx;omega
 show (if z.length+2<=Dv.mx then R.ok (.lst ((Dv.splitS (32%1114112) (Dv.clipS z)).map .str)) true else R.bad)=_
 rw[hz.clip,if_pos h]
theorem mI {z w0:List Nat}{ws fs:List (List Nat)}(hz:Tx z)(hl:z.length<=1000)(hw:Dv.splitS 32 z=w0::ws)(hc:Dv.clipS w0=w0)(hf:Dv.frmAt gc w0=some fs)(hn:ws.length≠fs.length)(hm:ws.length<1000):F_Q1H [.str z]=.exc "NoDeed":=by
 have e:=eC hz hl;rw[hw] at e;have kp:=g0 (w0::ws);have a0:Dv.at? (.str w0::ws.map .str) 0=some (.str w0):=rfl;have m1:ws.length+1<=Dv.mx:=by unfold Dv.mx;omega
 have hd:decide (((ws.length+1:Nat):Int)=(fs.length:Int)+1)=false:=decide_eq_false ⋯;have hne:cmD .ne (.int ((ws.length+1:Nat):Int)) (.int ((fs.length:Int)+1))=.ok (.bl true) true:=by rw[jQ];simp;omega
 rw[we] at e kp;simp! only[F_Q1H,b_Q1H,b_Q1H_t3,b_Q1H_t2,b_Q1H_t1,Dv.lenD,Dv.ixD,eSplit,Dv.isStrD,e,kp,a0,Dv.ninFD,Dv.lenFD,hc,hf,xB,hne,sRaise,m1]
theorem m4 {z w0:List Nat}{ws fs:List (List Nat)}(hz:Tx z)(hl:z.length<=1000)(hw:Dv.splitS 32 z=w0::ws)(hc:Dv.clipS w0=w0)(hf:Dv.frmAt gc w0=some fs)(hn:ws.length=fs.length)(hm:ws.length<1000):F_Q1H [.str z]=.ok (.lst ((w0::ws).map .str)) true:=by
 have e:=eC hz hl;rw[hw] at e;have kp:=g0 (w0::ws);have a0:Dv.at? (.str w0::ws.map .str) 0=some (.str w0):=rfl;have m1:ws.length+1<=Dv.mx:=by unfold Dv.mx;omega
 have hne:cmD .ne (.int ((ws.length+1:Nat):Int)) (.int ((fs.length:Int)+1))=.ok (.bl false) true:=by rw[jQ];simp;omega
 have fl:=fg (w0::ws);rw[we] at e kp fl;simp! only[F_Q1H,b_Q1H,b_Q1H_t3,b_Q1H_t2,b_Q1H_t1,Dv.lenD,Dv.ixD,eSplit,Dv.isStrD,e,kp,a0,Dv.ninFD,Dv.lenFD,hc,hf,xB,hne,sRaise,m1,fl]
theorem qA {ks:List (List Nat)}{d:D}{c:String}(h:F_Q1H [d]=.exc c):Dv.sayW kD ks d=.exc c:=by
 have e:kD.fw [none,some d]=F_Q1H [d]:=rfl;unfold Dv.sayW;rw[e,h]
theorem rW {ks:List (List Nat)}{d dw:D}{its:List D}{c:String}{b:Bool}(h:F_Q1H [d]=.ok dw b)(hz:iZipF gc kD.fx kD.fy [none,some d,some dw]=.ok its true)(hl:its.length<=Dv.mx)(hr:Dv.rdAll kD ks its=.exc c):Dv.sayW kD ks d=.exc c:=by
 have e:kD.fw [none,some d]=F_Q1H [d]:=rfl;have e2:kD.T=gc:=rfl;unfold Dv.sayW;rw[e,h];simp only[e2,hz,hl,if_true,hr]
theorem vm (h0:0<=v)(h1:v<=1000000000):Dv.sayW kD [] (.str ([110,97,109,101,115,32]++Dv.decS v))=.exc "NoDeed":=by
 obtain⟨d1,d2,d3⟩:=eY h0 h1;have h32:32∉Dv.decS v:=λ z=>by have:=d1 32 z;omega
 refine qA (mI (w0:=uB) (ws:=[Dv.decS v]) (fs:=[]) (λ c hc=>?_) (by rw[wy];show 6+_<=1000;omega) ?_ (by decide) (by decide) (by show 1≠0;decide) (by show 1<1000;decide))
 ·rcases List.mem_append.mp hc with hc|hc
  ·exact(by decide:∀ c∈[110,97,109,101,115,32],c<1114112) c hc
  ·have:=d1 c hc;omega
 ·rw[show [110,97,109,101,115,32]++Dv.decS v=uB++32::Dv.decS v from rfl,Dv.split_cat _ (by decide),Dv.split_free h32]
theorem l4 {t:List Nat}(ht:∀ c∈t,48<=c/\c<=57)(hl:t.length<=10):F_Q1B [.str (43::t)]=.exc "NoNumber":=by
 have hx:Tx (43::t):=λ c hc=>by
  rcases List.mem_cons.mp hc with rfl|hc
  ·decide
  ·have:=ht c hc;omega
 have ho:=fB (sg:=[48,49,50,51,52,53,54,55,56,57]) hx (by intro c hc;revert c;decide) (by rw[wt];omega);have hf:((43::t).all λ c=>decide (c∈[48,49,50,51,52,53,54,55,56,57]))=false:=by rw[xW];rfl
 rw[hf] at ho;have hs:Dv.startD (.str (43::t)) (.str [45])=.ok (.bl false) true:=by
  show R.ok (.bl (decide ((Dv.clipS (43::t)).head?=some (45%1114112)))) true=_
  rw[hx.clip];rfl
 have l1:=len_str (t:=43::t) (by rw[wt];omega);have c1:decide (((t.length+1:Nat):Int)<1)=false:=decide_eq_false ⋯;rw[wt] at l1;cases c2:decide ((6:Int)<((t.length+1:Nat):Int)) <;>
  simp! only[F_Q1B,b_Q1B,b_Q1B_t2,b_Q1B_t1,eStart,hs,mE,l1,c1,c2,ho,sRaise]
theorem ua {ks:List (List Nat)}{z:List Nat}{c:String}(h:F_Q1B [.str z]=.exc c):Dv.rdW kD ks [110,117,109,98,101,114] z=.exc c:=by
 have e1:kD.t1 [none,some (.str [110,117,109,98,101,114]),some (.str z)]=.ok (.bl true) true:=rfl;have e2:kD.g1 [none,some (.str [110,117,109,98,101,114]),some (.str z)]=F_Q1B [.str z]:=rfl;unfold Dv.rdW;simp only[e1,e2,h,Dv.doneW]
def okD:DR->Bool
 | .ok [[97]]=>true
 | _=>false
theorem kl {r:DR}(h:okD r=true):r=.ok [[97]]:=by
 unfold okD at h
 split at h
 ·rfl
 ·cases h
theorem vD:Dv.rdW kD [[97]] [110,101,119] [97]=.ok [[97]]:=kl (by decide +kernel)
theorem uH:Dv.rdW kD [[97]] [107,101,112,116] [97]=.ok [[97]]:=kl (by decide +kernel)
theorem uW:Dv.sayW kD [] (.str [98,101,97,116,32,97,32,120])=.ok [[97]]:=kl (by decide +kernel)
theorem sk (h0:0<=v)(h1:v<=1000000000):Dv.sayW kD [[97]] (.str ([116,117,114,110,32,97,32,97,32,43]++Dv.decS v))=.exc "NoNumber":=by
 obtain⟨d1,d2,d3⟩:=eY h0 h1;generalize Dv.decS v=t at *;have h32:32∉(43::t):=λ z=>by
  rcases List.mem_cons.mp z with z|z
  ·cases z
  ·have:=d1 32 z;omega
 have hx:Tx ([116,117,114,110,32,97,32,97,32,43]++t):=λ c hc=>by
  rcases List.mem_append.mp hc with hc|hc
  ·exact(by decide:∀ c∈[116,117,114,110,32,97,32,97,32,43],c<1114112) c hc
  ·have:=d1 c hc;omega
 have hw:Dv.splitS 32 ([116,117,114,110,32,97,32,97,32,43]++t)=[116,117,114,110]::[[97],[97],43::t]:=by
  rw[show [116,117,114,110,32,97,32,97,32,43]++t=[116,117,114,110]++32::([97]++32::([97]++32::(43::t))) from rfl,Dv.split_cat _ (by decide),Dv.split_cat _ (by decide),Dv.split_cat _ (by decide),Dv.split_free h32]
 refine rW (its:=[.tup [.str [110,101,119],.str [97]],.tup [.str [107,101,112,116],.str [97]],.tup [.str [110,117,109,98,101,114],.str (43::t)]]) (m4 (fs:=[[110,101,119],[107,101,112,116],[110,117,109,98,101,114]]) hx (by rw[wy];show 10+_<=1000;omega) hw (by decide) (by decide) rfl (by show 3<1000;decide)) rfl (by show 3<=_;decide) ?_
 simp only[Dv.rdAll,vD,uH,ua (l4 d1 d3)]
theorem fX {a b:List Nat}(ha:a.length<=100)(hb:b.length<=100):Dv.addSD (.str a) (.str b)=.ok (.str (a++b)) true:=by
 have h:a.length+b.length<=Dv.mx:=by unfold Dv.mx;omega
 simp[Dv.addSD,h]
theorem q0 (h0:0<=v):F_Q0Q [.int 0,.int n,.int v]=.exc "NoWheel":=by
 simp! only[F_Q0Q,b_Q0Q,b_Q0Q_t10,b_Q0Q_t9,b_Q0Q_t8,b_Q0Q_t7,b_Q0Q_t6,b_Q0Q_t5,b_Q0Q_t4,b_Q0Q_t3,b_Q0Q_t2,b_Q0Q_t1,Int.reduceEq,ug h0]
theorem q1 (n1:2<=n)(n2:n<=60):F_Q0Q [.int 1,.int n,.int v]=.exc "NoBeat":=by
 simp! only[F_Q0Q,b_Q0Q,b_Q0Q_t10,b_Q0Q_t9,b_Q0Q_t8,b_Q0Q_t7,b_Q0Q_t6,b_Q0Q_t5,b_Q0Q_t4,b_Q0Q_t3,b_Q0Q_t2,b_Q0Q_t1,Int.reduceEq,vn (v:=v) n1 n2]
theorem q2 (h0:0<=v):F_Q0Q [.int 2,.int n,.int v]=.exc "NoPart":=by
 simp! only[F_Q0Q,b_Q0Q,b_Q0Q_t10,b_Q0Q_t9,b_Q0Q_t8,b_Q0Q_t7,b_Q0Q_t6,b_Q0Q_t5,b_Q0Q_t4,b_Q0Q_t3,b_Q0Q_t2,b_Q0Q_t1,Int.reduceEq,pF (n:=0-v) ⋯]
theorem q3:F_Q0Q [.int 3,.int n,.int v]=.exc "NoRule":=by
 simp! only[F_Q0Q,b_Q0Q,b_Q0Q_t10,b_Q0Q_t9,b_Q0Q_t8,b_Q0Q_t7,b_Q0Q_t6,b_Q0Q_t5,b_Q0Q_t4,b_Q0Q_t3,b_Q0Q_t2,b_Q0Q_t1,Int.reduceEq,vi]
theorem q4 (h0:0<=v):F_Q0Q [.int 4,.int n,.int v]=.exc "NoWindow":=by
 have e:opD .sub (.int (-1)) (.int v)=.ok (.int (-1-v)) true:=nI ..;simp! only[F_Q0Q,b_Q0Q,b_Q0Q_t10,b_Q0Q_t9,b_Q0Q_t8,b_Q0Q_t7,b_Q0Q_t6,b_Q0Q_t5,b_Q0Q_t4,b_Q0Q_t3,b_Q0Q_t2,b_Q0Q_t1,Int.reduceEq,Int.reduceNeg,bR (j:=60) (by decide),e,uQ h0]
theorem q5:F_Q0Q [.int 5,.int n,.int v]=.exc "NoPair":=by
 have m1:=cW (n:=2) (a:=v) ⋯;have m2:=cW (n:=3) (a:=v/2) ⋯;have h:(2+v%2*2,2+v/2%3*2)∈cas5:=by
  rcases (show v%2=0\/v%2=1 by omega) with e|e <;>rcases (show v/2%3=0\/v/2%3=1\/v/2%3=2 by omega) with f|f|f <;>rw[e,f] <;>decide
 have x1:opD .mul (.int (v%2)) (.int 2)=.ok (.int (v%2*2)) true:=cH (eo (by decide) (by decide));have x2:opD .mul (.int (v/2%3)) (.int 2)=.ok (.int (v/2%3*2)) true:=cH (eo (by decide) (by decide));simp! only[F_Q0Q,b_Q0Q,b_Q0Q_t10,b_Q0Q_t9,b_Q0Q_t8,b_Q0Q_t7,b_Q0Q_t6,b_Q0Q_t5,b_Q0Q_t4,b_Q0Q_t3,b_Q0Q_t2,b_Q0Q_t1,Int.reduceEq,bR (j:=2) (by decide),bR (j:=3) (by decide),qV (j:=2) (by decide) (by decide),x1,x2,uN h]
theorem q6 (h0:0<=v)(h1:v<=1000000000):F_Q0Q [.int 6,.int n,.int v]=.exc "NoText":=by
 have ad:=fX (a:=[120]) (b:=Dv.decS v) (by decide) (by have:=(eY h0 h1).2.2;omega);rw[xf,xO] at ad;simp! only[F_Q0Q,b_Q0Q,b_Q0Q_t10,b_Q0Q_t9,b_Q0Q_t8,b_Q0Q_t7,b_Q0Q_t6,b_Q0Q_t5,b_Q0Q_t4,b_Q0Q_t3,b_Q0Q_t2,b_Q0Q_t1,Int.reduceEq,iZ h0 h1,ad,uC h0 h1]
theorem q7 (h0:0<=v):F_Q0Q [.int 7,.int n,.int v]=.exc "NoName":=by
 have m1:=cW (n:=8) (a:=v) ⋯;have key:∀ k:Int,0<=k->k<8->∃ z,eSliceS (eStr [97,98,99,100,101,102,103,104]) (some (eInt k)) none []=.ok (.str z) true/\Dv.addSD (.str [115,104,111,119,32]) (.str z)=.ok (.str ([115,104,111,119,32]++z)) true/\Dv.sayW kD [] (.str ([115,104,111,119,32]++z))=.exc "NoName":=λ k h1 h2=>by
  refine⟨[97,98,99,100,101,102,103,104].drop k.toNat,?_,?_,?_⟩
  ·rcases (show k=0\/k=1\/k=2\/k=3\/k=4\/k=5\/k=6\/k=7 by omega) with rfl|rfl|rfl|rfl|rfl|rfl|rfl|rfl <;>rfl
  ·exact fX (by decide) (by rw[yb];show 8-_<=100;omega)
  ·refine tZ (List.all_eq_true.mp vN k.toNat ?_)
   show k.toNat∈[0,1,2,3,4,5,6,7]
   simp;omega
 obtain⟨z,k1,k2,k3⟩:=key (v%8) m1.1 m1.2;have k1':∀ ρ,eOp .mod (eVar 2) (eInt 8) ρ=.ok (.int (v%8)) true->eSliceS (eStr [97,98,99,100,101,102,103,104]) (some (eOp .mod (eVar 2) (eInt 8))) none ρ=.ok (.str z) true:=λ ρ h=>by
  rw[<- k1];simp only[eSliceS,ePart,h,eInt,eStr]
 have k4:=k1' [some (.int 7),some (.int n),some (.int v),none] (by simp only[eOp,eVar,eInt,R.bind,RL.bind,Out.bind,jJ,wZ,wR,bR (j:=8) (by decide)]);have k5:eB2 Dv.addSD (eStr [115,104,111,119,32]) (eSliceS (eStr [97,98,99,100,101,102,103,104]) (some (eOp .mod (eVar 2) (eInt 8))) none) [some (.int 7),some (.int n),some (.int v),none]=.ok (.str ([115,104,111,119,32]++z)) true:=by
  unfold eB2;rw[k4];exact k2
 have k6:sDesk1 kD (eB2 Dv.addSD (eStr [115,104,111,119,32]) (eSliceS (eStr [97,98,99,100,101,102,103,104]) (some (eOp .mod (eVar 2) (eInt 8))) none)) [.sh (.int 7),.sh (.int n),.sh (.int v),.no]=.exc "NoName" [.sh (.int 7),.sh (.int n),.sh (.int v),.no]:=by
  have e2:Dv.all [.sh (.int 7),.sh (.int n),.sh (.int v),.no]=[some (.int 7),some (.int n),some (.int v),none]:=rfl;unfold sDesk1;rw[e2,k5];simp only[k3]
 simp! only[F_Q0Q,b_Q0Q,b_Q0Q_t10,b_Q0Q_t9,b_Q0Q_t8,b_Q0Q_t7,b_Q0Q_t6,b_Q0Q_t5,b_Q0Q_t4,b_Q0Q_t3,b_Q0Q_t2,b_Q0Q_t1,Int.reduceEq,k6]
theorem q8 (h0:0<=v)(h1:v<=1000000000):F_Q0Q [.int 8,.int n,.int v]=.exc "NoDeed":=by
 have ad:=fX (a:=[110,97,109,101,115,32]) (b:=Dv.decS v) (by decide) (by have:=(eY h0 h1).2.2;omega);have a8:=vm h0 h1;generalize [110,97,109,101,115,32]++Dv.decS v=z at *;simp! only[F_Q0Q,b_Q0Q,b_Q0Q_t10,b_Q0Q_t9,b_Q0Q_t8,b_Q0Q_t7,b_Q0Q_t6,b_Q0Q_t5,b_Q0Q_t4,b_Q0Q_t3,b_Q0Q_t2,b_Q0Q_t1,Int.reduceEq,sDesk1,iZ h0 h1,ad,a8]
theorem q9:F_Q0Q [.int 9,.int n,.int v]=.exc "TooMany":=by
 simp! only[F_Q0Q,b_Q0Q,b_Q0Q_t10,b_Q0Q_t9,b_Q0Q_t8,b_Q0Q_t7,b_Q0Q_t6,b_Q0Q_t5,b_Q0Q_t4,b_Q0Q_t3,b_Q0Q_t2,b_Q0Q_t1,Int.reduceEq,vb]
theorem q10 (h0:0<=v)(h1:v<=1000000000):F_Q0Q [.int 10,.int n,.int v]=.exc "NoNumber":=by
 have ad:=fX (a:=[116,117,114,110,32,97,32,97,32,43]) (b:=Dv.decS v) (by decide) (by have:=(eY h0 h1).2.2;omega);have a8:=sk h0 h1;generalize [116,117,114,110,32,97,32,97,32,43]++Dv.decS v=z at *;simp! only[F_Q0Q,b_Q0Q,b_Q0Q_t10,b_Q0Q_t9,b_Q0Q_t8,b_Q0Q_t7,b_Q0Q_t6,b_Q0Q_t5,b_Q0Q_t4,b_Q0Q_t3,b_Q0Q_t2,b_Q0Q_t1,Int.reduceEq,sDesk2,Nat.reduceLT,iZ h0 h1,ad,a8,uW]
end
theorem sR {way n b:D}{c:String}{ds:List D}(h:F_Q0Q [way,n,b]=.exc c)(hk:F_Q0V [.exn c]=.ok (.lst ds) true)(hf:Dv.flatL ds=true)
  (hc:(["WheelError","NoWheel","NoBeat","NoPart","NoRule","NoWindow","NoPair","NoText","NoName","NoNumber","NoDeed","TooMany"].contains c&&Dv.subX c "WheelError")=true):F_Q0X [way,n,b]=.ok (.lst ds) true:=by
 have kp:keepD (.lst ds) true=some (.ow (.lst ds)):=by simp[keepD,hf]
 simp! only[F_Q0X,b_Q0X,b_Q0X_t1,b_Q0X_t2,h,sTryAs,hc,hk,kp,Dv.unb,hf]
def bsK (k:Int):List D:=([0,1,2,3,4,5,6,7,8,9,10].map λ j:Int=>D.bl (decide (k=j)))++[.bl true]
theorem cf {s:List Int}{k n v:Int}{c:String}(h:F_Q0Q [.int k,.int n,.int v]=.exc c)(hk:F_Q0V [.exn c]=.ok (.lst (bsK k)) true)
  (hc:(["WheelError","NoWheel","NoBeat","NoPart","NoRule","NoWindow","NoPair","NoText","NoName","NoNumber","NoDeed","TooMany"].contains c&&Dv.subX c "WheelError")=true)
  (hn:cmD .ne (.lst (bsK k)) (.lst (bsK k))=.ok (.bl false) true)
  (hx:(eOp .add c_Q0T_1 (eLst (lCons (eBl true) lNil))) [some (L s),some (.int n),some (.int v),some (.int k)]=.ok (.lst (bsK k)) true):
  b_Q0T_l1 [.sh (L s),.sh (.int n),.sh (.int v),.sh (.int k)]=.nx [.sh (L s),.sh (.int n),.sh (.int v),.sh (.int k)]:=by
 have sd:=sR h hk rfl hc;have e1:eCall F_Q0X (lCons (eVar 3) (lCons (eVar 1) (lCons (eVar 2) lNil))) [some (L s),some (.int n),some (.int v),some (.int k)]=.ok (.lst (bsK k)) true:=sd;have e2:Dv.all [.sh (L s),.sh (.int n),.sh (.int v),.sh (.int k)]=[some (L s),some (.int n),some (.int v),some (.int k)]:=rfl;have e3:(eCm .ne (eCall F_Q0X (lCons (eVar 3) (lCons (eVar 1) (lCons (eVar 2) lNil)))) (eOp .add c_Q0T_1 (eLst (lCons (eBl true) lNil)))) [some (L s),some (.int n),some (.int v),some (.int k)]=.ok (.bl false) true:=by
  unfold eCm;rw[e1];show R.bind _ _=_
  rw[hx];exact hn
 unfold b_Q0T_l1 sIf;rw[e2,e3];rfl
theorem law75_ok {s:List Int}(hs:Sm s):F_Q0T [L s]=.ok (.bl true) true:=by
 have c0:=lj (s:=s) (k:=0) ⋯ ⋯;have c1:=lj (s:=s) (k:=1) ⋯ ⋯;have hm:=cW (n:=59) (a:=cell s 0) ⋯;have hv:=cW (n:=1000000001) (a:=cell s 1*69621) ⋯;have hmul:opD .mul (.int (cell s 1)) (.int 69621)=.ok (.int (cell s 1*69621)) true:=cH (eo (by decide) (by decide));have hpow:opD .pow (.int 10) (.int 9)=.ok (.int 1000000000) true:=rfl;have hadd:opD .add (.int 1000000000) (.int 1)=.ok (.int 1000000001) true:=rfl;generalize hV:cell s 1*69621%1000000001=v at *;generalize hn:2+cell s 0%59=n at *;have n1:2<=n:=⋯
 have n2:n<=60:=⋯
 have h0:=hv.1;have h1:v<=1000000000:=⋯
 have el:forGo 3 b_Q0T_l1 [.int 0,.int 1,.int 2,.int 3,.int 4,.int 5,.int 6,.int 7,.int 8,.int 9,.int 10] [.sh (L s),.sh (.int n),.sh (.int v),.no]=.nx [.sh (L s),.sh (.int n),.sh (.int v),.sh (.int 10)]:=by
  rw[aT (cf (q0 h0) rfl (by decide) rfl rfl),aT (cf (q1 n1 n2) rfl (by decide) rfl rfl),aT (cf (q2 h0) rfl (by decide) rfl rfl),aT (cf q3 rfl (by decide) rfl rfl),aT (cf (q4 h0) rfl (by decide) rfl rfl),aT (cf q5 rfl (by decide) rfl rfl),aT (cf (q6 h0 h1) rfl (by decide) rfl rfl),aT (cf (q7 h0) rfl (by decide) rfl rfl),aT (cf (q8 h0 h1) rfl (by decide) rfl rfl),aT (cf q9 rfl (by decide) rfl rfl),aT (cf (q10 h0 h1) rfl (by decide) rfl rfl)];rfl
 have er:Dv.rangeL 0 (Int.toNat 11)=[.int 0,.int 1,.int 2,.int 3,.int 4,.int 5,.int 6,.int 7,.int 8,.int 9,.int 10]:=rfl;simp! only[F_Q0T,b_Q0T,b_Q0T_t1,b_Q0T_t2,b_Q0T_t3,c0,c1,bR (j:=59) (by decide),hn,hmul,hpow,bR (j:=1000000001) (by decide),Int.reduceAdd,hV,so (n:=11) ⋯ ⋯,er,el]
end Cw
noncomputable def PySem.W.Fast.tw9271476032107078968:PySem.Program:=PySem.Challenge.pw_canonwheel_k75_refusals_apart
theorem PySem.W.Fast.te9271476032107078968:PySem.Challenge.pw_canonwheel_k75_refusals_apart=PySem.W.Fast.tw9271476032107078968:=rfl
def PySem.W.Fast.tw9231743938604045576:Unit:=()
def PySem.W.Fast.tw17081701162181582714:Unit:=()
def PySem.W.Fast.tw2764548037357740519:Unit:=()
def PySem.W.Fast.tw6227858538121696735:Unit:=()
def PySem.W.Fast.tw4730993117756171056:Unit:=()
def PySem.W.Fast.tw1087063654712129437:Unit:=()
def PySem.W.Fast.tw13363897663713856004:Unit:=()
def PySem.W.Fast.tw14796857338393785486:Unit:=()
def PySem.W.Fast.tw14287170785750048250:Unit:=()
def PySem.W.Fast.tw5315833157147128719:Unit:=()
def PySem.W.Fast.tw14741162581440020268:Unit:=()
def PySem.W.Fast.tw6570888169156563536:Unit:=()
def PySem.W.Fast.tw9753516757216193837:Unit:=()
def PySem.W.Fast.tw18035767759771566300:Unit:=()
def PySem.W.Fast.tw9126488046187795476:Unit:=()
def PySem.W.Fast.tw15204183878248392868:Unit:=()
def PySem.W.Fast.tw1433331271916814225:Unit:=()
def PySem.W.Fast.tw10706140860371930661:Unit:=()
def PySem.W.Fast.tw3160266901458496872:Unit:=()
def PySem.W.Fast.tw14559881483133493999:Unit:=()
def PySem.W.Fast.tw16736200000695914822:Unit:=()
def PySem.W.Fast.tw3960513612296919279:Unit:=()
def PySem.W.Fast.tw18180057966638203934:Unit:=()
def PySem.W.Fast.tw1018551148696176389:Unit:=()
def PySem.W.Fast.tw3749166684639260545:Unit:=()
def PySem.W.Fast.tw17664389499501982733:Unit:=()
def PySem.W.Fast.tw8814337239203290781:Unit:=()
def PySem.W.Fast.tw14012041903040097697:Unit:=()
def PySem.W.Fast.tw11047327915919469387:Unit:=()
def PySem.W.Fast.tw12874242709250447098:Unit:=()
def PySem.W.Fast.tw11452866408651166716:Unit:=()
def PySem.W.Fast.tw5678717294613169091:Unit:=()
def PySem.W.Fast.tw9932305999163225548:Unit:=()
def PySem.W.Fast.tw17574381051933321676:Unit:=()
def PySem.W.Fast.tw13372833967741574965:Unit:=()
def PySem.W.Fast.tw11852904041347499939:Unit:=()
def PySem.W.Fast.tw10594735251781580703:Unit:=()
def PySem.W.Fast.tw6034747085704997289:Unit:=()
def PySem.W.Fast.tw7757167068075827327:Unit:=()
def PySem.W.Fast.tw12650295946336616602:Unit:=()
def PySem.W.Fast.tw4331234544750018652:Unit:=()
def PySem.W.Fast.tw1535971672072593401:Unit:=()
def PySem.W.Fast.tw4567090267334268065:Unit:=()
def PySem.W.Fast.tw12706462520482708320:Unit:=()
def PySem.W.Fast.tw14367630650527820811:Unit:=()
def PySem.W.Fast.tw5967905480046600917:Unit:=()
def PySem.W.Fast.tw16022082982790793066:Unit:=()
def PySem.W.Fast.tw10109966656967886853:Unit:=()
def PySem.W.Fast.tw15468622730807705359:Unit:=()
def PySem.W.Fast.tw10228371521342000826:Unit:=()
def PySem.W.Fast.tw14894135083063003567:Unit:=()
def PySem.W.Fast.tw7051225223446517265:Unit:=()
def PySem.W.Fast.tw18288788153709751127:Unit:=()
def PySem.W.Fast.tw7456384023275156777:Unit:=()
def PySem.W.Fast.tw6009799327024009046:Unit:=()
def PySem.W.Fast.tw18276668368994400522:Unit:=()
def PySem.W.Fast.tw12561439193672734740:Unit:=()
def PySem.W.Fast.tw1429416855411216895:Unit:=()
def PySem.W.Fast.tw9201435923860112594:Unit:=()
def PySem.W.Fast.tw3049511058376402064:Unit:=()
def PySem.W.Fast.tw1505959725552234478:Unit:=()
def PySem.W.Fast.tw5288474525820555382:Unit:=()
def PySem.W.Fast.tw9316351252949726024:Unit:=()
def PySem.W.Fast.tw1099524925047867936:Unit:=()
def PySem.W.Fast.tw13852973478293103054:Unit:=()
def PySem.W.Fast.tw6059045623478757:Unit:=()
def PySem.W.Fast.tw4584514332957680303:Unit:=()
def PySem.W.Fast.tw14260797897425420196:Unit:=()
def PySem.W.Fast.tw15065706849317878116:Unit:=()
def PySem.W.Fast.tw17766164673407259371:Unit:=()
def PySem.W.Fast.tw8409887550891877135:Unit:=()
def PySem.W.Fast.tw12843296550997822330:Unit:=()
def PySem.W.Fast.tw1148815177930731215:Unit:=()
def PySem.W.Fast.tw17040106040308725059:Unit:=()
def PySem.W.Fast.tw6277259925223635766:Unit:=()
def PySem.W.Fast.tw14555991341496428982:Unit:=()
def PySem.W.Fast.tw6792245482015045817:Unit:=()
def PySem.W.Fast.tw8771685660459651476:Unit:=()
def PySem.W.Fast.tw14067997714635388967:Unit:=()
def PySem.W.Fast.tw3334190113824832062:Unit:=()
def PySem.W.Fast.tw2044328374549366150:Unit:=()
def PySem.W.Fast.tw14645361166446458818:Unit:=()
def PySem.W.Fast.tw17230117783765061699:Unit:=()
def PySem.W.Fast.tw9336448346655332894:Unit:=()
def PySem.W.Fast.tw1290307375107446363:Unit:=()
def PySem.W.Fast.tw2575877362041071576:Unit:=()
def PySem.W.Fast.tw6844246849887346250:Unit:=()
def PySem.W.Fast.tw5756238024133386937:Unit:=()
def PySem.W.Fast.tw926184785229583596:Unit:=()
def PySem.W.Fast.tw10085308396722088600:Unit:=()
def PySem.W.Fast.tw9533440417907486724:Unit:=()
def PySem.W.Fast.tw16538016849729435987:Unit:=()
def PySem.W.Fast.tw12918829455229753405:Unit:=()
def PySem.W.Fast.tw8754991710386593321:Unit:=()
def PySem.W.Fast.tw2849732315692193240:Unit:=()
def PySem.W.Fast.tw11751202321792885805:Unit:=()
def PySem.W.Fast.tw12629947166980099997:Unit:=()
def PySem.W.Fast.tw7441532375007762907:Unit:=()
def PySem.W.Fast.tw9389195481996728286:Unit:=()
def PySem.W.Fast.tw5273494067609919922:Unit:=()
def PySem.W.Fast.tw12576059873161672159:Unit:=()
def PySem.W.Fast.tw15642748664391698963:Unit:=()
def PySem.W.Fast.tw4547232677382318957:Unit:=()
def PySem.W.Fast.tw9142450317386225006:Unit:=()
def PySem.W.Fast.tw6506761371269803306:Unit:=()
def PySem.W.Fast.tw3814874766769426242:Unit:=()
def PySem.W.Fast.tw5594958051845430604:Unit:=()
def PySem.W.Fast.tw16966793226705388029:Unit:=()
def PySem.W.Fast.tw6533308637702290292:Unit:=()
def PySem.W.Fast.tw10171330354406077197:Unit:=()
def PySem.W.Fast.tw1883177314132604489:Unit:=()
def PySem.W.Fast.tw16579248392161037376:Unit:=()
def PySem.W.Fast.tw7143205059291269318:Unit:=()
def PySem.W.Fast.tw15643961586925319636:Unit:=()
def PySem.W.Fast.tw9475084771823319230:Unit:=()
def PySem.W.Fast.tw6685294661193645146:Unit:=()
def PySem.W.Fast.tw8941258807296477671:Unit:=()
def PySem.W.Fast.tw7558402041248153852:Unit:=()
def PySem.W.Fast.tw16792526961302882576:Unit:=()
def PySem.W.Fast.tw9184433116803671850:Unit:=()
def PySem.W.Fast.tw507112985010996736:Unit:=()
def PySem.W.Fast.tw18065345633651631426:Unit:=()
def PySem.W.Fast.tw6903455592330434087:Unit:=()
def PySem.W.Fast.tw11006999733237110025:Unit:=()
def PySem.W.Fast.tw4159270264558042106:Unit:=()
def PySem.W.Fast.tw12923366734379219692:Unit:=()
def PySem.W.Fast.tw13134374540807868086:Unit:=()
def PySem.W.Fast.tw13262925448813464810:Unit:=()
def PySem.W.Fast.tw6950065261261188954:Unit:=()
def PySem.W.Fast.tw15314688955299048400:Unit:=()
def PySem.W.Fast.tw1765885233963277022:Unit:=()
def PySem.W.Fast.tw15928036473585535476:Unit:=()
def PySem.W.Fast.tw12102859403964682254:Unit:=()
def PySem.W.Fast.tw8964300715590272146:Unit:=()
def PySem.W.Fast.tw5105309711536853510:Unit:=()
def PySem.W.Fast.tw9432558340742182366:Unit:=()
def PySem.W.Fast.tw7915377890677317315:Unit:=()
def PySem.W.Fast.tw3142954903952717773:Unit:=()
def PySem.W.Fast.tw10035820369281665560:Unit:=()
def PySem.W.Fast.tw1737748403774507959:Unit:=()
def PySem.W.Fast.tw9056648769898723169:Unit:=()
def PySem.W.Fast.tw5426787385692736656:Unit:=()
def PySem.W.Fast.tw10270369852665485057:Unit:=()
def PySem.W.Fast.tw15017086823242052674:Unit:=()
def PySem.W.Fast.tw8434087672711656266:Unit:=()
def PySem.W.Fast.tw16097769628426523336:Unit:=()
def PySem.W.Fast.tw2283072678762081616:Unit:=()
def PySem.W.Fast.tw2474078337192933343:Unit:=()
def PySem.W.Fast.tw6758040489551620221:Unit:=()
def PySem.W.Fast.tw2287080950058723505:Unit:=()
def PySem.W.Fast.tw17929276230208069304:Unit:=()
def PySem.W.Fast.tw5837514407527303026:Unit:=()
def PySem.W.Fast.tw13934566693797532367:Unit:=()
def PySem.W.Fast.tw14221702773908467818:Unit:=()
def PySem.W.Fast.tw17091154572732242565:Unit:=()
def PySem.W.Fast.tw9538730307533156034:Unit:=()
def PySem.W.Fast.tw3606881841558604230:Unit:=()
def PySem.W.Fast.tw5297343520632321887:Unit:=()
def PySem.W.Fast.tw633327257840762310:Unit:=()
def PySem.W.Fast.tw12489998382605788972:Unit:=()
def PySem.W.Fast.tw11315800135317955211:Unit:=()
def PySem.W.Fast.tw9487735854737264971:Unit:=()
def PySem.W.Fast.tw15636555575102792311:Unit:=()
def PySem.W.Fast.tw13386370849273759172:Unit:=()
def PySem.W.Fast.tw2170278573985717021:Unit:=()
def PySem.W.Fast.tw6149356965957162889:Unit:=()
def PySem.W.Fast.tw15969694149176840759:Unit:=()
def PySem.W.Fast.tw18010874248144109572:Unit:=()
def PySem.W.Fast.tw16827366064325059989:Unit:=()
def PySem.W.Fast.tw12886431721171864054:Unit:=()
def PySem.W.Fast.tw18157045558760990777:Unit:=()
def PySem.W.Fast.tw11415948636404918660:Unit:=()
def PySem.W.Fast.tw7076369973176724214:Unit:=()
def PySem.W.Fast.tw1814291145354930562:Unit:=()
def PySem.W.Fast.tw8136111012971591995:Unit:=()
def PySem.W.Fast.tw11163105133222598156:Unit:=()
def PySem.W.Fast.tw2700080239795089540:Unit:=()
def PySem.W.Fast.tw13149547776834277546:Unit:=()
def PySem.W.Fast.tw2155281246171121206:Unit:=()
def PySem.W.Fast.tw9508543355335334993:Unit:=()
def PySem.W.Fast.tw13845479210917312027:Unit:=()
def PySem.W.Fast.tw7074123584196777281:Unit:=()
def PySem.W.Fast.tw7258367361560749034:Unit:=()
def PySem.W.Fast.tw13656777349497709802:Unit:=()
def PySem.W.Fast.tw4309615025521650404:Unit:=()
def PySem.W.Fast.tw3787070195521938371:Unit:=()
def PySem.W.Fast.tw8391879490049118639:Unit:=()
def PySem.W.Fast.tw14451513807024433322:Unit:=()
def PySem.W.Fast.tw650077158038671931:Unit:=()
def PySem.W.Fast.tw925782902291422211:Unit:=()
def PySem.W.Fast.tw12404298555611104187:Unit:=()
def PySem.W.Fast.tw1485998707229386310:Unit:=()
def PySem.W.Fast.tw2599748053549496720:Unit:=()
def PySem.W.Fast.tw10742749574444868447:Unit:=()
def PySem.W.Fast.tw13163300804243890451:Unit:=()
def PySem.W.Fast.tw17705953409611116703:Unit:=()
def PySem.W.Fast.tw2978897150830697650:Unit:=()
def PySem.W.Fast.tw4860370308744364934:Unit:=()
def PySem.W.Fast.tw4084081751402978222:Unit:=()
def PySem.W.Fast.tw15509443676776066235:Unit:=()
def PySem.W.Fast.tw6521421042846462815:Unit:=()
def PySem.W.Fast.tw12517608641700254444:Unit:=()
def PySem.W.Fast.tw15860732921404044800:Unit:=()
def PySem.W.Fast.tw17232180137440422797:Unit:=()
def PySem.W.Fast.tw17860460075831379377:Unit:=()
def PySem.W.Fast.tw17250294378492084118:Unit:=()
def PySem.W.Fast.tw7395424178304381022:Unit:=()
def PySem.W.Fast.tw2126482049437095337:Unit:=()
def PySem.W.Fast.tw8094627335912503134:Unit:=()
def PySem.W.Fast.tw9757408450240684672:Unit:=()
def PySem.W.Fast.tw16195156209545800226:Unit:=()
def PySem.W.Fast.tw8469200418136603846:Unit:=()
def PySem.W.Fast.tw10088328020311461519:Unit:=()
def PySem.W.Fast.tw16051151466215356279:Unit:=()
def PySem.W.Fast.tw8894072791841386333:Unit:=()
def PySem.W.Fast.tw16223506048181589029:Unit:=()
def PySem.W.Fast.tw10641998635715540528:Unit:=()
def PySem.W.Fast.tw11216425597313924604:Unit:=()
def PySem.W.Fast.tw11904110433466993017:Unit:=()
def PySem.W.Fast.tw12832925269303344005:Unit:=()
def PySem.W.Fast.tw1944900660041920642:Unit:=()
def PySem.W.Fast.tw3803878393243884694:Unit:=()
def PySem.W.Fast.tw11287962706427270297:Unit:=()
def PySem.W.Fast.tw14313013907243844170:Unit:=()
def PySem.W.Fast.tw5816869517752891229:Unit:=()
def PySem.W.Fast.tw1687282661160741809:Unit:=()
def PySem.W.Fast.tw3206847526392692570:Unit:=()
def PySem.W.Fast.tw3194160768777545440:Unit:=()
def PySem.W.Fast.tw5971074220065206268:Unit:=()
def PySem.W.Fast.tw8077057595172894167:Unit:=()
def PySem.W.Fast.tw5296936358259285120:Unit:=()
def PySem.W.Fast.tw7700484211216059258:Unit:=()
def PySem.W.Fast.tw7227823770903524320:Unit:=()
def PySem.W.Fast.tw4334193263282285798:Unit:=()
def PySem.W.Fast.tw14687508487749419199:Unit:=()
def PySem.W.Fast.tw10784626941646911693:Unit:=()
def PySem.W.Fast.tw1915096839639323009:Unit:=()
def PySem.W.Fast.tw5559258379680692810:Unit:=()
def PySem.W.Fast.tw5702129320816828085:Unit:=()
def PySem.W.Fast.tw3580777836928716186:Unit:=()
def PySem.W.Fast.tw12144766207142575540:Unit:=()
def PySem.W.Fast.tw13406143416754067322:Unit:=()
def PySem.W.Fast.tw1472313574782077263:Unit:=()
def PySem.W.Fast.tw2137581622416608266:Unit:=()
def PySem.W.Fast.tw4139778630667096672:Unit:=()
def PySem.W.Fast.tw16271243109654574770:Unit:=()
def PySem.W.Fast.tw6110987428571653299:Unit:=()
def PySem.W.Fast.tw915833961644354548:Unit:=()
def PySem.W.Fast.tw2745114980545692514:Unit:=()
def PySem.W.Fast.tw9661426733786950601:Unit:=()
def PySem.W.Fast.tw8966376890371712321:Unit:=()
def PySem.W.Fast.tw7162586898467122895:Unit:=()
def PySem.W.Fast.tw17255914196484153571:Unit:=()
def PySem.W.Fast.tw2117436613080182216:Unit:=()
def PySem.W.Fast.tw10532715931919256135:Unit:=()
def PySem.W.Fast.tw8321285838243067476:Unit:=()
def PySem.W.Fast.tw1864232029812605880:Unit:=()
def PySem.W.Fast.tw13659923039587214896:Unit:=()
def PySem.W.Fast.tw16621108497379445621:Unit:=()
def PySem.W.Fast.tw6094656862157235778:Unit:=()
def PySem.W.Fast.tw18037965386541800717:Unit:=()
def PySem.W.Fast.tw1138739394381473074:Unit:=()
def PySem.W.Fast.tw17870336612335047285:Unit:=()
def PySem.W.Fast.tw8140496199364212980:Unit:=()
def PySem.W.Fast.tw12567779163699872834:Unit:=()
def PySem.W.Fast.tw4661737935699227550:Unit:=()
def PySem.W.Fast.tw128559183740364645:Unit:=()
def PySem.W.Fast.tw9992474269891993924:Unit:=()
def PySem.W.Fast.tw1831151157165141915:Unit:=()
def PySem.W.Fast.tw16159240403219903579:Unit:=()
def PySem.W.Fast.tw14063102004334586448:Unit:=()
def PySem.W.Fast.tw690547666955651477:Unit:=()
def PySem.W.Fast.tw6329711843577253778:Unit:=()
def PySem.W.Fast.tw13329253775615725316:Unit:=()
def PySem.W.Fast.tw12546425499490402703:Unit:=()
def PySem.W.Fast.tw6712417864094570402:Unit:=()
def PySem.W.Fast.tw16297925366102642381:Unit:=()
def PySem.W.Fast.tw6212640252794987754:Unit:=()
def PySem.W.Fast.tw3374086326351654256:Unit:=()
def PySem.W.Fast.tw2060691962577681209:Unit:=()
def PySem.W.Fast.tw6216085856064836100:Unit:=()
def PySem.W.Fast.tw14556538788087307753:Unit:=()
def PySem.W.Fast.tw11631597752155240646:Unit:=()
def PySem.W.Fast.tw14118010133442108630:Unit:=()
def PySem.W.Fast.tw14047942511878608282:Unit:=()
def PySem.W.Fast.tw4076250053681212116:Unit:=()
def PySem.W.Fast.tw1863361334560441834:Unit:=()
def PySem.W.Fast.tw18400967824179824366:Unit:=()
def PySem.W.Fast.tw9514822808916384478:Unit:=()
def PySem.W.Fast.tw15747684728436871092:Unit:=()
def PySem.W.Fast.tw13599408167068575131:Unit:=()
def PySem.W.Fast.tw9210557136079455663:Unit:=()
def PySem.W.Fast.tw2848405109066163114:Unit:=()
def PySem.W.Fast.tw3037244443174876602:Unit:=()
def PySem.W.Fast.tw3314728908642845178:Unit:=()
def PySem.W.Fast.tw17674843870823569393:Unit:=()
def PySem.W.Fast.tw11640228721107672895:Unit:=()
def PySem.W.Fast.tw6725214206076131143:Unit:=()
def PySem.W.Fast.tw3341606526246993789:Unit:=()
def PySem.W.Fast.tw150402650202968996:Unit:=()
open PySem PySem.W PyProof.Rows
set_option maxRecDepth 100000 in
set_option maxHeartbeats 0 in
theorem PySem.Challenge.cw_canonwheel_k75_refusals_apart_holds : PySem.Challenge.rw_canonwheel_k75_refusals_apart.Holds := by
 w_on; o_law; k_head; (case hw => w_witness2)
 k_fill
 refine Sd.walkD (l := PySem.Challenge.rw_canonwheel_k75_refusals_apart) (k := 10) (x := "_law_script") (CX := fun w => Sd.CXe PySem.Challenge.rw_canonwheel_k75_refusals_apart.prog w) (Fl := Cw.F_Q0T) rfl rfl ⟨rfl,by decide,by decide⟩ (fun w h Y => PySem.W.kIn_of Y) (fun w => Sd.cxe_ok) ?F ?S
 case F =>
  intro w mg fa h KX G hmg
  refine' Lk75.all_mk KX G hmg ?D_check_wheel ?D_check_rising ?D_check_beat ?D_made_beat ?D_beat_counts ?D_is_partner ?D_beat_sum ?D_without_last_noughts ?D_sum_divided ?D_divisors ?D_parts_of_divisors ?D_part ?D_leaves_nought ?D_parts_had ?D_prime_of ?D_has_one_prime ?D_prime_powers ?D_powers_had ?D_first_rule ?D_made_partner ?D_has_only ?D_read_beat ?D_words_of ?D_check_name ?D_read_number ?D_check_line_beat ?D_check_window ?D_line_step ?D_check_sides ?D_all_spots ?D_check_torus_beat ?D_check_pair ?D_laid_flat ?D_law_cell ?D_law_kinds ?D_read_text ?D_law_full ?D_law_asked ?D_law_said ?a_Q0O ?l_Q0O ?c_Q0O ?k_Q0O ?z_len ?z_sorted ?z_list ?z_range ?z_enumerate ?z_all ?z_isinstance ?z_str ?z_min ?z_any ?z_ValueError ?z_zip ?n_LONGEST ?n_LAST_PART ?n_LONGEST_NAME ?n_MOST_FIGURES ?n_LAST_NUMBER ?n_MOST_NUMBERS ?n_MOST_NAMES ?a_Desk ?pg_Desk ?hd_Desk ?po_Desk ?sa_Desk ?mk_Desk ?kc_Desk ?na_Desk_wheels ?a_Wheel ?pg_Wheel ?hd_Wheel ?po_Wheel ?sa_Wheel ?mk_Wheel ?kc_Wheel ?na_Wheel_length ?na_Wheel_beat ?a_Wheel_init ?i_Wheel_init ?l_Wheel_init ?c_Wheel_init ?k_Wheel_init ?a_Desk_init ?i_Desk_init ?l_Desk_init ?c_Desk_init ?k_Desk_init ?a_Q0L ?i_keep ?l_Q0L ?c_Q0L ?k_Q0L ?a_Q1D ?i_read_word ?l_Q1D ?c_Q1D ?k_Q1D ?a_Q01 ?i_answer ?l_Q01 ?c_Q01 ?k_Q01 ?a_Q1E ?i_say ?l_Q1E ?c_Q1E ?k_Q1E ?a_FORMS ?K_FORMS ?a_ANSWERS ?K_ANSWERS ?a_MOVES ?K_MOVES ?n_LETTERS ?n_FIGURES ?xk
  (case D_check_wheel => exact ⟨_,_,_,_,_,_,_,_,_,_,by k_is,by k_is,by k_is,by k_is⟩)
  (case D_check_rising => exact ⟨_,_,_,_,_,_,_,_,_,_,by k_is,by k_is,by k_is,by k_is⟩)
  (case D_check_beat => exact ⟨_,_,_,_,_,_,_,_,_,_,by k_is,by k_is,by k_is,by k_is⟩)
  (case D_made_beat => exact ⟨_,_,_,_,_,_,_,_,_,_,by k_is,by k_is,by k_is,by k_is⟩)
  (case D_beat_counts => exact ⟨_,_,_,_,_,_,_,_,_,_,by k_is,by k_is,by k_is,by k_is⟩)
  (case D_is_partner => exact ⟨_,_,_,_,_,_,_,_,_,_,by k_is,by k_is,by k_is,by k_is⟩)
  (case D_beat_sum => exact ⟨_,_,_,_,_,_,_,_,_,_,by k_is,by k_is,by k_is,by k_is⟩)
  (case D_without_last_noughts => exact ⟨_,_,_,_,_,_,_,_,_,_,by k_is,by k_is,by k_is,by k_is⟩)
  (case D_sum_divided => exact ⟨_,_,_,_,_,_,_,_,_,_,by k_is,by k_is,by k_is,by k_is⟩)
  (case D_divisors => exact ⟨_,_,_,_,_,_,_,_,_,_,by k_is,by k_is,by k_is,by k_is⟩)
  (case D_parts_of_divisors => exact ⟨_,_,_,_,_,_,_,_,_,_,by k_is,by k_is,by k_is,by k_is⟩)
  (case D_part => exact ⟨_,_,_,_,_,_,_,_,_,_,by k_is,by k_is,by k_is,by k_is⟩)
  (case D_leaves_nought => exact ⟨_,_,_,_,_,_,_,_,_,_,by k_is,by k_is,by k_is,by k_is⟩)
  (case D_parts_had => exact ⟨_,_,_,_,_,_,_,_,_,_,by k_is,by k_is,by k_is,by k_is⟩)
  (case D_prime_of => exact ⟨_,_,_,_,_,_,_,_,_,_,by k_is,by k_is,by k_is,by k_is⟩)
  (case D_has_one_prime => exact ⟨_,_,_,_,_,_,_,_,_,_,by k_is,by k_is,by k_is,by k_is⟩)
  (case D_prime_powers => exact ⟨_,_,_,_,_,_,_,_,_,_,by k_is,by k_is,by k_is,by k_is⟩)
  (case D_powers_had => exact ⟨_,_,_,_,_,_,_,_,_,_,by k_is,by k_is,by k_is,by k_is⟩)
  (case D_first_rule => exact ⟨_,_,_,_,_,_,_,_,_,_,by k_is,by k_is,by k_is,by k_is⟩)
  (case D_made_partner => exact ⟨_,_,_,_,_,_,_,_,_,_,by k_is,by k_is,by k_is,by k_is⟩)
  (case D_has_only => exact ⟨_,_,_,_,_,_,_,_,_,_,by k_is,by k_is,by k_is,by k_is⟩)
  (case D_read_beat => exact ⟨_,_,_,_,_,_,_,_,_,_,by k_is,by k_is,by k_is,by k_is⟩)
  (case D_words_of => exact ⟨_,_,_,_,_,_,_,_,_,_,by k_is,by k_is,by k_is,by k_is⟩)
  (case D_check_name => exact ⟨_,_,_,_,_,_,_,_,_,_,by k_is,by k_is,by k_is,by k_is⟩)
  (case D_read_number => exact ⟨_,_,_,_,_,_,_,_,_,_,by k_is,by k_is,by k_is,by k_is⟩)
  (case D_check_line_beat => exact ⟨_,_,_,_,_,_,_,_,_,_,by k_is,by k_is,by k_is,by k_is⟩)
  (case D_check_window => exact ⟨_,_,_,_,_,_,_,_,_,_,by k_is,by k_is,by k_is,by k_is⟩)
  (case D_line_step => exact ⟨_,_,_,_,_,_,_,_,_,_,by k_is,by k_is,by k_is,by k_is⟩)
  (case D_check_sides => exact ⟨_,_,_,_,_,_,_,_,_,_,by k_is,by k_is,by k_is,by k_is⟩)
  (case D_all_spots => exact ⟨_,_,_,_,_,_,_,_,_,_,by k_is,by k_is,by k_is,by k_is⟩)
  (case D_check_torus_beat => exact ⟨_,_,_,_,_,_,_,_,_,_,by k_is,by k_is,by k_is,by k_is⟩)
  (case D_check_pair => exact ⟨_,_,_,_,_,_,_,_,_,_,by k_is,by k_is,by k_is,by k_is⟩)
  (case D_laid_flat => exact ⟨_,_,_,_,_,_,_,_,_,_,by k_is,by k_is,by k_is,by k_is⟩)
  (case D_law_cell => exact ⟨_,_,_,_,_,_,_,_,_,_,by k_is,by k_is,by k_is,by k_is⟩)
  (case D_law_kinds => exact ⟨_,_,_,_,_,_,_,_,_,_,by k_is,by k_is,by k_is,by k_is⟩)
  (case D_read_text => exact ⟨_,_,_,_,_,_,_,_,_,_,by k_is,by k_is,by k_is,by k_is⟩)
  (case D_law_full => exact ⟨_,_,_,_,_,_,_,_,_,_,by k_is,by k_is,by k_is,by k_is⟩)
  (case D_law_asked => exact ⟨_,_,_,_,_,_,_,_,_,_,by k_is,by k_is,by k_is,by k_is⟩)
  (case D_law_said => exact ⟨_,_,_,_,_,_,_,_,_,_,by k_is,by k_is,by k_is,by k_is⟩)
  (case a_Q0O | l_Q0O | c_Q0O | k_Q0O | z_len | z_sorted | z_list | z_range | z_enumerate | z_all | z_isinstance | z_str | z_min | z_any | z_ValueError | z_zip | n_LONGEST | n_LAST_PART | n_LONGEST_NAME | n_MOST_FIGURES | n_LAST_NUMBER | n_MOST_NUMBERS | n_MOST_NAMES | a_Desk | pg_Desk | hd_Desk | po_Desk | sa_Desk | mk_Desk | kc_Desk | na_Desk_wheels | a_Wheel | pg_Wheel | hd_Wheel | po_Wheel | sa_Wheel | mk_Wheel | kc_Wheel | na_Wheel_length | na_Wheel_beat | a_Wheel_init | i_Wheel_init | l_Wheel_init | c_Wheel_init | k_Wheel_init | a_Desk_init | i_Desk_init | l_Desk_init | c_Desk_init | k_Desk_init | a_Q0L | i_keep | l_Q0L | c_Q0L | k_Q0L | a_Q1D | i_read_word | l_Q1D | c_Q1D | k_Q1D | a_Q01 | i_answer | l_Q01 | c_Q01 | k_Q01 | a_Q1E | i_say | l_Q1E | c_Q1E | k_Q1E | a_FORMS => show _ = _; k_is)
  (case K_FORMS => (refine ⟨⟨_,_,by k_is,?_⟩,by decide,by decide⟩; repeat' first | exact Sd.fents_nil | refine Sd.fents_cons rfl rfl rfl (by k_is) rfl rfl ?_ ?_ ?_ | exact Sd.vstr_nil | refine Sd.vstr_cons ?_ | decide))
  (case a_ANSWERS => show _ = _; k_is)
  (case K_ANSWERS => (refine ⟨⟨_,_,by k_is,?_⟩,by decide,by decide⟩; repeat' first | exact Sd.kents_nil | refine Sd.kents_cons rfl rfl ?_))
  (case a_MOVES => show _ = _; k_is)
  (case K_MOVES => (refine ⟨⟨_,_,by k_is,?_⟩,by decide,by decide⟩; repeat' first | exact Sd.kents_nil | refine Sd.kents_cons rfl rfl ?_))
  (case n_LETTERS | n_FIGURES => show _ = _; k_is)
  (case xk => (constructor; (refine' Sd.hx_cons ?_ (Sd.hx_cons ?_ (Sd.hx_cons ?_ (Sd.hx_cons ?_ (Sd.hx_cons ?_ (Sd.hx_cons ?_ (Sd.hx_cons ?_ (Sd.hx_cons ?_ (Sd.hx_cons ?_ (Sd.hx_cons ?_ (Sd.hx_cons ?_ (Sd.hx_cons ?_ (Sd.fm_nil)))))))))))) <;> first | exact ⟨by k_is,by kit_is,by k_exc,⟨_,_,_,_,_,_,_,_,_,_,_,_,_,_,_,_,by k_is⟩,by k_is,by k_is,by k_is⟩ | skip); repeat' first | apply Sd.sxx_cons | apply Sd.sx_cons | exact Sd.fm_nil | exact Sd.sx_nil | kit_is))
 case S => exact fun ns _ hb => Cw.law75_ok hb
