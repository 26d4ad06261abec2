import PyProof.Rows.All
import Wide.All
import OpenK.AllK
import Wide.FinOn
import Lean
import PyProof.EqAt
import PyProof.EqKinds
import PyProof.TupleCall
import KE.BitLaws
import KE.KRevIter
import PyProof.P3In
import PySem.Challenge.RW_canonwheel_k71_beat_texts
set_option Elab.async false
set_option linter.all false
set_option maxRecDepth 100000
namespace L2
open PySem PySem.Spec PyProof.Rows
abbrev Key := Sum Int Str
def keyIs : Key → Value → Bool
  | .inl k, v => Value.isInt k v
  | .inr x, v => Value.isStrOf x v
def keyH (w : World) : Key → Int
  | .inl k => hashInt k
  | .inr x => hashStr w x
theorem keyIs_shape : ∀ {k : Key} {v : Value}, keyIs k v = true → (∃ i t, k = Sum.inl i ∧ v = Value.int i t) ∨ (∃ x t, k = Sum.inr x ∧ v = Value.str x t)
  | .inl i, v, h => by
    obtain ⟨t, e⟩ := Value.isInt_shape (k := i) (v := v) h
    exact .inl ⟨i, t, rfl, e⟩
  | .inr x, v, h => by
    obtain ⟨t, e⟩ := Value.isStrOf_shape (x := x) (v := v) h
    exact .inr ⟨x, t, rfl, e⟩
theorem keyIs_int (i : Int) (t : Tok) : keyIs (.inl i) (.int i t) = true := by simp [keyIs, Value.isInt]
theorem keyIs_str (x : Str) (t : Tok) : keyIs (.inr x) (.str x t) = true := by simp [keyIs, Value.isStrOf]
theorem key_ll (a b : Int) : decide ((Sum.inl a : Key) = Sum.inl b) = (a == b) := by
  by_cases e : a = b
  · subst e; simp
  · have h : ¬ (Sum.inl a : Key) = Sum.inl b := fun q => e (Sum.inl.inj q)
    rw [decide_eq_false h]
    exact (beq_eq_false_iff_ne.mpr e).symm
theorem key_rr (a b : Str) : decide ((Sum.inr a : Key) = Sum.inr b) = decide (a = b) := by
  by_cases e : a = b
  · subst e; simp
  · have h : ¬ (Sum.inr a : Key) = Sum.inr b := fun q => e (Sum.inr.inj q)
    rw [decide_eq_false h, decide_eq_false e]
theorem key_lr (a : Int) (b : Str) : decide ((Sum.inl a : Key) = Sum.inr b) = false := decide_eq_false (fun q => nomatch q)
theorem key_rl (a : Str) (b : Int) : decide ((Sum.inr a : Key) = Sum.inl b) = false := decide_eq_false (fun q => nomatch q)
def mixKind (prog : Program) (w : World) : PySem.KeyKind prog w Key where
  is := keyIs
  hash := keyH w
  inj := fun v a b ha hb => by
    rcases keyIs_shape ha with ⟨i, t, rfl, rfl⟩ | ⟨x, t, rfl, rfl⟩
    · rcases keyIs_shape hb with ⟨j, u, rfl, e⟩ | ⟨y, u, rfl, e⟩
      · injection e with e1 _; rw [e1]
      · exact nomatch e
    · rcases keyIs_shape hb with ⟨j, u, rfl, e⟩ | ⟨y, u, rfl, e⟩
      · exact nomatch e
      · injection e with e1 _; rw [e1]
  byValue := fun k v h => by
    rcases keyIs_shape h with ⟨i, t, rfl, rfl⟩ | ⟨x, t, rfl, rfl⟩ <;> rfl
  pyHash := fun hv h => by
    rcases keyIs_shape hv with ⟨i, t, rfl, rfl⟩ | ⟨x, t, rfl, rfl⟩
    · exact wpAny_pyHash_int h
    · exact wpAny_pyHash_str h
  eqBool := fun hu hv h => by
    rcases keyIs_shape hu with ⟨i, t, rfl, rfl⟩ | ⟨x, t, rfl, rfl⟩
    · rcases keyIs_shape hv with ⟨j, u, rfl, rfl⟩ | ⟨y, u, rfl, rfl⟩
      · rw [key_ll] at h; exact wpAny_eqBool_int h
      · rw [key_lr] at h; exact SeqAt.EqAt.int_str i t y u _ _ _ _ h
    · rcases keyIs_shape hv with ⟨j, u, rfl, rfl⟩ | ⟨y, u, rfl, rfl⟩
      · rw [key_rl] at h; exact SeqAt.EqAt.str_int x t j u _ _ _ _ h
      · rw [key_rr] at h; exact wpAny_eqBool_str h
  «strs» := fun k x t v h => by
    rcases keyIs_shape h with ⟨i, u, rfl, e⟩ | ⟨y, u, rfl, e⟩
    · exact nomatch e
    · injection e with e1 _
      subst e1
      cases v <;> rfl
theorem mixKind_int (prog : Program) (w : World) (i : Int) (t : Tok) : (mixKind prog w).is (.inl i) (.int i t) = true := keyIs_int i t
theorem mixKind_str (prog : Program) (w : World) (x : Str) (t : Tok) : (mixKind prog w).is (.inr x) (.str x t) = true := keyIs_str x t
end L2
namespace L2
open PySem PySem.Spec PyProof.Rows
inductive V where
  | non | bl (b : Bool) | int (i : Int) | str (x : Str) | byt (b : Array UInt8) | flt (b : UInt64) | ref (a : Addr) | ty (n : String)
  deriving DecidableEq
def RelV : V → Value → Prop
  | .non, u => u = Value.none
  | .bl b, u => u = Value.bool b
  | .int i, u => ∃ t, u = Value.int i t
  | .str x, u => ∃ t, u = Value.str x t
  | .byt b, u => ∃ t, u = Value.bytes b t
  | .flt b, u => ∃ t, u = Value.float b t
  | .ref a, u => u = Value.ref a
  | .ty n, u => u = Value.type n
abbrev Vals : List V → List Value → Prop := Paired RelV
theorem Vals.length {xs : List V} {us : List Value} (r : Vals xs us) : xs.length = us.length := Paired.length r
theorem Vals.get : ∀ {xs : List V} {us : List Value} {i : Nat} {x : V}, Vals xs us → xs[i]? = some x → ∃ u, us[i]? = some u ∧ RelV x u
  | _, _, _, _, .nil, e => by simp at e
  | _, _, 0, _, .cons r _, e => by simp at e; subst e; exact ⟨_, rfl, r⟩
  | _, _, i + 1, x, .cons _ t, e => by
    obtain ⟨u, h1, h2⟩ := Vals.get (i := i) (x := x) t (by simpa using e)
    exact ⟨u, by simpa using h1, h2⟩
theorem Vals.append : ∀ {xs ys : List V} {us ws : List Value}, Vals xs us → Vals ys ws → Vals (xs ++ ys) (us ++ ws)
  | _, _, _, _, .nil, s => s
  | _, _, _, _, .cons r t, s => .cons r (Vals.append t s)
theorem Vals.take : ∀ {xs : List V} {us : List Value} (n : Nat), Vals xs us → Vals (xs.take n) (us.take n)
  | _, _, 0, _ => .nil
  | _, _, _ + 1, .nil => .nil
  | _, _, n + 1, .cons r t => .cons r (Vals.take n t)
theorem Vals.drop : ∀ {xs : List V} {us : List Value} (n : Nat), Vals xs us → Vals (xs.drop n) (us.drop n)
  | _, _, 0, r => r
  | _, _, _ + 1, .nil => .nil
  | _, _, n + 1, .cons _ t => Vals.drop n t
def RelO : Option V → Option Value → Prop
  | some v, some u => RelV v u
  | none, none => True
  | _, _ => False
def KV {κ : Type} : List (κ × V) → List (κ × Value) → Prop := Paired fun (p : κ × V) (q : κ × Value) => p.1 = q.1 ∧ RelV p.2 q.2
def kV : Key → V
  | .inl i => .int i
  | .inr x => .str x
inductive HO where
    | lst (xs : List V)
    | tup (xs : List V)
    | dK (kvs : List (Key × V)) | dT (kvs : List (List Key × V))
    | set (S : Int → Bool) (n : Nat)
    | ins (C dx : Addr) (fs : List (Str × V))
    | own (x : Addr)
    | xd (fs : List (Str × V))
    | met (f x : Addr)
    | rng (lo hi : Int)
    | frz (o : Obj) (u : HO)
    | tbl (ps : Array Value)
    | ext (φ : Heap → Prop)
abbrev Hp := Addr → Option HO
def upd (H : Hp) (a : Addr) (o : HO) : Hp := fun b => if b = a then some o else H b
theorem upd_same {H : Hp} {a : Addr} {o : HO} : upd H a o a = some o := by unfold upd; rw [if_pos rfl]
theorem upd_ne {H : Hp} {a b : Addr} {o : HO} (h : b ≠ a) : upd H a o b = H b := by unfold upd; rw [if_neg h]
theorem ne_of_none {H : Hp} {a b : Addr} {o : HO} (h : H a = some o) (h' : H b = none) : a ≠ b := by
  intro e; subst e; rw [h] at h'; cases h'
section
variable (P : Program) (w : World)
def ObjOk (H : Hp) (h : Heap) (a : Addr) : HO → Prop
  | .lst xs => xs.length ≤ sizeLine ∧ ∃ (its : List Value) (n : Nat), Vals xs its ∧ h.get? a = some { cls := .type "list", data := .seq its.toArray n }
  | .tup xs => xs.length ≤ sizeLine ∧ ∃ its : List Value, Vals xs its ∧ IsTup h a its.toArray
  | .dK kvs => kvs.length ≤ sizeLine ∧ (a == sysModules) = false ∧ ∃ vs, KV kvs vs ∧ h.DictOf (mixKind P w) a vs
  | .dT kvs => kvs.length ≤ sizeLine ∧ (a == sysModules) = false ∧ ∃ xs : List (List Key × Addr × Value),
      Paired (fun (p : List Key × V) (q : List Key × Addr × Value) => p.1 = q.1 ∧ H q.2.1 = some (.tup (p.1.map kV)) ∧ RelV p.2 q.2.2) kvs xs ∧
      ∃ o es ep, h.get? a = some o ∧ o.ExactDict ∧ o.data = .dict es ep ∧ es.toList = xs.map (entryOfKey (tupleKind (mixKind P w))) ∧ (xs.map (·.1)).Nodup
  | .set S n => h.SetOf (intKind P w) a S n
  | .ins C dx fs => H dx = some (.own a) ∧ fs.length ≤ 1000 ∧ dx ≠ a ∧ h.get? a = some (PySem.W.instObj C dx) ∧
      ∃ mA, h.Ns1 dx mA ∧ (∀ f, RelO (fs.lookup f) (mA f)) ∧ PySem.Within mA (fs.map (·.1))
  | .own _ => ∃ o, h.get? a = some o
  | .xd fs => ∃ mA, h.Ns1 a mA ∧ ∀ f, RelO (fs.lookup f) (mA f)
  | .rng lo hi => ∃ t u v, h.get? a = some { cls := .type "range", data := .fields #[.int lo t, .int hi u, .int 1 v] }
  | .frz o u => h.get? a = some o ∧ ObjOk H h a u
  | .tbl ps => h.get? a = some { cls := .none, data := .fields ps }
  | .met f x => h.get? a = some (PySem.W.methodObj (.ref f) (.ref x))
  | .ext φ => φ h ∧ (∃ o, h.get? a = some o) ∧ ∀ h1 h2 : Heap, φ h1 → (∀ o, h1.get? a = some o → h2.get? a = some o) → φ h2
def HOk (H : Hp) (h : Heap) : Prop := ∀ a o, H a = some o → ObjOk P w H h a o
end
section
variable {P : Program} {w : World} {H H' : Hp} {h h' : Heap} {a : Addr} {o : HO}
theorem ObjOk.lt (x : ObjOk P w H h a o) : a < h.objs.size := by
  cases o with
  | lst xs => obtain ⟨_, _, _, _, e⟩ := x; exact Heap.lt_size e
  | tup xs => obtain ⟨_, _, _, p⟩ := x; exact p.lt
  | dK kvs => obtain ⟨_, _, _, _, o, _, _, e, _⟩ := x; exact Heap.lt_size e
  | dT kvs => obtain ⟨_, _, _, _, o, _, _, e, _⟩ := x; exact Heap.lt_size e
  | set S n => obtain ⟨o, _, _, _, e, _⟩ := x; exact Heap.lt_size e
  | ins C dx fs => obtain ⟨_, _, _, e, _⟩ := x; exact Heap.lt_size e
  | own y => obtain ⟨_, e⟩ := x; exact Heap.lt_size e
  | xd fs => obtain ⟨_, ⟨_, _, _, e, _⟩, _⟩ := x; exact Heap.lt_size e
  | rng lo hi => obtain ⟨_, _, _, e⟩ := x; exact Heap.lt_size e
  | frz ob u => obtain ⟨e, _⟩ := x; exact Heap.lt_size e
  | tbl ps => exact Heap.lt_size (show h.get? a = some _ from x)
  | met f y => exact Heap.lt_size (show h.get? a = some _ from x)
  | ext φ => obtain ⟨_, ⟨_, e⟩, _⟩ := x; exact Heap.lt_size e
theorem Paired.mapP {α β : Type} {F G : α → β → Prop} : ∀ {l₁ : List α} {l₂ : List β}, Paired F l₁ l₂ → (∀ a b, F a b → G a b) → Paired G l₁ l₂
  | _, _, .nil, _ => .nil
  | _, _, .cons r t, f => .cons (f _ _ r) (Paired.mapP t f)
theorem ObjOk.stay (x : ObjOk P w H h a o) (k : ∀ b u, (b = a ∨ H b = some (.own a)) → h.get? b = some u → h'.get? b = some u)
    (ho : ∀ b, H b = some (.own a) → H' b = some (.own a)) (ht : ∀ b xs, H b = some (.tup xs) → H' b = some (.tup xs)) : ObjOk P w H' h' a o := by
  induction o with
  | lst xs => obtain ⟨z, its, n, r, e⟩ := x; exact ⟨z, its, n, r, k _ _ (.inl rfl) e⟩
  | tup xs => obtain ⟨z, its, r, ob, e, c⟩ := x; exact ⟨z, its, r, ob, k _ _ (.inl rfl) e, c⟩
  | dK kvs => obtain ⟨z, y, vs, r, ob, es, ep, e, c⟩ := x; exact ⟨z, y, vs, r, ob, es, ep, k _ _ (.inl rfl) e, c⟩
  | dT kvs =>
    obtain ⟨z, y, xs, r, ob, es, ep, e, c⟩ := x
    exact ⟨z, y, xs, Paired.mapP r fun p q z => ⟨z.1, ht _ _ z.2.1, z.2.2⟩, ob, es, ep, k _ _ (.inl rfl) e, c⟩
  | set S n => obtain ⟨ob, es, ep, t, e, c⟩ := x; exact ⟨ob, es, ep, t, k _ _ (.inl rfl) e, c⟩
  | ins C dx fs =>
    obtain ⟨d, z, ne, e, mA, ⟨od, es, ep, e2, c⟩, r⟩ := x
    exact ⟨ho _ d, z, ne, k _ _ (.inl rfl) e, mA, ⟨od, es, ep, k _ _ (.inr d) e2, c⟩, r⟩
  | own y => obtain ⟨ob, e⟩ := x; exact ⟨ob, k _ _ (.inl rfl) e⟩
  | xd fs => obtain ⟨mA, ⟨od, es, ep, e, c⟩, r⟩ := x; exact ⟨mA, ⟨od, es, ep, k _ _ (.inl rfl) e, c⟩, r⟩
  | rng lo hi => obtain ⟨t, u, v, e⟩ := x; exact ⟨t, u, v, k _ _ (.inl rfl) e⟩
  | frz ob u ih => obtain ⟨e, q⟩ := x; exact ⟨k _ _ (.inl rfl) e, ih q⟩
  | tbl ps =>
    have e : h.get? a = some { cls := .none, data := .fields ps } := x
    show h'.get? a = some { cls := .none, data := .fields ps }
    exact k a _ (.inl rfl) e
  | met f y =>
    have e : h.get? a = some (PySem.W.methodObj (.ref f) (.ref y)) := x
    show h'.get? a = some (PySem.W.methodObj (.ref f) (.ref y))
    exact k a _ (.inl rfl) e
  | ext φ => obtain ⟨p, ⟨o, e⟩, st⟩ := x; exact ⟨st _ _ p fun o q => k _ _ (.inl rfl) q, ⟨o, k _ _ (.inl rfl) e⟩, st⟩
theorem HOk.lt (x : HOk P w H h) (e : H a = some o) : a < h.objs.size := (x a o e).lt
theorem HOk.fresh (x : HOk P w H h) (e : h.objs.size ≤ a) : H a = none := by
  cases q : H a with
  | none => rfl
  | some u => exact absurd (Nat.lt_of_lt_of_le (x.lt q) e) (Nat.lt_irrefl _)
theorem HOk.kept (x : HOk P w H h) (k : ∀ b u, h.get? b = some u → h'.get? b = some u) : HOk P w H h' := fun a o e =>
  (x a o e).stay (fun b u _ q => k b u q) (fun _ q => q) fun _ _ q => q
theorem HOk.laid (x : HOk P w H h) (k : ∀ b u, h.get? b = some u → h'.get? b = some u) (hp : h.objs.size ≤ a) (new : ObjOk P w (upd H a o) h' a o) : HOk P w (upd H a o) h' := fun b u e => by
  have hn := x.fresh hp
  by_cases hb : b = a
  · subst hb; rw [upd_same] at e; cases e; exact new
  · rw [upd_ne hb] at e
    exact (x b u e).stay (fun c v _ q => k c v q) (fun c q => by rw [upd_ne (ne_of_none q hn)]; exact q) fun c xs q => by rw [upd_ne (ne_of_none q hn)]; exact q
end
def Rd (H : Hp) (a : Addr) (u : HO) : Prop := H a = some u ∨ ∃ o, H a = some (.frz o u)
theorem Rd.ok {P : Program} {w : World} {H : Hp} {h : Heap} {a : Addr} {u : HO} (r : Rd H a u) (x : HOk P w H h) : ObjOk P w H h a u := by
  rcases r with r | ⟨o, r⟩
  · exact x a u r
  · obtain ⟨_, q⟩ := x a _ r
    exact q
def Mut : Option HO → Prop
  | some (.lst _) => True
  | some (.dK _) => True
  | some (.dT _) => True
  | some (.set _ _) => True
  | some (.ins _ _ _) => True
  | some (.ext _) => True
  | _ => False
section
variable {P : Program} {w : World} {H : Hp} {h h' : Heap} {x e : Addr} {o' : HO}
theorem HOk.write (ok : HOk P w H h) (mu : Mut (H x)) (he : e = x ∨ H e = some (.own x)) (k : ∀ b u, b ≠ e → h.get? b = some u → h'.get? b = some u) (heo : ∃ u, h'.get? e = some u)
    (new : ObjOk P w (upd H x o') h' x o') : HOk P w (upd H x o') h' := fun b u q => by
  have nown : ∀ c y, H c = some (.own y) → c ≠ x := fun c y r z => by subst z; rw [r] at mu; exact mu
  have ntup : ∀ c xs, H c = some (.tup xs) → c ≠ x := fun c xs r z => by subst z; rw [r] at mu; exact mu
  by_cases hb : b = x
  · subst hb; rw [upd_same] at q; cases q; exact new
  · rw [upd_ne hb] at q
    by_cases hbe : b = e
    · have q' : H b = some (.own x) := by
        rcases he with z | z
        · exact absurd (hbe.trans z) hb
        · rw [hbe]; exact z
      rw [q] at q'; cases q'
      obtain ⟨v, hv⟩ := heo
      exact ⟨v, by rw [hbe]; exact hv⟩
    · refine (ok b u q).stay (fun c v hc r => k c v ?_ r) (fun c r => by rw [upd_ne (nown c b r)]; exact r) fun c xs r => by rw [upd_ne (ntup c xs r)]; exact r
      rcases hc with rfl | hc
      · exact hbe
      · rintro rfl
        rcases he with z | z
        · exact nown c b hc z
        · rw [hc] at z; cases z; exact hb rfl
end
structure Un (fs ex : List Addr) (H H' : Hp) (h h' : Heap) : Prop where
  keep : ∀ b o, h.get? b = some o → H b = none → b ∉ fs → b ∉ ex → h'.get? b = some o
  slot : ∀ b o, h.get? b = some o → H b = none → b ∈ fs → b ∉ ex → ∃ sl, h'.get? b = some { o with slots := sl }
  free : ∀ b o, h.get? b = some o → H b = none → b ∉ ex → H' b = none
  there : ∀ b o, h.get? b = some o → b ∉ ex → ∃ o', h'.get? b = some o'
  tups : ∀ b xs, H b = some (.tup xs) → H' b = some (.tup xs)
  frzs : ∀ b o u, H b = some (.frz o u) → H' b = some (.frz o u)
  tbls : ∀ b ps, H b = some (.tbl ps) → ∃ more, H' b = some (.tbl (ps ++ more))
section
variable {fs fs' ex ex' : List Addr} {H H1 H2 : Hp} {h h1 h2 h' : Heap} {a x e : Addr} {o : HO}
theorem Un.any (u : Un fs ex H H1 h h1) {b : Addr} {ob : Obj} (q : h.get? b = some ob) (n : H b = none) (hx : b ∉ ex) : ∃ sl, h1.get? b = some { ob with slots := sl } := by
  by_cases hb : b ∈ fs
  · exact u.slot b ob q n hb hx
  · exact ⟨ob.slots, u.keep b ob q n hb hx⟩
theorem Un.kept (k : ∀ b u, h.get? b = some u → h'.get? b = some u) : Un fs ex H H h h' :=
  ⟨fun b ob q _ _ _ => k b ob q, fun b ob q _ _ _ => ⟨ob.slots, k b ob q⟩, fun _ _ _ n _ => n, fun b ob q _ => ⟨ob, k b ob q⟩, fun _ _ q => q, fun _ _ _ q => q, fun _ ps q => ⟨#[], by rw [q]; simp⟩⟩
theorem Un.refl : Un fs ex H H h h := Un.kept fun _ _ q => q
theorem Un.laid (k : ∀ b u, h.get? b = some u → h'.get? b = some u) (hp : h.objs.size ≤ a) (hn : H a = none) : Un fs ex H (upd H a o) h h' where
  keep := fun b u q _ _ _ => k b u q
  slot := fun b u q _ _ _ => ⟨u.slots, k b u q⟩
  free := fun b u q n _ => by rw [upd_ne (Nat.ne_of_lt (Nat.lt_of_lt_of_le (Heap.lt_size q) hp))]; exact n
  there := fun b u q _ => ⟨u, k b u q⟩
  tups := fun b xs q => by rw [upd_ne (ne_of_none q hn)]; exact q
  frzs := fun b u xs q => by rw [upd_ne (ne_of_none q hn)]; exact q
  tbls := fun b ps q => ⟨#[], by rw [upd_ne (ne_of_none q hn), q]; simp⟩
theorem Un.write (mu : Mut (H x)) (he : e = x ∨ H e = some (.own x)) (k : ∀ b u, b ≠ e → h.get? b = some u → h'.get? b = some u) (heo : ∃ u, h'.get? e = some u) : Un fs ex H (upd H x o) h h' := by
  have hx : ∀ b, H b = none → b ≠ x := fun b n z => by subst z; rw [n] at mu; exact mu
  have hb : ∀ b, H b = none → b ≠ e := fun b n z => by
    subst z
    rcases he with r | r
    · exact hx b n r
    · rw [n] at r; cases r
  have hm : ∀ b u, H b = some u → ¬ Mut (some u) → b ≠ x := fun b u q nm z => by subst z; rw [q] at mu; exact nm mu
  refine ⟨fun b u q n _ _ => k b u (hb b n) q, fun b u q n _ _ => ⟨u.slots, k b u (hb b n) q⟩, fun b u q n _ => by rw [upd_ne (hx b n)]; exact n, fun b u q _ => ?_,
    fun b xs q => by rw [upd_ne (hm b _ q fun z => z)]; exact q, fun b u xs q => by rw [upd_ne (hm b _ q fun z => z)]; exact q, fun b ps q => ⟨#[], by rw [upd_ne (hm b _ q fun z => z), q]; simp⟩⟩
  by_cases hbe : b = e
  · subst hbe; exact heo
  · exact ⟨u, k b u hbe q⟩
end
def trk (h : Heap) (H : Hp) : List Addr := (List.range h.objs.size).filter fun a => (H a).isSome
def hidT (h : Heap) (H : Hp) : Heap := PySem.W.hideAll h (trk h H)
theorem hidT_size (h : Heap) (H : Hp) : (hidT h H).objs.size = h.objs.size := PySem.W.hideAll_size _ _
theorem hidT_get {h : Heap} {H : Hp} {b : Addr} {o : Obj} (e : h.get? b = some o) (n : H b = none) : (hidT h H).get? b = some o :=
  PySem.W.hideAll_get _ e fun hm => by
    have q : (H b).isSome = true := (List.mem_filter.mp hm).2
    rw [n] at q; simp at q
theorem of_hidT {h : Heap} {H : Hp} {b : Addr} {o : Obj} (e : (hidT h H).get? b = some o) : h.get? b = some o ∧ H b = none := by
  have e' : h.get? b = some o := PySem.W.of_hideAll (trk h H) e
  refine ⟨e', ?_⟩
  cases q : H b with
  | none => rfl
  | some x =>
    have hm : b ∈ trk h H := List.mem_filter.mpr ⟨List.mem_range.mpr (Heap.lt_size e'), by simp [q]⟩
    have z : (hidT h H).get? b = none := PySem.W.hideAll_none (trk h H) hm
    rw [z] at e; cases e
def allNews (g h : Heap) (L : Addr) : List (Addr × Obj) := (List.range h.objs.size).filterMap fun a => if a = L ∨ (g.get? a).isSome = true then none else (h.get? a).map fun o => (a, o)
def rest (g h : Heap) (L d : Addr) : List (Addr × Obj) := (allNews g h L).filter fun p => decide (p.1 ≠ d)
end L2
namespace L2
open PySem PySem.Spec PyProof.Rows
structure Mod (K : PySem.W.Frag) (mg : Str → Option Value) (base : Heap) : Prop where
  kin : K.In base
  glob : base.Ns mainGlobals mg
  blt : ∃ mb, base.Ns builtinsNs mb ∧ ∀ x : Str, x ≠ "__name__" → mb x = bootBuiltins x
  nolimit : base.NoLimit
/-- the context: a def's body (or a comprehension's block) running. base: fixed through the whole law; s₀, H₀: the entry; outer: the frames whose slots others may change (a def's callers); stack: all frames that run;
   ex: iterators that were made ahead of the entry and are walked here (a comprehension's); fn: the names whose cells were made at the entry (a def: all; a comprehension's block: its own); calm: not within an except suite; pn: pins that every state bears; xe: what is wanted of an exception that leaves the code -/
structure Cx where
  prog : Program
  w : World
  K : PySem.W.Frag
  mg : Str → Option Value
  base : Heap
  A : Around
  N : List Str
  s₀ : Shared
  H₀ : Hp
  env : Env
  outer : List Env
  stack : List Env
  ex : List Addr
  fn : Str → Bool
  calm : Bool
  pn : List (Addr × Obj)
  xe : Value → Shared → Prop
def frs (l : List Env) : List Addr := l.filterMap (·.frame)
abbrev Cx.fs (X : Cx) : List Addr := frs X.outer
def Vis (sc : Scope) (x : Str) : Prop := sc.names.lookup x = some .local ∨ sc.names.lookup x = some .cell ∨ sc.names.lookup x = some .free
def Loc (sc : Scope) (x : Str) : Prop := sc.names.lookup x = some .local ∨ sc.names.lookup x = some .cell
def Look (env : Env) (h : Heap) (m : Str → Option Value) (x : Str) (u : Value) : Prop :=
  (env.kindOf x = some .local ∧ m x = some u) ∨ ((env.kindOf x = some .cell ∨ env.kindOf x = some .free) ∧ ∃ c, env.cells.lookup x = some c ∧ h.IsCell c (some u))
structure Cx.Ok (X : Cx) : Prop where
  mod : Mod X.K X.mg X.base
  kind : X.env.scope.kind = .function
  glob : X.env.globals = mainGlobals
  blt : X.env.builtins = builtinsNs
  above : X.s₀.heap.objs.size ≤ X.env.locals
  inj : ∀ x y c, X.env.cells.lookup x = some c → X.env.cells.lookup y = some c → x = y
  has : ∀ x, (X.env.kindOf x = some .cell ∨ X.env.kindOf x = some .free) → ∃ c, X.env.cells.lookup x = some c
  cab : ∀ x c, X.fn x = true → X.env.cells.lookup x = some c → X.s₀.heap.objs.size ≤ c
  hd : X.calm = true → X.A.handled = none
  frames : X.A.frames = some X.stack
  stk : X.stack = X.outer ∨ (X.stack = X.env :: X.outer ∧ X.env.frame = some X.env.locals)
  exf : ∀ b ∈ X.ex, b ≠ X.env.locals ∧ ∀ x c, X.env.cells.lookup x = some c → c ≠ b
  bs : ∀ b o, X.base.get? b = some o → X.s₀.heap.get? b = some o ∧ X.H₀ b = none
  bsz : X.base.objs.size ≤ X.s₀.heap.objs.size
  noex : ∀ b o, X.base.get? b = some o → b ∉ X.ex
  exfs : ∀ b ∈ X.ex, b ∉ X.fs
  funs : X.s₀.heap.FunFrames X.base X.outer
  frf : ∀ b ∈ X.fs, X.H₀ b = none
structure Inv (X : Cx) (pins : List (Addr × Obj)) (σ : List (Option V)) (H : Hp) (s : Shared) : Prop where
  ok : X.Ok
  os : s.os = X.s₀.os
  bare : AllBare s.gens
  base : Un X.fs X.ex X.H₀ H X.s₀.heap s.heap
  loc : ∃ m, s.heap.Ns X.env.locals m ∧ ∀ (i : Nat) (x : Str) (v : V), X.N[i]? = some x → σ[i]? = some (some v) → Vis X.env.scope x → ∃ u, RelV v u ∧ Look X.env s.heap m x u
  cell : ∀ x c, X.env.cells.lookup x = some c → ∃ v, s.heap.IsCell c v
  free : H X.env.locals = none
  freeC : ∀ x c, X.env.cells.lookup x = some c → H c = none
  pin : ∀ p ∈ X.pn ++ pins, s.heap.get? p.1 = some p.2 ∧ H p.1 = none ∧ p.1 ≠ X.env.locals ∧ p.1 ∉ X.fs ∧ ∀ v, p.2.data ≠ .cell v
  hok : HOk X.prog X.w H s.heap
  len : σ.length = X.N.length
section
variable {X : Cx} {pins : List (Addr × Obj)} {σ : List (Option V)} {H H' : Hp} {s : Shared} {h' : Heap}
theorem Cx.Ok.nofr (ok : X.Ok) {b : Addr} {o : Obj} (e : X.base.get? b = some o) : b ∉ X.fs := fun hb => by
  have := (ok.funs.mem hb).1
  rw [e] at this; cases this
theorem Inv.bs (I : Inv X pins σ H s) : ∀ b o, X.base.get? b = some o → s.heap.get? b = some o ∧ H b = none := fun b o e =>
  ⟨I.base.keep b o (I.ok.bs b o e).1 (I.ok.bs b o e).2 (I.ok.nofr e) (I.ok.noex b o e), I.base.free b o (I.ok.bs b o e).1 (I.ok.bs b o e).2 (I.ok.noex b o e)⟩
theorem Inv.bk (I : Inv X pins σ H s) : ∀ b o, X.base.get? b = some o → s.heap.get? b = some o := fun b o e => (I.bs b o e).1
theorem Inv.mod (I : Inv X pins σ H s) : Mod X.K X.mg X.base := I.ok.mod
theorem Inv.kIn (I : Inv X pins σ H s) : X.K.In s.heap := I.ok.mod.kin.keeps I.bk
theorem Inv.lt (I : Inv X pins σ H s) : X.env.locals < s.heap.objs.size := let ⟨_, hn, _⟩ := I.loc; hn.lt
theorem Inv.sz (I : Inv X pins σ H s) : X.s₀.heap.objs.size ≤ s.heap.objs.size := Nat.le_trans I.ok.above (Nat.le_of_lt I.lt)
theorem Inv.nofs (I : Inv X pins σ H s) {a : Addr} (h : s.heap.objs.size ≤ a) : a ∉ X.fs := fun hb => by
  obtain ⟨_, o, ho, _⟩ := I.ok.funs.mem hb
  exact absurd (Nat.lt_of_lt_of_le (Heap.lt_size ho) (Nat.le_trans I.sz h)) (Nat.lt_irrefl _)
theorem Inv.cne (I : Inv X pins σ H s) : ∀ x c, X.env.cells.lookup x = some c → c ≠ X.env.locals := fun x c e z => by
  obtain ⟨v, o, ho, hd⟩ := I.cell x c e
  obtain ⟨m, ⟨o', es, ep, ho', hd', _⟩, _⟩ := I.loc
  rw [z, ho'] at ho; cases ho; rw [hd'] at hd; cases hd
theorem Inv.funs (I : Inv X pins σ H s) : s.heap.FunFrames X.base X.outer := by
  have all : ∀ (l : List Env), (∀ b ∈ frs l, b ∈ X.fs) → X.s₀.heap.FunFrames X.base l → s.heap.FunFrames X.base l := by
    intro l
    induction l with
    | nil => intro _ _; trivial
    | cons env r ih =>
      intro hs hl
      obtain ⟨hk, ⟨L, o, hf, hn, ho, hd⟩, hr⟩ := hl
      have hL : L ∈ X.fs := hs L (by unfold frs; rw [List.filterMap_cons, hf]; exact List.mem_cons_self)
      obtain ⟨sl, e⟩ := I.base.slot L o ho (I.ok.frf L hL) hL fun z => I.ok.exfs L z hL
      exact ⟨hk, ⟨L, _, hf, hn, e, hd⟩, ih (fun b hb => hs b (by unfold frs; rw [List.filterMap_cons, hf]; exact List.mem_cons_of_mem _ hb)) hr⟩
  exact all X.outer (fun _ hb => hb) I.ok.funs
theorem Inv.stack (I : Inv X pins σ H s) : s.heap.FunFrames X.base X.stack := by
  rcases I.ok.stk with e | ⟨e, hf⟩
  · rw [e]; exact I.funs
  · rw [e]
    obtain ⟨m, hn, _⟩ := I.loc
    refine .cons (by rw [I.ok.kind]; decide) hf hn ?_ I.funs
    exact Heap.get?_none_of_le (Nat.le_trans I.ok.bsz I.ok.above)
theorem Inv.stkSub (I : Inv X pins σ H s) : ∀ b ∈ frs X.stack, b ∈ X.env.locals :: X.fs := fun b hb => by
  rcases I.ok.stk with e | ⟨e, hf⟩
  · rw [e] at hb; exact List.mem_cons_of_mem _ hb
  · rw [e] at hb
    unfold frs at hb
    rw [List.filterMap_cons, hf] at hb
    exact hb
theorem Inv.stkFree (I : Inv X pins σ H s) : ∀ b ∈ frs X.stack, H b = none := fun b hb => by
  rcases List.mem_cons.mp (I.stkSub b hb) with e | hb
  · rw [e]; exact I.free
  · obtain ⟨_, o, ho, _⟩ := I.ok.funs.mem hb
    exact I.base.free b o ho (I.ok.frf b hb) fun z => I.ok.exfs b z hb
theorem Inv.step {g' : Array GenState} {t' : Nat} {d' : Drawn} {ch : List Addr} (I : Inv X pins σ H s)
    (hch : ∀ b ∈ ch, (b ∈ X.ex ∨ X.s₀.heap.objs.size ≤ b) ∧ b ≠ X.env.locals ∧ (∀ x c, X.env.cells.lookup x = some c → c ≠ b) ∧ ∀ p ∈ X.pn ++ pins, p.1 ≠ b)
    (keep : ∀ b o, b ≠ X.env.locals → b ∉ X.fs → b ∉ ch → s.heap.get? b = some o → H b = none → h'.get? b = some o)
    (slot : ∀ b o, b ≠ X.env.locals → b ∈ X.fs → b ∉ ch → s.heap.get? b = some o → H b = none → ∃ sl, h'.get? b = some { o with slots := sl }) (free : ∀ b o, b ∉ ch → s.heap.get? b = some o → H b = none → H' b = none)
    (there : ∀ b o, b ∉ ch → s.heap.get? b = some o → ∃ o', h'.get? b = some o')
    (tups : ∀ b xs, H b = some (.tup xs) → H' b = some (.tup xs)) (frzs : ∀ b o u, H b = some (.frz o u) → H' b = some (.frz o u)) (tbls : ∀ b ps, H b = some (.tbl ps) → ∃ more, H' b = some (.tbl (ps ++ more)))
    (ns : ∀ m, s.heap.Ns X.env.locals m → h'.Ns X.env.locals m) (hok : HOk X.prog X.w H' h') (hg : AllBare g') :
    Inv X pins σ H' { s with heap := h', gens := g', drawn := d', toks := t' } := by
  have neL : ∀ b o, X.s₀.heap.get? b = some o → b ≠ X.env.locals := fun b o e => Nat.ne_of_lt (Nat.lt_of_lt_of_le (Heap.lt_size e) I.ok.above)
  have neC : ∀ b o, X.s₀.heap.get? b = some o → b ∉ X.ex → b ∉ ch := fun b o e hx hb => by
    rcases (hch b hb).1 with z | z
    · exact hx z
    · exact absurd (Nat.lt_of_lt_of_le (Heap.lt_size e) z) (Nat.lt_irrefl _)
  have cellK : ∀ x c, X.env.cells.lookup x = some c → ∀ v, s.heap.IsCell c v → h'.IsCell c v := fun x c e v ⟨o, ho, hd⟩ => by
    have nch : c ∉ ch := fun z => (hch c z).2.2.1 x c e rfl
    by_cases hc : c ∈ X.fs
    · obtain ⟨sl, q⟩ := slot c o (I.cne x c e) hc nch ho (I.freeC x c e)
      exact ⟨_, q, hd⟩
    · exact ⟨o, keep c o (I.cne x c e) hc nch ho (I.freeC x c e), hd⟩
  refine ⟨I.ok, I.os, hg, ⟨fun b o e n hb hx => ?_, fun b o e n hb hx => ?_, fun b o e n hx => ?_, fun b o e hx => ?_, fun b xs e => tups b xs (I.base.tups b xs e), fun b o xs e => frzs b o xs (I.base.frzs b o xs e), fun b ps e => ?_⟩, ?_, fun x c e => ?_, ?_, fun x c e => ?_, fun p hp => ?_, hok, I.len⟩
  · exact keep b o (neL b o e) hb (neC b o e hx) (I.base.keep b o e n hb hx) (I.base.free b o e n hx)
  · obtain ⟨sl, e1⟩ := I.base.slot b o e n hb hx
    obtain ⟨sl', e2⟩ := slot b _ (neL b o e) hb (neC b o e hx) e1 (I.base.free b o e n hx)
    exact ⟨sl', e2⟩
  · obtain ⟨o', e1⟩ := I.base.there b o e hx
    exact free b o' (neC b o e hx) e1 (I.base.free b o e n hx)
  · obtain ⟨o', e1⟩ := I.base.there b o e hx
    exact there b o' (neC b o e hx) e1
  · obtain ⟨m1, e1⟩ := I.base.tbls b ps e
    obtain ⟨m2, e2⟩ := tbls b _ e1
    exact ⟨m1 ++ m2, by rw [e2, Array.append_assoc]⟩
  · obtain ⟨m, hn, hl⟩ := I.loc
    refine ⟨m, ns m hn, fun i x v e1 e2 e3 => ?_⟩
    obtain ⟨u, r, l⟩ := hl i x v e1 e2 e3
    refine ⟨u, r, ?_⟩
    rcases l with l | ⟨k, c, e, z⟩
    · exact .inl l
    · exact .inr ⟨k, c, e, cellK x c e _ z⟩
  · obtain ⟨v, z⟩ := I.cell x c e
    exact ⟨v, cellK x c e v z⟩
  · obtain ⟨m, ⟨o, _, _, ho, _⟩, _⟩ := I.loc
    exact free _ o (fun z => (hch _ z).2.1 rfl) ho I.free
  · obtain ⟨v, o, ho, hd⟩ := I.cell x c e
    exact free c o (fun z => (hch c z).2.2.1 x c e rfl) ho (I.freeC x c e)
  · obtain ⟨e, n, ne, nf, d⟩ := I.pin p hp
    have nch : p.1 ∉ ch := fun z => (hch p.1 z).2.2.2 p hp rfl
    exact ⟨keep p.1 p.2 ne nf nch e n, free p.1 p.2 nch e n, ne, nf, d⟩
theorem Inv.un {t' : Nat} (I : Inv X pins σ H s) (u : Un X.fs [] H H' s.heap h') (hok : HOk X.prog X.w H' h') : Inv X pins σ H' { s with heap := h', toks := t' } := by
  obtain ⟨m, ⟨o, es, ep, ho, r⟩, _⟩ := id I.loc
  obtain ⟨sl, hL⟩ := u.any ho I.free (by simp)
  exact I.step (g' := s.gens) (d' := s.drawn) (ch := []) (fun _ z => nomatch z) (fun b o _ hb _ e n => u.keep b o e n hb (by simp)) (fun b o _ hb _ e n => u.slot b o e n hb (by simp)) (fun b o _ e n => u.free b o e n (by simp)) (fun b o _ e => u.there b o e (by simp)) u.tups u.frzs u.tbls (fun m' hm => by
    obtain ⟨o', es', ep', ho', r'⟩ := hm
    rw [ho] at ho'; cases ho'
    exact ⟨_, es', ep', hL, r'⟩) hok I.bare
theorem Inv.call {g' : Array GenState} {t' : Nat} {d' : Drawn} {ch : List Addr} (I : Inv X pins σ H s) (u : Un (frs X.stack) ch H H' s.heap h') (hok : HOk X.prog X.w H' h') (hg : AllBare g')
    (hch : ∀ b ∈ ch, (b ∈ X.ex ∨ X.s₀.heap.objs.size ≤ b) ∧ b ≠ X.env.locals ∧ (∀ x c, X.env.cells.lookup x = some c → c ≠ b) ∧ ∀ p ∈ X.pn ++ pins, p.1 ≠ b) :
    Inv X pins σ H' { s with heap := h', gens := g', drawn := d', toks := t' } := by
  obtain ⟨m, ⟨o, es, ep, ho, r⟩, _⟩ := id I.loc
  obtain ⟨sl, hL⟩ := u.any ho I.free fun z => (hch _ z).2.1 rfl
  exact I.step (ch := ch) hch (fun b o hL hb hc e n => u.keep b o e n (fun z => (List.mem_cons.mp (I.stkSub b z)).elim hL hb) hc) (fun b o _ _ hc e n => u.any e n hc) (fun b o hc e n => u.free b o e n hc) (fun b o hc e => u.there b o e hc) u.tups u.frzs u.tbls (fun m' hm => by
    obtain ⟨o', es', ep', ho', r'⟩ := hm
    rw [ho] at ho'; cases ho'
    exact ⟨_, es', ep', hL, r'⟩) hok hg
theorem Inv.turned {t' : Nat} {it : Addr} (I : Inv X pins σ H s) (k : ∀ b o, b ≠ it → s.heap.get? b = some o → h'.get? b = some o) (hn : H it = none) (hL : it ≠ X.env.locals)
    (h1 : it ∈ X.ex ∨ X.s₀.heap.objs.size ≤ it) (h2 : ∀ x c, X.env.cells.lookup x = some c → c ≠ it) (h3 : ∀ p ∈ X.pn ++ pins, p.1 ≠ it) : Inv X pins σ H { s with heap := h', toks := t' } := by
  have nit : ∀ b u, H b = some u → b ≠ it := fun b u e z => by rw [z, hn] at e; cases e
  refine I.step (g' := s.gens) (d' := s.drawn) (ch := [it]) (fun b hb => ?_) (fun b o _ _ hc e _ => k b o (fun z => hc (by simp [z])) e) (fun b o _ _ hc e _ => ⟨o.slots, k b o (fun z => hc (by simp [z])) e⟩) (fun _ _ _ _ n => n)
    (fun b o hc e => ⟨o, k b o (fun z => hc (by simp [z])) e⟩) (fun _ _ e => e) (fun _ _ _ e => e) (fun b ps e => ⟨#[], by rw [e]; simp⟩) (fun m hm => ?_) (fun b u e => ?_) I.bare
  · have e : b = it := by simpa using hb
    subst e
    exact ⟨h1, hL, h2, h3⟩
  · obtain ⟨o, es, ep, ho, r⟩ := hm
    exact ⟨o, es, ep, k _ o (Ne.symm hL) ho, r⟩
  · refine (I.hok b u e).stay (fun c v hc q => k c v ?_ q) (fun _ q => q) fun _ _ q => q
    rcases hc with z | z
    · rw [z]; exact nit b u e
    · exact nit c _ z
theorem Inv.tok (I : Inv X pins σ H s) (t : Nat) : Inv X pins σ H { s with toks := t } := I.un (h' := s.heap) (t' := t) Un.refl I.hok
theorem Inv.kept {t' : Nat} (I : Inv X pins σ H s) (k : ∀ b u, s.heap.get? b = some u → h'.get? b = some u) : Inv X pins σ H { s with heap := h', toks := t' } := I.un (Un.kept k) (I.hok.kept k)
theorem Inv.laid {a : Addr} {o : HO} {t' : Nat} (I : Inv X pins σ H s) (k : ∀ b u, s.heap.get? b = some u → h'.get? b = some u) (hp : s.heap.objs.size ≤ a) (new : ObjOk X.prog X.w (upd H a o) h' a o) :
    Inv X pins σ (upd H a o) { s with heap := h', toks := t' } := I.un (Un.laid k hp (I.hok.fresh hp)) (I.hok.laid k hp new)
theorem Inv.write {x e : Addr} {o : HO} {t' : Nat} (I : Inv X pins σ H s) (mu : Mut (H x)) (he : e = x ∨ H e = some (.own x)) (k : ∀ b u, b ≠ e → s.heap.get? b = some u → h'.get? b = some u) (heo : ∃ u, h'.get? e = some u)
    (new : ObjOk X.prog X.w (upd H x o) h' x o) : Inv X pins σ (upd H x o) { s with heap := h', toks := t' } := I.un (Un.write mu he k heo) (I.hok.write mu he k heo new)
theorem Inv.pins_of {pins' : List (Addr × Obj)} (I : Inv X pins σ H s) (h : ∀ p ∈ pins', s.heap.get? p.1 = some p.2 ∧ H p.1 = none ∧ p.1 ≠ X.env.locals ∧ p.1 ∉ X.fs ∧ ∀ v, p.2.data ≠ .cell v) : Inv X pins' σ H s :=
  ⟨I.ok, I.os, I.bare, I.base, I.loc, I.cell, I.free, I.freeC, fun p hp => (List.mem_append.mp hp).elim (fun z => I.pin p (List.mem_append_left _ z)) (h p), I.hok, I.len⟩
theorem nodup_ix {N : List Str} (hN : N.Nodup) {i j : Nat} {x : Str} (a : N[i]? = some x) (b : N[j]? = some x) : i = j := by
  obtain ⟨h1, e1⟩ := List.getElem?_eq_some_iff.mp a
  obtain ⟨h2, e2⟩ := List.getElem?_eq_some_iff.mp b
  exact (List.getElem_inj hN).mp (e1.trans e2.symm)
theorem store_ok2 {M : Model} {A : Around} {E : Value → Shared → Prop} {i : Nat} {x : Str} {v : V} {u : Value} {Q : Unit → Shared → Prop} (I : Inv X pins σ H s) (hN : X.N.Nodup) (hi : X.N[i]? = some x) (hx : Loc X.env.scope x) (r : RelV v u)
    (h : ∀ s', Inv X pins (σ.set i (some v)) H s' → (∃ a, Heap.SameBut a s.heap s'.heap ∧ (a = X.env.locals ∨ X.env.cells.lookup x = some a)) → Q () s') (hf : X.fn x = true ∨ X.env.scope.names.lookup x = some .local := by first | exact .inl rfl | exact .inr rfl | assumption) : wpAny M A (storeName X.env x u) Q E s := by
  obtain ⟨m, hn, hl⟩ := id I.loc
  have hcls : (X.env.scope.kind == .class || (X.env.scope.kind == .module && X.env.locals != X.env.globals)) = false := by rw [I.ok.kind]; rfl
  have hiσ : i < σ.length := by rw [I.len]; exact (List.getElem?_eq_some_iff.mp hi).1
  have cne := I.cne
  have tracked : ∀ {a : Addr} {h' : Heap}, (∃ o, s.heap.get? a = some o ∧ H a = none) → Heap.SameBut a s.heap h' → HOk X.prog X.w H h' := fun {a h'} ha hs b ob e => by
    obtain ⟨_, _, hfree⟩ := ha
    refine (I.hok b ob e).stay (fun c w' hc q => (hs.2 c ?_).trans q) (fun _ q => q) fun _ _ q => q
    rintro rfl
    rcases hc with rfl | hc
    · rw [hfree] at e; cases e
    · rw [hfree] at hc; cases hc
  rcases hx with hk | hk
  · refine wpAny_storeName_local hk hn (fun h' hn' hs => ?_) hcls
    obtain ⟨oL, _, _, hoL, _⟩ := id hn
    refine h _ ⟨I.ok, I.os, I.bare, ⟨fun b o e n hb hx => ?_, fun b o e n hb hx => ?_, I.base.free, fun b o e hx => ?_, I.base.tups, I.base.frzs, I.base.tbls⟩, ⟨_, hn', fun j y v' e1 e2 e3 => ?_⟩, fun y c e => ?_, I.free, I.freeC, fun p hp => ?_, tracked ⟨oL, hoL, I.free⟩ hs, by simpa using I.len⟩ ⟨_, hs, .inl rfl⟩
    · exact (hs.2 b (Nat.ne_of_lt (Nat.lt_of_lt_of_le (Heap.lt_size e) I.ok.above))).trans (I.base.keep b o e n hb hx)
    · obtain ⟨sl, e1⟩ := I.base.slot b o e n hb hx
      exact ⟨sl, (hs.2 b (Nat.ne_of_lt (Nat.lt_of_lt_of_le (Heap.lt_size e) I.ok.above))).trans e1⟩
    · obtain ⟨o', e1⟩ := I.base.there b o e hx
      exact ⟨o', (hs.2 b (Nat.ne_of_lt (Nat.lt_of_lt_of_le (Heap.lt_size e) I.ok.above))).trans e1⟩
    · by_cases hj : j = i
      · subst hj
        rw [hi] at e1; cases e1
        rw [List.getElem?_set_self hiσ] at e2
        cases e2
        exact ⟨u, r, .inl ⟨hk, by simp⟩⟩
      · rw [List.getElem?_set_ne (Ne.symm hj)] at e2
        obtain ⟨u', r', q⟩ := hl j y v' e1 e2 e3
        refine ⟨u', r', ?_⟩
        rcases q with ⟨k, e⟩ | ⟨k, c, e, z⟩
        · refine .inl ⟨k, ?_⟩
          have : y ≠ x := fun e => hj (nodup_ix hN e1 (e ▸ hi))
          simp [this, e]
        · exact .inr ⟨k, c, e, z.sameBut hs (cne y c e)⟩
    · obtain ⟨w', z⟩ := I.cell y c e
      exact ⟨w', z.sameBut hs (cne y c e)⟩
    · obtain ⟨e, n, ne, nf, d⟩ := I.pin p hp
      exact ⟨(hs.2 p.1 ne).trans e, n, ne, nf, d⟩
  · have hfn : X.fn x = true := by
      rcases hf with z | z
      · exact z
      · rw [z] at hk; cases hk
    obtain ⟨c, hc⟩ := I.ok.has x (.inl hk)
    obtain ⟨w', z⟩ := I.cell x c hc
    refine wpAny_storeName_cell I.ok.kind hk hc z (fun h' hc' hs => ?_)
    obtain ⟨oc, hoc, hocd⟩ := id z
    refine h { s with heap := h' } ⟨I.ok, I.os, I.bare, ⟨fun b o e n hb hx => ?_, fun b o e n hb hx => ?_, I.base.free, fun b o e hx => ?_, I.base.tups, I.base.frzs, I.base.tbls⟩, ⟨m, hn.sameBut hs (Ne.symm (cne x c hc)), fun j y v' e1 e2 e3 => ?_⟩, fun y c' e => ?_, I.free, I.freeC, fun p hp => ?_, tracked ⟨oc, hoc, I.freeC x c hc⟩ hs, by simpa using I.len⟩ ⟨c, hs, .inr hc⟩
    · exact (hs.2 b (Nat.ne_of_lt (Nat.lt_of_lt_of_le (Heap.lt_size e) (I.ok.cab x c hfn hc)))).trans (I.base.keep b o e n hb hx)
    · obtain ⟨sl, e1⟩ := I.base.slot b o e n hb hx
      exact ⟨sl, (hs.2 b (Nat.ne_of_lt (Nat.lt_of_lt_of_le (Heap.lt_size e) (I.ok.cab x c hfn hc)))).trans e1⟩
    · obtain ⟨o', e1⟩ := I.base.there b o e hx
      exact ⟨o', (hs.2 b (Nat.ne_of_lt (Nat.lt_of_lt_of_le (Heap.lt_size e) (I.ok.cab x c hfn hc)))).trans e1⟩
    · by_cases hj : j = i
      · subst hj
        rw [hi] at e1; cases e1
        rw [List.getElem?_set_self hiσ] at e2
        cases e2
        exact ⟨u, r, .inr ⟨.inl hk, c, hc, hc'⟩⟩
      · rw [List.getElem?_set_ne (Ne.symm hj)] at e2
        obtain ⟨u', r', q⟩ := hl j y v' e1 e2 e3
        refine ⟨u', r', ?_⟩
        rcases q with q | ⟨k, c', e, z'⟩
        · exact .inl q
        · refine .inr ⟨k, c', e, z'.sameBut hs ?_⟩
          rintro rfl
          exact hj (nodup_ix hN e1 (I.ok.inj _ _ _ e hc ▸ hi))
    · by_cases hcc : c' = c
      · subst hcc; exact ⟨_, hc'⟩
      · obtain ⟨w2, z2⟩ := I.cell y c' e
        exact ⟨w2, z2.sameBut hs hcc⟩
    · obtain ⟨e, n, ne, nf, d⟩ := I.pin p hp
      refine ⟨(hs.2 p.1 ?_).trans e, n, ne, nf, d⟩
      intro q
      rw [q, hoc] at e
      have q' : oc = p.2 := Option.some.inj e
      exact d w' (by rw [← q']; exact hocd)
theorem store_ok {M : Model} {A : Around} {E : Value → Shared → Prop} {i : Nat} {x : Str} {v : V} {u : Value} {Q : Unit → Shared → Prop} (I : Inv X pins σ H s) (hN : X.N.Nodup) (hi : X.N[i]? = some x) (hx : Loc X.env.scope x) (r : RelV v u)
    (h : ∀ s', Inv X pins (σ.set i (some v)) H s' → Q () s') (hf : X.fn x = true ∨ X.env.scope.names.lookup x = some .local := by first | exact .inl rfl | exact .inr rfl | assumption) : wpAny M A (storeName X.env x u) Q E s :=
  store_ok2 I hN hi hx r (fun s' I' _ => h s' I') hf
theorem Inv.call' {s' : Shared} {ch : List Addr} (I : Inv X pins σ H s) (ho : s'.os = s.os) (u : Un (frs X.stack) ch H H' s.heap s'.heap) (hok : HOk X.prog X.w H' s'.heap) (hg : AllBare s'.gens)
    (hch : ∀ b ∈ ch, (b ∈ X.ex ∨ X.s₀.heap.objs.size ≤ b) ∧ b ≠ X.env.locals ∧ (∀ x c, X.env.cells.lookup x = some c → c ≠ b) ∧ ∀ p ∈ X.pn ++ pins, p.1 ≠ b) : Inv X pins σ H' s' := by
  obtain ⟨h', g', d', t', o'⟩ := s'
  have e : o' = s.os := ho
  subst e
  exact I.call (g' := g') (t' := t') (d' := d') u hok hg hch
end
abbrev XK := Value → Option Addr → Hp → Prop
abbrev St := List (Option V)
abbrev VK := V → Hp → Prop
abbrev TE := St → Hp → VK → Prop
abbrev TT := St → Hp → (Bool → Hp → Prop) → Prop
abbrev TA := St → Hp → (List V → Hp → Prop) → Prop
structure Ends where
  nx : St → Hp → Prop
  rt : VK
  bk : St → Hp → Prop := fun _ _ => False
  ct : St → Hp → Prop := fun _ _ => False
abbrev TS := Ends → St → Hp → Prop
def EP (X : Cx) (pins : List (Addr × Obj)) (σ : St) (Q : VK) (u : Value) (s' : Shared) : Prop := ∃ v H', Inv X pins σ H' s' ∧ RelV v u ∧ Q v H'
def TP (X : Cx) (pins : List (Addr × Obj)) (σ : St) (Q : Bool → Hp → Prop) (b : Bool) (s' : Shared) : Prop := ∃ H', Inv X pins σ H' s' ∧ Q b H'
def AP (X : Cx) (pins : List (Addr × Obj)) (σ : St) (Q : List V → Hp → Prop) (us : List Value) (s' : Shared) : Prop := ∃ vs H', Inv X pins σ H' s' ∧ Vals vs us ∧ Q vs H'
def SP (X : Cx) (pins : List (Addr × Obj)) (D : Ends) (f : Flow) (s' : Shared) : Prop :=
  match f with
  | .next => ∃ σ' H', Inv X pins σ' H' s' ∧ D.nx σ' H'
  | .brk => ∃ σ' H', Inv X pins σ' H' s' ∧ D.bk σ' H'
  | .cont => ∃ σ' H', Inv X pins σ' H' s' ∧ D.ct σ' H'
  | .ret u => ∃ v σ' H', Inv X pins σ' H' s' ∧ RelV v u ∧ D.rt v H'
def PE (X : Cx) (e : Expr) (t : TE) : Prop :=
  ∀ (pins : List (Addr × Obj)) (s : Shared) (σ : St) (H : Hp) (Q : VK), Inv X pins σ H s → t σ H Q → wpAny (model X.prog X.w) X.A (eval e X.env) (EP X pins σ Q) X.xe s
def PT (X : Cx) (e : Expr) (t : TT) : Prop :=
  ∀ (pins : List (Addr × Obj)) (s : Shared) (σ : St) (H : Hp) (Q : Bool → Hp → Prop), Inv X pins σ H s → t σ H Q → wpAny (model X.prog X.w) X.A (isTrue e X.env (eval e X.env)) (TP X pins σ Q) X.xe s
def PW (X : Cx) (e : Expr) (t : TT) : Prop :=
  ∀ (whole : Sem Value) (pins : List (Addr × Obj)) (s : Shared) (σ : St) (H : Hp) (Q : Bool → Hp → Prop), Inv X pins σ H s → t σ H Q → wpAny (model X.prog X.w) X.A (isTrue e X.env whole) (TP X pins σ Q) X.xe s
theorem PW.pt {X : Cx} {e : Expr} {t : TT} (h : PW X e t) : PT X e t := h _
def PA (X : Cx) (es : List Expr) (t : TA) : Prop :=
  ∀ (pos : Pos) (pins : List (Addr × Obj)) (s : Shared) (σ : St) (H : Hp) (Q : List V → Hp → Prop), Inv X pins σ H s → t σ H Q → wpAny (model X.prog X.w) X.A (spliced (backTo pos (starEach es X.env))) (AP X pins σ Q) X.xe s
def PS (X : Cx) (st : Stmt) (t : TS) : Prop :=
  ∀ (pins : List (Addr × Obj)) (s : Shared) (σ : St) (H : Hp) (D : Ends), Inv X pins σ H s → t D σ H → wpAny (model X.prog X.w) X.A (exec st X.env) (SP X pins D) X.xe s
def PSs (X : Cx) (st : List Stmt) (t : TS) : Prop :=
  ∀ (pins : List (Addr × Obj)) (s : Shared) (σ : St) (H : Hp) (D : Ends), Inv X pins σ H s → t D σ H → wpAny (model X.prog X.w) X.A (execs st X.env) (SP X pins D) X.xe s
theorem thn {α : Type} {t : Sem α} {Q Q' : α → Shared → Prop} {M : Model} {A : Around} {E : Value → Shared → Prop} {s : Shared} (h : wpAny M A t Q E s) (hQ : ∀ a s, Q a s → Q' a s) : wpAny M A t Q' E s := wpAny_mono h hQ fun _ _ x => x
end L2
namespace L2
open PySem PySem.Spec PyProof.Rows
section
variable {X : Cx}
def tVar (i : Nat) : TE := fun σ H Q => ∃ v, σ[i]? = some (some v) ∧ Q v H
def tC (v : V) : TE := fun _ H Q => Q v H
theorem pe_var {i : Nat} {x : Str} {pos : Pos} (hN : X.N[i]? = some x) (hv : Vis X.env.scope x) (hd : (x == ("__debug__" : Str)) = false := by decide) (hcd : (x == ("__classdict__" : Str)) = false := by decide) : PE X (.Name x pos) (tVar i) := by
  intro pins s σ H Q I h
  obtain ⟨v, e, h⟩ := h
  obtain ⟨m, hn, hl⟩ := I.loc
  obtain ⟨u, r, l⟩ := hl i x v hN e hv
  have fin : EP X pins σ Q u s := ⟨v, H, I, r, h⟩
  rcases l with ⟨hk, hm⟩ | ⟨hk, c, hc, hcell⟩
  · exact wpAny_Name (wpAny_loadName_local I.ok.kind hk hn hm fin) hd
  · rcases hk with hk | hk
    · exact wpAny_Name (wpAny_loadName_cell I.ok.kind hk hc hcell fin) hd
    · exact wpAny_Name (wpAny_loadName_free I.ok.kind hk hc hcell fin hcd) hd
theorem pe_int {i j pos} : PE X (.Constant (.int i) j pos) (tC (.int i)) := fun _ _ _ H _ I h => wpAny_Constant_int ⟨.int i, H, I.tok _, ⟨_, rfl⟩, h⟩
theorem pe_bl {b j pos} : PE X (.Constant (.bool b) j pos) (tC (.bl b)) := fun _ _ _ H _ I h => Constant_bool ⟨.bl b, H, I, rfl, h⟩
theorem pe_str {x j pos} : PE X (.Constant (.str x) j pos) (tC (.str x)) := fun _ _ _ H _ I h => Calls.Constant_str ⟨.str x, H, I.tok _, ⟨_, rfl⟩, h⟩
def Gl (X : Cx) (x : Str) : Prop := X.env.kindOf x = some .globalImplicit
theorem ld_glob {E : Value → Shared → Prop} {pins : List (Addr × Obj)} {s : Shared} {σ : St} {H : Hp} {x : Str} {u : Value} {pos : Pos} {Q : Value → Shared → Prop} (I : Inv X pins σ H s) (hg : Gl X x) (hm : X.mg x = some u) (h : Q u s)
    (hd : (x == ("__debug__" : Str)) = false := by decide) : wpAny (model X.prog X.w) X.A (eval (.Name x pos) X.env) Q E s :=
  Calls.Name_function_global I.ok.kind hg (Calls.loadGlobal_global (by rw [I.ok.glob]; exact I.mod.glob.keeps I.bk) hm h) hd
theorem ld_blt {E : Value → Shared → Prop} {pins : List (Addr × Obj)} {s : Shared} {σ : St} {H : Hp} {x : Str} {u : Value} {pos : Pos} {Q : Value → Shared → Prop} (I : Inv X pins σ H s) (hg : Gl X x) (hm : X.mg x = none) (hv : bootBuiltins x = some u) (h : Q u s)
    (hn : x ≠ "__name__" := by decide) (hd : (x == ("__debug__" : Str)) = false := by decide) : wpAny (model X.prog X.w) X.A (eval (.Name x pos) X.env) Q E s := by
  obtain ⟨mb, h1, h2⟩ := I.mod.blt
  exact Calls.Name_function_global I.ok.kind hg (Calls.loadGlobal_builtin (by rw [I.ok.glob]; exact I.mod.glob.keeps I.bk) hm (by rw [I.ok.blt]; exact h1.keeps I.bk) ((h2 x hn).trans hv) h) hd
theorem pe_glob {x : Str} {v : V} {u : Value} {pos : Pos} (hg : Gl X x) (hm : X.mg x = some u) (r : RelV v u) (hd : (x == ("__debug__" : Str)) = false := by decide) : PE X (.Name x pos) (tC v) :=
  fun _ _ _ H _ I h => ld_glob I hg hm ⟨v, H, I, r, h⟩ hd
theorem pe_bltn {x : Str} {v : V} {u : Value} {pos : Pos} (hg : Gl X x) (hm : X.mg x = none) (hv : bootBuiltins x = some u) (r : RelV v u) (hn : x ≠ "__name__" := by decide) (hd : (x == ("__debug__" : Str)) = false := by decide) : PE X (.Name x pos) (tC v) :=
  fun _ _ _ H _ I h => ld_blt I hg hm hv ⟨v, H, I, r, h⟩ hn hd
variable {a b : Expr} {ta tb : TE} {pos : Pos}
def tB (t : TE) : TT := fun σ H Q => t σ H fun x H1 => ∃ c, x = .bl c ∧ Q c H1
theorem pt_val {e : Expr} {t : TE} (h : PE X e t) (he : ∀ whole, isTrue e X.env whole = (do let v ← whole; standAt e.pos; holding [v] (truthy v)) := by intro _; rfl) : PT X e (tB t) := by
  intro pins s σ H Q I hw
  refine isTrue_plain (thn (h pins s σ H _ I hw) fun v s1 ⟨x, H1, I1, r1, q1⟩ => ?_) (he _)
  obtain ⟨d, rfl, q⟩ := q1
  cases r1
  exact wpAny_truthy_bool ⟨H1, I1, q⟩
variable {tA tB' : TT} {rest : List Expr}
def tOr (t u : TT) : TT := fun σ H Q => t σ H fun c H1 => if c = true then Q true H1 else u σ H1 Q
def tNot (t : TT) : TT := fun σ H Q => t σ H fun c H1 => Q (!c) H1
theorem pw_and1 (ha : PT X a tA) : PW X (.BoolOp .And [a] pos) tA := by
  intro wh pins s σ H Q I h
  refine isTrue_and (thn (ha pins s σ H Q I h) fun c s1 e => ?_)
  cases c with
  | true => exact isTrue_and_nil e
  | false => exact e
theorem pw_or1 (ha : PT X a tA) : PW X (.BoolOp .Or [a] pos) tA := by
  intro wh pins s σ H Q I h
  refine isTrue_or (thn (ha pins s σ H Q I h) fun c s1 e => ?_)
  cases c with
  | false => exact isTrue_or_nil e
  | true => exact e
theorem pw_or (ha : PT X a tA) (hb : PW X (.BoolOp .Or (b :: rest) pos) tB') : PW X (.BoolOp .Or (a :: b :: rest) pos) (tOr tA tB') := by
  intro wh pins s σ H Q I h
  refine isTrue_or (thn (ha pins s σ H _ I h) fun c s1 ⟨H1, I1, q1⟩ => ?_)
  cases c with
  | true => exact ⟨H1, I1, q1⟩
  | false => exact hb wh pins s1 σ H1 Q I1 q1
theorem pt_not (ha : PT X a tA) : PT X (.UnaryOp .Not a pos) (tNot tA) := by
  intro pins s σ H Q I h
  exact isTrue_not (ha pins s σ H (fun c H1 => Q (!c) H1) I h)
def tAndV (ta tb : TE) : TE := fun σ H Q => ta σ H fun x H1 => ∃ c, x = .bl c ∧ if c = true then tb σ H1 Q else Q (.bl false) H1
def tNotV (ta : TE) : TE := fun σ H Q => ta σ H fun x H1 => ∃ c, x = .bl c ∧ Q (.bl (!c)) H1
theorem pe_one {op} {t : TE} (h : PE X a t) : PE X (.BoolOp op [a] pos) t := fun pins s σ H Q I hw => BoolOp_one (h pins s σ H Q I hw)
theorem pe_and (ha : PE X a ta) (hb : PE X (.BoolOp .And (b :: rest) pos) tb) : PE X (.BoolOp .And (a :: b :: rest) pos) (tAndV ta tb) := by
  intro pins s σ H Q I h
  refine BoolOp_and (thn (ha pins s σ H _ I h) fun v s1 ⟨x, H1, I1, r1, q1⟩ => ?_)
  obtain ⟨c, rfl, q1⟩ := q1
  cases r1
  refine wpAny_truthy_bool ?_
  cases c with
  | true => exact hb pins s1 σ H1 Q I1 q1
  | false => exact ⟨.bl false, H1, I1, rfl, q1⟩
theorem pe_not (ha : PE X a ta) : PE X (.UnaryOp .Not a pos) (tNotV ta) := by
  intro pins s σ H Q I h
  refine UnaryOp_ (thn (ha pins s σ H _ I h) fun v s1 ⟨x, H1, I1, r1, q1⟩ => ?_)
  obtain ⟨c, rfl, q1⟩ := q1
  cases r1
  exact not_of (wpAny_truthy_bool ⟨.bl (!c), H1, I1, rfl, q1⟩)
def tIf (t : TT) (ta tb : TE) : TE := fun σ H Q => t σ H fun c H1 => if c = true then ta σ H1 Q else tb σ H1 Q
theorem pe_ifExp {c : Expr} (hc : PT X c tA) (ha : PE X a ta) (hb : PE X b tb) : PE X (.IfExp c a b pos) (tIf tA ta tb) := by
  intro pins s σ H Q I h
  refine wpAny_IfExp (thn (hc pins s σ H _ I h) fun d s1 ⟨H1, I1, q1⟩ => ?_)
  cases d with
  | true => exact ha pins s1 σ H1 Q I1 q1
  | false => exact hb pins s1 σ H1 Q I1 q1
end
end L2
namespace L2
open PySem PySem.Spec PyProof.Rows
def SqL (K : PySem.W.Frag) (H : Hp) (a : Addr) (xs : List V) : Prop :=
  Rd H a (.lst xs) ∨
    ∃ (o : Obj) (its : Array Value) (n : Nat), K.lookup a = some o ∧ o.cls = .type "list" ∧ o.dict = none ∧ o.data = .seq its n ∧ its.size ≤ sizeLine ∧ Vals xs its.toList
def SqT (K : PySem.W.Frag) (H : Hp) (a : Addr) (xs : List V) : Prop :=
  Rd H a (.tup xs) ∨
    ∃ (o : Obj) (its : Array Value) (n : Nat), K.lookup a = some o ∧ o.cls = .type "tuple" ∧ o.data = .seq its n ∧ its.size ≤ sizeLine ∧ Vals xs its.toList
def absV : Value → Option V
  | .none => some .non
  | .bool b => some (.bl b)
  | .int i _ => some (.int i)
  | .str x _ => some (.str x)
  | .bytes b _ => some (.byt b)
  | .float b _ => some (.flt b)
  | .ref a => some (.ref a)
  | .type n => some (.ty n)
  | _ => none
theorem RelV.abs {x : V} {u : Value} (r : RelV x u) : absV u = some x := by
  cases x with
  | non => cases r; rfl
  | bl _ => cases r; rfl
  | int _ => obtain ⟨t, rfl⟩ := r; rfl
  | str _ => obtain ⟨t, rfl⟩ := r; rfl
  | byt _ => obtain ⟨t, rfl⟩ := r; rfl
  | flt _ => obtain ⟨t, rfl⟩ := r; rfl
  | ref _ => cases r; rfl
  | ty _ => cases r; rfl
theorem RelV.inj {x y : V} {u : Value} (r : RelV x u) (q : RelV y u) : x = y := Option.some.inj (r.abs.symm.trans q.abs)
theorem Vals.inj : ∀ {xs ys : List V} {us : List Value}, Vals xs us → Vals ys us → xs = ys
  | _, _, _, .nil, .nil => rfl
  | _, _, _, .cons r t, .cons r' t' => by rw [r.inj r', Vals.inj t t']
section
variable {X : Cx} {pins : List (Addr × Obj)} {σ : St} {H : Hp} {s : Shared} {a : Addr} {xs ys : List V}
theorem SqL.of {K : PySem.W.Frag} (h : H a = some (.lst xs)) : SqL K H a xs := .inl (.inl h)
theorem Inv.list (I : Inv X pins σ H s) (h : SqL X.K H a xs) : ∃ its : List Value, Vals xs its ∧ PlainL s.heap a its.toArray ∧ xs.length ≤ sizeLine := by
  rcases h with h | ⟨o, its, n, hk, hc, hd, hs, hz, r⟩
  · obtain ⟨z, its, n, r, e⟩ := h.ok I.hok
    exact ⟨its, r, ⟨_, n, e, rfl, rfl, rfl⟩, z⟩
  · refine ⟨its.toList, r, ⟨o, n, I.kIn a o hk, hc, hd, by simpa using hs⟩, ?_⟩
    have e := r.length
    simp only [Array.length_toList] at e
    omega
theorem Inv.tuple (I : Inv X pins σ H s) (h : SqT X.K H a xs) : ∃ its : List Value, Vals xs its ∧ IsTup s.heap a its.toArray ∧ xs.length ≤ sizeLine := by
  rcases h with h | ⟨o, its, n, hk, hc, hs, hz, r⟩
  · obtain ⟨z, its, r, p⟩ := h.ok I.hok
    exact ⟨its, r, p, z⟩
  · refine ⟨its.toList, r, ⟨o, I.kIn a o hk, hc, n, by simpa using hs⟩, ?_⟩
    have e := r.length
    simp only [Array.length_toList] at e
    omega
theorem Inv.list_inj (I : Inv X pins σ H s) (h : SqL X.K H a xs) (h' : SqL X.K H a ys) : xs = ys := by
  obtain ⟨its, r, ⟨o, n, e, _, _, d⟩, _⟩ := I.list h
  obtain ⟨its', r', ⟨o', n', e', _, _, d'⟩, _⟩ := I.list h'
  rw [e] at e'; cases e'
  rw [d] at d'
  injection d' with d1 _
  have : its = its' := by simpa using congrArg Array.toList d1
  subst this
  exact r.inj r'
end
abbrev Cx.wish (X : Cx) (E : Value → Shared → Prop) : Cx := { X with xe := E }
abbrev Cx.nox (X : Cx) : Cx := X.wish fun _ _ => False
theorem Cx.Ok.wish {X : Cx} (ok : X.Ok) (E : Value → Shared → Prop) : (X.wish E).Ok :=
  ⟨ok.mod, ok.kind, ok.glob, ok.blt, ok.above, ok.inj, ok.has, ok.cab, ok.hd, ok.frames, ok.stk, ok.exf, ok.bs, ok.bsz, ok.noex, ok.exfs, ok.funs, ok.frf⟩
theorem Cx.Ok.unwish {X : Cx} {E : Value → Shared → Prop} (ok : (X.wish E).Ok) : X.Ok :=
  ⟨ok.mod, ok.kind, ok.glob, ok.blt, ok.above, ok.inj, ok.has, ok.cab, ok.hd, ok.frames, ok.stk, ok.exf, ok.bs, ok.bsz, ok.noex, ok.exfs, ok.funs, ok.frf⟩
section
variable {X : Cx} {pins : List (Addr × Obj)} {σ : St} {H : Hp} {s : Shared} {E : Value → Shared → Prop}
theorem Inv.wish (I : Inv X pins σ H s) (E : Value → Shared → Prop) : Inv (X.wish E) pins σ H s := ⟨I.ok.wish E, I.os, I.bare, I.base, I.loc, I.cell, I.free, I.freeC, I.pin, I.hok, I.len⟩
theorem Inv.unwish (I : Inv (X.wish E) pins σ H s) : Inv X pins σ H s := ⟨I.ok.unwish, I.os, I.bare, I.base, I.loc, I.cell, I.free, I.freeC, I.pin, I.hok, I.len⟩
theorem SP.unwish {D : Ends} {f : Flow} {s' : Shared} (h : SP (X.wish E) pins D f s') : SP X pins D f s' := by
  cases f with
  | next => obtain ⟨σ', H', I, q⟩ := h; exact ⟨σ', H', I.unwish, q⟩
  | brk => obtain ⟨σ', H', I, q⟩ := h; exact ⟨σ', H', I.unwish, q⟩
  | cont => obtain ⟨σ', H', I, q⟩ := h; exact ⟨σ', H', I.unwish, q⟩
  | ret u => obtain ⟨v, σ', H', I, r, q⟩ := h; exact ⟨v, σ', H', I.unwish, r, q⟩
theorem PE.nox {e : Expr} {t : TE} (h : PE X.nox e t) : PE X e t := fun pins s σ H Q I hw =>
  wpAny_mono (h pins s σ H Q (I.wish _) hw) (fun _ _ ⟨v, H', I', r, q⟩ => ⟨v, H', I'.unwish, r, q⟩) fun _ _ z => False.elim z
theorem PT.nox {e : Expr} {t : TT} (h : PT X.nox e t) : PT X e t := fun pins s σ H Q I hw =>
  wpAny_mono (h pins s σ H Q (I.wish _) hw) (fun _ _ ⟨H', I', q⟩ => ⟨H', I'.unwish, q⟩) fun _ _ z => False.elim z
theorem PSs.nox {st : List Stmt} {t : TS} (h : PSs X.nox st t) : PSs X st t := fun pins s σ H D I hw =>
  wpAny_mono (h pins s σ H D (I.wish _) hw) (fun _ _ q => q.unwish) fun _ _ z => False.elim z
end
section
variable {X : Cx} {st : Stmt} {rest : List Stmt} {t u : TS} {e : Expr} {te : TE} {pos : Pos}
def tNext : TS := fun D σ H => D.nx σ H
def tSeq (t u : TS) : TS := fun D σ H => t { D with nx := u D } σ H
theorem pss_nil : PSs X [] tNext := fun _ _ σ H _ I h => wpAny_execs_nil ⟨σ, H, I, h⟩
theorem pss_cons (h1 : PS X st t) (h2 : PSs X rest u) : PSs X (st :: rest) (tSeq t u) := by
  intro pins s σ H D I h
  refine wpAny_execs_cons (thn (h1 pins s σ H { D with nx := u D } I h) fun f s1 q => ?_)
  cases f with
  | next =>
    obtain ⟨σ', H', I', q⟩ := q
    exact h2 pins s1 σ' H' D I' q
  | ret v => exact q
  | brk => exact q
  | cont => exact q
theorem pss_one (h1 : PS X st t) : PSs X [st] t := by
  intro pins s σ H D I h
  refine wpAny_execs_cons (thn (h1 pins s σ H D I h) fun f s1 q => ?_)
  cases f with
  | next => exact wpAny_execs_nil q
  | ret v => exact q
  | brk => exact q
  | cont => exact q
theorem Inv.quiet {pins : List (Addr × Obj)} {σ : St} {H : Hp} {s : Shared} (I : Inv X pins σ H s) : interactive X.env = false := by simp [interactive, I.ok.kind]
def tDrop (te : TE) : TS := fun D σ H => te σ H fun _ H1 => D.nx σ H1
theorem ps_expr (he : PE X e te) (hs : swapsWith e none pos.line X.env = pure false := by rfl) : PS X (.Expr e pos) (tDrop te) := by
  intro pins s σ H D I h
  exact wpAny_Expr_any (thn (he pins s σ H _ I h) fun v s1 ⟨x, H1, I1, r1, q1⟩ => ⟨σ, H1, I1, q1⟩) I.quiet hs
def tRet (te : TE) : TS := fun D σ H => te σ H D.rt
theorem ps_ret (he : PE X e te) : PS X (.Return (some e) pos) (tRet te) := by
  intro pins s σ H D I h
  exact wpAny_Return_some (thn (he pins s σ H _ I h) fun v s1 ⟨x, H1, I1, r1, q1⟩ => ⟨x, σ, H1, I1, r1, q1⟩)
def tIfS (c : TT) (t u : TS) : TS := fun D σ H => c σ H fun b H1 => if b = true then t D σ H1 else u D σ H1
theorem ps_if {c : Expr} {a b : List Stmt} {tc : TT} (hc : PT X c tc) (ha : PSs X a t) (hb : PSs X b u) : PS X (.If c a b pos) (tIfS tc t u) := by
  intro pins s σ H D I h
  refine wpAny_If (thn (hc pins s σ H _ I h) fun d s1 ⟨H1, I1, q1⟩ => ?_)
  cases d with
  | true => exact ha pins s1 σ H1 D I1 q1
  | false => exact hb pins s1 σ H1 D I1 q1
end
abbrev TG := V → St → Hp → (St → Hp → Prop) → Prop
abbrev TGs := List V → St → Hp → (St → Hp → Prop) → Prop
def PG (X : Cx) (target : Expr) (t : TG) : Prop :=
  ∀ (pins : List (Addr × Obj)) (s : Shared) (σ : St) (H : Hp) (v : V) (u : Value) (Q : St → Hp → Prop), Inv X pins σ H s → RelV v u → t v σ H Q →
    wpAny (model X.prog X.w) X.A (assign target X.env u) (fun _ s' => ∃ σ' H', Inv X pins σ' H' s' ∧ Q σ' H') X.xe s
def PGs (X : Cx) (ts : List Expr) (t : TGs) : Prop :=
  ∀ (pins : List (Addr × Obj)) (s : Shared) (σ : St) (H : Hp) (vs : List V) (us : List Value) (Q : St → Hp → Prop), Inv X pins σ H s → Vals vs us → t vs σ H Q →
    wpAny (model X.prog X.w) X.A (assignInOrder ((assignEach ts X.env).map (·.2)) us) (fun _ s' => ∃ σ' H', Inv X pins σ' H' s' ∧ Q σ' H') X.xe s
section
variable {X : Cx} {pos : Pos}
def gName (i : Nat) : TG := fun v σ H Q => Q (σ.set i (some v)) H
theorem pg_name {i : Nat} {x : Str} (hN : X.N.Nodup) (hi : X.N[i]? = some x) (hx : Loc X.env.scope x) (hf : X.fn x = true ∨ X.env.scope.names.lookup x = some .local := by first | exact .inl rfl | exact .inr rfl | assumption) : PG X (.Name x pos) (gName i) := by
  intro pins s σ H v u Q I r h
  exact wpAny_assign_Name (store_ok I hN hi hx r (fun s' I' => ⟨_, H, I', h⟩) hf)
def gNil : TGs := fun vs σ H Q => vs = [] ∧ Q σ H
def gCons (t : TG) (u : TGs) : TGs := fun vs σ H Q => ∃ v r, vs = v :: r ∧ t v σ H fun σ' H' => u r σ' H' Q
theorem pgs_nil : PGs X [] gNil := by
  intro pins s σ H vs us Q I r h
  obtain ⟨e, h⟩ := h
  subst e
  cases r
  exact assignInOrder_nil ⟨σ, H, I, h⟩
theorem pgs_cons {e : Expr} {es : List Expr} {t : TG} {u : TGs} (h1 : PG X e t) (h2 : PGs X es u)
    (hs : (assignEach (e :: es) X.env).map (·.2) = assign e X.env :: (assignEach es X.env).map (·.2) := by rfl) : PGs X (e :: es) (gCons t u) := by
  intro pins s σ H vs us Q I r h
  obtain ⟨v, vr, e1, h⟩ := h
  subst e1
  cases r with
  | cons r rr =>
    rw [hs]
    refine assignInOrder_cons (thn (h1 pins s σ H _ _ _ I r h) fun _ s1 ⟨σ1, H1, I1, q1⟩ => ?_)
    exact h2 pins s1 σ1 H1 _ _ Q I1 rr q1
def gTup (K : PySem.W.Frag) (n : Nat) (t : TGs) : TG := fun v σ H Q => ∃ a xs, v = .ref a ∧ SqT K H a xs ∧ xs.length = n ∧ t xs σ H Q
theorem pg_tup {es : List Expr} {k : Nat} {t : TGs} {n : Nat} (hc : X.calm = true) (h : PGs X es t)
    (hn : (assignEach es X.env).length = n := by rfl) (hst : (assignEach es X.env).findIdx? (·.1) = none := by rfl) : PG X (.Tuple es k pos) (gTup X.K n t) := by
  intro pins s σ H v u Q I r hw
  obtain ⟨a, xs, e1, hq, hl, hw⟩ := hw
  subst e1
  cases r
  obtain ⟨its, rv, ht, hz⟩ := I.tuple hq
  refine assign_Tuple_tuple (I.ok.hd hc) ht (by simp [hn, ← hl, rv.length]) hst fun h' hx => ?_
  have I1 : Inv X pins σ H { s with heap := h' } := I.kept (t' := s.toks) fun b o e => hx b o (Nat.ne_of_lt (Heap.lt_size e)) e
  exact h pins _ σ H xs _ Q I1 (by simpa using rv) hw
def tAsg (te : TE) (g : TG) : TS := fun D σ H => te σ H fun x H1 => g x σ H1 D.nx
theorem ps_set {i : Nat} {x : Str} {e : Expr} {te : TE} {pos' : Pos} (hN : X.N.Nodup) (hi : X.N[i]? = some x) (hx : Loc X.env.scope x) (he : PE X e te) (hs : swapsWith e (some (.Name x pos')) pos.line X.env = pure false := by rfl) (hf : X.fn x = true ∨ X.env.scope.names.lookup x = some .local := by first | exact .inl rfl | exact .inr rfl | assumption) :
    PS X (.Assign [.Name x pos'] e pos) (tAsg te (gName i)) := by
  intro pins s σ H D I h
  refine wpAny_Assign_Name (thn (he pins s σ H _ I h) fun v s1 ⟨y, H1, I1, r1, q1⟩ => ?_) hs
  exact store_ok I1 hN hi hx r1 (fun s2 I2 => ⟨_, H1, I2, q1⟩) hf
end
section
variable {X : Cx} {pos : Pos}
end
structure It where
  go : Nat → Hp → Prop
  yld : Nat → Hp → V → Hp → Prop
  stop : Nat → Hp → Prop
def FpOk (X : Cx) (pins : List (Addr × Obj)) (H : Hp) (b : Addr) : Prop :=
  H b = none ∧ b ≠ X.env.locals ∧ b ∉ X.fs ∧ (b ∈ X.ex ∨ X.s₀.heap.objs.size ≤ b) ∧ (∀ x c, X.env.cells.lookup x = some c → c ≠ b) ∧ ∀ p ∈ X.pn ++ pins, p.1 ≠ b
theorem Inv.fpOk {X : Cx} {pins : List (Addr × Obj)} {σ : St} {H H' : Hp} {s : Shared} {b : Addr} (I : Inv X pins σ H s) (hb : s.heap.objs.size ≤ b) (hn : H' b = none) : FpOk X pins H' b := by
  refine ⟨hn, Nat.ne_of_gt (Nat.lt_of_lt_of_le I.lt hb), I.nofs hb, .inr (Nat.le_trans I.sz hb), fun x c e z => ?_, fun p hp z => ?_⟩
  · obtain ⟨v, q⟩ := I.cell x c e
    exact absurd (Nat.lt_of_lt_of_le q.lt (by rw [z]; exact hb)) (Nat.lt_irrefl _)
  · exact absurd (Nat.lt_of_lt_of_le (Heap.lt_size (I.pin p hp).1) (by rw [z]; exact hb)) (Nat.lt_irrefl _)
structure Turn (P : Program) (w : World) (K : PySem.W.Frag) (tg : Expr) (J : It) (fp : List Addr) (it : Addr) (tn : Nat → Heap → Prop) : Prop where
  mem : it ∈ fp
  obj : ∀ i h, tn i h → ∀ b ∈ fp, ∃ o, h.get? b = some o ∧ ∀ v, o.data ≠ .cell v
  keep : ∀ i h h', tn i h → (∀ b ∈ fp, ∀ o, h.get? b = some o → h'.get? b = some o) → tn i h'
  item : ∀ (X : Cx), X.prog = P → X.w = w → X.K = K → X.calm = true → ∀ (i : Nat) (pins : List (Addr × Obj)) (s : Shared) (σ : St) (H : Hp) (E : Value → Shared → Prop), Inv X pins σ H s → (∀ b ∈ fp, FpOk X pins H b) → tn i s.heap → J.go i H →
    wpAny (model P w) X.A (pyNext (.ref it)) (fun r s1 => ∃ u, r = some u ∧
      wpAny (model P w) X.A (letOwnedTupleGo tg (.ref it) u) (fun _ s2 => ∃ x H', Inv X pins σ H' s2 ∧ RelV x u ∧ J.yld i H x H' ∧ tn (i + 1) s2.heap ∧ ∀ b ∈ fp, H' b = none) E s1) E s
  done : ∀ (X : Cx), X.prog = P → X.w = w → X.K = K → X.calm = true → ∀ (i : Nat) (pins : List (Addr × Obj)) (s : Shared) (σ : St) (H : Hp) (E : Value → Shared → Prop), Inv X pins σ H s → (∀ b ∈ fp, FpOk X pins H b) → tn i s.heap → J.stop i H →
    wpAny (model P w) X.A (pyNext (.ref it)) (fun r s1 => r = none ∧ Inv X pins σ H s1) E s
  self : ∀ (A : Around) (i : Nat) (s : Shared) (Q : Value → Shared → Prop) (E : Value → Shared → Prop), tn i s.heap → Q (.ref it) s → wpAny (model P w) A (pyIter (.ref it)) Q E s
abbrev TI := St → Hp → (It → Hp → Prop) → Prop
def PIE (X : Cx) (pins : List (Addr × Obj)) (σ : St) (tg : Expr) (R : It → Hp → Prop) (itv : Value) (s2 : Shared) : Prop :=
  ∃ (it : Addr) (fp : List Addr) (tn : Nat → Heap → Prop) (J : It) (H' : Hp), itv = .ref it ∧ Inv X pins σ H' s2 ∧ Turn X.prog X.w X.K tg J fp it tn ∧ tn 0 s2.heap ∧ (∀ b ∈ fp, FpOk X pins H' b) ∧ R J H'
def PI (X : Cx) (tg iter : Expr) (wi : TI) : Prop :=
  ∀ (pins : List (Addr × Obj)) (s : Shared) (σ : St) (H : Hp) (R : It → Hp → Prop), Inv X pins σ H s → wi σ H R →
    wpAny (model X.prog X.w) X.A (eval iter X.env) (fun v s1 => wpAny (model X.prog X.w) X.A (pyIter v) (PIE X pins σ tg R) X.xe s1) X.xe s
theorem go_of {M : Model} {A : Around} {E : Value → Shared → Prop} {s : Shared} {tg : Expr} {it : Addr} {u : Value} {o : Obj} {n : String} {vs : Array Value} {Q : Unit → Shared → Prop} (ho : s.heap.get? it = some o) (hc : o.cls = .type n) (hd : o.data = .fields vs)
    (hn : ["enumerate", "zip", "dict_itemiterator", "dict_reverseitemiterator", "odict_iterator", "itertools.zip_longest", "itertools.pairwise"].contains n = false) (hQ : Q () s) : wpAny M A (letOwnedTupleGo tg (.ref it) u) Q E s := by
  unfold letOwnedTupleGo
  cases tg <;> first
    | exact wpAny_pure hQ
    | (cases u <;> first
        | exact wpAny_pure hQ
        | (refine wpAny_bind (wpAny_load ho ?_)
           rw [hc, hd]
           show wpAny M A (if (["enumerate", "zip", "dict_itemiterator", "dict_reverseitemiterator", "odict_iterator", "itertools.zip_longest", "itertools.pairwise"].contains n && vs[0]? == some (rawInt _)) = true then _ else _) Q E s
           rw [if_neg (by intro h; rw [hn, Bool.false_and] at h; cases h)]
           exact wpAny_pure hQ))
def Itl (K : PySem.W.Frag) (a : Addr) : It :=
  ⟨fun i H => ∃ xs x, SqL K H a xs ∧ xs[i]? = some x, fun i H x H' => H' = H ∧ ∀ xs, SqL K H a xs → xs[i]? = some x, fun i H => ∃ xs, SqL K H a xs ∧ xs.length ≤ i⟩
def Itr (lo : Int) (n : Nat) : It := ⟨fun i _ => i < n, fun i H x H' => H' = H ∧ x = .int (lo + i), fun i _ => n ≤ i⟩
theorem turn_list {P : Program} {w : World} {K : PySem.W.Frag} {tg : Expr} (a it : Addr) : Turn P w K tg (Itl K a) [it] it (fun i h => h.IsListIter it a i) where
  mem := by simp
  obj := fun i h st b hb => by
    have e : b = it := by simpa using hb
    subst e
    obtain ⟨o, e, c, d⟩ := st
    exact ⟨o, e, fun v z => by rw [d] at z; cases z⟩
  keep := fun i h h' st k => st.at fun o e => k it (by simp) o e
  item := by
    intro X hP hw hK hc i pins s σ H E I hf st hg
    subst hP hw hK
    obtain ⟨xs, x, hq, hx⟩ := hg
    obtain ⟨its, rv, p, hz⟩ := I.list hq
    obtain ⟨u, hu, ru⟩ := rv.get hx
    obtain ⟨f0, f1, f2, f3, f4, f5⟩ := hf it (by simp)
    refine wpAny_pyNext_list_item st p.isList (x := u) (by simpa using hu) fun h' st' sb => ?_
    have I1 : Inv X pins σ H { s with heap := h' } := I.turned (t' := s.toks) (fun b o hb e => (sb.2 b hb).trans e) f0 f1 f3 f4 f5
    obtain ⟨o, e, c, d⟩ := id st'
    exact ⟨u, rfl, go_of (s := { s with heap := h' }) e c d (by decide) ⟨x, H, I1, ru, ⟨rfl, fun ys hy => by rw [I.list_inj hy hq]; exact hx⟩, st', fun b hb => (hf b hb).1⟩⟩
  done := by
    intro X hP hw hK hc i pins s σ H E I hf st hg
    subst hP hw hK
    obtain ⟨xs, hq, hx⟩ := hg
    obtain ⟨its, rv, p, hz⟩ := I.list hq
    obtain ⟨f0, f1, f2, f3, f4, f5⟩ := hf it (by simp)
    have hl := rv.length
    exact wpAny_pyNext_list_end (I.ok.hd hc) st p.isList (by simp; omega) fun h' eb => ⟨rfl, I.turned (t' := s.toks) (fun b o hb e => eb b o hb e) f0 f1 f3 f4 f5⟩
  self := fun _ _ _ _ _ st h => wpAny_pyIter_listiter st h
theorem turn_range {P : Program} {w : World} {K : PySem.W.Frag} {tg : Expr} (it : Addr) (lo : Int) (n : Nat) : Turn P w K tg (Itr lo n) [it] it (fun i h => IsRangeIter h it (lo + (i : Nat) * 1) ((n : Int) - (i : Nat)) 1) where
  mem := by simp
  obj := fun i h st b hb => by
    have e : b = it := by simpa using hb
    subst e
    exact ⟨_, st, fun v z => by
      have z' : Data.fields _ = Data.cell v := z
      cases z'⟩
  keep := fun i h h' st k => k it (by simp) _ st
  item := by
    intro X hP hw hK hc i pins s σ H E I hf st hg
    subst hP hw hK
    obtain ⟨f0, f1, f2, f3, f4, f5⟩ := hf it (by simp)
    have W := Walks.range (prog := X.prog) (w := X.w) (I.ok.hd hc) it lo 1 n
    refine W.item i s _ _ hg st fun v h' tk hv st' kk => ?_
    obtain ⟨t, rfl⟩ := hv
    have I1 : Inv X pins σ H { s with heap := h', toks := tk } := I.turned (fun b o hb e => kk b o (by simpa using hb) e) f0 f1 f3 f4 f5
    refine ⟨_, rfl, go_of (s := { s with heap := h', toks := tk }) (n := "range_iterator") st' rfl rfl (by decide) ⟨.int (lo + i), H, I1, ⟨t, ?_⟩, ⟨rfl, rfl⟩, st', fun b hb => (hf b hb).1⟩⟩
    rw [Int.mul_one]
  done := by
    intro X hP hw hK hc i pins s σ H E I hf st hg
    subst hP hw hK
    obtain ⟨f0, f1, f2, f3, f4, f5⟩ := hf it (by simp)
    exact wpAny_pyNext_range_end (I.ok.hd hc) st (by have : n ≤ i := hg; omega) fun h' eb => ⟨rfl, I.turned (t' := s.toks) (fun b o hb e => eb b o hb e) f0 f1 f3 f4 f5⟩
  self := fun _ _ _ _ _ st h => wpAny_pyIter_rangeiter st h
end L2
namespace L2
open PySem PySem.Spec PyProof.Rows
section
variable {X : Cx} {tg : Expr}
def iList (K : PySem.W.Frag) (tl : TE) : TI := fun σ H R => tl σ H fun x H1 => ∃ a, x = .ref a ∧ (∃ xs, SqL K H1 a xs) ∧ R (Itl K a) H1
theorem pi_list {l : Expr} {tl : TE} (hl : PE X l tl) : PI X tg l (iList X.K tl) := by
  intro pins s σ H R I h
  refine thn (hl pins s σ H _ I h) fun v s1 ⟨x, H1, I1, r1, q1⟩ => ?_
  obtain ⟨a, e, ⟨xs, hq⟩, q⟩ := q1
  subst e
  cases r1
  obtain ⟨its, rv, p, hz⟩ := I1.list hq
  refine wpAny_pyIter_list p.isList ?_
  refine ⟨s1.heap.objs.size, [s1.heap.objs.size], _, _, H1, rfl, I1.kept (t' := s1.toks) fun b o e => Heap.get?_push_of_some _ e, turn_list a _, ⟨_, Heap.get?_push_size _ rfl, rfl, rfl⟩, fun b hb => ?_, q⟩
  have e : b = s1.heap.objs.size := by simpa using hb
  subst e
  exact I1.fpOk (Nat.le_refl _) (I1.hok.fresh (Nat.le_refl _))
theorem range_it {pins : List (Addr × Obj)} {σ : St} {H : Hp} {s : Shared} {R : It → Hp → Prop} {E : Value → Shared → Prop} {lo hi : Int} {t u v : Tok} {tk : Nat} (I : Inv X pins σ H s) (h1 : -(2 ^ 62) ≤ lo) (h2 : lo < 2 ^ 62) (h3 : -(2 ^ 62) ≤ hi) (h4 : hi < 2 ^ 62)
    (q : R (Itr lo (hi - lo).toNat) H) : wpAny (model X.prog X.w) X.A (pyIter (.ref s.heap.objs.size)) (PIE X pins σ tg R) E { s with heap := s.heap.push { cls := .type "range", data := .fields #[.int lo t, .int hi u, .int 1 v] }, toks := tk } := by
  refine wpAny_pyIter_range (IsRange.new ..) (small_one h1 h2 h3 h4) ?_
  have I1 : Inv X pins σ H { s with heap := s.heap.push { cls := .type "range", data := .fields #[.int lo t, .int hi u, .int 1 v] }, toks := tk } := I.kept fun b o e => Heap.get?_push_of_some _ e
  refine ⟨(s.heap.push { cls := .type "range", data := .fields #[.int lo t, .int hi u, .int 1 v] }).objs.size, [(s.heap.push { cls := .type "range", data := .fields #[.int lo t, .int hi u, .int 1 v] }).objs.size], _, _, H, rfl,
    I1.kept (t' := tk) fun b o e => Heap.get?_push_of_some _ e, turn_range _ lo (hi - lo).toNat, ?_, fun b hb => ?_, q⟩
  · have e1 : lo + ((0 : Nat) : Int) * 1 = lo := by simp
    have e2 : (((hi - lo).toNat : Nat) : Int) - ((0 : Nat) : Int) = Builtin.Range.rangeSize lo hi 1 := by rw [rangeSize_one]; split <;> omega
    show IsRangeIter _ _ (lo + ((0 : Nat) : Int) * 1) ((((hi - lo).toNat : Nat) : Int) - ((0 : Nat) : Int)) 1
    rw [e1, e2]
    exact Heap.get?_push_size _ rfl
  · have e : b = (s.heap.push { cls := .type "range", data := .fields #[.int lo t, .int hi u, .int 1 v] }).objs.size := by simpa using hb
    subst e
    exact I1.fpOk (Nat.le_refl _) (I1.hok.fresh (Nat.le_refl _))
def iRng1 (ta : TA) : TI := fun σ H R => ta σ H fun vs H1 => ∃ j : Int, vs = [.int j] ∧ -(2 ^ 62) ≤ j ∧ j < 2 ^ 62 ∧ R (Itr 0 j.toNat) H1
theorem pi_range1 {a : Expr} {ta : TA} {p pos : Pos} (hg : Gl X "range") (hm : X.mg "range" = none) (ha : PA X [a] ta) (hs : starEach [a] X.env = [(false, eval a X.env)] := by rfl) : PI X tg (.Call (.Name "range" p) [a] [] pos) (iRng1 ta) := by
  intro pins s σ H R I h
  refine Call_ (ld_blt I hg hm boot_range (PyProof.Rows.callWith_type1 (thn (ha pos pins s σ H _ I h) fun us s1 ⟨vs, H1, I1, r1, q1⟩ => ?_) hs rfl))
  obtain ⟨j, e, q1, q2, q⟩ := q1
  subst e
  cases r1 with
  | cons r rr =>
    cases rr
    obtain ⟨t, rfl⟩ := r
    exact call_range_1 (range_it I1 (by omega) (by omega) q1 q2 (by simpa using q))
def tFor (wi : TI) (g : TG) (tb : TS) : TS := fun D σ H => wi σ H fun J H1 => ∃ W : Nat → Nat → St → Hp → Prop, (∃ m, W 0 m σ H1) ∧ ∀ i m σ H, W i m σ H →
  (J.stop i H ∧ D.nx σ H) ∨ (J.go i H ∧ ∃ N : St → Hp → Prop, (∀ σ' H', N σ' H' → ∃ m', m' < m ∧ W (i + 1) m' σ' H') ∧ ∀ x H', J.yld i H x H' → g x σ H' fun σ2 H2 => tb { D with nx := N, ct := N, bk := D.nx } σ2 H2)
def pinsAt (fp : List Addr) (h : Heap) : List (Addr × Obj) := fp.filterMap fun b => (h.get? b).map fun o => (b, o)
theorem mem_pinsAt {fp : List Addr} {h : Heap} {b : Addr} {o : Obj} (hb : b ∈ fp) (e : h.get? b = some o) : (b, o) ∈ pinsAt fp h := List.mem_filterMap.mpr ⟨b, hb, by rw [e]; rfl⟩
theorem of_pinsAt {fp : List Addr} {h : Heap} {p : Addr × Obj} (hp : p ∈ pinsAt fp h) : p.1 ∈ fp ∧ h.get? p.1 = some p.2 := by
  obtain ⟨b, hb, e⟩ := List.mem_filterMap.mp hp
  cases q : h.get? b with
  | none => rw [q] at e; cases e
  | some o =>
    rw [q] at e
    have e' : (b, o) = p := Option.some.inj e
    subst e'
    exact ⟨hb, q⟩
theorem Inv.pinned {pins : List (Addr × Obj)} {σ : St} {H : Hp} {s : Shared} {fp : List Addr} (I : Inv X pins σ H s) (hf : ∀ b ∈ fp, FpOk X pins H b) (ho : ∀ b ∈ fp, ∃ o, s.heap.get? b = some o ∧ ∀ v, o.data ≠ .cell v) : Inv X (pins ++ pinsAt fp s.heap) σ H s :=
  I.pins_of fun p hp => (List.mem_append.mp hp).elim (fun z => I.pin p (List.mem_append_right _ z)) fun z => by
    obtain ⟨hb, e⟩ := of_pinsAt z
    obtain ⟨f0, f1, f2, _⟩ := hf p.1 hb
    obtain ⟨o, e', d⟩ := ho p.1 hb
    rw [e] at e'; cases e'
    exact ⟨e, f0, f1, f2, d⟩
theorem Inv.unpinned {pins pl : List (Addr × Obj)} {σ : St} {H : Hp} {s : Shared} (I : Inv X (pins ++ pl) σ H s) : Inv X pins σ H s := I.pins_of fun p hp => I.pin p (List.mem_append_right _ (List.mem_append_left _ hp))
theorem ps_for {iter : Expr} {body : List Stmt} {wi : TI} {g : TG} {tb : TS} {pos : Pos} (hp : PassesOwn (model X.prog X.w) X.A X.env X.xe) (hc : X.calm = true) (hi : PI X tg iter wi) (hg : PG X tg g) (hb : PSs X body tb)
    (hs : ∀ x, foldedSetIterable iter X.env x = pure x := by intro _; rfl) : PS X (.For tg iter body [] pos) (tFor wi g tb) := by
  intro pins s σ H D I h
  refine wpAny_For (thn (hi pins s σ H _ I h) fun v s1 h1 => thn h1 fun itv s2 h2 => ?_) hs
  obtain ⟨it, fp, tn, J, H2, e, I2, T, st2, f2, W, ⟨m0, w0⟩, turn⟩ := h2
  subst e
  have stat : ∀ {H' : Hp}, (∀ b ∈ fp, H' b = none) → ∀ b ∈ fp, FpOk X pins H' b := fun hn b hb => ⟨hn b hb, (f2 b hb).2⟩
  refine codeAny_forLoop_any (fun n s' => ∃ i σ' H', Inv X pins σ' H' s' ∧ tn i s'.heap ∧ (∀ b ∈ fp, H' b = none) ∧ W i n σ' H') ?_ m0 ⟨0, σ, H2, I2, st2, fun b hb => (f2 b hb).1, w0⟩
  rintro n s3 ⟨i, σ3, H3, I3, st3, fr3, w3⟩
  rcases turn i n σ3 H3 w3 with ⟨stop, qn⟩ | ⟨go, N, hN, step⟩
  · refine wpAny_passesOwn hp (thn (T.done X rfl rfl rfl hc i pins s3 σ3 H3 X.xe I3 (stat fr3) st3 stop) fun r s4 ⟨hr, I4⟩ => ?_)
    subst hr
    exact wpAny_execs_nil ⟨σ3, H3, I4, qn⟩
  · refine wpAny_passesOwn hp (thn (T.item X rfl rfl rfl hc i pins s3 σ3 H3 X.xe I3 (stat fr3) st3 go) fun r s4 ⟨u, hr, h4⟩ => ?_)
    subst hr
    refine wpAny_passesOwn hp (thn h4 fun _ s5 ⟨x, H5, I5, r5, y5, st5, fr5⟩ => ?_)
    have I5' := I5.pinned (stat fr5) (T.obj _ _ st5)
    refine wpAny_passesOwn hp (thn (hg _ s5 σ3 H5 x u _ I5' r5 (step x H5 y5)) fun _ s6 ⟨σ6, H6, I6, q6⟩ => ?_)
    refine wpAny_passesOwn hp (thn (hb _ s6 σ6 H6 _ I6 q6) fun f s7 q7 => ?_)
    have again : ∀ {σ7 : St} {H7 : Hp}, Inv X (pins ++ pinsAt fp s5.heap) σ7 H7 s7 → N σ7 H7 → ∃ m, m < n ∧ ∃ i σ' H', Inv X pins σ' H' s7 ∧ tn i s7.heap ∧ (∀ b ∈ fp, H' b = none) ∧ W i m σ' H' := fun {σ7 H7} I7 n7 => by
      obtain ⟨m', hm, w7⟩ := hN σ7 H7 n7
      refine ⟨m', hm, i + 1, σ7, H7, I7.unpinned, T.keep _ _ _ st5 fun b hb o e => (I7.pin (b, o) (List.mem_append_right _ (List.mem_append_right _ (mem_pinsAt hb e)))).1, fun b hb => ?_, w7⟩
      obtain ⟨o, e, d⟩ := T.obj _ _ st5 b hb
      exact (I7.pin (b, o) (List.mem_append_right _ (List.mem_append_right _ (mem_pinsAt hb e)))).2.1
    cases f with
    | next => obtain ⟨σ7, H7, I7, n7⟩ := q7; exact again I7 n7
    | cont => obtain ⟨σ7, H7, I7, n7⟩ := q7; exact again I7 n7
    | brk => obtain ⟨σ7, H7, I7, q7⟩ := q7; exact ⟨σ7, H7, I7.unpinned, q7⟩
    | ret v => obtain ⟨x7, σ7, H7, I7, r7, q7⟩ := q7; exact ⟨x7, σ7, H7, I7.unpinned, r7, q7⟩
end
end L2
namespace L2
open PySem PySem.Spec PyProof.Rows
abbrev R2 := V → V → Hp → VK → Prop
def OpR (X : Cx) (f : Value → Value → Sem Value) (r : R2) : Prop :=
  ∀ (pins : List (Addr × Obj)) (s : Shared) (σ : St) (H : Hp) (x y : V) (v u : Value) (Q : VK), Inv X pins σ H s → RelV x v → RelV y u → r x y H Q →
    wpAny (model X.prog X.w) X.A (f v u) (EP X pins σ Q) X.xe s
def UnR (X : Cx) (f : Value → Sem Value) (r : V → Hp → VK → Prop) : Prop :=
  ∀ (pins : List (Addr × Obj)) (s : Shared) (σ : St) (H : Hp) (x : V) (v : Value) (Q : VK), Inv X pins σ H s → RelV x v → r x H Q →
    wpAny (model X.prog X.w) X.A (f v) (EP X pins σ Q) X.xe s
def CallR (X : Cx) (f : Value) (r : List V → Hp → VK → Prop) : Prop :=
  ∀ (pins : List (Addr × Obj)) (s : Shared) (σ : St) (H : Hp) (xs : List V) (us : List Value) (Q : VK), Inv X pins σ H s → Vals xs us → r xs H Q →
    wpAny (model X.prog X.w) X.A (call f us) (EP X pins σ Q) X.xe s
def tOp (r : R2) (ta tb : TE) : TE := fun σ H Q => ta σ H fun x H1 => tb σ H1 fun y H2 => r x y H2 Q
def tUn (r : V → Hp → VK → Prop) (ta : TE) : TE := fun σ H Q => ta σ H fun x H1 => r x H1 Q
def rI (C : Int → Int → Prop) (g : Int → Int → V) : R2 := fun x y H Q => ∃ i j, x = .int i ∧ y = .int j ∧ C i j ∧ Q (g i j) H
def rI0 (g : Int → Int → V) : R2 := fun x y H Q => ∃ i j, x = .int i ∧ y = .int j ∧ Q (g i j) H
def rU (g : Int → V) : V → Hp → VK → Prop := fun x H Q => ∃ i, x = .int i ∧ Q (g i) H
section
variable {X : Cx} {a b c : Expr} {ta tb tc : TE} {pos : Pos}
theorem binT (ha : PE X a ta) (hb : PE X b tb) {pins : List (Addr × Obj)} {s : Shared} {σ : St} {H : Hp} {R : V → V → Hp → Prop} (I : Inv X pins σ H s)
    (h : ta σ H fun x H1 => tb σ H1 fun y H2 => R x y H2) {Q : Value → Shared → Prop} {f : Value → Value → Sem Value}
    (hf : ∀ v u s2 x y H2, Inv X pins σ H2 s2 → RelV x v → RelV y u → R x y H2 → wpAny (model X.prog X.w) X.A (f v u) Q X.xe s2) :
    wpAny (model X.prog X.w) X.A (eval a X.env) (fun v s₁ => wpAny (model X.prog X.w) X.A (eval b X.env) (fun u s₂ => wpAny (model X.prog X.w) X.A (f v u) Q X.xe s₂) X.xe s₁) X.xe s := by
  refine thn (ha pins s σ H _ I h) fun v s1 ⟨x, H1, I1, r1, q1⟩ => ?_
  refine thn (hb pins s1 σ H1 _ I1 q1) fun u s2 ⟨y, H2, I2, r2, q2⟩ => ?_
  exact hf v u s2 x y H2 I2 r1 r2 q2
theorem pe_op {op : Operator} {r : R2} (ho : OpR X (binaryOp op) r) (ha : PE X a ta) (hb : PE X b tb) : PE X (.BinOp a op b pos) (tOp r ta tb) := by
  intro pins s σ H Q I h
  exact wpAny_BinOp (binT ha hb I h fun v u s2 x y H2 I2 rx ry q => ho pins s2 σ H2 x y v u Q I2 rx ry q)
theorem pe_un {op : UnaryOp} {r : V → Hp → VK → Prop} (ho : UnR X (unaryOp op) r) (ha : PE X a ta) : PE X (.UnaryOp op a pos) (tUn r ta) := by
  intro pins s σ H Q I h
  exact UnaryOp_ (thn (ha pins s σ H _ I h) fun v s1 ⟨x, H1, I1, r1, q1⟩ => ho pins s1 σ H1 x v Q I1 r1 q1)
theorem opI {f : Value → Value → Sem Value} {C : Int → Int → Prop} {g : Int → Int → Int}
    (rule : ∀ (i j : Int) (t u : Tok) (s : Shared) (Q : Value → Shared → Prop) (E : Value → Shared → Prop), C i j → Q (.int (g i j) s.toks) { s with toks := s.toks + 1 } → wpAny (model X.prog X.w) X.A (f (.int i t) (.int j u)) Q E s) :
    OpR X f (rI C fun i j => .int (g i j)) := by
  intro pins s σ H x y v u Q I rx ry h
  obtain ⟨i, j, rfl, rfl, hc, q⟩ := h
  obtain ⟨t, rfl⟩ := rx
  obtain ⟨t', rfl⟩ := ry
  exact rule i j t t' s _ _ hc ⟨.int (g i j), H, I.tok _, ⟨_, rfl⟩, q⟩
theorem opI0 {f : Value → Value → Sem Value} {g : Int → Int → Int}
    (rule : ∀ (i j : Int) (t u : Tok) (s : Shared) (Q : Value → Shared → Prop) (E : Value → Shared → Prop), Q (.int (g i j) s.toks) { s with toks := s.toks + 1 } → wpAny (model X.prog X.w) X.A (f (.int i t) (.int j u)) Q E s) :
    OpR X f (rI0 fun i j => .int (g i j)) := by
  intro pins s σ H x y v u Q I rx ry h
  obtain ⟨i, j, rfl, rfl, q⟩ := h
  obtain ⟨t, rfl⟩ := rx
  obtain ⟨t', rfl⟩ := ry
  exact rule i j t t' s _ _ ⟨.int (g i j), H, I.tok _, ⟨_, rfl⟩, q⟩
theorem opB0 {f : Value → Value → Sem Value} {g : Int → Int → Bool}
    (rule : ∀ (i j : Int) (t u : Tok) (s : Shared) (Q : Value → Shared → Prop) (E : Value → Shared → Prop), Q (.bool (g i j)) s → wpAny (model X.prog X.w) X.A (f (.int i t) (.int j u)) Q E s) :
    OpR X f (rI0 fun i j => .bl (g i j)) := by
  intro pins s σ H x y v u Q I rx ry h
  obtain ⟨i, j, rfl, rfl, q⟩ := h
  obtain ⟨t, rfl⟩ := rx
  obtain ⟨t', rfl⟩ := ry
  exact rule i j t t' s _ _ ⟨.bl (g i j), H, I, rfl, q⟩
def CPow (i j : Int) : Prop := 0 ≤ j ∧ j ≤ 1000000 ∧ i.natAbs < 2 ^ 64
def CMul (i j : Int) : Prop := (-(2 ^ 64) < i ∧ i < 2 ^ 64) ∨ (-(2 ^ 64) < j ∧ j < 2 ^ 64)
theorem CMul.ok {i j : Int} (h : CMul i j) : IntMulOk i j := by
  rcases h with ⟨h1, h2⟩ | ⟨h1, h2⟩
  · exact .of_left (intBits_le_64 h1 h2)
  · exact .of_right (intBits_le_64 h1 h2)
theorem two_pow_nn (k : Nat) : (0 : Int) ≤ 2 ^ k := by
  rw [two_pow_cast]
  exact Int.natCast_nonneg _
theorem op_add : OpR X (binaryOp .Add) (rI0 fun i j => .int (i + j)) := opI0 fun _ _ _ _ _ _ _ q => add_int q
theorem op_sub : OpR X (binaryOp .Sub) (rI0 fun i j => .int (i - j)) := opI0 fun _ _ _ _ _ _ _ q => sub_int q
theorem op_mod : OpR X (binaryOp .Mod) (rI (fun _ j => 0 < j) fun i j => .int (i % j)) := opI fun i j _ _ _ _ _ hc q => by
  have h1 : (0 : Int) < j := hc
  exact mod_int' (by omega) (by rw [Int.fmod_eq_emod_of_nonneg i (by omega)]; exact q)
theorem op_pow : OpR X (binaryOp .Pow) (rI CPow fun i j => .int (i ^ j.toNat)) := opI fun _ _ _ _ _ _ _ hc q => pow_int_small hc.1 hc.2.1 hc.2.2 q
theorem op_shr : OpR X (binaryOp .RShift) (rI (fun _ j => 0 ≤ j) fun i j => .int (i / 2 ^ j.toNat)) := opI fun i j _ _ _ _ _ hc q =>
  rshift_int hc (by rw [Int.fdiv_eq_ediv_of_nonneg i (two_pow_nn _)]; exact q)
theorem unI {f : Value → Sem Value} {g : Int → Int}
    (rule : ∀ (i : Int) (t : Tok) (s : Shared) (Q : Value → Shared → Prop) (E : Value → Shared → Prop), Q (.int (g i) s.toks) { s with toks := s.toks + 1 } → wpAny (model X.prog X.w) X.A (f (.int i t)) Q E s) :
    UnR X f (rU fun i => .int (g i)) := by
  intro pins s σ H x v Q I rx h
  obtain ⟨i, rfl, q⟩ := h
  obtain ⟨t, rfl⟩ := rx
  exact rule i t s _ _ ⟨.int (g i), H, I.tok _, ⟨_, rfl⟩, q⟩
theorem un_neg : UnR X (unaryOp .USub) (rU fun i => .int (-i)) := unI fun _ _ _ _ _ q => neg_int q
end
def scal : V → V → Bool
  | .non, .non => true | .non, .int _ => true | .int _, .non => true | .non, .bl _ => true | .bl _, .non => true | .non, .str _ => true | .str _, .non => true
  | .int _, .int _ => true | .bl _, .bl _ => true | .str _, .str _ => true | .byt _, .byt _ => true
  | .int _, .str _ => true | .str _, .int _ => true | .bl _, .str _ => true | .str _, .bl _ => true
  | _, _ => false
section
variable {X : Cx} {a b c : Expr} {ta tb tc : TE} {pos : Pos}
theorem fin_bl {pins : List (Addr × Obj)} {σ : St} {H : Hp} {s : Shared} {Q : VK} {k k' : Bool} (I : Inv X pins σ H s) (q : Q (.bl k) H) (e : k = k') : EP X pins σ Q (.bool k') s := by
  subst e
  exact ⟨.bl k, H, I, rfl, q⟩
theorem op_lt : OpR X (compareOp .Lt) (rI0 fun i j => .bl (decide (i < j))) := opB0 fun _ _ _ _ _ _ _ q => lt_int q
theorem op_le : OpR X (compareOp .LtE) (rI0 fun i j => .bl (decide (i ≤ j))) := opB0 fun _ _ _ _ _ _ _ q => le_int q
theorem op_gt : OpR X (compareOp .Gt) (rI0 fun i j => .bl (decide (j < i))) := opB0 fun _ _ _ _ _ _ _ q => gt_int q
theorem op_ge : OpR X (compareOp .GtE) (rI0 fun i j => .bl (decide (j ≤ i))) := opB0 fun _ _ _ _ _ _ _ q => ge_int q
theorem op_in_str : OpR X (compareOp .In) (fun x y H Q => ∃ i j, x = .str i ∧ y = .str j ∧ Q (.bl (!(Builtin.Str.occurrences j i 0 j.length 1).isEmpty)) H) := by
  intro pins s σ H x y v u Q I rx ry h
  obtain ⟨i, j, rfl, rfl, q⟩ := h
  obtain ⟨t, rfl⟩ := rx
  obtain ⟨t', rfl⟩ := ry
  exact in_str (fin_bl I q rfl)
theorem op_notin_str : OpR X (compareOp .NotIn) (fun x y H Q => ∃ i j, x = .str i ∧ y = .str j ∧ Q (.bl (!(!(Builtin.Str.occurrences j i 0 j.length 1).isEmpty))) H) := by
  intro pins s σ H x y v u Q I rx ry h
  obtain ⟨i, j, rfl, rfl, q⟩ := h
  obtain ⟨t, rfl⟩ := rx
  obtain ⟨t', rfl⟩ := ry
  exact notIn_str (fin_bl I q rfl)
theorem OpR.or {f : Value → Value → Sem Value} {r r' : R2} (h : OpR X f r) (h' : OpR X f r') : OpR X f (fun x y H Q => r x y H Q ∨ r' x y H Q) := by
  intro pins s σ H x y v u Q I rx ry q
  rcases q with q | q
  · exact h pins s σ H x y v u Q I rx ry q
  · exact h' pins s σ H x y v u Q I rx ry q
theorem nomark (b : Expr) {op : CmpOp} (h : op ≠ .In := by decide) (h2 : op ≠ .NotIn := by decide) : behindInMarks op b = false := by
  have e1 : (op == CmpOp.In) = false := by cases op <;> first | rfl | exact absurd rfl h
  have e2 : (op == CmpOp.NotIn) = false := by cases op <;> first | rfl | exact absurd rfl h2
  cases b <;> simp [behindInMarks, e1, e2]
theorem pe_cmpR {op : CmpOp} {r : R2} (ho : OpR X (compareOp op) r) (ha : PE X a ta) (hb : PE X b tb) (hm : behindInMarks op b = false) : PE X (.Compare a [op] [b] pos) (tOp r ta tb) := by
  intro pins s σ H Q I h
  exact wpAny_Compare1 (binT ha hb I h fun v u s2 x y H2 I2 rx ry q => ho pins s2 σ H2 x y v u Q I2 rx ry q) hm
def tTest (t : TE) : TT := fun σ H Q => t σ H fun x H' => ∃ k, x = .bl k ∧ Q k H'
theorem pt_cmpR {op : CmpOp} {r : R2} (ho : OpR X (compareOp op) r) (ha : PE X a ta) (hb : PE X b tb) (hm : behindInMarks op b = false) : PT X (.Compare a [op] [b] pos) (tTest (tOp r ta tb)) := by
  intro pins s σ H Q I h
  refine wpAny_isTrue_Compare1 (thn (ha pins s σ H _ I h) fun v s1 ⟨x, H1, I1, r1, q1⟩ => thn (hb pins s1 σ H1 _ I1 q1) fun u s2 ⟨y, H2, I2, r2, q2⟩ =>
    thn (ho pins s2 σ H2 x y v u _ I2 r1 r2 q2) fun c s3 ⟨z, H3, I3, r3, k, e, q3⟩ => ?_) hm
  subst e
  cases r3
  exact wpAny_truthy_bool ⟨H3, I3, q3⟩
theorem line63 : (sizeLine : Nat) < 2 ^ 63 := by rw [sizeLine_eq]; decide
theorem op_add_str : OpR X (binaryOp .Add) (fun x y H Q => ∃ i j, x = .str i ∧ y = .str j ∧ i.length + j.length ≤ sizeLine ∧ Q (.str (i ++ j)) H) := by
  intro pins s σ H x y v u Q I rx ry h
  obtain ⟨i, j, rfl, rfl, hz, q⟩ := h
  obtain ⟨t, rfl⟩ := rx
  obtain ⟨t', rfl⟩ := ry
  exact add_str (fun t' tk => ⟨.str (i ++ j), H, I.tok _, ⟨_, rfl⟩, q⟩) hz
theorem vals1 {x : V} {us : List Value} (r : Vals [x] us) : ∃ u, us = [u] ∧ RelV x u := by
  cases r with
  | cons r1 r2 => cases r2; exact ⟨_, rfl, r1⟩
theorem vals2 {x y : V} {us : List Value} (r : Vals [x, y] us) : ∃ u w', us = [u, w'] ∧ RelV x u ∧ RelV y w' := by
  cases r with
  | cons r1 r2 =>
    cases r2 with
    | cons r3 r4 => cases r4; exact ⟨_, _, rfl, r1, r3⟩
theorem call_max2 (hc : X.calm = true) : CallR X (.builtin "max") (fun xs H Q => ∃ i j, xs = [.int i, .int j] ∧ Q (.int (if j > i then j else i)) H) := by
  intro pins s σ H xs us Q I r h
  obtain ⟨i, j, rfl, q⟩ := h
  obtain ⟨u, w', rfl, ⟨t, rfl⟩, ⟨t', rfl⟩⟩ := vals2 r
  refine max_two_ints (I.ok.hd hc) fun h' tk k => ⟨_, H, I.kept k, ?_, q⟩
  by_cases hj : j > i
  · rw [if_pos hj, if_pos hj]; exact ⟨_, rfl⟩
  · rw [if_neg hj, if_neg hj]; exact ⟨_, rfl⟩
theorem call_int1 : CallR X (.type "int") (fun xs H Q => (∃ i, xs = [.int i] ∧ Q (.int i) H) ∨ ∃ k, xs = [.bl k] ∧ Q (.int (if k then 1 else 0)) H) := by
  intro pins s σ H xs us Q I r h
  rcases h with ⟨i, rfl, q⟩ | ⟨k, rfl, q⟩
  · obtain ⟨u, rfl, t, rfl⟩ := vals1 r
    exact call_int_int ⟨.int i, H, I, ⟨_, rfl⟩, q⟩
  · obtain ⟨u, rfl, r1⟩ := vals1 r
    cases r1
    exact call_int_bool ⟨.int (if k then 1 else 0), H, I.tok _, ⟨_, rfl⟩, q⟩
end
end L2
namespace L2
open PySem PySem.Spec PyProof.Rows
structure ObjM (h : Heap) (x dx C : Addr) (mA : Str → Option Value) : Prop where
  obj : h.get? x = some (PySem.W.instObj C dx)
  ns : h.Ns1 dx mA
  ne : dx ≠ x
section
variable {prog : Program} {w : World} {A : Around} {E : Value → Shared → Prop} {s : Shared} {K : PySem.W.Frag} {x dx C f : Addr} {mA : Str → Option Value} {name : Str} {v : Value}
end
section
variable {P : Program} {w : World} {H H' : Hp} {h h' : Heap} {a C dx : Addr} {fs fs' : List (Str × V)}
end
structure Cls (K : PySem.W.Frag) (C : Addr) : Prop where
  pg : PySem.W.plainGet K C Str.empty = true
  hd : PySem.W.hasDictIn K C = true
  po : PySem.W.plainOver K C = true
  sa : PySem.W.findIn K (.ref C) "__setattr__" = some (some (.builtin "object.__setattr__"))
theorem Cls.get {K : PySem.W.Frag} {C : Addr} (c : Cls K C) (f : Str) : PySem.W.plainGet K C f = true := c.pg
structure Con (K : PySem.W.Frag) (C : Addr) (f : Str) (v : V) (u : Value) : Prop where
  at_ : PySem.W.findIn K (.ref C) f = some (some u)
  rel : RelV v u
  get : PySem.W.specialIn K u "__get__" = some none
  cp : PySem.W.copiedNames.contains f = false
structure Meth (K : PySem.W.Frag) (C : Addr) (m : Str) (f : Addr) : Prop where
  at_ : PySem.W.findIn K (.ref C) m = some (some (.ref f))
  fn : PySem.W.isFn K (.ref f) = true
  kp : PySem.W.keepIn K (.ref f) = true
section
variable {X : Cx} {pins : List (Addr × Obj)} {σ : St} {H : Hp} {s : Shared} {a C dx : Addr} {fs : List (Str × V)} {f : Str} {v : V} {A : Around} {E : Value → Shared → Prop}
end
section
variable {X : Cx} {o e value : Expr} {f : Str} {pos pos' tpos : Pos} {ta tv : TE}
end
section
variable {X : Cx} {pins : List (Addr × Obj)} {σ : St} {H : Hp} {s : Shared} {A : Around} {E : Value → Shared → Prop} {Q : Value → Shared → Prop} {c : Value} {b : Bool}
inductive TyOf (K : PySem.W.Frag) (H : Hp) : V → Value → Prop where
  | non : TyOf K H .non (.type "NoneType")
  | bl (x : Bool) : TyOf K H (.bl x) (.type "bool")
  | int (i : Int) : TyOf K H (.int i) (.type "int")
  | str (x : Str) : TyOf K H (.str x) (.type "str")
  | flt (x : UInt64) : TyOf K H (.flt x) (.type "float")
  | lst {a : Addr} {xs : List V} (e : H a = some (.lst xs)) : TyOf K H (.ref a) (.type "list")
  | frz {a : Addr} {o : Obj} {xs : List V} (e : H a = some (.frz o (.lst xs))) : TyOf K H (.ref a) (.type "list")
  | tup {a : Addr} {xs : List V} (e : H a = some (.tup xs)) : TyOf K H (.ref a) (.type "tuple")
  | dK {a : Addr} {kvs : List (Key × V)} (e : H a = some (.dK kvs)) : TyOf K H (.ref a) (.type "dict")
  | dT {a : Addr} {kvs : List (List Key × V)} (e : H a = some (.dT kvs)) : TyOf K H (.ref a) (.type "dict")
  | ins {a C dx : Addr} {fs : List (Str × V)} (e : H a = some (.ins C dx fs)) (cl : Cls K C) (ha : PySem.W.findIn K (.ref C) "__class__" = some (some (.builtin "object.__class__")))
      (hn : PySem.W.specialIn K (.builtin "object.__class__") "__get__" = some (some (.builtin "getset_descriptor.__get__"))) (htk : PySem.W.takesIn K (.builtin "object.__class__") = some true)
      (hm : PySem.W.mroIn K C (.type "object") = some true) : TyOf K H (.ref a) (.ref C)
end
end L2
namespace L2
open PySem PySem.Spec PyProof.Rows
structure Room (k : Nat) (A : Around) : Prop where
  hd : A.handled = none
  dp : A.depth + 3 * k + 5 < recursionLimit
  un : A.units + 16 * k + 200 < cLine
theorem Room.mono {j k : Nat} {A : Around} (r : Room k A) (h : j ≤ k) : Room j A := ⟨r.hd, by have := r.dp; omega, by have := r.un; omega⟩
theorem Room.deeper {k : Nat} {A : Around} (r : Room (k + 1) A) (env : Env) : Room k (A.deeper env) :=
  ⟨r.hd, by have := r.dp; show A.depth + 1 + 3 * k + 5 < _; omega, by have := r.un; show A.units + 3 + 16 * k + 200 < _; omega⟩
theorem Room.depth {k : Nat} {A : Around} (r : Room k A) : A.depth < recursionLimit := by have := r.dp; omega
theorem Room.units {k : Nat} {A : Around} (r : Room k A) : A.units + 64 < cLine := by have := r.un; omega
def tNil : TA := fun _ H Q => Q [] H
def tCons (ta : TE) (tr : TA) : TA := fun σ H Q => ta σ H fun x H1 => tr σ H1 fun xs H2 => Q (x :: xs) H2
section
variable {X : Cx} {e : Expr} {es : List Expr} {te : TE} {t : TA} {pos : Pos}
theorem pa_nil : PA X [] tNil := fun _ _ _ _ H Q I h => Calls.spliced_nil ⟨[], H, I, .nil, h⟩
theorem pa_cons (ha : PE X e te) (hr : PA X es t) (hs : starEach (e :: es) X.env = (false, eval e X.env) :: starEach es X.env := by rfl) : PA X (e :: es) (tCons te t) := by
  intro pos pins s σ H Q I h
  rw [hs]
  show wpAny _ _ (spliced ((false, eval e X.env) :: backTo pos (starEach es X.env))) _ _ s
  refine Calls.spliced_cons (thn (ha pins s σ H _ I h) fun u s1 ⟨x, H1, I1, r1, q1⟩ => ?_)
  exact thn (hr pos pins s1 σ H1 _ I1 q1) fun us s2 ⟨xs, H2, I2, r2, q2⟩ => ⟨x :: xs, H2, I2, .cons r1 r2, q2⟩
def tTup (t : TA) : TE := fun σ H Q => t σ H fun xs H1 => xs.length ≤ sizeLine ∧ ∀ p, H1 p = none → Q (.ref p) (upd H1 p (.tup xs))
def tLst (t : TA) : TE := fun σ H Q => t σ H fun xs H1 => xs.length ≤ sizeLine ∧ ∀ p, H1 p = none → Q (.ref p) (upd H1 p (.lst xs))
theorem pe_tup {x1} (h : PA X es t) : PE X (.Tuple es x1 pos) (tTup t) := by
  intro pins s σ H Q I hq
  refine wpAny_Tuple_spliced (thn (h pos pins s σ H _ I hq) fun us s1 ⟨xs, H1, I1, r, z, q⟩ => ⟨by rw [← r.length]; exact z, ?_⟩)
  have hf : H1 s1.heap.objs.size = none := I1.hok.fresh (Nat.le_refl _)
  refine ⟨.ref s1.heap.objs.size, upd H1 s1.heap.objs.size (.tup xs), I1.laid (t' := s1.toks) (fun b u e => Heap.get?_push_of_some _ e) (Nat.le_refl _) ?_, rfl, q _ hf⟩
  exact ⟨z, us, r, ⟨_, Heap.get?_push_size _ rfl, rfl, _, rfl⟩⟩
theorem pe_lst (h : PA X es t) : PE X (.List es pos) (tLst t) := by
  intro pins s σ H Q I hq
  refine wpAny_List_spliced (thn (h pos pins s σ H _ I hq) fun us s1 ⟨xs, H1, I1, r, z, q⟩ => ⟨by rw [← r.length]; exact z, ?_⟩)
  have hf : H1 s1.heap.objs.size = none := I1.hok.fresh (Nat.le_refl _)
  refine ⟨.ref s1.heap.objs.size, upd H1 s1.heap.objs.size (.lst xs), I1.laid (t' := s1.toks) (fun b u e => Heap.get?_push_of_some _ e) (Nat.le_refl _) ?_, rfl, q _ hf⟩
  exact ⟨z, us, 0, r, Heap.get?_push_size _ rfl⟩
end
abbrev Sp := List V → Hp → VK → XK → Prop
abbrev CXT := List Env → Hp → Shared → XK → Value → Shared → Prop
structure Env0 (P : Program) (w : World) (K : PySem.W.Frag) (mg : Str → Option Value) (base : Heap) (A : Around) (outer : List Env) (s : Shared) (H : Hp) : Prop where
  frames : A.frames = some outer
  mod : Mod K mg base
  bs : ∀ b o, base.get? b = some o → s.heap.get? b = some o ∧ H b = none
  bsz : base.objs.size ≤ s.heap.objs.size
  funs : s.heap.FunFrames base outer
  frf : ∀ b ∈ frs outer, H b = none
  hok : HOk P w H s.heap
  bare : AllBare s.gens
def CE (outer : List Env) (P : Program) (w : World) (H : Hp) (s : Shared) (Q : VK) (u : Value) (s' : Shared) : Prop :=
  ∃ v H', s'.os = s.os ∧ AllBare s'.gens ∧ Un (frs outer) [] H H' s.heap s'.heap ∧ HOk P w H' s'.heap ∧ RelV v u ∧ Q v H'
def CR (CX : CXT) (outer : List Env) (P : Program) (w : World) (H : Hp) (s : Shared) (Q : VK) (E : XK) (r : Result) (s' : Shared) : Prop :=
  match r with
  | .ok (.ret u) => CE outer P w H s Q u s'
  | .ok _ => False
  | .error e => CX outer H s E e s'
structure FnOk (P : Program) (w : World) (K : PySem.W.Frag) (mg : Str → Option Value) (base : Heap) (CX : CXT) (k : Nat) (f : Addr) (fd : FuncData) (ps : List Str) (sp : Sp) : Prop where
  len : ∀ vs H Q E, sp vs H Q E → vs.length = ps.length
  run : ∀ (A : Around) (outer : List Env) (s : Shared) (H : Hp) (args : Args) (us : List Value) (vs : List V) (Q : VK) (E : XK), Room k A → Env0 P w K mg base A outer s H → BindsTo s fd args (ps.zip us) → Vals vs us → sp vs H Q E →
    codeAny (model P w) A (.call (.ref f) args) (CR CX outer P w H s Q E) s
theorem FnOk.mono {P : Program} {w : World} {K : PySem.W.Frag} {mg : Str → Option Value} {base : Heap} {CX : CXT} {j k : Nat} {f : Addr} {fd : FuncData} {ps : List Str} {sp : Sp} (F : FnOk P w K mg base CX j f fd ps sp) (h : j ≤ k) :
    FnOk P w K mg base CX k f fd ps sp := ⟨F.len, fun A outer s H args us vs Q E hr => F.run A outer s H args us vs Q E (hr.mono h)⟩
section
variable {X : Cx} {pins : List (Addr × Obj)} {σ : St} {H : Hp} {s s' : Shared}
theorem Inv.env0 (I : Inv X pins σ H s) : Env0 X.prog X.w X.K X.mg X.base X.A X.stack s H :=
  ⟨I.ok.frames, I.ok.mod, I.bs, Nat.le_trans I.ok.bsz I.sz, I.stack, I.stkFree, I.hok, I.bare⟩
theorem Inv.after {Q : VK} {u : Value} (I : Inv X pins σ H s) (h : CE X.stack X.prog X.w H s Q u s') : EP X pins σ Q u s' := by
  obtain ⟨v, H', os, bare, un, hok, r, q⟩ := h
  obtain ⟨hh, g, d, t, os'⟩ := s'
  obtain rfl : os' = s.os := os
  exact ⟨v, H', I.call (h' := hh) (g' := g) (d' := d) (t' := t) (ch := []) un hok bare (fun b z => absurd z (by simp)), r, q⟩
end
def Binds (K : PySem.W.Frag) (fd : FuncData) (ps : List Str) (ds : List Value) : Prop :=
  ∀ (s : Shared) (us : List Value), K.In s.heap → (us ++ ds).length = ps.length → BindsTo s fd ⟨us, []⟩ (ps.zip (us ++ ds))
theorem Binds.all {K : PySem.W.Frag} {fd : FuncData} {ps : List Str} (h : ∀ us : List Value, us.length = ps.length → bindArgs fd ⟨us, []⟩ = pure (ps.zip us)) : Binds K fd ps [] := fun s us _ hl => by
  rw [List.append_nil] at hl ⊢
  exact .of_eq (h us hl)
section
variable {X : Cx} {CX : CXT} {k : Nat} {f C : Addr} {fd : FuncData} {ps : List Str} {sp : Sp} {dvs : List V} {ds : List Value} {E : XK} {x m : Str} {p pos apos : Pos} {e o : Expr} {es : List Expr} {ta : TE} {t : TA}
structure Mk (K : PySem.W.Frag) (C f : Addr) : Prop where
  makes : PySem.W.makesIn K C = true
  init : PySem.W.findIn K (.ref C) "__init__" = some (some (.ref f))
  fn : PySem.W.isFn K (.ref f) = true
  kp : PySem.W.keepIn K (.ref C) = true
end
section
variable {X : Cx} {CX : CXT} {k : Nat} {f C : Addr} {fd : FuncData} {ps ks : List Str} {sp : Sp} {E : XK} {x m : Str} {p pos apos kpos : Pos} {e o : Expr} {es : List Expr} {kws : List Keyword} {te ta : TE} {t tk : TA} {nm : Option Str}
structure KBinds (K : PySem.W.Frag) (fd : FuncData) (ps ks : List Str) (g : List Value → List Value → List Value) (gV : List V → List V → List V) : Prop where
  to : ∀ (s : Shared) (us ws : List Value), K.In s.heap → (g us ws).length = ps.length → BindsTo s fd ⟨us, ks.zip ws⟩ (ps.zip (g us ws))
  rel : ∀ {vs : List V} {us : List Value} {zs : List V} {ws : List Value}, Vals vs us → Vals zs ws → Vals (gV vs zs) (g us ws)
variable {g : List Value → List Value → List Value} {gV : List V → List V → List V}
end
structure FnScope (N P : List Str) (sc : Scope) : Prop where
  kind : sc.kind = .function
  co : sc.isCoroutine = false
  gen : sc.isGenerator = false
  nd : N.Nodup
  pre : N.take P.length = P
  par : ∀ x ∈ P, sc.names.lookup x = some .local ∨ sc.names.lookup x = some .cell
  nofree : ∀ y ∈ sc.names, y.2 ≠ .free
theorem bindL_out {kindOf : Str → Option NameKind} {x : Str} : ∀ {binds : List (Str × Value)} {m : Str → Option Value}, (∀ v, (x, v) ∉ binds) → bindL kindOf binds m x = m x
  | [], _, _ => rfl
  | (n, v) :: r, m, h => by
    unfold bindL
    rw [bindL_out fun w hw => h w (List.mem_cons_of_mem _ hw)]
    split
    · have : x ≠ n := by rintro rfl; exact h v List.mem_cons_self
      simp [this]
    · rfl
theorem bindC_out {kindOf : Str → Option NameKind} {x : Str} : ∀ {binds : List (Str × Value)} {m : Str → Option Value}, (∀ v, (x, v) ∉ binds) → bindC kindOf binds m x = m x
  | [], _, _ => rfl
  | (n, v) :: r, m, h => by
    unfold bindC
    rw [bindC_out fun w hw => h w (List.mem_cons_of_mem _ hw)]
    split
    · rfl
    · have : x ≠ n := by rintro rfl; exact h v List.mem_cons_self
      simp [this]
theorem bindL_get {kindOf : Str → Option NameKind} {x : Str} {v : Value} : ∀ {P : List Str} {vs : List Value} {i : Nat} {m : Str → Option Value}, P.Nodup → P[i]? = some x → vs[i]? = some v → kindOf x = some .local →
    bindL kindOf (P.zip vs) m x = some v
  | [], _, _, _, _, h, _, _ => by simp at h
  | _ :: _, [], _, _, _, _, h, _ => by simp at h
  | p :: P, w :: vs, 0, m, nd, h1, h2, hk => by
    simp at h1 h2; subst h1; subst h2
    show bindL kindOf ((p, w) :: P.zip vs) m p = _
    unfold bindL
    rw [bindL_out fun v hv => (List.nodup_cons.mp nd).1 (List.of_mem_zip hv).1, if_pos hk]
    simp
  | p :: P, w :: vs, i + 1, m, nd, h1, h2, hk => by
    show bindL kindOf ((p, w) :: P.zip vs) m x = _
    unfold bindL
    exact bindL_get (i := i) (List.nodup_cons.mp nd).2 (by simpa using h1) (by simpa using h2) hk
theorem bindC_get {kindOf : Str → Option NameKind} {x : Str} {v : Value} : ∀ {P : List Str} {vs : List Value} {i : Nat} {m : Str → Option Value}, P.Nodup → P[i]? = some x → vs[i]? = some v → kindOf x ≠ some .local →
    bindC kindOf (P.zip vs) m x = some v
  | [], _, _, _, _, h, _, _ => by simp at h
  | _ :: _, [], _, _, _, _, h, _ => by simp at h
  | p :: P, w :: vs, 0, m, nd, h1, h2, hk => by
    simp at h1 h2; subst h1; subst h2
    show bindC kindOf ((p, w) :: P.zip vs) m p = _
    unfold bindC
    rw [bindC_out fun v hv => (List.nodup_cons.mp nd).1 (List.of_mem_zip hv).1, if_neg hk]
    simp
  | p :: P, w :: vs, i + 1, m, nd, h1, h2, hk => by
    show bindC kindOf ((p, w) :: P.zip vs) m x = _
    unfold bindC
    exact bindC_get (i := i) (List.nodup_cons.mp nd).2 (by simpa using h1) (by simpa using h2) hk
def start (N : List Str) (vs : List V) : St := vs.map some ++ List.replicate (N.length - vs.length) none
def cxOf (CX : CXT) (P : Program) (w : World) (K : PySem.W.Frag) (mg : Str → Option Value) (base : Heap) (N : List Str) (qual : Str) (scope : Scope) (f : Addr) (cd : Value) (A : Around) (outer : List Env) (s : Shared) (H : Hp) (E : XK) : Cx where
  prog := P
  w := w
  K := K
  mg := mg
  base := base
  A := A.deeper (envOfC qual scope s.heap.objs.size f cd)
  N := N
  s₀ := s
  H₀ := H
  env := envOfC qual scope s.heap.objs.size f cd
  outer := outer
  stack := envOfC qual scope s.heap.objs.size f cd :: outer
  ex := []
  calm := true
  fn := fun _ => true
  pn := []
  xe := fun e s' => wpAny (model P w) (A.deeper (envOfC qual scope s.heap.objs.size f cd)) (leaving (envOfC qual scope s.heap.objs.size f cd) e) (fun _ s'' => CX outer H s E e s'') (fun e' s'' => CX outer H s E e' s'') s'
theorem cell_has {sc : Scope} {n : Nat} {x : Str} (h : sc.names.lookup x = some .cell) : ∃ c, (cellsFrom n sc.names []).lookup x = some c := by
  have q := PySem.W.cellsFrom_some sc.names n [] (.inl h)
  exact Option.isSome_iff_exists.mp q
theorem inv_start {CX : CXT} {P : Program} {w : World} {K : PySem.W.Frag} {mg : Str → Option Value} {base : Heap} {N ps : List Str} {qual : Str} {scope : Scope} {f : Addr} {cd : Value} {A : Around} {outer : List Env} {s s1 : Shared} {H : Hp} {E : XK} {us : List Value} {vs : List V}
    (S : FnScope N ps scope) (hd : A.handled = none) (e0 : Env0 P w K mg base A outer s H) (hl : vs.length = ps.length) (r : Vals vs us)
    (x : InCallC s s.heap.objs.size (bindL (envOfC qual scope s.heap.objs.size f cd).kindOf (ps.zip us) fun _ => none) (cellsFrom (s.heap.objs.size + 1) scope.names []) (bindC (envOfC qual scope s.heap.objs.size f cd).kindOf (ps.zip us) fun _ => none) s1) :
    Inv (cxOf CX P w K mg base N qual scope f cd A outer s H E) [] (start N vs) H s1 := by
  have hpl : ps.length ≤ N.length := by have := congrArg List.length S.pre; rw [List.length_take] at this; omega
  obtain ⟨h1, tk, rfl, hk⟩ := x.done
  have noA : ∀ b : Addr, b ∉ (cxOf CX P w K mg base N qual scope f cd A outer s H E).ex := fun b z => absurd (show b ∈ ([] : List Addr) from z) (by simp)
  refine ⟨⟨e0.mod, S.kind, rfl, rfl, Nat.le_refl _, fun y z c h1 h2 => ?_, fun y hy => ?_, fun y c _ h => ?_, fun _ => hd, Around.frames_deeper e0.frames, .inr ⟨rfl, rfl⟩, fun b z => absurd z (noA b), e0.bs, e0.bsz, fun b _ _ => noA b, fun b z => absurd z (noA b), e0.funs, e0.frf⟩,
    rfl, e0.bare, Un.kept hk, ⟨_, x.toInCall.ns, fun i y v h1 h2 h3 => ?_⟩, fun y c h => ⟨_, x.cell y c h⟩, e0.hok.fresh (Nat.le_refl _), fun y c h => ?_, fun p hp => absurd (show p ∈ ([] : List (Addr × Obj)) from hp) (by simp), e0.hok.kept hk, ?_⟩
  · exact name_of_addr x.apart (PySem.mem_of_lookup h1) (PySem.mem_of_lookup h2)
  · have hy : scope.names.lookup y = some .cell ∨ scope.names.lookup y = some .free := hy
    rcases hy with hy | hy
    · exact cell_has hy
    · exact absurd rfl (S.nofree _ (PySem.mem_of_lookup hy))
  · exact Nat.le_of_lt (x.above y c (PySem.mem_of_lookup h))
  · have hi : i < vs.length := by
      unfold start at h2
      by_cases hi : i < vs.length
      · exact hi
      · rw [List.getElem?_append_right (by simpa using hi)] at h2
        rw [List.getElem?_replicate] at h2
        split at h2 <;> cases h2
    have ha : vs[i]? = some v := by
      unfold start at h2
      rw [List.getElem?_append_left (by simpa using hi), List.getElem?_map] at h2
      cases e : vs[i]? with
      | none => rw [e] at h2; cases h2
      | some a => rw [e] at h2; cases h2; rfl
    obtain ⟨u, hu, rv⟩ := r.get ha
    have hp : ps[i]? = some y := by
      rw [← S.pre, List.getElem?_take_of_lt (by omega)]; exact h1
    have ndP : ps.Nodup := by rw [← S.pre]; exact S.nd.sublist (List.take_sublist _ _)
    refine ⟨u, rv, ?_⟩
    rcases S.par y (List.mem_of_getElem? hp) with k | k
    · exact .inl ⟨k, bindL_get ndP hp hu k⟩
    · obtain ⟨c, e⟩ := cell_has (n := s.heap.objs.size + 1) k
      refine .inr ⟨.inl k, c, e, ?_⟩
      have q := x.cell y c e
      rw [bindC_get ndP hp hu (by show scope.names.lookup y ≠ _; rw [k]; decide)] at q
      exact q
  · exact e0.hok.fresh (Nat.le_of_lt (x.above y c (PySem.mem_of_lookup h)))
  · unfold start
    show _ = N.length
    rw [List.length_append, List.length_map, List.length_replicate]
    omega
theorem fn_of {CX : CXT} {P : Program} {w : World} {K : PySem.W.Frag} {mg : Str → Option Value} {base : Heap} {k : Nat} {f : Addr} {name qual : Str} {params : Arguments} {body : List Stmt} {scope : Scope} {dV kV doc pm cdv ct oc : Value} {an od : Option Addr}
    {osl : Array (Option Value)} {N ps : List Str} {sp : Sp} (lk : K.lookup f = some ⟨oc, od, .func (PySem.W.fnOf name qual params body scope dV kV doc pm an cdv ct), osl⟩) (hcd : PySem.W.codeIn K cdv qual = true) (S : FnScope N ps scope)
    (len : ∀ vs H Q E, sp vs H Q E → vs.length = ps.length)
    (hbody : ∀ (A : Around) (outer : List Env) (s : Shared) (H : Hp) (vs : List V) (Q : VK) (E : XK), Room k (A.deeper (envOfC qual scope s.heap.objs.size f cdv)) → sp vs H Q E →
      ∃ t, PSs (cxOf CX P w K mg base N qual scope f cdv A outer s H E) body t ∧ t { nx := fun _ H' => Q .non H', rt := Q } (start N vs) H) :
    FnOk P w K mg base CX (k + 1) f (PySem.W.fnOf name qual params body scope dV kV doc pm an cdv ct) ps sp := by
  refine ⟨len, fun A outer s H args us vs Q E hr e0 hb r hsp => ?_⟩
  have hl := len _ _ _ _ hsp
  have KX : K.In s.heap := e0.mod.kin.keeps fun b o e => (e0.bs b o e).1
  have lim : s.heap.NoLimit := e0.mod.nolimit.keeps fun b o e => (e0.bs b o e).1
  have hkind : ∀ y ∈ ps.zip us, scope.names.lookup y.1 = some .local ∨ (scope.names.lookup y.1 = some .cell ∧ ((cellsFrom (s.heap.objs.size + 1) scope.names []).lookup y.1).isSome = true) := fun ⟨n, v⟩ hy => by
    rcases S.par n (List.of_mem_zip hy).1 with q | q
    · exact .inl q
    · exact .inr ⟨q, PySem.W.cellsFrom_some _ _ _ (.inl q)⟩
  refine codeAny_call_function hr.depth (KX _ _ lk) rfl S.co S.gen rfl (PySem.W.codeRec_of KX hcd) (hb _ _ _ _ ?_)
  refine wpAny_newFunctionEnv_cells S.kind hkind fun env he s1 x => ?_
  subst he
  refine ⟨lim.keeps x.toInCall.keep, codeAny_func ?_⟩
  obtain ⟨t, ht, hq⟩ := hbody A outer s H vs Q E (hr.deeper _) hsp
  have I : Inv (cxOf CX P w K mg base N qual scope f cdv A outer s H E) [] (start N vs) H s1 := inv_start S hr.hd e0 hl r x
  refine wpAny_mono (ht [] s1 (start N vs) H _ I hq) (fun fl s' hs => ?_) fun e s' hs => hs
  have fin : ∀ {σ' : St} {H' : Hp} {v : V} {u : Value}, Inv (cxOf CX P w K mg base N qual scope f cdv A outer s H E) [] σ' H' s' → RelV v u → Q v H' → CE outer P w H s Q u s' :=
    fun {σ' H' v u} J rv q => ⟨v, H', J.os, J.bare, J.base, J.hok, rv, q⟩
  cases fl with
  | ret u =>
    obtain ⟨v, σ', H', J, rv, q⟩ := hs
    exact fin J rv q
  | next =>
    obtain ⟨σ', H', J, q⟩ := hs
    exact fin (v := V.non) (u := Value.none) J rfl q
  | brk =>
    obtain ⟨_, _, _, q⟩ := hs
    exact False.elim q
  | cont =>
    obtain ⟨_, _, _, q⟩ := hs
    exact False.elim q
end L2
namespace L2
open PySem PySem.Spec PyProof.Rows
section
variable {X : Cx} {x : Str} {p pos : Pos} {e : Expr} {es : List Expr} {t : TA} {id T : String} {r : List V → Hp → VK → Prop}
def tCB (r : List V → Hp → VK → Prop) (t : TA) : TE := fun σ H Q => t σ H fun vs H1 => r vs H1 Q
theorem pe_callB (hc : CallR X (.builtin id) r) (hg : Gl X x) (hm : X.mg x = none) (hv : bootBuiltins x = some (.builtin id)) (ha : PA X (e :: es) t) (hn : x ≠ "__name__" := by decide) (hdb : (x == ("__debug__" : Str)) = false := by decide)
    (he : starEach (e :: es) X.env = (false, eval e X.env) :: starEach es X.env := by rfl) (hpl : (backTo pos (starEach es X.env)).any (·.1) = false := by rfl) : PE X (.Call (.Name x p) (e :: es) [] pos) (tCB r t) := by
  intro pins s σ H Q I h
  refine wpAny_Call_Name_kw (ld_blt I hg hm hv ?_ hn hdb)
  exact PyProof.Rows.callWith_builtin1 (thn (ha pos pins s σ H _ I h) fun us s1 ⟨vs, H1, I1, r1, q1⟩ => hc pins s1 σ H1 vs us Q I1 r1 q1) he hpl
theorem pe_callTy (hc : CallR X (.type T) r) (hg : Gl X x) (hm : X.mg x = none) (hv : bootBuiltins x = some (.type T)) (ha : PA X (e :: es) t) (hn : x ≠ "__name__" := by decide) (hdb : (x == ("__debug__" : Str)) = false := by decide)
    (he : starEach (e :: es) X.env = (false, eval e X.env) :: starEach es X.env := by rfl) (hpl : (backTo pos (starEach es X.env)).any (·.1) = false := by rfl) : PE X (.Call (.Name x p) (e :: es) [] pos) (tCB r t) := by
  intro pins s σ H Q I h
  refine wpAny_Call_Name_kw (ld_blt I hg hm hv ?_ hn hdb)
  exact PyProof.Rows.callWith_type1 (thn (ha pos pins s σ H _ I h) fun us s1 ⟨vs, H1, I1, r1, q1⟩ => hc pins s1 σ H1 vs us Q I1 r1 q1) he hpl
end
end L2
namespace HT
open PySem PyProof.Rows
section
open PySem.SeqAt
open PySem.AutoSeq1 (wpAny_loadPart')
open PySem.MeetsSeq PySem.MeetsSeq2 PySem.MeetsSeq3
end
section
variable {prog : Program} {w : World} {A : Around} {E : Value → Shared → Prop} {s : Shared}
def sIx (n d : Nat) : Option Int → Nat
  | none => d
  | some v => if v < 0 then (v + (n : Int)).toNat else min v.toNat n
end
end HT
namespace L2
open PySem PySem.Spec PyProof.Rows
abbrev TO := St → Hp → (Option Int → Hp → Prop) → Prop
def PO (X : Cx) (e : Option Expr) (t : TO) : Prop :=
  ∀ (pins : List (Addr × Obj)) (s : Shared) (σ : St) (H : Hp) (Q : Option Int → Hp → Prop), Inv X pins σ H s → t σ H Q →
    wpAny (model X.prog X.w) X.A (evalPart e X.env) (fun u s' => ∃ o H', Inv X pins σ H' s' ∧ IsPart u o ∧ Q o H') X.xe s
def tNoPart : TO := fun _ H Q => Q none H
def tPart (t : TE) : TO := fun σ H Q => t σ H fun x H1 => ∃ i, x = .int i ∧ Q (some i) H1
section
variable {X : Cx} {e : Expr} {te : TE} {lo hi : Option Expr} {tl th : TO} {pos p2 : Pos}
theorem po_none : PO X none tNoPart := by
  intro pins s σ H Q I h
  rw [evalPart_none]
  exact wpAny_pure ⟨none, H, I, .none, h⟩
theorem po_some (h : PE X e te) : PO X (some e) (tPart te) := by
  intro pins s σ H Q I hw
  rw [evalPart_some]
  refine thn (h pins s σ H _ I hw) fun u s1 ⟨x, H1, I1, r1, q1⟩ => ?_
  obtain ⟨i, rfl, q⟩ := q1
  obtain ⟨t, rfl⟩ := r1
  exact ⟨some i, H1, I1, .int i t, q⟩
def SlR (X : Cx) (r : V → Option Int → Option Int → Hp → VK → Prop) : Prop :=
  ∀ (pins : List (Addr × Obj)) (s : Shared) (σ : St) (H : Hp) (x : V) (v vl vu : Value) (lo hi : Option Int) (sl : Addr) (Q : VK), Inv X pins σ H s → RelV x v → s.heap.IsSliceOf sl vl vu .none → IsPart vl lo → IsPart vu hi → r x lo hi H Q →
    ∃ T id, typeLookup (.type T) "__getitem__" = pure (some (.builtin id)) ∧ s.TypeIs v T ∧ wpAny (model X.prog X.w) X.A (getItem v (.ref sl)) (EP X pins σ Q) X.xe s
def tSl (r : V → Option Int → Option Int → Hp → VK → Prop) (te : TE) (tl th : TO) : TE := fun σ H Q => te σ H fun x H1 => tl σ H1 fun l H2 => th σ H2 fun u H3 => r x l u H3 Q
theorem pe_slice {r : V → Option Int → Option Int → Hp → VK → Prop} (hr : SlR X r) (he : PE X e te) (hl : PO X lo tl) (hu : PO X hi th) : PE X (.Subscript e (.Slice lo hi none p2) pos) (tSl r te tl th) := by
  intro pins s σ H Q I h
  refine Subscript_ (thn (he pins s σ H _ I h) fun v s1 ⟨x, H1, I1, r1, q1⟩ => ?_)
  refine wpAny_Slice (thn (hl pins s1 σ H1 _ I1 q1) fun vl s2 ⟨l, H2, I2, pl, q2⟩ => thn (hu pins s2 σ H2 _ I2 q2) fun vu s3 ⟨u, H3, I3, pu, q3⟩ => ?_)
  rw [evalPart_none]
  refine wpAny_pure ?_
  have I4 : Inv X pins σ H3 { s3 with heap := s3.heap.push { cls := .type "slice", data := .fields #[vl, vu, .none] } } := I3.kept (t' := s3.toks) fun b ob q => Heap.get?_push_of_some _ q
  obtain ⟨T, id, hT, ht, hg⟩ := hr pins { s3 with heap := s3.heap.push { cls := .type "slice", data := .fields #[vl, vu, .none] } } σ H3 x v vl vu l u s3.heap.objs.size Q I4 r1 (Heap.IsSliceOf.new ..) pl pu q3
  show wpAny (model X.prog X.w) X.A (subscriptTail e (.Slice lo hi none p2) v (.ref s3.heap.objs.size)) (EP X pins σ Q) X.xe { s3 with heap := s3.heap.push { cls := .type "slice", data := .fields #[vl, vu, .none] } }
  exact tail_any (ops := [.ref s3.heap.objs.size, v]) ht hT hg (by with_unfolding_all rfl)
def cutV (xs : List V) (lo hi : Option Int) : List V := (xs.drop (HT.sIx xs.length 0 lo)).take (HT.sIx xs.length xs.length hi - HT.sIx xs.length 0 lo)
theorem cutV_length (xs : List V) (lo hi : Option Int) : (cutV xs lo hi).length ≤ xs.length := by
  unfold cutV
  rw [List.length_take, List.length_drop]
  omega
end
end L2
namespace L2
open PySem PySem.Spec PyProof.Rows
def ixN (n : Nat) (i : Int) : Option Nat := if 0 ≤ i then (if i < n then some i.toNat else none) else if -(n : Int) ≤ i then some (i + n).toNat else none
def atI {α : Type} (xs : List α) (i : Int) : Option α := (ixN xs.length i).bind fun j => xs[j]?
theorem ixN_seq {n : Nat} {i : Int} {j : Nat} (h : ixN n i = some j) : seqIndex? i n = some j ∧ j < n ∧ -(n : Int) ≤ i ∧ i < n := by
  unfold ixN at h
  by_cases h0 : 0 ≤ i
  · rw [if_pos h0] at h
    by_cases h1 : i < n
    · rw [if_pos h1] at h
      have e : i.toNat = j := Option.some.inj h
      exact ⟨by rw [seqIndex_of h0 h1, e], by omega, by omega, h1⟩
    · rw [if_neg h1] at h; cases h
  · rw [if_neg h0] at h
    by_cases h1 : -(n : Int) ≤ i
    · rw [if_pos h1] at h
      have e : (i + n).toNat = j := Option.some.inj h
      exact ⟨by rw [seqIndex_neg (by omega) h1, e], by omega, h1, by omega⟩
    · rw [if_neg h1] at h; cases h
theorem atI_get {α : Type} {xs : List α} {i : Int} {v : α} (h : atI xs i = some v) : ∃ j, seqIndex? i xs.length = some j ∧ xs[j]? = some v ∧ j < xs.length ∧ -(xs.length : Int) ≤ i ∧ i < xs.length := by
  unfold atI at h
  cases e : ixN xs.length i with
  | none => rw [e] at h; cases h
  | some j =>
    rw [e] at h
    obtain ⟨h1, h2, h3, h4⟩ := ixN_seq e
    exact ⟨j, h1, h, h2, h3, h4⟩
theorem atI_nat {α : Type} {xs : List α} {j : Nat} {v : α} (h : xs[j]? = some v) : atI xs (j : Int) = some v := by
  have hj : j < xs.length := (List.getElem?_eq_some_iff.mp h).1
  have e : ixN xs.length (j : Int) = some j := by
    unfold ixN
    rw [if_pos (by omega), if_pos (by omega)]; simp
  unfold atI; rw [e]; exact h
def PlainIx (b : Expr) : Prop := ∀ o i, subscripted b false o i = operate [o, i] (getItem o i)
def IxR (X : Cx) (r : R2) : Prop :=
  ∀ (value slice : Expr) (pins : List (Addr × Obj)) (s : Shared) (σ : St) (H : Hp) (x y : V) (v u : Value) (Q : VK), Inv X pins σ H s → RelV x v → RelV y u → r x y H Q →
    subscripted slice false v u = operate [v, u] (getItem v u) → wpAny (model X.prog X.w) X.A (subscriptTail value slice v u) (EP X pins σ Q) X.xe s
def MtR (X : Cx) (id : String) (r : V → List V → Hp → VK → Prop) : Prop :=
  ∀ (pins : List (Addr × Obj)) (s : Shared) (σ : St) (H : Hp) (x : V) (xs : List V) (v : Value) (us : List Value) (Q : VK), Inv X pins σ H s → RelV x v → Vals xs us → r x xs H Q →
    wpAny (model X.prog X.w) X.A (call (.builtin id) (v :: us)) (EP X pins σ Q) X.xe s
section
variable {X : Cx} {a b : Expr} {ta tb : TE} {pos : Pos}
theorem IxR.or {r r' : R2} (h : IxR X r) (h' : IxR X r') : IxR X (fun x y H Q => r x y H Q ∨ r' x y H Q) := by
  intro value slice pins s σ H x y v u Q I rx ry q hs
  rcases q with q | q
  · exact h value slice pins s σ H x y v u Q I rx ry q hs
  · exact h' value slice pins s σ H x y v u Q I rx ry q hs
theorem pe_ix {r : R2} (hr : IxR X r) (ha : PE X a ta) (hb : PE X b tb) (hs : PlainIx b) : PE X (.Subscript a b pos) (tOp r ta tb) := by
  intro pins s σ H Q I h
  exact Subscript_ (binT ha hb I h fun v u s2 x y H2 I2 rx ry q => hr a b pins s2 σ H2 x y v u Q I2 rx ry q (hs _ _))
def rIxL (K : PySem.W.Frag) : R2 := fun x y H Q => ∃ p xs i v, x = .ref p ∧ y = .int i ∧ SqL K H p xs ∧ atI xs i = some v ∧ Q v H
def rIxT (K : PySem.W.Frag) : R2 := fun x y H Q => ∃ p xs i v, x = .ref p ∧ y = .int i ∧ SqT K H p xs ∧ atI xs i = some v ∧ Q v H
def rIxS : R2 := fun x y H Q => ∃ z i c, x = .str z ∧ y = .int i ∧ z.length ≤ sizeLine ∧ atI z.cps.toList i = some c ∧ Q (.str ⟨#[c]⟩) H
theorem ix_list : IxR X (rIxL X.K) := by
  intro value slice pins s σ H x y v u Q I rx ry h hs
  obtain ⟨p, xs, i, z, rfl, rfl, hq, he, q⟩ := h
  cases rx
  obtain ⟨t, rfl⟩ := ry
  obtain ⟨its, r, pl, hz⟩ := I.list hq
  obtain ⟨j, h1, h2, h3, h4, h5⟩ := atI_get he
  obtain ⟨w, ew, rw'⟩ := r.get h2
  have hl := r.length
  have hn := line63
  have fin : EP X pins σ Q w s := ⟨z, H, I, rw', q⟩
  by_cases h0 : 0 ≤ i
  · have hj : i.toNat = j := by
      rw [seqIndex_of h0 h5] at h1
      exact Option.some.inj h1
    exact item_listR pl.isList h0 (by omega) (by rw [hj]; simpa using ew) fin hs
  · have hj : (i + (its.toArray.size : Int)).toNat = j := by
      rw [seqIndex_neg (by omega) h4] at h1
      rw [List.size_toArray, ← hl]
      exact Option.some.inj h1
    exact subscriptTail_builtinR (x := w) pl.isList.typeIs slot_list_getitem.lookup
      (wpAny_getItem_list_neg (Q := fun r s' => r = w ∧ EP X pins σ Q r s') pl.isList (by omega) (by rw [List.size_toArray] <;> omega) (by omega) (by rw [hj]; simpa using ew) ⟨rfl, fin⟩) hs
theorem ix_tup : IxR X (rIxT X.K) := by
  intro value slice pins s σ H x y v u Q I rx ry h hs
  obtain ⟨p, xs, i, z, rfl, rfl, hq, he, q⟩ := h
  cases rx
  obtain ⟨t, rfl⟩ := ry
  obtain ⟨its, r, pl, hz⟩ := I.tuple hq
  obtain ⟨j, h1, h2, h3, h4, h5⟩ := atI_get he
  obtain ⟨w, ew, rw'⟩ := r.get h2
  have hl := r.length
  have hn := line63
  have fin : EP X pins σ Q w s := ⟨z, H, I, rw', q⟩
  exact subscriptTail_builtinR (x := w) pl.typeIs slot_tuple_getitem.lookup
    (getItem_tuple (j := j) (Q := fun r s' => r = w ∧ EP X pins σ Q r s') pl (by omega) (by omega) (by rw [List.size_toArray, ← hl]; exact h1) (by simpa using ew) ⟨rfl, fin⟩) hs
theorem ix_str : IxR X rIxS := by
  intro value slice pins s σ H x y v u Q I rx ry h hs
  obtain ⟨z, i, c, rfl, rfl, hz, he, q⟩ := h
  obtain ⟨t, rfl⟩ := rx
  obtain ⟨t', rfl⟩ := ry
  obtain ⟨j, h1, h2, h3, h4, h5⟩ := atI_get he
  have hl : z.cps.toList.length = z.length := by simp [Str.length]
  rw [hl] at h1 h4 h5
  have hn := line63
  exact tail_any (typeIs_str s z t) slot_str_getitem.lookup (getItem_str (c := c) (by
    have e1 : decide (i < -(2 ^ 63 : Int)) = false := decide_eq_false (by omega)
    have e2 : decide (i ≥ 2 ^ 63) = false := decide_eq_false (by omega)
    rw [e1, e2, Bool.or_false]) (by rw [h1]; simpa using h2) ⟨.str ⟨#[c]⟩, H, I.tok _, ⟨_, rfl⟩, q⟩) hs
theorem Inv.lst {pins : List (Addr × Obj)} {σ : St} {H : Hp} {s : Shared} {p : Addr} {xs : List V} (I : Inv X pins σ H s) (h : H p = some (.lst xs)) :
    ∃ (its : List Value) (n : Nat), Vals xs its ∧ s.heap.get? p = some { cls := .type "list", data := .seq its.toArray n } ∧ xs.length ≤ sizeLine := by
  obtain ⟨z, its, n, r, e⟩ := I.hok p _ h
  exact ⟨its, n, r, e, z⟩
theorem slice_bounds (lo hi : Option Int) (n : Nat) : (sliceBounds lo hi none n).1 = ((HT.sIx n 0 lo : Nat) : Int) ∧ (sliceBounds lo hi none n).2.1 = ((HT.sIx n n hi : Nat) : Int) ∧ (sliceBounds lo hi none n).2.2 = 1 := by
  refine ⟨?_, ?_, rfl⟩
  · cases lo with
    | none => simp [sliceBounds, HT.sIx]
    | some i =>
      simp only [sliceBounds, HT.sIx, Option.getD_none, show (1 : Int) > 0 by decide, if_true]
      by_cases h : i < 0
      · simp only [h, if_true] <;> omega
      · simp only [h, if_false] <;> omega
  · cases hi with
    | none => simp [sliceBounds, HT.sIx]
    | some i =>
      simp only [sliceBounds, HT.sIx, Option.getD_none, show (1 : Int) > 0 by decide, if_true]
      by_cases h : i < 0
      · simp only [h, if_true] <;> omega
      · simp only [h, if_false] <;> omega
theorem slicePick_cut (its : List Value) (lo hi : Option Int) : slicePick its.toArray lo hi none = ((its.drop (HT.sIx its.length 0 lo)).take (HT.sIx its.length its.length hi - HT.sIx its.length 0 lo)).toArray := by
  obtain ⟨h1, h2, h3⟩ := slice_bounds lo hi its.toArray.size
  unfold slicePick
  rw [h1, h2, h3]
  simp only [sliceRange_one, pick_run, List.size_toArray] <;> rfl
def rSlL (K : PySem.W.Frag) : V → Option Int → Option Int → Hp → VK → Prop := fun x lo hi H Q => ∃ a xs, x = .ref a ∧ SqL K H a xs ∧ ∀ p, H p = none → Q (.ref p) (upd H p (.lst (cutV xs lo hi)))
theorem sl_list : SlR X (rSlL X.K) := by
  intro pins s σ H x v vl vu lo hi sl Q I rx hs pl pu h
  obtain ⟨a, xs, rfl, hx, q⟩ := h
  cases rx
  obtain ⟨its, r, ht, hz⟩ := I.list hx
  have hlen := r.length
  refine ⟨"list", _, slot_list_getitem.lookup, ht.isList.typeIs, ?_⟩
  refine wpAny_getItem_list_slice ht.isList hs pl pu .none (by simp) ?_ (by rw [List.size_toArray] <;> omega)
  rw [slicePick_cut, ← hlen]
  refine ⟨.ref s.heap.objs.size, _, I.laid (t' := s.toks) (o := .lst (cutV xs lo hi)) (fun b ob q => Heap.get?_push_of_some _ q) (Nat.le_refl _) ?_, rfl, q _ (I.hok.fresh (Nat.le_refl _))⟩
  exact ⟨Nat.le_trans (cutV_length xs lo hi) hz, _, 0, (r.drop (HT.sIx xs.length 0 lo)).take (HT.sIx xs.length xs.length hi - HT.sIx xs.length 0 lo), Heap.get?_push_size _ rfl⟩
def flatV : V → Bool
  | .non => true
  | .bl _ => true
  | .int _ => true
  | .str _ => true
  | _ => false
def eqV : V → V → Bool
  | .non, .non => true
  | .bl a, .bl b => a == b
  | .bl a, .int b => (if a then 1 else 0) == b
  | .int a, .bl b => a == (if b then 1 else 0)
  | .int a, .int b => a == b
  | .str a, .str b => a == b
  | _, _ => false
theorem eqAt_V {A : Around} {s : Shared} {y x : V} {u v : Value} (ry : RelV y u) (rx : RelV x v) (fy : flatV y = true) (fx : flatV x = true) : SeqAt.EqAt A s u v (eqV y x) := by
  cases y with
  | non =>
    cases ry
    cases x with
    | non => cases rx; exact SeqAt.EqAt.same _
    | bl b => cases rx; exact SeqAt.EqAt.none_bool b
    | int b => obtain ⟨t, rfl⟩ := rx; exact SeqAt.EqAt.none_int b t
    | str b => obtain ⟨t, rfl⟩ := rx; exact SeqAt.EqAt.none_str b t
    | _ => exact absurd (show false = true from fx) Bool.false_ne_true
  | bl a =>
    cases ry
    cases x with
    | non => cases rx; exact SeqAt.EqAt.bool_none a
    | bl b => cases rx; exact SeqAt.EqAt.bool_bool a b
    | int b => obtain ⟨t, rfl⟩ := rx; exact SeqAt.EqAt.bool_int a b t
    | str b => obtain ⟨t, rfl⟩ := rx; exact SeqAt.EqAt.bool_str a b t
    | _ => exact absurd (show false = true from fx) Bool.false_ne_true
  | int a =>
    obtain ⟨t', rfl⟩ := ry
    cases x with
    | non => cases rx; exact SeqAt.EqAt.int_none a t'
    | bl b => cases rx; exact SeqAt.EqAt.int_bool a t' b
    | int b => obtain ⟨t, rfl⟩ := rx; exact SeqAt.EqAt.int_int a t' b t
    | str b => obtain ⟨t, rfl⟩ := rx; exact SeqAt.EqAt.int_str a t' b t
    | _ => exact absurd (show false = true from fx) Bool.false_ne_true
  | str a =>
    obtain ⟨t', rfl⟩ := ry
    cases x with
    | non => cases rx; exact SeqAt.EqAt.str_none a t'
    | bl b => cases rx; exact SeqAt.EqAt.str_bool a t' b
    | int b => obtain ⟨t, rfl⟩ := rx; exact SeqAt.EqAt.str_int a t' b t
    | str b => obtain ⟨t, rfl⟩ := rx; exact SeqAt.EqAt.str_str a t' b t
    | _ => exact absurd (show false = true from fx) Bool.false_ne_true
  | _ => exact absurd (show false = true from fy) Bool.false_ne_true
def eqU (x : V) (u : Value) : Bool := match u with
  | .none => eqV .non x
  | .bool b => eqV (.bl b) x
  | .int i _ => eqV (.int i) x
  | .str z _ => eqV (.str z) x
  | _ => false
theorem eqU_of {x y : V} {u : Value} (r : RelV y u) (f : flatV y = true) : eqU x u = eqV y x := by
  cases y with
  | non => cases r; rfl
  | bl b => cases r; rfl
  | int i => obtain ⟨t, rfl⟩ := r; rfl
  | str z => obtain ⟨t, rfl⟩ := r; rfl
  | _ => exact absurd (show false = true from f) Bool.false_ne_true
theorem any_eqU {x : V} : ∀ {xs : List V} {us : List Value}, Vals xs us → xs.all flatV = true → us.any (eqU x) = xs.any fun y => eqV y x
  | _, _, .nil, _ => rfl
  | y :: xs, u :: us, .cons r t, f => by
    rw [List.all_cons, Bool.and_eq_true] at f
    rw [List.any_cons, List.any_cons, eqU_of r f.1, any_eqU t f.2]
theorem mem_eqAt {A : Around} {s : Shared} {x : V} {v : Value} (rx : RelV x v) (fx : flatV x = true) : ∀ {xs : List V} {us : List Value}, Vals xs us → xs.all flatV = true → ∀ u ∈ us, SeqAt.EqAt A s u v (eqU x u)
  | _, _, .nil, _ => fun u hu => by cases hu
  | y :: xs, u :: us, .cons r t, f => fun u' hu => by
    rw [List.all_cons, Bool.and_eq_true] at f
    rcases List.mem_cons.mp hu with rfl | hu
    · rw [eqU_of r f.1]; exact eqAt_V r rx f.1 fx
    · exact mem_eqAt rx fx t f.2 u' hu
def inV (x : V) (xs : List V) : Bool := xs.any fun y => eqV y x
def rIn (K : PySem.W.Frag) (neg : Bool) : R2 := fun x y H Q => ∃ p xs, y = .ref p ∧ (SqL K H p xs ∨ SqT K H p xs) ∧ flatV x = true ∧ xs.all flatV = true ∧ Q (.bl (if neg then !inV x xs else inV x xs)) H
theorem op_in_seq : OpR X (compareOp .In) (rIn X.K false) := by
  intro pins s σ H x y v u Q I rx ry h
  obtain ⟨p, xs, rfl, hq, fx, fs, q⟩ := h
  cases ry
  rcases hq with hq | hq
  · obtain ⟨its, r, pl, hz⟩ := I.list hq
    refine SeqAt.in_listAt (eqU x) pl.isList (fun w hw => mem_eqAt rx fx r fs w (by simpa using hw)) ⟨.bl _, H, I, rfl, ?_⟩
    rw [show its.toArray.any (eqU x) = its.any (eqU x) by simp, any_eqU r fs]
    exact q
  · obtain ⟨its, r, pl, hz⟩ := I.tuple hq
    refine SeqAt.in_tupleAt (eqU x) pl (fun w hw => mem_eqAt rx fx r fs w (by simpa using hw)) ⟨.bl _, H, I, rfl, ?_⟩
    rw [show its.toArray.any (eqU x) = its.any (eqU x) by simp, any_eqU r fs]
    exact q
theorem call_len_seq : CallR X (.builtin "len") (fun xs H Q => ∃ p ys, xs = [.ref p] ∧ (SqL X.K H p ys ∨ SqT X.K H p ys) ∧ Q (.int ys.length) H) := by
  intro pins s σ H xs us Q I r h
  obtain ⟨p, ys, rfl, hq, q⟩ := h
  obtain ⟨u, rfl, rx⟩ := vals1 r
  cases rx
  have hn := line63
  rcases hq with hq | hq
  · obtain ⟨its, r', pl, hz⟩ := I.list hq
    have hlen := r'.length
    exact Calls.call_len_list pl.isList (by simp only [List.size_toArray] <;> omega) ⟨.int ys.length, H, I.tok _, ⟨s.toks + 1, by rw [List.size_toArray, hlen]⟩, q⟩
  · obtain ⟨its, r', pl, hz⟩ := I.tuple hq
    have hlen := r'.length
    exact len_tuple pl (by simp only [List.size_toArray] <;> omega) ⟨.int ys.length, H, I.tok _, ⟨s.toks + 1, by rw [List.size_toArray, hlen]⟩, q⟩
theorem call_len_str : CallR X (.builtin "len") (fun xs H Q => ∃ z, xs = [.str z] ∧ z.length ≤ sizeLine ∧ Q (.int z.length) H) := by
  intro pins s σ H xs us Q I r h
  obtain ⟨z, rfl, hz, q⟩ := h
  obtain ⟨u, rfl, t, rfl⟩ := vals1 r
  have hn := line63
  exact len_str (by omega) ⟨.int z.length, H, I.tok _, ⟨_, rfl⟩, q⟩
theorem call_list_of : CallR X (.type "list") (fun xs H Q => ∃ p ys, xs = [.ref p] ∧ (SqL X.K H p ys ∨ SqT X.K H p ys) ∧ ∀ l, H l = none → Q (.ref l) (upd H l (.lst ys))) := by
  intro pins s σ H xs us Q I r h
  obtain ⟨p, ys, rfl, hq, q⟩ := h
  obtain ⟨u, rfl, rx⟩ := vals1 r
  cases rx
  have fin : ∀ (its : List Value), Vals ys its → ys.length ≤ sizeLine → ∀ (h' : Heap) (c' : Nat), (∀ b o', s.heap.get? b = some o' → h'.get? b = some o') →
      h'.get? s.heap.objs.size = some { cls := .type "list", dict := none, data := .seq its.toArray c', slots := #[] } → EP X pins σ Q (.ref s.heap.objs.size) { s with heap := h' } := fun its r' hz h' c' kp e =>
    ⟨.ref s.heap.objs.size, _, I.laid (t' := s.toks) kp (Nat.le_refl _) (show ObjOk X.prog X.w _ h' _ (.lst ys) from ⟨hz, its, c', r', e⟩), rfl, q _ (I.hok.fresh (Nat.le_refl _))⟩
  rcases hq with hq | hq
  · obtain ⟨its, r', pl, hz⟩ := I.list hq
    have hlen := r'.length
    obtain ⟨o, ho, hc, n, hd⟩ := pl.isList
    exact call_list_seq p (.inl rfl) ho hc hd (fun h' c' kp e => fin its r' hz h' c' kp e) (by simp only [List.size_toArray] <;> omega)
  · obtain ⟨its, r', pl, hz⟩ := I.tuple hq
    have hlen := r'.length
    obtain ⟨o, ho, hc, n, hd⟩ := pl
    exact call_list_seq p (.inr rfl) ho hc hd (fun h' c' kp e => fin its r' hz h' c' kp e) (by simp only [List.size_toArray] <;> omega)
def tyV (K : PySem.W.Frag) (T : String) (x : V) (H : Hp) : Prop := match x with
  | .str _ => T = "str"
  | .int _ => T = "int"
  | .ref p => (T = "list" ∧ ∃ xs, SqL K H p xs) ∨ (T = "tuple" ∧ ∃ o, K.lookup p = some o ∧ o.cls = .type "tuple" ∧ o.dict = none) ∨
      (T = "dict" ∧ ((∃ kvs, H p = some (.dK kvs)) ∨ ∃ kvs, H p = some (.dT kvs))) ∨ (T = "set" ∧ ∃ S n, H p = some (.set S n))
  | _ => False
theorem tyV_is {pins : List (Addr × Obj)} {σ : St} {H : Hp} {s : Shared} {T : String} {x : V} {v : Value} (I : Inv X pins σ H s) (r : RelV x v) (ty : tyV X.K T x H) :
    s.TypeIs v T ∧ ∀ a, v = .ref a → ∃ ob, s.heap.get? a = some ob ∧ ob.dict = none := by
  cases x with
  | str z =>
    obtain ⟨t, rfl⟩ := r
    cases (show T = "str" from ty)
    exact ⟨typeIs_str s z t, fun _ e => nomatch e⟩
  | int i =>
    obtain ⟨t, rfl⟩ := r
    cases (show T = "int" from ty)
    exact ⟨typeIs_int s i t, fun _ e => nomatch e⟩
  | ref p =>
    cases r
    rcases ty with ⟨rfl, xs, hq⟩ | ⟨rfl, o, hk, hc, hd⟩ | ⟨rfl, hk⟩ | ⟨rfl, S, n, hk⟩
    · obtain ⟨its, _, pl, _⟩ := I.list hq
      refine ⟨pl.isList.typeIs, fun a e => ?_⟩
      cases e
      obtain ⟨o, n, e, c, hd, _⟩ := pl
      exact ⟨o, e, hd⟩
    · refine ⟨⟨o, I.kIn p o hk, hc⟩, fun a e => ?_⟩
      cases e
      exact ⟨o, I.kIn _ o hk, hd⟩
    · have z : ∃ o, s.heap.get? p = some o ∧ o.ExactDict := by
        rcases hk with ⟨kvs, hk⟩ | ⟨kvs, hk⟩
        · obtain ⟨_, _, _, _, o, _, _, e, ex, _⟩ := I.hok p _ hk
          exact ⟨o, e, ex⟩
        · obtain ⟨_, _, _, _, o, _, _, e, ex, _⟩ := I.hok p _ hk
          exact ⟨o, e, ex⟩
      obtain ⟨o, e, ex⟩ := z
      refine ⟨⟨o, e, ex.1⟩, fun a e2 => ?_⟩
      cases e2
      exact ⟨o, e, ex.2.1⟩
    · obtain ⟨o, _, _, _, e, ex, _⟩ := I.hok p _ hk
      refine ⟨⟨o, e, ex.1⟩, fun a e2 => ?_⟩
      cases e2
      exact ⟨o, e, ex.2.1⟩
  | _ => exact False.elim ty
def tBM (K : PySem.W.Frag) (T : String) (r : V → List V → Hp → VK → Prop) (to : TE) (t : TA) : TE := fun σ H Q => to σ H fun x H1 => tyV K T x H1 ∧ t σ H1 fun xs H2 => r x xs H2 Q
variable {o e : Expr} {es : List Expr} {to : TE} {t : TA} {name : Str} {apos cpos : Pos} {T id : String} {r : V → List V → Hp → VK → Prop}
theorem pe_bm (pa : PlainAttrs T) (slot : Slot T name id) (hty : typeOf (.builtin id) = pure (.type "method_descriptor")) (hm : MtR X id r) (ho : PE X o to) (ha : PA X (e :: es) t)
    (hbase : attributeBase o name X.env (eval o X.env) = eval o X.env := by rfl)
    (hfew : ((backTo cpos (starEach (e :: es) X.env)).all (fun x => !x.1) && (backToKw cpos (keywordEach [] X.env)).all (fun x => x.1.isSome)
      && decide ((e :: es).length + ([] : List Keyword).length + (if ([] : List Keyword).isEmpty then 0 else 1) < 30)) = true := by rfl)
    (hline : (apos.endLine == cpos.line) = true := by rfl) (hs : starEach (e :: es) X.env = (false, eval e X.env) :: starEach es X.env := by rfl) (hplain : (backTo cpos (starEach es X.env)).any (·.1) = false := by rfl) :
    PE X (.Call (.Attribute o name apos) (e :: es) [] cpos) (tBM X.K T r to t) := by
  intro pins s σ H Q I h
  refine wpAny_Call_method_late hbase hfew hline rfl (thn (ho pins s σ H _ I h) fun v s1 ⟨x, H1, I1, r1, ty, q1⟩ => ?_)
  obtain ⟨h1, h2⟩ := tyV_is I1 r1 ty
  refine ⟨T, id, pa, slot, hty, h1, h2, ?_⟩
  have hA := ha cpos pins s1 σ H1 _ I1 q1
  rw [hs] at hA ⊢
  refine Calls.callWith_builtin (by show (false || (backTo cpos (starEach es X.env)).any (·.1)) = false; rw [hplain] <;> rfl) (Calls.evalArgs_plain ?_)
  exact thn hA fun us s2 ⟨vs, H2, I2, r2, q2⟩ => hm pins s2 σ H2 x vs v us Q I2 r1 r2 q2
end
end L2
namespace L2
open PySem PySem.Spec PyProof.Rows
def MtM (X : Cx) (id : String) (r : V → List V → Hp → VK → Prop) : Prop :=
  ∀ (pins : List (Addr × Obj)) (s : Shared) (σ : St) (H : Hp) (x : V) (xs : List V) (v : Value) (us : List Value) (Q : VK), Inv X pins σ H s → RelV x v → Vals xs us → r x xs H Q →
    wpAny (model X.prog X.w) X.A (call (.builtin id) (v :: us)) (EP X pins σ Q) X.xe s
theorem Vals.one : ∀ {x : V} {us : List Value}, Vals [x] us → ∃ u, us = [u] ∧ RelV x u
  | _, _, .cons r .nil => ⟨_, rfl, r⟩
theorem Vals.rep {xs : List V} {us : List Value} (h : Vals xs us) : ∀ k : Nat, Vals (List.replicate k xs).flatten (List.replicate k us).flatten
  | 0 => .nil
  | k + 1 => by
    rw [List.replicate_succ, List.replicate_succ, List.flatten_cons, List.flatten_cons]
    exact Vals.append h (Vals.rep h k)
theorem foldl_rep (its : List Value) : ∀ (k : Nat) (acc : List Value),
    List.foldl (fun x1 x2 => x1 ++ x2) acc.toArray (List.replicate k its.toArray) = (acc ++ (List.replicate k its).flatten).toArray
  | 0, acc => by simp
  | k + 1, acc => by
    have e : acc.toArray ++ its.toArray = (acc ++ its).toArray := by simp
    have e2 : (acc ++ its) ++ (List.replicate k its).flatten = acc ++ (List.replicate (k + 1) its).flatten := by
      rw [List.replicate_succ, List.flatten_cons, List.append_assoc]
    rw [← e2, ← foldl_rep its k (acc ++ its), ← e, List.replicate_succ, List.foldl_cons]
section
variable {X : Cx} {pins : List (Addr × Obj)} {σ : St} {H : Hp} {s : Shared} {l b : Addr} {xs ys zs : List V}
theorem Inv.lset {its its' : List Value} {n : Nat} {f : Array Value → Array Value} {t' : Nat} (I : Inv X pins σ H s) (hH : H l = some (.lst xs))
    (e : s.heap.get? l = some { cls := .type "list", data := .seq its.toArray n }) (hf : f its.toArray = its'.toArray) (hv : Vals ys its') (hz : ys.length ≤ sizeLine) :
    Inv X pins σ (upd H l (.lst ys)) { s with heap := s.heap.update l (Obj.mapSeq f), toks := t' } := by
  have q := PySem.IsL.update e f
  rw [hf] at q
  refine I.write (x := l) (e := l) (by rw [hH]; exact trivial) (.inl rfl) (fun b' u hb hu => (Heap.get?_update_other s.heap (Obj.mapSeq f) (Ne.symm hb)).trans hu) ⟨_, q⟩ ?_
  exact ⟨hz, its', _, hv, q⟩
theorem Inv.lnew {its : List Value} {t' : Nat} (I : Inv X pins σ H s) (hv : Vals ys its) (hz : ys.length ≤ sizeLine) :
    Inv X pins σ (upd H s.heap.objs.size (.lst ys)) { s with heap := s.heap.push { cls := .type "list", data := .seq its.toArray }, toks := t' } :=
  I.laid (fun _ _ q => Heap.get?_push_of_some _ q) (Nat.le_refl _) ⟨hz, its, 0, hv, Heap.get?_push_size _ rfl⟩
theorem Inv.fresh (I : Inv X pins σ H s) : H s.heap.objs.size = none := I.hok.fresh (Nat.le_refl _)
theorem Inv.lstM (I : Inv X pins σ H s) (hH : H l = some (.lst xs)) : xs.length ≤ sizeLine ∧ ∃ (its : List Value) (n : Nat), Vals xs its ∧ xs.length = its.length ∧ s.heap.get? l = some { cls := .type "list", data := .seq its.toArray n } := by
  obtain ⟨z, its, n, r, e⟩ := I.hok l _ hH
  exact ⟨z, its, n, r, r.length, e⟩
theorem notLongL {n : Nat} (h : n ≤ sizeLine) : Builtin.List.listTooLong n = false := by
  unfold Builtin.List.listTooLong
  exact decide_eq_false (by omega)
end
section
variable {X : Cx}
def rAppend : V → List V → Hp → VK → Prop := fun x vs H Q => ∃ l xs y, x = .ref l ∧ vs = [y] ∧ H l = some (.lst xs) ∧ xs.length < sizeLine ∧ Q .non (upd H l (.lst (xs ++ [y])))
theorem mt_append : MtM X "list.append" rAppend := by
  intro pins s σ H x vs v us Q I rx rv h
  obtain ⟨l, xs, y, rfl, rfl, hH, hz, q⟩ := h
  cases rx
  obtain ⟨u, rfl, ru⟩ := rv.one
  obtain ⟨z, its, n, r, hl, e⟩ := I.lstM hH
  refine call_meets F.slot_list_append ⟨_, e, rfl⟩ F.entry_list_append (F.args_list_append_2 _ _) (PySem.list_append l its.toArray n u (by rw [List.size_toArray]; omega)) ⟨e, ?_⟩
  refine ⟨.non, _, I.lset (its' := its ++ [u]) hH e (by simp) (r.append (.cons ru .nil)) ?_, rfl, q⟩
  rw [List.length_append, List.length_singleton]
  omega
theorem len_rep {α : Type} (xs : List α) (k : Nat) : (List.replicate k xs).flatten.length = k * xs.length := by
  induction k with
  | zero => simp
  | succ k ih => rw [List.replicate_succ, List.flatten_cons, List.length_append, ih, Nat.succ_mul, Nat.add_comm]
end
section
variable {prog : Program} {w : World} {A : Around} {E : Value → Shared → Prop} {s : Shared}
end
section
variable {X : Cx}
end
end L2
namespace Att
open PySem PySem.W PySem.Calls PyProof.Rows
theorem ints_of_wellAll {P : Params} {h : Heap} : ∀ (ns : List Int) (vs : List Value), WellAll P h vs (ns.map WData.int) → IntsAre vs ns := by
  intro ns
  induction ns with
  | nil =>
    intro vs w
    rw [List.map_nil] at w
    cases w
    exact .nil
  | cons n ns ih =>
    intro vs w
    rw [List.map_cons] at w
    cases w with
    | cons a b =>
      cases a
      exact .cons _ _ (ih _ b)
theorem script_of {l : OpenLaw} {n : Nat} (hn : l.most = some n) {P : Params} {h : Heap} {args : List WData} {vals : List Value}
    (hpre : l.row.toRowW.claim.pre args = true) (hwl : WellAll P h vals args) :
    ∃ a vs ns, vals = [Value.ref a] ∧ args = [WData.list (ns.map WData.int)] ∧ h.get? a = some { cls := .type "list", data := .seq vs.toArray } ∧ IntsAre vs ns ∧ ns.length ≤ n := by
  have hsh : WShape.hasAll [] args [.list .int] = true := (pre_splitW hpre).1
  have hc : l.pre.holds [] { args := args } = true := (pre_splitW hpre).2
  obtain ⟨d, r, rfl, h1, h2⟩ := hasAllW_cons hsh
  obtain rfl := hasAllW_nil h2
  obtain ⟨xs, rfl, h3⟩ := hasW_list h1
  obtain ⟨ns, rfl⟩ := items_int h3
  have hlen : ns.length ≤ n := by
    unfold OpenLaw.pre at hc
    have h4 : (WTm.not (.lt (.lit (.int (n : Int))) (.len (.arg 0)))).holds [] { args := [.list (ns.map .int)] } = true := by
      have h4 := (holds_andW hc).1
      rw [hn] at h4
      exact h4
    have h5 := condW_of h4 (w_not (w_lt w_lit (w_len_list (w_arg rfl))))
    rw [List.length_map] at h5
    refine Nat.le_of_not_lt fun q => ?_
    have q' : (n : Int) < ((ns.length : Nat) : Int) := by omega
    first
      | (rw [decide_eq_true q'] at h5; exact absurd h5 (by decide))
      | (simp at h5; omega)
  cases hwl with
  | cons w1 w2 =>
    cases w2
    cases w1 with
    | list ho hall => exact ⟨_, _, ns, rfl, rfl, ho, ints_of_wellAll ns _ hall, hlen⟩
theorem post_true (l : OpenLaw) (args : List WData) : l.row.toRowW.claim.post args (.bool true) args = true :=
  postW_of (r := l.row.toRowW) (X := (true == true))
    (show WShape.has [] (.bool true) .bool = true by first | rfl | decide | simp [WShape.has, WShape.arms, WShape.armsAll])
    (show (WTm.eq .res (.lit (.bool true))).value [] { args := args, res := some (.bool true), after := args } = some (.bool (true == true)) from w_eq_bool (w_res rfl) w_lit) rfl
section
variable {prog : Program} {w : World} {A : Around} {E : Value → Shared → Prop} {s : Shared} {K : Frag}
def ledger (h : Heap) (L d : Addr) : List (Addr × Obj) := (List.range h.objs.size).filterMap fun a => if a = L ∨ a = d then none else (h.get? a).map fun o => (a, o)
end
end Att
namespace L2
open PySem PySem.Spec PyProof.Rows
theorem vals_ints : ∀ {vs : List Value} {ns : List Int}, IntsAre vs ns → Vals (ns.map V.int) vs
  | _, _, .nil => .nil
  | _, _, .cons n t h => .cons ⟨t, rfl⟩ (vals_ints h)
def Only (H : Hp) : Prop := ∀ b, H b = none ∨ ∃ o xs, H b = some (.frz o (.lst xs))
theorem law_call {P : Program} {w : World} {K : PySem.W.Frag} {mg mb : Str → Option Value} {CX : CXT} {k : Nat} {fa a : Addr} {fd : FuncData} {x : Str} {sp : Sp} {s₁ : Shared} {vs : List Value} {ns : List Int}
    (KX : K.In s₁.heap) (hns : s₁.heap.Ns mainGlobals mg) (hb : s₁.heap.Ns builtinsNs mb) (hbb : ∀ x : Str, x ≠ "__name__" → mb x = bootBuiltins x) (hlim : s₁.heap.NoLimit) (hg : s₁.gens = #[])
    (ha : s₁.heap.get? a = some { cls := .type "list", data := .seq vs.toArray }) (hi : IntsAre vs ns) (hl : ns.length ≤ sizeLine) (hr : Room k callerA)
    (F : ∀ base : Heap, K.In base → base.Ns mainGlobals mg → FnOk P w K mg base CX k fa fd [x] sp) (hbind : ∀ (s : Shared) (u : Value), BindsTo s fd ⟨[u], []⟩ [(x, u)])
    (hsp : ∀ H : Hp, Only H → SqL K H a (ns.map V.int) → sp [.ref a] H (fun v _ => v = .bl true) fun _ _ _ => False)
    (hCX : ∀ H e s', CX [] H s₁ (fun _ _ _ => False) e s' → False) :
    codeAny (model P w) callerA (.call (.ref fa) ⟨[.ref a], []⟩) (fun r s' => r = .ok (.ret (.bool true)) ∧ OldK s₁.heap s'.heap ∧ s'.os = s₁.os ∧ AllBare s'.gens) s₁ := by
  have rv := vals_ints hi
  have lenV := hi.length
  have core : ∀ H : Hp, Only H → SqL K H a (ns.map V.int) → HOk P w H s₁.heap → (∀ b, H b ≠ none → b = a) → (H a ≠ none → K.lookup a = none) →
      codeAny (model P w) callerA (.call (.ref fa) ⟨[.ref a], []⟩) (fun r s' => r = .ok (.ret (.bool true)) ∧ OldK s₁.heap s'.heap ∧ s'.os = s₁.os ∧ AllBare s'.gens) s₁ := by
    intro H hO hS hok hA hK
    have base_of : ∀ {b : Addr} {o : Obj}, s₁.heap.get? b = some o → H b = none → (hidT s₁.heap H).get? b = some o := fun e n => hidT_get e n
    have noA : ∀ {b : Addr} {o : Obj} {es : Array DictEntry} {ep : Nat}, s₁.heap.get? b = some o → o.data = .dict es ep → H b = none := fun {b o es ep} e d => by
      cases q : H b with
      | none => rfl
      | some u =>
        have e' : b = a := hA b (by rw [q]; simp)
        subst e'
        rw [ha] at e; cases e
        have d' : Data.seq vs.toArray _ = Data.dict es ep := d
        cases d'
    have nsK : ∀ {b : Addr} {m : Str → Option Value}, s₁.heap.Ns b m → (hidT s₁.heap H).Ns b m := fun {b m} ⟨o, es, ep, e, d, r⟩ => ⟨o, es, ep, base_of e (noA e d), d, r⟩
    have hKb : K.In (hidT s₁.heap H) := fun b o e => base_of (KX b o e) (by
      cases q : H b with
      | none => rfl
      | some u =>
        have e' : b = a := hA b (by rw [q]; simp)
        subst e'
        rw [hK (by rw [q]; simp)] at e; cases e)
    have hM : Mod K mg (hidT s₁.heap H) := ⟨hKb, nsK hns, ⟨mb, nsK hb, hbb⟩, let ⟨mc, h1, h2⟩ := hlim; ⟨mc, nsK h1, h2⟩⟩
    have e0 : Env0 P w K mg (hidT s₁.heap H) callerA [] s₁ H := ⟨rfl, hM, fun b o e => of_hidT e, Nat.le_of_eq (hidT_size _ _), trivial, fun b hb => absurd (show b ∈ ([] : List Addr) from hb) (by simp), hok, .of_eq hg⟩
    refine codeAny_mono ((F _ hKb (nsK hns)).run callerA [] s₁ H ⟨[.ref a], []⟩ [.ref a] [.ref a] _ _ hr e0 (hbind s₁ (.ref a)) (.cons rfl .nil) (hsp H hO hS)) fun r s' h => ?_
    cases r with
    | error e => exact (hCX H e s' h).elim
    | ok fl =>
      cases fl with
      | next => exact False.elim h
      | brk => exact False.elim h
      | cont => exact False.elim h
      | ret u =>
        obtain ⟨v, H', os, bare, un, hok', r', q⟩ := h
        have q' : v = .bl true := q
        subst q'
        obtain rfl : u = Value.bool true := r'
        refine ⟨rfl, OldK.of_keep fun b o e => ?_, os, bare⟩
        cases q : H b with
        | none => exact un.keep b o e q (by intro z; exact absurd (show b ∈ ([] : List Addr) from z) (by simp)) (by simp)
        | some u =>
          rcases hO b with z | ⟨ob, xs, z⟩
          · rw [q] at z; cases z
          · have z2 := un.frzs b ob _ z
            obtain ⟨e1, _⟩ := hok b _ z
            obtain ⟨e2, _⟩ := hok' b _ z2
            rw [e] at e1; cases e1
            exact e2
  cases hk : K.lookup a with
  | some o =>
    have e := KX a o hk
    rw [ha] at e
    cases e
    refine core (fun _ => none) (fun _ => .inl rfl) (.inr ⟨_, vs.toArray, _, hk, rfl, rfl, rfl, by rw [List.size_toArray, lenV]; exact hl, by simpa using rv⟩) (fun b u z => by have z' : (none : Option HO) = some u := z; cases z') (fun b z => absurd rfl z) fun z => absurd rfl z
  | none =>
    refine core (fun b => if b = a then some (.frz { cls := .type "list", data := .seq vs.toArray } (.lst (ns.map V.int))) else none) (fun b => ?_) (.inl (.inr ⟨{ cls := .type "list", data := .seq vs.toArray }, if_pos rfl⟩)) (fun b u z => ?_) (fun b z => ?_) fun _ => hk
    · by_cases hb : b = a
      · exact .inr ⟨_, _, if_pos hb⟩
      · exact .inl (if_neg hb)
    · by_cases hb : b = a
      · have z' := (if_pos hb).symm.trans z
        cases z'
        subst hb
        exact ⟨ha, by rw [List.length_map]; exact hl, vs, _, rv, ha⟩
      · have z' := (if_neg hb).symm.trans z
        cases z'
    · by_cases hb : b = a
      · exact hb
      · exact absurd (if_neg hb) z
end L2
namespace L2
open PySem PySem.Spec PyProof.Rows
end L2
namespace L2
open PySem PySem.Spec PyProof.Rows
def defArgs (s : Stmt) : Arguments := match s with
  | .FunctionDef _ a _ _ _ _ _ _ _ _ => a
  | _ => { posonlyargs := [], args := [], vararg := none, kwonlyargs := [], kw_defaults := [], kwarg := none, defaults := [] }
def defBody (s : Stmt) : List Stmt := match s with
  | .FunctionDef _ _ b _ _ _ _ _ _ _ => b
  | _ => []
def defScope (s : Stmt) : Scope := match s with
  | .FunctionDef _ _ _ _ _ _ sc _ _ _ => sc
  | _ => { kind := .function, names := [], isGenerator := false, isCoroutine := false }
abbrev CX0 : CXT := fun _ _ _ _ _ _ => False
abbrev E0 : XK := fun _ _ _ => False
structure Fun (K : PySem.W.Frag) (x qual : Str) (st : Stmt) (f : Addr) (fd : FuncData) : Prop where
  ex : ∃ (oc : Value) (od : Option Addr) (kV doc pm : Value) (an : Option Addr) (cdv ct : Value) (osl : Array (Option Value)),
    fd = PySem.W.fnOf x qual (defArgs st) (defBody st) (defScope st) .none kV doc pm an cdv ct ∧ K.lookup f = some ⟨oc, od, .func fd, osl⟩ ∧ PySem.W.codeIn K cdv qual = true
  kp : PySem.W.keepIn K (.ref f) = true
section
variable {P : Program} {w : World} {K : PySem.W.Frag} {mg : Str → Option Value} {base : Heap}
theorem Fun.ok {x qual : Str} {st : Stmt} {f : Addr} {fd : FuncData} {N ps : List Str} {k : Nat} {sp : Sp} (F : Fun K x qual st f fd) (S : FnScope N ps (defScope st)) (len : ∀ vs H Q E, sp vs H Q E → vs.length = ps.length)
    (hbody : ∀ (cdv : Value) (A : Around) (outer : List Env) (s : Shared) (H : Hp) (vs : List V) (Q : VK) (E : XK), Room k (A.deeper (envOfC qual (defScope st) s.heap.objs.size f cdv)) → sp vs H Q E →
      ∃ t, PSs (cxOf CX0 P w K mg base N qual (defScope st) f cdv A outer s H E).nox (defBody st) t ∧ t { nx := fun _ H' => Q .non H', rt := Q } (start N vs) H) : FnOk P w K mg base CX0 (k + 1) f fd ps sp := by
  obtain ⟨oc, od, kV, doc, pm, an, cdv, ct, osl, rfl, lk, hcd⟩ := F.ex
  refine fn_of lk hcd S len fun A outer s H vs Q E hr hsp => ?_
  obtain ⟨t, h, q⟩ := hbody cdv A outer s H vs Q E hr hsp
  exact ⟨t, h.nox, q⟩
end
section
variable {X : Cx}
end
theorem iteF {A B : Prop} (h : B) : if false = true then A else B := by
  rw [if_neg Bool.false_ne_true]
  exact h
theorem iteT {A B : Prop} (h : A) : if true = true then A else B := by
  rw [if_pos rfl]
  exact h
def Same (H H' : Hp) : Prop := ∀ b o, H b = some o → H' b = some o
theorem Same.refl (H : Hp) : Same H H := fun _ _ h => h
theorem Same.trans {H H1 H2 : Hp} (a : Same H H1) (b : Same H1 H2) : Same H H2 := fun c o h => b c o (a c o h)
theorem Same.free {H H' : Hp} (e : Same H H') {l : Addr} (h : H' l = Option.none) : H l = Option.none := by
  cases q : H l with
  | none => rfl
  | some o =>
    rw [e l o q] at h
    cases h
theorem Same.seq {K : PySem.W.Frag} {H H' : Hp} {a : Addr} {xs : List V} (e : Same H H') (h : SqL K H a xs) : SqL K H' a xs := by
  rcases h with (h | ⟨o, h⟩) | h
  · exact .inl (.inl (e _ _ h))
  · exact .inl (.inr ⟨o, e _ _ h⟩)
  · exact .inr h
end L2
set_option Elab.async false
set_option linter.all false
set_option maxRecDepth 100000
namespace L2
open PySem PySem.Spec PyProof.Rows
section
variable {κ : Type} [DecidableEq κ]
theorem RelO.getD {o : Option V} {u : Option Value} {d : V} {d' : Value} (r : RelO o u) (rd : RelV d d') : RelV (o.getD d) (u.getD d') := by
  cases o with
  | none => cases u with
    | none => exact rd
    | some _ => exact (show False from r).elim
  | some _ => cases u with
    | none => exact (show False from r).elim
    | some _ => exact r
theorem KV.length {kvs : List (κ × V)} {vs : List (κ × Value)} (r : KV kvs vs) : kvs.length = vs.length := Paired.length r
end
theorem kV_is {P : Program} {w : World} {k : Key} {u : Value} (r : RelV (kV k) u) : (mixKind P w).is k u = true := by
  cases k with
  | inl i => obtain ⟨t, e⟩ := (show ∃ t, u = Value.int i t from r); subst e; exact mixKind_int P w i t
  | inr x => obtain ⟨t, e⟩ := (show ∃ t, u = Value.str x t from r); subst e; exact mixKind_str P w x t
theorem items_are {P : Program} {w : World} : ∀ {ks : List Key} {us : List Value}, Vals (ks.map kV) us → ItemsAre (mixKind P w) ks us
  | [], _, r => by rw [List.map_nil] at r; cases r; exact .nil
  | k :: ks, _, r => by
    rw [List.map_cons] at r
    cases r with
    | cons h t => exact .cons (kV_is h) (items_are t)
abbrev KT (H : Hp) : List (List Key × V) → List (List Key × Addr × Value) → Prop := Paired fun p q => p.1 = q.1 ∧ H q.2.1 = some (.tup (p.1.map kV)) ∧ RelV p.2 q.2.2
section
variable {P : Program} {w : World} {H : Hp} {h : Heap} {a : Addr}
theorem rd_of {u : HO} (ok : HOk P w H h) (e : Rd H a u) : ObjOk P w H h a u := e.ok ok
theorem dk_rd {kvs : List (Key × V)} (ok : HOk P w H h) (e : Rd H a (.dK kvs)) : kvs.length ≤ sizeLine ∧ (a == sysModules) = false ∧ ∃ vs, KV kvs vs ∧ h.DictOf (mixKind P w) a vs :=
  show ObjOk P w H h a (.dK kvs) from rd_of ok e
theorem key_of {ks : List Key} (ok : HOk P w H h) (e : H a = some (.tup (ks.map kV))) : (tupleKind (mixKind P w)).is h ks a := by
  obtain ⟨_, its, r, o, h1, h2, n, h3⟩ := (show ObjOk P w H h a (.tup (ks.map kV)) from ok a _ e)
  exact ⟨o, its.toArray, n, h1, h2, h3, by simpa using items_are r⟩
theorem dt_rd {kvs : List (List Key × V)} (ok : HOk P w H h) (e : Rd H a (.dT kvs)) : kvs.length ≤ sizeLine ∧ (a == sysModules) = false ∧
    ∃ xs, KT H kvs xs ∧ h.DictOfH (tupleKind (mixKind P w)) a xs := by
  obtain ⟨z, y, xs, r, o, es, ep, h1, h2, h3, h4, h5⟩ := (show ObjOk P w H h a (.dT kvs) from rd_of ok e)
  refine ⟨z, y, xs, r, o, es, ep, h1, h2, h3, h4, fun x hx => ?_, h5⟩
  have all : ∀ {l : List (List Key × V)} {m : List (List Key × Addr × Value)}, KT H l m → ∀ x ∈ m, (tupleKind (mixKind P w)).is h x.1 x.2.1 := by
    intro l m q
    induction q with
    | nil => intro x hx; exact nomatch hx
    | @cons p q ps qs hq t ih =>
      intro x hx
      rcases List.mem_cons.mp hx with e | hx
      · subst e
        exact key_of ok (by rw [← hq.1]; exact hq.2.1)
      · exact ih x hx
  exact all r x hx
end
section
variable {X : Cx} {pins : List (Addr × Obj)} {σ : St} {H : Hp} {s : Shared} {a : Addr} {y v : V} {u r : Value} {o : Option V} {A : Around} {E : Value → Shared → Prop}
end
section
variable {X : Cx} {pins : List (Addr × Obj)} {σ : St} {H : Hp} {s : Shared} {a : Addr} {kvs : List (Key × V)} {k : Key} {u : Value} {A : Around} {E : Value → Shared → Prop}
end
section
variable {X : Cx} {o i e value : Expr} {pos pos' tpos : Pos} {td ty tv : TE}
end
section
variable {X : Cx} {pos : Pos}
end
structure M1 (X : Cx) (o : Expr) (m : Str) (apos : Pos) (e : Expr) (cpos : Pos) : Prop where
  base : attributeBase o m X.env (eval o X.env) = eval o X.env
  few : ((backTo cpos (starEach [e] X.env)).all (fun x => !x.1) && (backToKw cpos (keywordEach [] X.env)).all (fun x => x.1.isSome)
    && decide (([e] : List Expr).length + ([] : List Keyword).length + (if ([] : List Keyword).isEmpty then 0 else 1) < 30)) = true
  line : (apos.endLine == cpos.line) = true
  trees : backTo cpos (starEach [e] X.env) = [(false, eval e X.env)]
structure M2 (X : Cx) (o : Expr) (m : Str) (apos : Pos) (e f : Expr) (cpos : Pos) : Prop where
  base : attributeBase o m X.env (eval o X.env) = eval o X.env
  few : ((backTo cpos (starEach [e, f] X.env)).all (fun x => !x.1) && (backToKw cpos (keywordEach [] X.env)).all (fun x => x.1.isSome)
    && decide (([e, f] : List Expr).length + ([] : List Keyword).length + (if ([] : List Keyword).isEmpty then 0 else 1) < 30)) = true
  line : (apos.endLine == cpos.line) = true
  trees : backTo cpos (starEach [e, f] X.env) = [(false, eval e X.env), (false, eval f X.env)]
def IsD (H : Hp) (a : Addr) : Prop := (∃ kvs, Rd H a (.dK kvs)) ∨ ∃ kvs, Rd H a (.dT kvs)
theorem isD_at {X : Cx} {pins : List (Addr × Obj)} {σ : St} {H : Hp} {s : Shared} {a : Addr} (I : Inv X pins σ H s) (d : IsD H a) :
    s.TypeIs (.ref a) "dict" ∧ (∀ b, Value.ref a = .ref b → ∃ ob, s.heap.get? b = some ob ∧ ob.dict = none) ∧ (a == sysModules) = false := by
  rcases d with ⟨kvs, e⟩ | ⟨kvs, e⟩
  · obtain ⟨_, hd, vs, _, dd⟩ := dk_rd I.hok e
    refine ⟨dd.typeIs, fun b q => ?_, hd⟩
    cases q
    obtain ⟨ob, _, _, h1, h2, _⟩ := dd
    exact ⟨ob, h1, h2.2.1⟩
  · obtain ⟨_, hd, xs, _, dd⟩ := dt_rd I.hok e
    refine ⟨dd.typeIs, fun b q => ?_, hd⟩
    cases q
    obtain ⟨ob, _, _, h1, h2, _⟩ := dd
    exact ⟨ob, h1, h2.2.1⟩
section
variable {X : Cx} {pins : List (Addr × Obj)} {σ : St} {H : Hp} {s : Shared} {a : Addr} {y d : V} {u r : Value} {o : Option V} {A : Around} {E : Value → Shared → Prop}
end
section
variable {X : Cx} {o e f : Expr} {apos cpos : Pos} {td ty tx : TE}
end
section
variable {X : Cx} {pins : List (Addr × Obj)} {σ : St} {H : Hp} {s : Shared} {a : Addr} {kvs : List (Key × V)} {A : Around} {E : Value → Shared → Prop}
end
section
variable {X : Cx} {pins : List (Addr × Obj)} {σ : St} {H : Hp} {s : Shared} {a : Addr} {y : V} {u : Value} {A : Around} {E : Value → Shared → Prop}
end
end L2
namespace Dv
inductive D where
  | non
  | bl (b : Bool)
  | int (i : Int)
    | str (x : List Nat)
  | lst (ds : List D)
  | tup (ds : List D)
    | exn (c : String)
    | raw (a : Nat)
    | tab (rows : List (List Int))
    | dct (ks : List Int) (ds : List D)
def scal : D → Bool
  | .lst _ => false
  | .tup _ => false
  | .exn _ => false
  | .raw _ => false
  | .tab _ => false
  | .dct _ _ => false
  | _ => true
def noTy : D → Bool
  | .exn _ => true
  | .raw _ => true
  | .tab _ => true
  | _ => false
def flatL : List D → Bool
  | [] => true
  | d :: r => scal d && flatL r
def clipS (x : List Nat) : List Nat := x.map (· % 1114112)
mutual
def eqD : D → D → Option Bool
  | .non, .non => some true
  | .bl a, .bl b => some (a == b)
  | .int a, .int b => some (decide (a = b))
  | .str a, .str b => some (decide (clipS a = clipS b))
  | .lst a, .lst b => eqDL a b
  | .tup a, .tup b => eqDL a b
  | _, _ => none
def eqDL : List D → List D → Option Bool
  | [], [] => some true
  | [], _ :: _ => some false
  | _ :: _, [] => some false
  | a :: x, b :: y =>
    match eqD a b, eqDL x y with
    | some p, some q => some (p && q)
    | _, _ => none
end
mutual
def depthD : D → Nat
  | .lst ds => depthL ds + 1
  | .tup ds => depthL ds + 1
  | .exn _ => 100
  | .raw _ => 100
  | .tab _ => 100
  | .dct _ _ => 100
  | _ => 0
def depthL : List D → Nat
  | [] => 0
  | d :: r => max (depthD d) (depthL r)
end
def bits (a : Int) : Nat := if a = 0 then 0 else a.natAbs.log2 + 1
def mulOk (i j : Int) : Bool := decide (bits i ≤ 64) || decide (bits j ≤ 64) || (decide (bits i ≤ 1048576) && decide (bits j ≤ 1048576))
def divOk (j : Int) : Bool := decide (0 < j) && decide (j.natAbs.log2 < 9000)
def ins (i : Int) : List Int → List Int
  | [] => [i]
  | j :: r => if i ≤ j then i :: j :: r else j :: ins i r
def isort : List Int → List Int
  | [] => []
  | i :: r => ins i (isort r)
inductive R where
  | ok (d : D) (fr : Bool)
  | exc (c : String)
  | bad
inductive RL where
  | ok (ds : List D) (fr : Bool)
  | exc (c : String)
  | bad
abbrev R.bind (r : R) (k : D → Bool → R) : R := match r with
  | .ok d fr => k d fr
  | .exc c => .exc c
  | .bad => .bad
abbrev RL.bind (r : RL) (k : List D → Bool → R) : R := match r with
  | .ok d fr => k d fr
  | .exc c => .exc c
  | .bad => .bad
abbrev R.bindL (r : R) (k : D → Bool → RL) : RL := match r with
  | .ok d fr => k d fr
  | .exc c => .exc c
  | .bad => .bad
abbrev RL.bindL (r : RL) (k : List D → Bool → RL) : RL := match r with
  | .ok d fr => k d fr
  | .exc c => .exc c
  | .bad => .bad
abbrev Env := List (Option D)
abbrev EE := Env → R
abbrev EL := Env → RL
inductive Op where
  | add | sub | mul | mod | fdiv | pow | shr | band
inductive Cm where
  | lt | le | gt | ge | eq | ne | isin | notin | isT | isNotT
def mx : Nat := 100000
def opD : Op → D → D → R
  | .add, .int i, .int j => .ok (.int (i + j)) true
  | .add, .lst a, .lst b => if a.length + b.length ≤ mx then .ok (.lst (a ++ b)) (flatL a && flatL b) else .bad
  | .sub, .int i, .int j => .ok (.int (i - j)) true
  | .mul, .int i, .int j => if mulOk i j then .ok (.int (i * j)) true else .bad
  | .mul, .lst a, .int j => if decide (-100000 ≤ j) && decide (j ≤ mx) && decide (a.length * j.toNat ≤ mx) then .ok (.lst (List.replicate j.toNat a).flatten) (flatL a) else .bad
  | .mod, .int i, .int j => if decide (0 < j) then .ok (.int (i % j)) true else .bad
  | .fdiv, .int i, .int j => if divOk j then .ok (.int (i / j)) true else .bad
  | .pow, .int i, .int j => if decide (0 ≤ j) && decide (j ≤ 1000) && decide (i.natAbs < 1000000) then .ok (.int (i ^ j.toNat)) true else .bad
  | .band, .int i, .int j => if decide (j = 1) then .ok (.int (i % 2)) true else .bad
  | .shr, .int i, .int j => if decide (0 ≤ j) then .ok (.int (i / 2 ^ j.toNat)) true else .bad
  | _, _, _ => .bad
def inD (i : Int) : List D → Option Bool
  | [] => some false
  | .int j :: r => (inD i r).map (decide (j = i) || ·)
  | _ :: _ => none
def optB : Option Bool → R
  | some b => .ok (.bl b) true
  | none => .bad
def cmD : Cm → D → D → R
  | .eq, a, b => if decide (depthD a ≤ 9) && decide (depthD b ≤ 9) then optB (eqD a b) else .bad
  | .ne, a, b => if decide (depthD a ≤ 9) && decide (depthD b ≤ 9) then optB ((eqD a b).map (!·)) else .bad
  | .lt, .int i, .int j => .ok (.bl (decide (i < j))) true
  | .le, .int i, .int j => .ok (.bl (decide (i ≤ j))) true
  | .gt, .int i, .int j => .ok (.bl (decide (j < i))) true
  | .ge, .int i, .int j => .ok (.bl (decide (j ≤ i))) true
  | .isin, .int i, .lst b => optB (inD i b)
  | .notin, .int i, .lst b => optB ((inD i b).map (!·))
  | .isT, .bl a, .bl true => .ok (.bl a) true
  | .isNotT, .bl a, .bl true => .ok (.bl (!a)) true
  | _, _, _ => .bad
def eVar (i : Nat) : EE := fun ρ => match ρ[i]? with
  | some (some d) => .ok d (scal d)
  | _ => .bad
def eInt (i : Int) : EE := fun _ => .ok (.int i) true
def eBl (b : Bool) : EE := fun _ => .ok (.bl b) true
def eStr (x : List Nat) : EE := fun _ => .ok (.str x) true
def eOp (o : Op) (a b : EE) : EE := fun ρ => (a ρ).bind fun x _ => (b ρ).bind fun y _ => opD o x y
def eCm (o : Cm) (a b : EE) : EE := fun ρ => (a ρ).bind fun x _ => (b ρ).bind fun y _ => cmD o x y
def eNeg (a : EE) : EE := fun ρ => (a ρ).bind fun x _ => match x with
  | .int i => .ok (.int (-i)) true
  | _ => .bad
def eAnd (a b : EE) : EE := fun ρ => (a ρ).bind fun x _ => match x with
  | .bl true => b ρ
  | .bl false => .ok (.bl false) true
  | _ => .bad
def eOr (a b : EE) : EE := fun ρ => (a ρ).bind fun x _ => match x with
  | .bl true => .ok (.bl true) true
  | .bl false => b ρ
  | _ => .bad
def eNot (a : EE) : EE := fun ρ => (a ρ).bind fun x _ => match x with
  | .bl b => .ok (.bl (!b)) true
  | _ => .bad
def eIf (c a b : EE) : EE := fun ρ => (c ρ).bind fun x _ => match x with
  | .bl true => a ρ
  | .bl false => b ρ
  | _ => .bad
def lNil : EL := fun _ => .ok [] true
def lCons (a : EE) (r : EL) : EL := fun ρ => (a ρ).bindL fun d f => (r ρ).bindL fun ds g => .ok (d :: ds) (f && g)
def eLst (a : EL) : EE := fun ρ => (a ρ).bind fun ds f => .ok (.lst ds) f
def eTup (a : EL) : EE := fun ρ => (a ρ).bind fun ds f => .ok (.tup ds) f
def at? (ds : List D) (i : Int) : Option D := if 0 ≤ i then ds[i.toNat]? else if -(ds.length : Int) ≤ i then ds[(i + ds.length).toNat]? else none
def ixD (a i : D) (f : Bool) : R := match a, i with
  | .lst ds, .int k => match at? ds k with
    | some d => .ok d (f || scal d)
    | none => .bad
  | .tup ds, .int k => match at? ds k with
    | some d => .ok d (f || scal d)
    | none => .bad
  | _, _ => .bad
def eIx (a i : EE) : EE := fun ρ => (a ρ).bind fun x f => (i ρ).bind fun y _ => ixD x y f
def eCall (F : List D → R) (a : EL) : EE := fun ρ => (a ρ).bind fun ds _ => F ds
def eB1 (F : D → Bool → R) (a : EE) : EE := fun ρ => (a ρ).bind F
def lenD : D → Bool → R
  | .lst ds, _ => .ok (.int ds.length) true
  | .tup ds, _ => .ok (.int ds.length) true
  | _, _ => .bad
def listD : D → Bool → R
  | .lst ds, f => .ok (.lst ds) (f || flatL ds)
  | .tup ds, f => .ok (.lst ds) (f || flatL ds)
  | _, _ => .bad
def cutI (n : Nat) (dflt : Nat) : Option Int → Nat
  | none => dflt
  | some i => if i < 0 then (i + (n : Int)).toNat else min i.toNat n
def cutL {α : Type} (ds : List α) (lo hi : Option Int) : List α := (ds.drop (cutI ds.length 0 lo)).take (cutI ds.length ds.length hi - cutI ds.length 0 lo)
def sliceD (a : D) (f : Bool) (lo hi : Option Int) : R := match a with
  | .lst ds => .ok (.lst (cutL ds lo hi)) (f || flatL (cutL ds lo hi))
  | _ => .bad
def ePart (p : Option EE) (ρ : Env) (k : Option Int → R) : R := match p with
  | none => k none
  | some e => (e ρ).bind fun d _ => match d with
    | .int i => k (some i)
    | _ => .bad
def eSlice (a : EE) (lo hi : Option EE) : EE := fun ρ => (a ρ).bind fun x f => ePart lo ρ fun i => ePart hi ρ fun j => sliceD x f i j
def eB2 (F : D → D → R) (a b : EE) : EE := fun ρ => (a ρ).bind fun x _ => (b ρ).bind fun y _ => F x y
def max2D : D → D → R
  | .int i, .int j => .ok (.int (if j > i then j else i)) true
  | _, _ => .bad
def intD : D → Bool → R
  | .int i, _ => .ok (.int i) true
  | .bl b, _ => .ok (.int (if b then 1 else 0)) true
  | _, _ => .bad
def isListD : D → Bool → R
  | .exn _, _ => .bad
  | .raw _, _ => .bad
  | .tab _, _ => .bad
  | .lst _, _ => .ok (.bl true) true
  | _, _ => .ok (.bl false) true
def isIntD : D → Bool → R
  | .exn _, _ => .bad
  | .raw _, _ => .bad
  | .tab _, _ => .bad
  | .int _, _ => .ok (.bl true) true
  | .bl _, _ => .ok (.bl true) true
  | _, _ => .ok (.bl false) true
def isBoolD : D → Bool → R
  | .exn _, _ => .bad
  | .raw _, _ => .bad
  | .tab _, _ => .bad
  | .bl _, _ => .ok (.bl true) true
  | _, _ => .ok (.bl false) true
def subX (c k : String) : Bool := c == k || k == "WheelError" || k == "ValueError"
def isXD (kn ks : List String) : D → Bool → R
  | .exn c, _ => if kn.contains c then .ok (.bl (ks.any (subX c))) true else .bad
  | _, _ => .bad
inductive RI where
  | ok (ds : List D) (fr : Bool)
  | exc (c : String)
  | bad
abbrev EI := Env → RI
def rangeL (lo : Int) : Nat → List D
  | 0 => []
  | n + 1 => .int lo :: rangeL (lo + 1) n
def iSeq (a : EE) : EI := fun ρ => match a ρ with
  | .ok (.lst ds) f => .ok ds f
  | .exc c => .exc c
  | _ => .bad
def rngOk (i : Int) : Bool := decide (-1000000 ≤ i) && decide (i ≤ 1000000)
def iRange (a : EE) : EI := fun ρ => match a ρ with
  | .ok (.int j) _ => if rngOk j then .ok (rangeL 0 j.toNat) true else .bad
  | .exc c => .exc c
  | _ => .bad
def iZip (a b : EE) : EI := fun ρ => match a ρ with
  | .ok (.lst xs) _ => match b ρ with
    | .ok (.lst ys) _ => .ok (List.zipWith (fun x y => .tup [x, y]) xs ys) true
    | .exc c => .exc c
    | _ => .bad
  | .exc c => .exc c
  | _ => .bad
def compGo (elt : EE) (cond : EE) (free : Env) : List D → RL
  | [] => .ok [] true
  | d :: r => match cond (some d :: free) with
    | .ok (.bl true) _ => match elt (some d :: free) with
      | .ok x f => match compGo elt cond free r with
        | .ok xs g => .ok (x :: xs) (f && g)
        | _ => .bad
      | _ => .bad
    | .ok (.bl false) _ => compGo elt cond free r
    | _ => .bad
def pick (ρ : Env) (is : List Nat) : Env := is.map fun i => (ρ[i]?).getD none
def eComp (elt cond : EE) (is : List Nat) (it : EI) : EE := fun ρ => match it ρ with
  | .ok ds _ => if ds.length ≤ mx then match compGo elt cond (pick ρ is) ds with
      | .ok xs f => .ok (.lst xs) f
      | _ => .bad
    else .bad
  | .exc c => .exc c
  | .bad => .bad
inductive Sl where
  | no
  | sh (d : D)
  | ow (d : D)
    | dp (d : D)
    | jk (n m : Nat)
abbrev St := List Sl
def Sl.get : Sl → Option D
  | .no => none
  | .sh d => some d
  | .ow d => some d
  | .dp d => some d
  | .jk _ _ => none
def Sl.shared : Sl → Option D
  | .sh d => some d
  | _ => none
def Sl.give : Sl → Sl
  | .ow d => .sh d
  | .dp d => .sh d
  | s => s
def all (st : St) : Env := st.map Sl.get
def open_ (st : St) : Env := st.map Sl.shared
def give (is : List Nat) (st : St) : St := is.foldl (fun st i => st.set i ((st[i]?.getD .no).give)) st
inductive Out where
  | nx (st : St)
  | ret (d : D) (nw : Bool)
  | brk (st : St)
  | cont (st : St)
  | exc (c : String) (st : St)
  | bad
abbrev SS := St → Out
abbrev Out.bind (o : Out) (k : St → Out) : Out := match o with
  | .nx st => k st
  | o => o
def sNil : SS := fun st => .nx st
def sCons (a r : SS) : SS := fun st => (a st).bind r
def keepD (d : D) (f : Bool) : Option Sl := match d with
  | .lst ds => if f && flatL ds then some (.ow d) else none
  | .tup _ => none
  | .exn _ => none
  | .raw _ => none
  | .tab _ => none
  | .dct ks ds => if f && ks.isEmpty && ds.isEmpty then some (.ow d) else none
  | _ => some (.sh d)
def sSet (i : Nat) (e : EE) : SS := fun st => match e (all st) with
  | .ok d f => match keepD d f with
    | some s => .nx (st.set i s)
    | none => .bad
  | .exc c => .exc c st
  | .bad => .bad
def sSetG (is : List Nat) (i : Nat) (e : EE) : SS := fun st => match e (open_ (give is st)) with
  | .ok d _ => .nx ((give is st).set i (.sh d))
  | .exc c => .exc c st
  | .bad => .bad
def sExpr (e : EE) : SS := fun st => match e (all st) with
  | .ok _ _ => .nx st
  | .exc c => .exc c st
  | .bad => .bad
def sRet (e : EE) : SS := fun st => match e (all st) with
  | .ok d f => .ret d f
  | .exc c => .exc c st
  | .bad => .bad
def sRetO (i : Nat) : SS := fun st => match st[i]? with
  | some (.ow (.lst ds)) => .ret (.lst ds) (flatL ds)
  | some (.ow (.dct ks ds)) => .ret (.dct ks ds) false
  | some (.dp d) => .ret d true
  | some (.sh d) => .ret d (scal d)
  | _ => .bad
def sIf (c : EE) (a b : SS) : SS := fun st => match c (all st) with
  | .ok (.bl true) _ => a st
  | .ok (.bl false) _ => b st
  | .exc c => .exc c st
  | _ => .bad
def sRaise (c : String) : SS := fun st => .exc c st
def unb (i : Nat) : Out → Out
  | .nx st => .nx (st.set i .no)
  | .brk st => .brk (st.set i .no)
  | .cont st => .cont (st.set i .no)
  | .ret d f => .ret d f
  | _ => .bad
def noX : Out → Out
  | .exc _ _ => .bad
  | o => o
def sTryAs (kn : List String) (i : Nat) (k : String) (F G : SS) : SS := fun st => match F st with
  | .exc c st' => if kn.contains c && subX c k then unb i (G (st'.set i (.sh (.exn c)))) else .bad
  | o => o
def sApp (i : Nat) (e : EE) : SS := fun st => match st[i]? with
  | some (.ow (.lst ds)) => match e (all st) with
    | .ok d _ => if scal d && decide (ds.length < mx) then .nx (st.set i (.ow (.lst (ds ++ [d])))) else .bad
    | .exc c => .exc c st
    | .bad => .bad
  | _ => .bad
def forGo (x : Nat) (body : SS) : List D → SS
  | [], st => .nx st
  | d :: r, st => match body (st.set x (.sh d)) with
    | .nx st' => forGo x body r st'
    | .cont st' => forGo x body r st'
    | .brk st' => .nx st'
    | o => o
def sFor (is : List Nat) (x : Nat) (it : EI) (body : SS) : SS := fun st => match it (open_ (give is st)) with
  | .ok ds _ => forGo x body ds (give is st)
  | .exc c => .exc c st
  | .bad => .bad
def setAll : List Nat → List D → St → St
  | i :: is, d :: ds, st => setAll is ds (st.set i (.sh d))
  | _, _, st => st
def forGoT (tgt : D → St → Option St) (body : SS) : List D → SS
  | [], st => .nx st
  | d :: r, st => match tgt d st with
    | none => .bad
    | some st1 => match body st1 with
      | .nx st' => forGoT tgt body r st'
      | .cont st' => forGoT tgt body r st'
      | .brk st' => .nx st'
      | o => o
def sForT (is : List Nat) (tgt : D → St → Option St) (it : EI) (body : SS) : SS := fun st => match it (open_ (give is st)) with
  | .ok ds _ => forGoT tgt body ds (give is st)
  | .exc c => .exc c st
  | .bad => .bad
def tupTo (xs : List Nat) (d : D) (s : St) : Option St := match d with
  | .tup ds => if ds.length = xs.length then some (setAll xs ds s) else none
  | _ => none
def fn (n : Nat) (body : SS) (ds : List D) : R := match body (ds.map .sh ++ List.replicate (n - ds.length) .no) with
  | .nx _ => .ok .non true
  | .ret d f => .ok d f
  | .exc c _ => .exc c
  | _ => .bad
end Dv
set_option Elab.async false
set_option linter.all false
set_option maxRecDepth 100000
namespace Sd
open PySem PySem.Spec PyProof.Rows L2
open Dv (D R RL EE EL EI RI)
abbrev St := L2.St
def SqX (K : PySem.W.Frag) (H : Hp) (a : Addr) (xs : List V) : Prop :=
  Rd H a (.lst xs) ∨ ∃ (its : List Value) (n : Nat), K.lookup a = some { cls := .type "list", data := .seq its.toArray n } ∧ xs.length ≤ sizeLine ∧ Vals xs its
theorem SqX.seq {K : PySem.W.Frag} {H : Hp} {a : Addr} {xs : List V} (h : SqX K H a xs) : SqL K H a xs := by
  rcases h with h | ⟨its, n, e, z, r⟩
  · exact .inl h
  · refine .inr ⟨_, its.toArray, n, e, rfl, rfl, rfl, ?_, by simpa using r⟩
    rw [List.size_toArray, ← r.length]; exact z
theorem SqX.of {K : PySem.W.Frag} {H : Hp} {a : Addr} {xs : List V} (h : H a = some (.lst xs)) : SqX K H a xs := .inl (.inl h)
theorem Rd.same {H H' : Hp} {a : Addr} {o : HO} (e : Same H H') (h : Rd H a o) : Rd H' a o := by
  rcases h with h | ⟨u, h⟩
  · exact .inl (e _ _ h)
  · exact .inr ⟨u, e _ _ h⟩
theorem SqX.same {K : PySem.W.Frag} {H H' : Hp} {a : Addr} {xs : List V} (e : Same H H') (h : SqX K H a xs) : SqX K H' a xs := by
  rcases h with h | h
  · exact .inl (Rd.same e h)
  · exact .inr h
theorem Inv.listX {X : Cx} {pins : List (Addr × Obj)} {σ : St} {H : Hp} {s : Shared} {a : Addr} {xs : List V} (I : Inv X pins σ H s) (h : SqX X.K H a xs) :
    ∃ (its : List Value) (n : Nat), Vals xs its ∧ s.heap.get? a = some { cls := .type "list", data := .seq its.toArray n } ∧ xs.length ≤ sizeLine := by
  rcases h with h | ⟨its, n, e, z, r⟩
  · obtain ⟨z, its, n, r, e⟩ := h.ok I.hok
    exact ⟨its, n, r, e, z⟩
  · exact ⟨its, n, r, I.kIn a _ e, z⟩
def ExcOf (a C : Addr) : Heap → Prop := fun h => ∃ o vs, h.get? a = some o ∧ o.cls = .ref C ∧ o.data = .fields vs
def Tbr (H : Hp) : List Addr → List (List Int) → Prop
  | [], [] => True
  | b :: bs, r :: rs => Rd H b (.lst (r.map V.int)) ∧ Tbr H bs rs
  | _, _ => False
theorem Tbr.same {H H' : Hp} (e : ∀ {b : Addr} {o : HO}, Rd H b o → Rd H' b o) : ∀ {bs : List Addr} {rows : List (List Int)}, Tbr H bs rows → Tbr H' bs rows
  | [], [], _ => True.intro
  | b :: bs, r :: rs, h => ⟨e h.1, Tbr.same e h.2⟩
  | [], _ :: _, h => h.elim
  | _ :: _, [], h => h.elim
mutual
def Rp (K : PySem.W.Frag) (H : Hp) : D → V → Prop
  | .non, v => v = .non
  | .bl b, v => v = .bl b
  | .int i, v => v = .int i
  | .str x, v => v = .str ⟨(Dv.clipS x).toArray⟩
  | .lst ds, v => ∃ a vs, v = .ref a ∧ SqX K H a vs ∧ RpL K H ds vs
  | .tup ds, v => ∃ a vs, v = .ref a ∧ Rd H a (.tup vs) ∧ RpL K H ds vs
  | .exn c, v => ∃ a C, v = .ref a ∧ PySem.W.nsIn K mainGlobals (Str.ofString c) = some (some (.ref C)) ∧ H a = some (.ext (ExcOf a C))
  | .raw a, v => v = .ref a
  | .tab rows, v => ∃ t bs, v = .ref t ∧ Rd H t (.lst (bs.map V.ref)) ∧ t ∉ bs ∧ bs.Nodup ∧ Tbr H bs rows
  | .dct ks ds, v => ∃ a vs, v = .ref a ∧ ks.length = ds.length ∧ Rd H a (.dK ((ks.map Sum.inl).zip vs)) ∧ RpL K H ds vs
def RpL (K : PySem.W.Frag) (H : Hp) : List D → List V → Prop
  | [], vs => vs = []
  | d :: r, vs => ∃ v ws, vs = v :: ws ∧ Rp K H d v ∧ RpL K H r ws
end
mutual
theorem Rp.same {K : PySem.W.Frag} {H H' : Hp} (e : Same H H') : ∀ {d : D} {v : V}, Rp K H d v → Rp K H' d v
  | .non, _, h => by unfold Rp at h ⊢; exact h
  | .bl _, _, h => by unfold Rp at h ⊢; exact h
  | .int _, _, h => by unfold Rp at h ⊢; exact h
  | .str _, _, h => by unfold Rp at h ⊢; exact h
  | .raw _, _, h => by unfold Rp at h ⊢; exact h
  | .tab _, v, h => by
    unfold Rp at h ⊢
    obtain ⟨t, bs, h1, h2, h3, h4, h5⟩ := h
    exact ⟨t, bs, h1, Rd.same e h2, h3, h4, h5.same fun q => Rd.same e q⟩
  | .lst ds, v, h => by
    unfold Rp at h ⊢
    obtain ⟨a, vs, h1, h2, h3⟩ := h
    exact ⟨a, vs, h1, h2.same e, RpL.same e h3⟩
  | .tup ds, v, h => by
    unfold Rp at h ⊢
    obtain ⟨a, vs, h1, h2, h3⟩ := h
    exact ⟨a, vs, h1, Rd.same e h2, RpL.same e h3⟩
  | .exn c, v, h => by
    unfold Rp at h ⊢
    obtain ⟨a, C, h1, h2, h3⟩ := h
    exact ⟨a, C, h1, h2, e _ _ h3⟩
  | .dct ks ds, v, h => by
    unfold Rp at h ⊢
    obtain ⟨a, vs, h1, h2, h3, h4⟩ := h
    exact ⟨a, vs, h1, h2, Rd.same e h3, RpL.same e h4⟩
theorem RpL.same {K : PySem.W.Frag} {H H' : Hp} (e : Same H H') : ∀ {ds : List D} {vs : List V}, RpL K H ds vs → RpL K H' ds vs
  | [], _, h => by unfold RpL at h ⊢; exact h
  | d :: r, vs, h => by
    unfold RpL at h ⊢
    obtain ⟨v, ws, h1, h2, h3⟩ := h
    exact ⟨v, ws, h1, Rp.same e h2, RpL.same e h3⟩
end
theorem RpL.length {K : PySem.W.Frag} {H : Hp} : ∀ {ds : List D} {vs : List V}, RpL K H ds vs → vs.length = ds.length
  | [], _, h => by unfold RpL at h; subst h; rfl
  | d :: r, vs, h => by
    unfold RpL at h
    obtain ⟨v, ws, rfl, _, h3⟩ := h
    rw [List.length_cons, List.length_cons, RpL.length h3]
theorem Rp.scal {K K' : PySem.W.Frag} {H H' : Hp} {d : D} {v : V} (f : Dv.scal d = true) (h : Rp K H d v) : Rp K' H' d v := by
  cases d with
  | lst ds => exact absurd f (by simp [Dv.scal])
  | tup ds => exact absurd f (by simp [Dv.scal])
  | exn c => exact absurd f (by simp [Dv.scal])
  | raw c => exact absurd f (by simp [Dv.scal])
  | tab c => exact absurd f (by simp [Dv.scal])
  | dct ks ds => exact absurd f (by simp [Dv.scal])
  | _ => unfold Rp at h ⊢; exact h
theorem RpL.flat {K K' : PySem.W.Frag} {H H' : Hp} : ∀ {ds : List D} {vs : List V}, Dv.flatL ds = true → RpL K H ds vs → RpL K' H' ds vs
  | [], _, _, h => by unfold RpL at h ⊢; exact h
  | d :: r, vs, f, h => by
    unfold Dv.flatL at f
    rw [Bool.and_eq_true] at f
    unfold RpL at h ⊢
    obtain ⟨v, ws, h1, h2, h3⟩ := h
    exact ⟨v, ws, h1, h2.scal f.1, RpL.flat f.2 h3⟩
theorem RpL.append {K : PySem.W.Frag} {H : Hp} : ∀ {ds es : List D} {vs ws : List V}, RpL K H ds vs → RpL K H es ws → RpL K H (ds ++ es) (vs ++ ws)
  | [], _, _, _, h, g => by unfold RpL at h; subst h; exact g
  | d :: r, es, vs, ws, h, g => by
    unfold RpL at h
    obtain ⟨v, vs', rfl, h2, h3⟩ := h
    rw [List.cons_append, List.cons_append]
    unfold RpL
    exact ⟨v, _, rfl, h2, RpL.append h3 g⟩
theorem RpL.get {K : PySem.W.Frag} {H : Hp} : ∀ {ds : List D} {vs : List V} {i : Nat} {d : D}, RpL K H ds vs → ds[i]? = some d → ∃ v, vs[i]? = some v ∧ Rp K H d v
  | [], _, _, _, _, e => by simp at e
  | x :: r, vs, 0, d, h, e => by
    unfold RpL at h
    obtain ⟨v, ws, rfl, h2, _⟩ := h
    simp at e; subst e
    exact ⟨v, rfl, h2⟩
  | x :: r, vs, i + 1, d, h, e => by
    unfold RpL at h
    obtain ⟨v, ws, rfl, _, h3⟩ := h
    obtain ⟨u, h4, h5⟩ := RpL.get (i := i) (d := d) h3 (by simpa using e)
    exact ⟨u, by simpa using h4, h5⟩
theorem RpL.cons {K : PySem.W.Frag} {H : Hp} {d : D} {v : V} {ds : List D} {vs : List V} (h : Rp K H d v) (g : RpL K H ds vs) : RpL K H (d :: ds) (v :: vs) := by
  unfold RpL; exact ⟨v, vs, rfl, h, g⟩
theorem RpL.nil {K : PySem.W.Frag} {H : Hp} : RpL K H [] [] := by unfold RpL; rfl
theorem RpL.ofInts {K : PySem.W.Frag} {H : Hp} : ∀ (ns : List Int), RpL K H (ns.map .int) (ns.map V.int)
  | [] => .nil
  | n :: r => .cons (by unfold Rp; rfl) (RpL.ofInts r)
structure Ext (Hv H Hv' H' : Hp) : Prop where
  hh : Same H H'
  vv : Same Hv Hv'
  vh : Same Hv' H'
  new : ∀ b o, Hv' b = some o → Hv b = none → H b = none
  all : ∀ b, H b = none → Hv' b = H' b
  nf : ∀ b o u, H b = none → H' b ≠ some (.frz o u)
theorem Ext.refl {Hv H : Hp} (e : Same Hv H) : Ext Hv H Hv H := ⟨.refl _, .refl _, e, fun b o h n => (by rw [n] at h; cases h), fun b h => (by rw [h]; exact e.free h), fun b o u h => by rw [h]; intro z; cases z⟩
theorem Ext.trans {Hv H Hv1 H1 Hv2 H2 : Hp} (a : Ext Hv H Hv1 H1) (b : Ext Hv1 H1 Hv2 H2) : Ext Hv H Hv2 H2 :=
  ⟨a.hh.trans b.hh, a.vv.trans b.vv, b.vh, fun c o h n => (by
    cases q : Hv1 c with
    | some u => exact a.new c u q n
    | none => exact a.hh.free (b.new c o h q)), fun c h => by
    cases q : H1 c with
    | none => exact b.all c q
    | some o => rw [b.hh c o q]; exact b.vv c o ((a.all c h).trans q), fun c o u h => by
    cases q : H1 c with
    | none => exact b.nf c o u q
    | some w => rw [b.hh c w q, ← q]; exact a.nf c o u h⟩
theorem same_upd {H : Hp} {p : Addr} (h : H p = none) (o : HO) : Same H (upd H p o) := fun b u q => by rw [upd_ne (ne_of_none q h)]; exact q
theorem Ext.new1 {Hv H : Hp} (e : Same Hv H) {p : Addr} (h : H p = none) (o : HO) (ho : ∀ a u, o ≠ .frz a u := by intro _ _ z; cases z) : Ext Hv H (upd Hv p o) (upd H p o) := by
  refine ⟨same_upd h o, same_upd (e.free h) o, fun b u q => ?_, fun b u q n => ?_, fun b q => ?_, fun b a u q => ?_⟩
  · by_cases hb : b = p
    · subst hb; rw [upd_same] at q ⊢; exact q
    · rw [upd_ne hb] at q ⊢; exact e _ _ q
  · by_cases hb : b = p
    · subst hb; exact h
    · rw [upd_ne hb, n] at q; cases q
  · by_cases hb : b = p
    · subst hb; rw [upd_same, upd_same]
    · rw [upd_ne hb, upd_ne hb, q]; exact e.free q
  · by_cases hb : b = p
    · subst hb; rw [upd_same]; exact fun z => ho a u (Option.some.inj z)
    · rw [upd_ne hb, q]; intro z; cases z
def Hnew (H H' : Hp) : Hp := fun b => match H b with
  | none => H' b
  | some _ => none
theorem Hnew.mono {H H1 H2 H3 : Hp} (a : Same H H1) (c : Same H2 H3) : Same (Hnew H1 H2) (Hnew H H3) := fun b o h => by
  unfold Hnew at h ⊢
  cases q : H b with
  | some u => rw [a b u q] at h; cases h
  | none =>
    cases q1 : H1 b with
    | some u => rw [q1] at h; cases h
    | none => rw [q1] at h; exact c b o h
theorem Ext.news {Hv H Hv' H' : Hp} (x : Ext Hv H Hv' H') : Same (Hnew H H') Hv' := fun b o h => by
  unfold Hnew at h
  cases q : H b with
  | some u => rw [q] at h; cases h
  | none => rw [q] at h; rw [x.all b q]; exact h
theorem Hnew.sub {H H' : Hp} : Same (Hnew H H') H' := fun b o h => by
  unfold Hnew at h
  cases q : H b with
  | some u => rw [q] at h; cases h
  | none => rw [q] at h; exact h
mutual
theorem Rp.frag {K : PySem.W.Frag} {H : Hp} : ∀ {d : D} {v : V}, Rp [] H d v → Rp K H d v
  | .non, _, h => by unfold Rp at h ⊢; exact h
  | .bl _, _, h => by unfold Rp at h ⊢; exact h
  | .int _, _, h => by unfold Rp at h ⊢; exact h
  | .str _, _, h => by unfold Rp at h ⊢; exact h
  | .raw _, _, h => by unfold Rp at h ⊢; exact h
  | .tab _, _, h => by unfold Rp at h ⊢; exact h
  | .lst ds, v, h => by
    unfold Rp at h ⊢
    obtain ⟨a, vs, h1, h2, h3⟩ := h
    refine ⟨a, vs, h1, ?_, RpL.frag h3⟩
    rcases h2 with h2 | ⟨its, n, e, _⟩
    · exact .inl h2
    · simp at e
  | .tup ds, v, h => by
    unfold Rp at h ⊢
    obtain ⟨a, vs, h1, h2, h3⟩ := h
    exact ⟨a, vs, h1, h2, RpL.frag h3⟩
  | .exn c, v, h => by
    unfold Rp at h
    obtain ⟨a, C, h1, h2, h3⟩ := h
    simp [PySem.W.nsIn] at h2
  | .dct ks ds, v, h => by
    unfold Rp at h ⊢
    obtain ⟨a, vs, h1, h2, h3, h4⟩ := h
    exact ⟨a, vs, h1, h2, h3, RpL.frag h4⟩
theorem RpL.frag {K : PySem.W.Frag} {H : Hp} : ∀ {ds : List D} {vs : List V}, RpL [] H ds vs → RpL K H ds vs
  | [], _, h => by unfold RpL at h ⊢; exact h
  | d :: r, vs, h => by
    unfold RpL at h ⊢
    obtain ⟨v, ws, h1, h2, h3⟩ := h
    exact ⟨v, ws, h1, Rp.frag h2, RpL.frag h3⟩
end
def Ok (K : PySem.W.Frag) (Hv H : Hp) (W : XK) (cls : String → Value) (r : R) (Q : VK) : Prop := match r with
  | .ok d fr => ∀ v Hv' H', Ext Hv H Hv' H' → Rp K Hv' d v → (fr = true → Rp [] (Hnew H H') d v) → Q v H'
  | .exc c => ∀ Hv' H', Ext Hv H Hv' H' → W (cls c) none H'
  | .bad => False
def OkL (K : PySem.W.Frag) (Hv H : Hp) (W : XK) (cls : String → Value) (r : RL) (Q : List V → Hp → Prop) : Prop := match r with
  | .ok ds fr => ∀ vs Hv' H', Ext Hv H Hv' H' → RpL K Hv' ds vs → (fr = true → RpL [] (Hnew H H') ds vs) → Q vs H'
  | .exc c => ∀ Hv' H', Ext Hv H Hv' H' → W (cls c) none H'
  | .bad => False
def EnvR (K : PySem.W.Frag) (Hv : Hp) (ρ : Dv.Env) (σ : St) : Prop := ∀ (i : Nat) (d : D), ρ[i]? = some (some d) → ∃ v, σ[i]? = some (some v) ∧ Rp K Hv d v
theorem EnvR.same {K : PySem.W.Frag} {Hv Hv' : Hp} {ρ : Dv.Env} {σ : St} (e : Same Hv Hv') (h : EnvR K Hv ρ σ) : EnvR K Hv' ρ σ := fun i d q =>
  let ⟨v, h1, h2⟩ := h i d q; ⟨v, h1, h2.same e⟩
structure Ctx where
  X : Cx
  W : St → XK
  cls : String → Value
  CX : CXT
  un : X.A.units + 64 < cLine
  own : PassesOwn (model X.prog X.w) X.A X.env X.xe
  pass : ∀ (pins : List (Addr × Obj)) (σ : St) (H : Hp) (s : Shared) (e : Value) (s' : Shared), Inv X pins σ H s → CX X.stack H s (W σ) e s' → X.xe e s'
  cxF : ∀ (outer : List PySem.Env) (H : Hp) (s : Shared) (e : Value) (s' : Shared), CX outer H s (fun _ _ _ => False) e s' → False
def Tak (C : Ctx) (t : TE) (f : EE) : Prop := ∀ σ H Hv ρ Q, EnvR C.X.K Hv ρ σ → Same Hv H → Ok C.X.K Hv H (C.W σ) C.cls (f ρ) Q → t σ H Q
def TakL (C : Ctx) (t : TA) (f : EL) : Prop := ∀ σ H Hv ρ Q, EnvR C.X.K Hv ρ σ → Same Hv H → OkL C.X.K Hv H (C.W σ) C.cls (f ρ) Q → t σ H Q
def SE (C : Ctx) (e : Expr) (f : EE) : Prop := ∃ t : TE, PE C.X e t ∧ Tak C t f
def SL (C : Ctx) (es : List Expr) (f : EL) : Prop := ∃ t : TA, PA C.X es t ∧ TakL C t f ∧ ∀ ρ ds fr, f ρ = .ok ds fr → ds.length = es.length
def SC (C : Ctx) (e : Expr) (f : EE) : Prop :=
  ∃ t : TT, PT C.X e t ∧ ∀ σ H Hv ρ Q, EnvR C.X.K Hv ρ σ → Same Hv H → Ok C.X.K Hv H (C.W σ) C.cls (f ρ) (fun v H' => ∃ b, v = .bl b ∧ Q b H') → t σ H Q
theorem Ok.later {K : PySem.W.Frag} {Hv H Hv1 H1 : Hp} {W : XK} {cls : String → Value} {r : R} {Q : VK} (x : Ext Hv H Hv1 H1) (h : Ok K Hv H W cls r Q) : Ok K Hv1 H1 W cls r Q := by
  cases r with
  | ok d fr => exact fun v Hv' H' y r n => h v Hv' H' (x.trans y) r fun z => (n z).same (Hnew.mono x.hh (.refl _))
  | exc c => exact fun Hv' H' y => h Hv' H' (x.trans y)
  | bad => exact h
theorem Ok.now {K : PySem.W.Frag} {Hv H : Hp} {W : XK} {cls : String → Value} {d : D} {fr : Bool} {Q : VK} {v : V} (h : Ok K Hv H W cls (.ok d fr) Q) (e : Same Hv H) (r : Rp K Hv d v) (z : Dv.scal d = true) : Q v H :=
  h v Hv H (.refl e) r fun _ => r.scal z
theorem Ok.at {K : PySem.W.Frag} {Hv H Hv1 H1 : Hp} {W : XK} {cls : String → Value} {d : D} {fr : Bool} {Q : VK} {v : V} (h : Ok K Hv H W cls (.ok d fr) Q) (x : Ext Hv H Hv1 H1) (r : Rp K Hv1 d v) (z : Dv.scal d = true) : Q v H1 :=
  h v Hv1 H1 x r fun _ => r.scal z
theorem Ok.newL {K : PySem.W.Frag} {Hv H Hv1 H1 : Hp} {W : XK} {cls : String → Value} {ds : List D} {fr : Bool} {Q : VK} {vs : List V} (h : Ok K Hv H W cls (.ok (.lst ds) fr) Q) (x : Ext Hv H Hv1 H1) (r : RpL K Hv1 ds vs)
    (n : fr = true → RpL [] (Hnew H H1) ds vs) (p : Addr) (hp : H1 p = none) : Q (.ref p) (upd H1 p (.lst vs)) := by
  have y := Ext.new1 x.vh hp (.lst vs)
  refine h _ _ _ (x.trans y) ?_ fun z => ?_
  · unfold Rp
    exact ⟨p, vs, rfl, SqX.of upd_same, r.same y.vv⟩
  · unfold Rp
    have hH : H p = none := x.hh.free hp
    refine ⟨p, vs, rfl, SqX.of (by unfold Hnew; rw [hH]; exact upd_same), (n z).same (Hnew.mono (.refl _) y.hh)⟩
theorem Ok.newT {K : PySem.W.Frag} {Hv H Hv1 H1 : Hp} {W : XK} {cls : String → Value} {ds : List D} {fr : Bool} {Q : VK} {vs : List V} (h : Ok K Hv H W cls (.ok (.tup ds) fr) Q) (x : Ext Hv H Hv1 H1) (r : RpL K Hv1 ds vs)
    (n : fr = true → RpL [] (Hnew H H1) ds vs) (p : Addr) (hp : H1 p = none) : Q (.ref p) (upd H1 p (.tup vs)) := by
  have y := Ext.new1 x.vh hp (.tup vs)
  refine h _ _ _ (x.trans y) ?_ fun z => ?_
  · unfold Rp
    exact ⟨p, vs, rfl, .inl upd_same, r.same y.vv⟩
  · unfold Rp
    have hH : H p = none := x.hh.free hp
    refine ⟨p, vs, rfl, .inl (by unfold Hnew; rw [hH]; exact upd_same), (n z).same (Hnew.mono (.refl _) y.hh)⟩
section
variable {C : Ctx} {a b c : Expr} {es : List Expr} {f g h : EE} {fl : EL} {ta tb tc : TE} {tl : TA} {pos : Pos}
theorem Tak.step (qa : Tak C ta f) {σ : St} {H Hv Hv1 H1 : Hp} {ρ : Dv.Env} {Q T : VK} {k : D → Bool → R} (e : EnvR C.X.K Hv ρ σ) (x : Ext Hv H Hv1 H1) (q : Ok C.X.K Hv H (C.W σ) C.cls ((f ρ).bind k) Q)
    (next : ∀ v d fr Hv2 H2, f ρ = .ok d fr → Ext Hv H Hv2 H2 → Ext Hv1 H1 Hv2 H2 → Rp C.X.K Hv2 d v → (fr = true → Rp [] (Hnew H H2) d v) → Ok C.X.K Hv H (C.W σ) C.cls (k d fr) Q → T v H2) : ta σ H1 T := by
  refine qa σ H1 Hv1 ρ _ (e.same x.vv) x.vh ?_
  cases hf : f ρ with
  | bad => rw [hf] at q; exact q
  | exc c => rw [hf] at q; exact fun Hv' H' y => q Hv' H' (x.trans y)
  | ok d fr =>
    rw [hf] at q
    exact fun v Hv2 H2 y r n => next v d fr Hv2 H2 hf (x.trans y) y r (fun z => (n z).same (Hnew.mono x.hh (.refl _))) q
theorem TakL.step (qa : TakL C tl fl) {σ : St} {H Hv Hv1 H1 : Hp} {ρ : Dv.Env} {Q : VK} {T : List V → Hp → Prop} {k : List D → Bool → R} (e : EnvR C.X.K Hv ρ σ) (x : Ext Hv H Hv1 H1) (q : Ok C.X.K Hv H (C.W σ) C.cls ((fl ρ).bind k) Q)
    (next : ∀ vs ds fr Hv2 H2, fl ρ = .ok ds fr → Ext Hv H Hv2 H2 → Ext Hv1 H1 Hv2 H2 → RpL C.X.K Hv2 ds vs → (fr = true → RpL [] (Hnew H H2) ds vs) → Ok C.X.K Hv H (C.W σ) C.cls (k ds fr) Q → T vs H2) : tl σ H1 T := by
  refine qa σ H1 Hv1 ρ _ (e.same x.vv) x.vh ?_
  cases hf : fl ρ with
  | bad => rw [hf] at q; exact q
  | exc c => rw [hf] at q; exact fun Hv' H' y => q Hv' H' (x.trans y)
  | ok d fr =>
    rw [hf] at q
    exact fun v Hv2 H2 y r n => next v d fr Hv2 H2 hf (x.trans y) y r (fun z => (n z).same (Hnew.mono x.hh (.refl _))) q
theorem se_var (i : Nat) {x : Str} (hN : C.X.N[i]? = some x := by rfl) (hv : Vis C.X.env.scope x := by first | exact Or.inl rfl | exact Or.inr (Or.inl rfl) | exact Or.inr (Or.inr rfl)) (hd : (x == ("__debug__" : Str)) = false := by decide)
    (hcd : (x == ("__classdict__" : Str)) = false := by decide) : SE C (.Name x pos) (Dv.eVar i) := by
  refine ⟨tVar i, pe_var hN hv hd hcd, fun σ H Hv ρ Q e s q => ?_⟩
  unfold Dv.eVar at q
  cases r : ρ[i]? with
  | none => rw [r] at q; exact q.elim
  | some o =>
    cases o with
    | none => rw [r] at q; exact q.elim
    | some d =>
      rw [r] at q
      obtain ⟨v, h1, h2⟩ := e i d r
      exact ⟨v, h1, q v Hv H (.refl s) h2 fun z => h2.scal z⟩
theorem se_int {i : Int} {j : Nat} : SE C (.Constant (.int i) j pos) (Dv.eInt i) :=
  ⟨_, pe_int, fun _ _ _ _ _ _ s q => q.now (v := .int i) s (by unfold Rp; rfl) rfl⟩
theorem se_bl {i : Bool} {j : Nat} : SE C (.Constant (.bool i) j pos) (Dv.eBl i) :=
  ⟨_, pe_bl, fun _ _ _ _ _ _ s q => q.now (v := .bl i) s (by unfold Rp; rfl) rfl⟩
theorem se_str {x : Str} {l : List Nat} {j : Nat} (h : x.cps.toList = Dv.clipS l := by decide +kernel) : SE C (.Constant (.str x) j pos) (Dv.eStr l) :=
  ⟨_, pe_str, fun _ _ _ _ _ _ s q => q.now (v := .str x) s (by unfold Rp; rw [← h]) rfl⟩
def OpS (C : Ctx) (op : Value → Value → Sem Value) (F : D → D → R) : Prop :=
  ∃ r : R2, OpR C.X op r ∧ ∀ x y d d' H Hv H1 Hv1 W Q, Ext Hv H Hv1 H1 → Rp C.X.K Hv1 d x → Rp C.X.K Hv1 d' y → Ok C.X.K Hv H W C.cls (F d d') Q → r x y H1 Q
theorem tak_op2 {op : Value → Value → Sem Value} {F : D → D → R} {r : R2} (hr : ∀ x y d d' H Hv H1 Hv1 W Q, Ext Hv H Hv1 H1 → Rp C.X.K Hv1 d x → Rp C.X.K Hv1 d' y → Ok C.X.K Hv H W C.cls (F d d') Q → r x y H1 Q)
    (qa : Tak C ta f) (qb : Tak C tb g) : Tak C (tOp r ta tb) (fun ρ => (f ρ).bind fun x _ => (g ρ).bind fun y _ => F x y) := fun σ H Hv ρ Q e s q =>
  qa.step e (.refl s) q fun v d fr Hv1 H1 _ x1 _ rp1 _ q1 => qb.step e x1 q1 fun v2 d2 fr2 Hv2 H2 _ x2 y2 rp2 _ q2 =>
    hr v v2 d d2 H Hv H2 Hv2 _ Q x2 (rp1.same y2.vv) rp2 q2
theorem se_op2 {op : Operator} {F : D → D → R} (o : OpS C (binaryOp op) F) (ha : SE C a f) (hb : SE C b g) : SE C (.BinOp a op b pos) (fun ρ => (f ρ).bind fun x _ => (g ρ).bind fun y _ => F x y) := by
  obtain ⟨r, ho, hr⟩ := o
  obtain ⟨ta, pa, qa⟩ := ha
  obtain ⟨tb, pb, qb⟩ := hb
  exact ⟨_, pe_op ho pa pb, tak_op2 (op := binaryOp op) hr qa qb⟩
theorem se_cm2 {op : CmpOp} {F : D → D → R} (o : OpS C (compareOp op) F) (ha : SE C a f) (hb : SE C b g) (hm : behindInMarks op b = false) : SE C (.Compare a [op] [b] pos) (fun ρ => (f ρ).bind fun x _ => (g ρ).bind fun y _ => F x y) := by
  obtain ⟨r, ho, hr⟩ := o
  obtain ⟨ta, pa, qa⟩ := ha
  obtain ⟨tb, pb, qb⟩ := hb
  exact ⟨_, pe_cmpR ho pa pb hm, tak_op2 (op := compareOp op) hr qa qb⟩
theorem sc_cm2 {op : CmpOp} {F : D → D → R} (o : OpS C (compareOp op) F) (ha : SE C a f) (hb : SE C b g) (hm : behindInMarks op b = false) : SC C (.Compare a [op] [b] pos) (fun ρ => (f ρ).bind fun x _ => (g ρ).bind fun y _ => F x y) := by
  obtain ⟨r, ho, hr⟩ := o
  obtain ⟨ta, pa, qa⟩ := ha
  obtain ⟨tb, pb, qb⟩ := hb
  exact ⟨_, pt_cmpR ho pa pb hm, fun σ H Hv ρ Q e s q => tak_op2 (op := compareOp op) hr qa qb σ H Hv ρ _ e s q⟩
theorem sc_val (ha : SE C a f) (he : ∀ whole, isTrue a C.X.env whole = (do let v ← whole; standAt a.pos; holding [v] (truthy v)) := by intro _; rfl) : SC C a f := by
  obtain ⟨t, p, q⟩ := ha
  exact ⟨_, pt_val p he, fun σ H Hv ρ Q e s w => q σ H Hv ρ _ e s w⟩
def SW (C : Ctx) (e : Expr) (f : EE) : Prop :=
  ∃ t : TT, PW C.X e t ∧ ∀ σ H Hv ρ Q, EnvR C.X.K Hv ρ σ → Same Hv H → Ok C.X.K Hv H (C.W σ) C.cls (f ρ) (fun v H' => ∃ b, v = .bl b ∧ Q b H') → t σ H Q
def TakC (C : Ctx) (t : TT) (f : EE) : Prop := ∀ σ H Hv ρ Q, EnvR C.X.K Hv ρ σ → Same Hv H → Ok C.X.K Hv H (C.W σ) C.cls (f ρ) (fun v H' => ∃ b, v = .bl b ∧ Q b H') → t σ H Q
theorem TakC.step {tt : TT} (qa : TakC C tt f) {σ : St} {H Hv Hv1 H1 : Hp} {ρ : Dv.Env} {Q : VK} {T : Bool → Hp → Prop} {k : D → Bool → R} (e : EnvR C.X.K Hv ρ σ) (x : Ext Hv H Hv1 H1) (q : Ok C.X.K Hv H (C.W σ) C.cls ((f ρ).bind k) Q)
    (nb : ∀ d fr, f ρ = .ok d fr → (∀ b, d ≠ .bl b) → k d fr = .bad)
    (next : ∀ b fr Hv2 H2, f ρ = .ok (.bl b) fr → Ext Hv H Hv2 H2 → Ext Hv1 H1 Hv2 H2 → Ok C.X.K Hv H (C.W σ) C.cls (k (.bl b) fr) Q → T b H2) : tt σ H1 T := by
  refine qa σ H1 Hv1 ρ _ (e.same x.vv) x.vh ?_
  cases hf : f ρ with
  | bad => rw [hf] at q; exact q
  | exc c => rw [hf] at q; exact fun Hv' H' y => q Hv' H' (x.trans y)
  | ok d fr =>
    intro v Hv2 H2 y r n
    cases d with
    | bl b =>
      unfold Rp at r
      rw [hf] at q
      exact ⟨b, r, next b fr Hv2 H2 hf (x.trans y) y q⟩
    | _ =>
      have z := nb _ _ hf (by intro b z; cases z)
      rw [hf] at q
      have q' : Ok C.X.K Hv H (C.W σ) C.cls (k _ fr) Q := q
      rw [z] at q'
      exact q'.elim
theorem sw_one (op : BoolOp) (ha : SC C a f) : SW C (.BoolOp op [a] pos) f := by
  obtain ⟨t, p, q⟩ := ha
  cases op with
  | And => exact ⟨t, pw_and1 p, q⟩
  | Or => exact ⟨t, pw_or1 p, q⟩
theorem sw_or {rest : List Expr} (ha : SC C a f) (hb : SW C (.BoolOp .Or (b :: rest) pos) g) : SW C (.BoolOp .Or (a :: b :: rest) pos) (Dv.eOr f g) := by
  obtain ⟨t, p, q⟩ := ha
  obtain ⟨u, p2, q2⟩ := hb
  refine ⟨_, pw_or p p2, fun σ H Hv ρ Q e s w => ?_⟩
  refine TakC.step q e (.refl s) w (fun d fr _ nb => by cases d <;> first | rfl | exact absurd rfl (nb _)) fun b fr Hv2 H2 hf x y w2 => ?_
  cases b with
  | false => exact iteF (q2 σ H2 Hv2 ρ _ (e.same x.vv) x.vh (Ok.later x (show Ok _ _ _ _ _ (g ρ) _ from w2)))
  | true =>
    obtain ⟨b, e1, q3⟩ := (show Ok C.X.K Hv H (C.W σ) C.cls (.ok (.bl true) true) (fun v H' => ∃ b, v = .bl b ∧ Q b H') from w2).at (v := .bl true) x (by unfold Rp; rfl) rfl
    cases e1
    exact iteT q3
theorem sc_w (h : SW C a f) : SC C a f := let ⟨t, p, q⟩ := h; ⟨t, p.pt, q⟩
theorem sc_not (ha : SC C a f) : SC C (.UnaryOp .Not a pos) (Dv.eNot f) := by
  obtain ⟨t, p, q⟩ := ha
  refine ⟨_, pt_not p, fun σ H Hv ρ Q e s w => ?_⟩
  refine TakC.step q e (.refl s) w (fun d fr _ nb => by cases d <;> first | rfl | exact absurd rfl (nb _)) fun b fr Hv2 H2 hf x y w2 => ?_
  obtain ⟨b', e1, q3⟩ := (show Ok C.X.K Hv H (C.W σ) C.cls (.ok (.bl (!b)) true) (fun v H' => ∃ b, v = .bl b ∧ Q b H') from w2).at (v := .bl (!b)) x (by unfold Rp; rfl) rfl
  cases e1
  exact q3
theorem se_one {op : BoolOp} (ha : SE C a f) : SE C (.BoolOp op [a] pos) f := let ⟨t, p, q⟩ := ha; ⟨t, pe_one p, q⟩
theorem se_and {rest : List Expr} (ha : SE C a f) (hb : SE C (.BoolOp .And (b :: rest) pos) g) : SE C (.BoolOp .And (a :: b :: rest) pos) (Dv.eAnd f g) := by
  obtain ⟨t, p, q⟩ := ha
  obtain ⟨u, p2, q2⟩ := hb
  refine ⟨_, pe_and p p2, fun σ H Hv ρ Q e s w => ?_⟩
  refine Tak.step q e (.refl s) w fun v d fr Hv2 H2 hf x y rp n w2 => ?_
  cases d with
  | bl c =>
    unfold Rp at rp
    refine ⟨c, rp, ?_⟩
    cases c with
    | true => exact iteT (q2 σ H2 Hv2 ρ _ (e.same x.vv) x.vh (Ok.later x (show Ok _ _ _ _ _ (g ρ) _ from w2)))
    | false => exact iteF ((show Ok C.X.K Hv H (C.W σ) C.cls (.ok (.bl false) true) Q from w2).at (v := .bl false) x (by unfold Rp; rfl) rfl)
  | _ => exact (show False from w2).elim
theorem se_not (ha : SE C a f) : SE C (.UnaryOp .Not a pos) (Dv.eNot f) := by
  obtain ⟨t, p, q⟩ := ha
  refine ⟨_, pe_not p, fun σ H Hv ρ Q e s w => ?_⟩
  refine Tak.step q e (.refl s) w fun v d fr Hv2 H2 hf x y rp n w2 => ?_
  cases d with
  | bl c =>
    unfold Rp at rp
    exact ⟨c, rp, (show Ok C.X.K Hv H (C.W σ) C.cls (.ok (.bl (!c)) true) Q from w2).at (v := .bl (!c)) x (by unfold Rp; rfl) rfl⟩
  | _ => exact (show False from w2).elim
theorem se_ifx (hc : SC C c h) (ha : SE C a f) (hb : SE C b g) : SE C (.IfExp c a b pos) (Dv.eIf h f g) := by
  obtain ⟨tc, pc, qc⟩ := hc
  obtain ⟨t, p, q⟩ := ha
  obtain ⟨u, p2, q2⟩ := hb
  refine ⟨_, pe_ifExp pc p p2, fun σ H Hv ρ Q e s w => ?_⟩
  refine TakC.step qc e (.refl s) w (fun d fr _ nb => by cases d <;> first | rfl | exact absurd rfl (nb _)) fun b fr Hv2 H2 hf x y w2 => ?_
  cases b with
  | true => exact iteT (q σ H2 Hv2 ρ _ (e.same x.vv) x.vh (Ok.later x (show Ok _ _ _ _ _ (f ρ) _ from w2)))
  | false => exact iteF (q2 σ H2 Hv2 ρ _ (e.same x.vv) x.vh (Ok.later x (show Ok _ _ _ _ _ (g ρ) _ from w2)))
theorem se_neg (ha : SE C a f) : SE C (.UnaryOp .USub a pos) (Dv.eNeg f) := by
  obtain ⟨t, p, q⟩ := ha
  refine ⟨_, pe_un un_neg p, fun σ H Hv ρ Q e s w => ?_⟩
  refine Tak.step q e (.refl s) w fun v d fr Hv2 H2 hf x y rp n w2 => ?_
  cases d with
  | int i =>
    unfold Rp at rp
    exact ⟨i, rp, (show Ok C.X.K Hv H (C.W σ) C.cls (.ok (.int (-i)) true) Q from w2).at (v := .int (-i)) x (by unfold Rp; rfl) rfl⟩
  | _ => exact (show False from w2).elim
theorem sl_nil : SL C [] Dv.lNil := ⟨_, pa_nil, fun σ H Hv ρ Q e s q => q [] Hv H (.refl s) .nil fun _ => .nil, fun ρ ds fr h => by cases h; rfl⟩
theorem sl_cons (ha : SE C a f) (hr : SL C es fl) (hs : starEach (a :: es) C.X.env = (false, eval a C.X.env) :: starEach es C.X.env := by rfl) : SL C (a :: es) (Dv.lCons f fl) := by
  obtain ⟨t, p, q⟩ := ha
  obtain ⟨u, p2, q2, l2⟩ := hr
  refine ⟨_, pa_cons p p2 hs, fun σ H Hv ρ Q e s w => ?_, fun ρ ds fr h => ?_⟩
  rotate_left
  · unfold Dv.lCons at h
    cases hf : f ρ with
    | bad => rw [hf] at h; cases h
    | exc c => rw [hf] at h; cases h
    | ok d f1 =>
      cases hg : fl ρ with
      | bad => rw [hf, hg] at h; cases h
      | exc c => rw [hf, hg] at h; cases h
      | ok d2 f2 =>
        rw [hf, hg] at h
        cases h
        rw [List.length_cons, List.length_cons, l2 ρ d2 f2 hg]
  unfold Dv.lCons at w
  refine q σ H Hv ρ _ e s ?_
  cases hf : f ρ with
  | bad => rw [hf] at w; exact w
  | exc c => rw [hf] at w; exact w
  | ok d fr =>
    rw [hf] at w
    intro v Hv1 H1 x1 r1 n1
    refine q2 σ H1 Hv1 ρ _ (e.same x1.vv) x1.vh ?_
    cases hg : fl ρ with
    | bad => rw [hg] at w; exact w
    | exc c => rw [hg] at w; exact fun Hv' H' y => w Hv' H' (x1.trans y)
    | ok ds fr2 =>
      rw [hg] at w
      intro vs Hv2 H2 x2 r2 n2
      refine w (v :: vs) Hv2 H2 (x1.trans x2) (.cons (r1.same x2.vv) r2) fun z => ?_
      have z' : fr = true ∧ fr2 = true := by simpa using z
      exact .cons ((n1 z'.1).same (Hnew.mono (.refl _) x2.hh)) ((n2 z'.2).same (Hnew.mono x1.hh (.refl _)))
theorem mx_line {n : Nat} (h : n ≤ Dv.mx) : n ≤ sizeLine := by
  unfold Dv.mx at h; rw [sizeLine_eq]; omega
theorem se_lst (h : SL C es fl) (hz : es.length ≤ Dv.mx := by decide) : SE C (.List es pos) (Dv.eLst fl) := by
  obtain ⟨t, p, q, hn⟩ := h
  refine ⟨_, pe_lst p, fun σ H Hv ρ Q e s w => ?_⟩
  refine TakL.step q e (.refl s) w fun vs ds fr Hv2 H2 hf x y rp n w2 => ⟨?_, fun p hp => ?_⟩
  · rw [rp.length, hn ρ ds fr hf]; exact mx_line hz
  · exact Ok.newL w2 x rp n p hp
theorem se_tup {k} (h : SL C es fl) (hz : es.length ≤ Dv.mx := by decide) : SE C (.Tuple es k pos) (Dv.eTup fl) := by
  obtain ⟨t, p, q, hn⟩ := h
  refine ⟨_, pe_tup p, fun σ H Hv ρ Q e s w => ?_⟩
  refine TakL.step q e (.refl s) w fun vs ds fr Hv2 H2 hf x y rp n w2 => ⟨?_, fun p hp => ?_⟩
  · rw [rp.length, hn ρ ds fr hf]; exact mx_line hz
  · exact Ok.newT w2 x rp n p hp
end
end Sd
set_option Elab.async false
set_option linter.all false
set_option maxRecDepth 100000
namespace Sd
open PySem PySem.Spec PyProof.Rows L2
open Dv (D R RL EE EL EI RI)
section
variable {C : Ctx} {a b c : Expr} {es : List Expr} {f g h : EE} {fl : EL} {pos : Pos}
theorem opI_s {op : Value → Value → Sem Value} {K : Int → Int → Prop} {G : Int → Int → V} {F : D → D → R} (o : OpR C.X op (rI K G))
    (hF : ∀ d d', (∃ i j x, d = .int i ∧ d' = .int j ∧ K i j ∧ F d d' = .ok x true ∧ Dv.scal x = true ∧ ∀ K' H', Rp K' H' x (G i j)) ∨ F d d' = .bad) : OpS C op F := by
  refine ⟨_, o, fun x y d d' H Hv H1 Hv1 W Q e rx ry q => ?_⟩
  rcases hF d d' with ⟨i, j, z, rfl, rfl, hk, hz, hs, hr⟩ | hb
  · unfold Rp at rx ry
    rw [hz] at q
    exact ⟨i, j, rx, ry, hk, q.at e (hr _ _) hs⟩
  · rw [hb] at q; exact q.elim
theorem opI0_s {op : Value → Value → Sem Value} {G : Int → Int → V} {F : D → D → R} (o : OpR C.X op (rI0 G))
    (hF : ∀ d d', (∃ i j x, d = .int i ∧ d' = .int j ∧ F d d' = .ok x true ∧ Dv.scal x = true ∧ ∀ K' H', Rp K' H' x (G i j)) ∨ F d d' = .bad) : OpS C op F := by
  refine ⟨_, o, fun x y d d' H Hv H1 Hv1 W Q e rx ry q => ?_⟩
  rcases hF d d' with ⟨i, j, z, rfl, rfl, hz, hs, hr⟩ | hb
  · unfold Rp at rx ry
    rw [hz] at q
    exact ⟨i, j, rx, ry, q.at e (hr _ _) hs⟩
  · rw [hb] at q; exact q.elim
theorem rp_int {K : PySem.W.Frag} {H : Hp} {i : Int} : Rp K H (.int i) (.int i) := by unfold Rp; rfl
theorem rp_bl {K : PySem.W.Frag} {H : Hp} {i : Bool} : Rp K H (.bl i) (.bl i) := by unfold Rp; rfl
theorem rp_non {K : PySem.W.Frag} {H : Hp} : Rp K H .non .non := by unfold Rp; rfl
theorem os_sub : OpS C (binaryOp .Sub) (Dv.opD .sub) := opI0_s op_sub fun d d' => by
  cases d <;> first
    | exact .inr rfl
    | (cases d' <;> first
      | exact .inr rfl
      | exact .inl ⟨_, _, _, rfl, rfl, rfl, rfl, fun _ _ => rp_int⟩)
theorem os_mod : OpS C (binaryOp .Mod) (Dv.opD .mod) := opI_s op_mod fun d d' => by
  cases d with
  | int i =>
    cases d' with
    | int j =>
      by_cases h : 0 < j
      · exact .inl ⟨i, j, .int (i % j), rfl, rfl, h, by simp [Dv.opD, h], rfl, fun _ _ => rp_int⟩
      · exact .inr (by simp [Dv.opD, h])
    | _ => exact .inr rfl
  | _ => exact .inr rfl
theorem fdiv_any : OpR C.X (binaryOp .FloorDiv) (rI (fun _ j => 0 < j ∧ j.natAbs.log2 < 9000) fun i j => .int (i / j)) := opI fun i j _ _ _ _ _ hc q => by
  have h1 : (0 : Int) < j := hc.1
  exact floordiv_int (by omega) (by rw [Int.fdiv_eq_ediv_of_nonneg i (by omega)]; exact q) (.inl (PyProof.noPylong_of_log2 hc.2))
theorem os_fdiv : OpS C (binaryOp .FloorDiv) (Dv.opD .fdiv) := opI_s fdiv_any fun d d' => by
  cases d with
  | int i =>
    cases d' with
    | int j =>
      by_cases h : Dv.divOk j = true
      · refine .inl ⟨i, j, .int (i / j), rfl, rfl, ?_, by simp [Dv.opD, h], rfl, fun _ _ => rp_int⟩
        unfold Dv.divOk at h
        simpa using h
      · exact .inr (by simp [Dv.opD, h])
    | _ => exact .inr rfl
  | _ => exact .inr rfl
theorem os_pow : OpS C (binaryOp .Pow) (Dv.opD .pow) := opI_s op_pow fun d d' => by
  cases d with
  | int i =>
    cases d' with
    | int j =>
      by_cases h : (decide (0 ≤ j) && decide (j ≤ 1000) && decide (i.natAbs < 1000000)) = true
      · refine .inl ⟨i, j, .int (i ^ j.toNat), rfl, rfl, ?_, by simp only [Dv.opD, h]; rfl, rfl, fun _ _ => rp_int⟩
        simp only [Bool.and_eq_true, decide_eq_true_eq] at h
        exact ⟨h.1.1, by omega, by omega⟩
      · exact .inr (by simp only [Dv.opD, h]; rfl)
    | _ => exact .inr rfl
  | _ => exact .inr rfl
theorem os_shr : OpS C (binaryOp .RShift) (Dv.opD .shr) := opI_s op_shr fun d d' => by
  cases d with
  | int i =>
    cases d' with
    | int j =>
      by_cases h : 0 ≤ j
      · exact .inl ⟨i, j, .int (i / 2 ^ j.toNat), rfl, rfl, h, by simp [Dv.opD, h], rfl, fun _ _ => rp_int⟩
      · exact .inr (by simp [Dv.opD, h])
    | _ => exact .inr rfl
  | _ => exact .inr rfl
def rCatX (K : PySem.W.Frag) : R2 := fun x y H Q => ∃ l b xs zs, x = .ref l ∧ y = .ref b ∧ SqX K H l xs ∧ SqX K H b zs ∧ xs.length + zs.length ≤ sizeLine ∧ ∀ p, H p = none → Q (.ref p) (upd H p (.lst (xs ++ zs)))
theorem op_catX {X : Cx} : OpR X (binaryOp .Add) (rCatX X.K) := by
  intro pins s σ H x y v u Q I rx ry h
  obtain ⟨l, b, xs, zs, rfl, rfl, hH, hB, hz, q⟩ := h
  cases rx
  cases ry
  obtain ⟨its, n, r, e, z⟩ := Inv.listX I hH
  obtain ⟨its2, n2, r2, e2, z2⟩ := Inv.listX I hB
  have hl := r.length
  have hl2 := r2.length
  refine PySem.P.add_list e e2 ?_ (by rw [List.size_toArray, List.size_toArray]; omega)
  have ea : its.toArray ++ its2.toArray = (its ++ its2).toArray := by simp
  rw [ea]
  exact ⟨.ref _, _, I.lnew (t' := s.toks) (r.append r2) (by rw [List.length_append]; omega), rfl, q _ I.fresh⟩
theorem os_add : OpS C (binaryOp .Add) (Dv.opD .add) := by
  refine ⟨_, OpR.or op_add op_catX, fun x y d d' H Hv H1 Hv1 W Q e rx ry q => ?_⟩
  cases d with
  | int i =>
    cases d' with
    | int j =>
      unfold Rp at rx ry
      exact .inl ⟨i, j, rx, ry, (show Ok _ _ _ _ _ (.ok (.int (i + j)) true) Q from q).at e rp_int rfl⟩
    | _ => exact (show False from q).elim
  | lst xs =>
    cases d' with
    | lst ys =>
      unfold Rp at rx ry
      obtain ⟨l, vs, rfl, h1, h2⟩ := rx
      obtain ⟨m, ws, rfl, h3, h4⟩ := ry
      by_cases hz : xs.length + ys.length ≤ Dv.mx
      · have q' : Ok C.X.K Hv H W C.cls (.ok (.lst (xs ++ ys)) (Dv.flatL xs && Dv.flatL ys)) Q := by simpa [Dv.opD, hz] using q
        refine .inr ⟨l, m, vs, ws, rfl, rfl, h1.same e.vh, h3.same e.vh, ?_, fun p hp => Ok.newL q' e (h2.append h4) (fun z => ?_) p hp⟩
        · rw [h2.length, h4.length]; exact mx_line hz
        · rw [Bool.and_eq_true] at z
          exact (h2.flat z.1).append (h4.flat z.2)
      · have q' : False := by simpa [Dv.opD, hz, Ok] using q
        exact q'.elim
    | _ => exact (show False from q).elim
  | _ => exact (show False from q).elim
theorem bits_eq (i : Int) : Builtin.Int.intBits i = Dv.bits i := by
  unfold Builtin.Int.intBits Dv.bits
  by_cases h : i = 0
  · simp [h]
  · simp [h]
theorem mul_any : OpR C.X (binaryOp .Mult) (rI (fun i j => Dv.mulOk i j = true) fun i j => .int (i * j)) := opI fun i j _ _ _ _ _ hc q => by
  refine mul_int q ?_
  unfold Dv.mulOk at hc
  simp only [Bool.or_eq_true, Bool.and_eq_true, decide_eq_true_eq, ← bits_eq] at hc
  rcases hc with (hc | hc) | hc
  · exact .of_left hc
  · exact .of_right hc
  · exact .of_bits (by simpa using hc.1) (by simpa using hc.2)
def rRepX (K : PySem.W.Frag) : R2 := fun x y H Q => ∃ l k xs, x = .ref l ∧ y = .int k ∧ SqX K H l xs ∧ -(2 ^ 63) ≤ k ∧ k < 2 ^ 63 ∧ xs.length * k.toNat ≤ sizeLine ∧
  ∀ p, H p = none → Q (.ref p) (upd H p (.lst (List.replicate k.toNat xs).flatten))
theorem op_repX {X : Cx} : OpR X (binaryOp .Mult) (rRepX X.K) := by
  intro pins s σ H x y v u Q I rx ry h
  obtain ⟨l, k, xs, rfl, rfl, hH, h1, h2, hz, q⟩ := h
  cases rx
  obtain ⟨t, rfl⟩ := ry
  obtain ⟨its, n, r, e, z⟩ := Inv.listX I hH
  have hl := r.length
  have hlen : its.toArray.size * k.toNat ≤ sizeLine := by rw [List.size_toArray, ← hl]; exact hz
  have hcap : ¬ its.toArray.size * k.toNat > (2 ^ 63 - 1) / 8 := by
    have : (sizeLine : Nat) ≤ (2 ^ 63 - 1) / 8 := by decide
    omega
  have hfit : ¬ (!Builtin.List.listFitsIndex k) = true := by
    rw [fitsIndex_both h1 h2]
    exact Bool.false_ne_true
  have hlong : ¬ Builtin.List.listTooLong (its.toArray.size * k.toNat) = true := by
    rw [notLongL hlen]
    exact Bool.false_ne_true
  have hnew : List.foldl (fun x1 x2 => x1 ++ x2) #[] (List.replicate (if its.toArray.isEmpty = true then 0 else k.toNat) its.toArray) = (List.replicate k.toNat its).flatten.toArray := by
    have f0 : ∀ m : Nat, List.foldl (fun x1 x2 => x1 ++ x2) #[] (List.replicate m its.toArray) = (List.replicate m its).flatten.toArray := fun m => by
      have := foldl_rep its m []
      rw [List.nil_append] at this
      exact this
    rw [f0]
    cases its with
    | nil => simp
    | cons a r' => rw [if_neg (by simp)]
  refine wpAny_binaryOp_repeat_ref (T := "list") (U := "int") (by decide) ⟨_, e, rfl⟩ (fun s' => typeIs_int s' k t) noFill_list_mul F.fills_int_mul F.slot_int_rmul repeat_list F.slot_int_index.lookup
    (call_meets F.slot_int_rmul (typeIs_int s k t) F.entry_int_rmul (F.args_int_rmul_2 _ _) (int___rmul___int_list k t l its.toArray n)
      ⟨e, rfl, ⟨_, e, rfl⟩, call_meets F.slot_list_mul ⟨_, e, rfl⟩ F.entry_list_mul (F.args_list_mul_2 _ _) (AutoListH.list___mul___list_int_3 l its.toArray n k t hfit hcap hlong) ⟨e, ?_⟩⟩)
  rw [hnew]
  exact ⟨.ref _, _, I.lnew (t' := s.toks) (r.rep k.toNat) (by rw [len_rep, Nat.mul_comm]; exact hz), rfl, q _ I.fresh⟩
theorem RpL.rep {K : PySem.W.Frag} {H : Hp} {ds : List D} {vs : List V} (h : RpL K H ds vs) : ∀ k : Nat, RpL K H (List.replicate k ds).flatten (List.replicate k vs).flatten
  | 0 => .nil
  | k + 1 => by
    rw [List.replicate_succ, List.replicate_succ, List.flatten_cons, List.flatten_cons]
    exact h.append (RpL.rep h k)
theorem os_mul : OpS C (binaryOp .Mult) (Dv.opD .mul) := by
  refine ⟨_, OpR.or mul_any op_repX, fun x y d d' H Hv H1 Hv1 W Q e rx ry q => ?_⟩
  cases d with
  | int i =>
    cases d' with
    | int j =>
      unfold Rp at rx ry
      by_cases h : Dv.mulOk i j = true
      · have q' : Ok C.X.K Hv H W C.cls (.ok (.int (i * j)) true) Q := by simpa [Dv.opD, h] using q
        exact .inl ⟨i, j, rx, ry, h, q'.at e rp_int rfl⟩
      · have q' : False := by simpa [Dv.opD, h, Ok] using q
        exact q'.elim
    | _ => exact (show False from q).elim
  | lst xs =>
    cases d' with
    | int j =>
      unfold Rp at rx ry
      obtain ⟨l, vs, rfl, h1, h2⟩ := rx
      subst ry
      by_cases hz : (decide (-100000 ≤ j) && decide (j ≤ Dv.mx) && decide (xs.length * j.toNat ≤ Dv.mx)) = true
      · have q' : Ok C.X.K Hv H W C.cls (.ok (.lst (List.replicate j.toNat xs).flatten) (Dv.flatL xs)) Q := by
          simp only [Dv.opD, hz, if_true] at q; exact q
        simp only [Bool.and_eq_true, decide_eq_true_eq] at hz
        have hj : j ≤ 100000 := hz.1.2
        have hj0 : -100000 ≤ j := hz.1.1
        refine .inr ⟨l, j, vs, rfl, rfl, h1.same e.vh, by omega, by omega, ?_, fun p hp => Ok.newL q' e (h2.rep _) (fun z => ?_) p hp⟩
        · rw [h2.length]; exact mx_line hz.2
        · exact (h2.flat z).rep _
      · simp only [Dv.opD, hz] at q
        exact (show False from q).elim
    | _ => exact (show False from q).elim
  | _ => exact (show False from q).elim
theorem os_lt : OpS C (compareOp .Lt) (Dv.cmD .lt) := opI0_s op_lt fun d d' => by
  cases d <;> first
    | exact .inr rfl
    | (cases d' <;> first | exact .inr rfl | exact .inl ⟨_, _, _, rfl, rfl, rfl, rfl, fun _ _ => rp_bl⟩)
theorem os_le : OpS C (compareOp .LtE) (Dv.cmD .le) := opI0_s op_le fun d d' => by
  cases d <;> first
    | exact .inr rfl
    | (cases d' <;> first | exact .inr rfl | exact .inl ⟨_, _, _, rfl, rfl, rfl, rfl, fun _ _ => rp_bl⟩)
theorem os_gt : OpS C (compareOp .Gt) (Dv.cmD .gt) := opI0_s op_gt fun d d' => by
  cases d <;> first
    | exact .inr rfl
    | (cases d' <;> first | exact .inr rfl | exact .inl ⟨_, _, _, rfl, rfl, rfl, rfl, fun _ _ => rp_bl⟩)
theorem os_ge : OpS C (compareOp .GtE) (Dv.cmD .ge) := opI0_s op_ge fun d d' => by
  cases d <;> first
    | exact .inr rfl
    | (cases d' <;> first | exact .inr rfl | exact .inl ⟨_, _, _, rfl, rfl, rfl, rfl, fun _ _ => rp_bl⟩)
mutual
def pd : D → PyData
  | .non => .none
  | .bl b => .bool b
  | .int i => .int i
  | .str x => .str ⟨(Dv.clipS x).toArray⟩
  | .lst ds => .list (pdL ds)
  | .tup ds => .tuple (pdL ds)
  | .exn _ => .none
  | .raw _ => .none
  | .tab _ => .none
  | .dct _ _ => .none
def pdL : List D → List PyData
  | [] => []
  | d :: r => pd d :: pdL r
end
mutual
theorem pd_lay : ∀ d : D, (pd d).canLay0 = true
  | .non => by simp [pd, PyData.canLay0]
  | .bl _ => by simp [pd, PyData.canLay0]
  | .int _ => by simp [pd, PyData.canLay0]
  | .str x => by
    have : ∀ n : Nat, n % 1114112 < 1114112 := fun n => Nat.mod_lt _ (by decide)
    simp [pd, PyData.canLay0, PyData.strOk, Dv.clipS, this]
  | .lst ds => by simp [pd, PyData.canLay0, pdL_lay ds]
  | .tup ds => by simp [pd, PyData.canLay0, pdL_lay ds]
  | .exn _ => by simp [pd, PyData.canLay0]
  | .raw _ => by simp [pd, PyData.canLay0]
  | .tab _ => by simp [pd, PyData.canLay0]
  | .dct _ _ => by simp [pd, PyData.canLay0]
theorem pdL_lay : ∀ ds : List D, PyData.canLayAll0 (pdL ds) = true
  | [] => by simp [pdL, PyData.canLayAll0]
  | d :: r => by simp [pdL, PyData.canLayAll0, pd_lay d, pdL_lay r]
end
mutual
theorem pd_depth : ∀ d : D, (pd d).depth ≤ Dv.depthD d
  | .non => by simp [pd, PyData.depth, Dv.depthD]
  | .bl _ => by simp [pd, PyData.depth, Dv.depthD]
  | .int _ => by simp [pd, PyData.depth, Dv.depthD]
  | .str _ => by simp [pd, PyData.depth, Dv.depthD]
  | .lst ds => by have := pdL_depth ds; simp [pd, PyData.depth, Dv.depthD]; omega
  | .tup ds => by have := pdL_depth ds; simp [pd, PyData.depth, Dv.depthD]; omega
  | .exn _ => by simp [pd, PyData.depth, Dv.depthD]
  | .raw _ => by simp [pd, PyData.depth, Dv.depthD]
  | .tab _ => by simp [pd, PyData.depth, Dv.depthD]
  | .dct _ _ => by simp [pd, PyData.depth, Dv.depthD]
theorem pdL_depth : ∀ ds : List D, PyData.depthAll (pdL ds) ≤ Dv.depthL ds
  | [] => by simp [pdL, PyData.depthAll, Dv.depthL]
  | d :: r => by have := pd_depth d; have := pdL_depth r; simp [pdL, PyData.depthAll, Dv.depthL]; omega
end
mutual
theorem eqv_of : ∀ (a b : D) (r : Bool), Dv.eqD a b = some r → PyData.eqv (pd a) (pd b) = r
  | .non, b, r, h => by cases b <;> simp [Dv.eqD] at h; subst h; simp [pd, PyData.eqv]
  | .bl _, b, r, h => by cases b <;> simp [Dv.eqD] at h; subst h; simp [pd, PyData.eqv]
  | .int _, b, r, h => by cases b <;> simp [Dv.eqD] at h; subst h; simp [pd, PyData.eqv, Bool.beq_eq_decide_eq]
  | .str _, b, r, h => by cases b <;> simp [Dv.eqD] at h; subst h; simp [pd, PyData.eqv, Bool.beq_eq_decide_eq]
  | .lst xs, b, r, h => by
    cases b <;> simp only [Dv.eqD] at h <;> try cases h
    simp only [pd, PyData.eqv]
    exact eqvL_of _ _ _ h
  | .tup xs, b, r, h => by
    cases b <;> simp only [Dv.eqD] at h <;> try cases h
    simp only [pd, PyData.eqv]
    exact eqvL_of _ _ _ h
  | .exn _, b, r, h => by cases b <;> simp [Dv.eqD] at h
  | .raw _, b, r, h => by cases b <;> simp [Dv.eqD] at h
  | .tab _, b, r, h => by cases b <;> simp [Dv.eqD] at h
  | .dct _ _, b, r, h => by cases b <;> simp [Dv.eqD] at h
theorem eqvL_of : ∀ (a b : List D) (r : Bool), Dv.eqDL a b = some r → PyData.eqvAll (pdL a) (pdL b) = r
  | [], [], r, h => by simp [Dv.eqDL] at h; subst h; simp [pdL, PyData.eqvAll]
  | [], _ :: _, r, h => by simp [Dv.eqDL] at h; subst h; simp [pdL, PyData.eqvAll]
  | _ :: _, [], r, h => by simp [Dv.eqDL] at h; subst h; simp [pdL, PyData.eqvAll]
  | x :: xs, y :: ys, r, h => by
    simp only [Dv.eqDL] at h
    cases h1 : Dv.eqD x y with
    | none => rw [h1] at h; cases h
    | some p =>
      cases h2 : Dv.eqDL xs ys with
      | none => rw [h1, h2] at h; cases h
      | some q =>
        rw [h1, h2] at h
        cases h
        simp only [pdL, PyData.eqvAll, eqv_of x y p h1, eqvL_of xs ys q h2]
end
mutual
theorem reads_of {X : Cx} {pins : List (Addr × Obj)} {σ : St} {H : Hp} {s : Shared} (I : Inv X pins σ H s) : ∀ (d : D) (v : V) (u : Value), Rp X.K H d v → RelV v u → Dv.depthD d ≤ 9 → ∃ as, Reads s.heap u (pd d) as
  | .non, v, u, h, r, _ => by unfold Rp at h; subst h; cases r; unfold pd; exact ⟨_, .none⟩
  | .bl b, v, u, h, r, _ => by unfold Rp at h; subst h; cases r; unfold pd; exact ⟨_, .bool b⟩
  | .int i, v, u, h, r, _ => by unfold Rp at h; subst h; obtain ⟨t, rfl⟩ := r; unfold pd; exact ⟨_, .int i t⟩
  | .str x, v, u, h, r, _ => by unfold Rp at h; subst h; obtain ⟨t, rfl⟩ := r; unfold pd; exact ⟨_, .str _ t⟩
  | .exn _, v, u, h, r, hd => by unfold Dv.depthD at hd; omega
  | .raw _, v, u, h, r, hd => by unfold Dv.depthD at hd; omega
  | .tab _, v, u, h, r, hd => by unfold Dv.depthD at hd; omega
  | .dct _ _, v, u, h, r, hd => by unfold Dv.depthD at hd; omega
  | .lst ds, v, u, h, r, hd => by
    unfold Rp at h
    unfold Dv.depthD at hd
    obtain ⟨a, vs, rfl, h1, h2⟩ := h
    cases r
    obtain ⟨its, n, rv, e, _⟩ := Inv.listX I h1
    obtain ⟨as, ra⟩ := readsL_of I ds vs its h2 rv (by omega)
    unfold pd
    exact ⟨_, .list e rfl rfl (by simpa using ra)⟩
  | .tup ds, v, u, h, r, hd' => by
    unfold Rp at h
    unfold Dv.depthD at hd'
    obtain ⟨a, vs, rfl, h1, h2⟩ := h
    cases r
    obtain ⟨_, its, rv, o, e, hc, n, hd⟩ := h1.ok I.hok
    obtain ⟨as, ra⟩ := readsL_of I ds vs its h2 rv (by omega)
    unfold pd
    exact ⟨_, .tuple e hc hd (by simpa using ra)⟩
theorem readsL_of {X : Cx} {pins : List (Addr × Obj)} {σ : St} {H : Hp} {s : Shared} (I : Inv X pins σ H s) : ∀ (ds : List D) (vs : List V) (us : List Value), RpL X.K H ds vs → Vals vs us → Dv.depthL ds ≤ 9 → ∃ as, ReadsAll s.heap us (pdL ds) as
  | [], vs, us, h, r, _ => by unfold RpL at h; subst h; cases r; unfold pdL; exact ⟨_, .nil⟩
  | d :: ds, vs, us, h, r, hd => by
    unfold RpL at h
    unfold Dv.depthL at hd
    obtain ⟨v, ws, rfl, h1, h2⟩ := h
    cases r with
    | cons r1 r2 =>
      obtain ⟨as, ra⟩ := reads_of I d v _ h1 r1 (by omega)
      obtain ⟨bs, rb⟩ := readsL_of I ds ws _ h2 r2 (by omega)
      unfold pdL
      exact ⟨_, .cons ra rb⟩
end
def rEqD (K : PySem.W.Frag) (neg : Bool) : R2 := fun x y H Q => ∃ d d' b, Rp K H d x ∧ Rp K H d' y ∧ Dv.depthD d ≤ 9 ∧ Dv.depthD d' ≤ 9 ∧ Dv.eqD d d' = some b ∧ Q (.bl (if neg then !b else b)) H
theorem op_eqD (hu : C.X.A.units + 64 < cLine) : OpR C.X (compareOp .Eq) (rEqD C.X.K false) := by
  intro pins s σ H x y v u Q I rx ry h
  obtain ⟨d, d', b, h1, h2, z1, z2, e, q⟩ := h
  obtain ⟨as, ra⟩ := reads_of I d x v h1 rx z1
  obtain ⟨bs, rb⟩ := reads_of I d' y u h2 ry z2
  refine SeqAt.compareEq_reads ra rb (pd_lay d) (pd_lay d') ?_ ⟨.bl b, H, I, ?_, q⟩
  · have := pd_depth d
    have := pd_depth d'
    have := Nat.min_le_left (pd d).depth (pd d').depth
    omega
  · rw [eqv_of _ _ _ e]; rfl
theorem op_neD (hu : C.X.A.units + 64 < cLine) : OpR C.X (compareOp .NotEq) (rEqD C.X.K true) := by
  intro pins s σ H x y v u Q I rx ry h
  obtain ⟨d, d', b, h1, h2, z1, z2, e, q⟩ := h
  obtain ⟨as, ra⟩ := reads_of I d x v h1 rx z1
  obtain ⟨bs, rb⟩ := reads_of I d' y u h2 ry z2
  refine SeqAt.compareNe_reads ra rb (pd_lay d) (pd_lay d') ?_ ⟨.bl (!b), H, I, ?_, q⟩
  · have := pd_depth d
    have := pd_depth d'
    have := Nat.min_le_left (pd d).depth (pd d').depth
    omega
  · rw [eqv_of _ _ _ e]; rfl
theorem os_eq : OpS C (compareOp .Eq) (Dv.cmD .eq) := by
  refine ⟨_, op_eqD C.un, fun x y d d' H Hv H1 Hv1 W Q e rx ry q => ?_⟩
  simp only [Dv.cmD] at q
  by_cases hz : (decide (Dv.depthD d ≤ 9) && decide (Dv.depthD d' ≤ 9)) = true
  · rw [if_pos hz] at q
    simp only [Bool.and_eq_true, decide_eq_true_eq] at hz
    cases he : Dv.eqD d d' with
    | none => rw [he] at q; exact (show False from q).elim
    | some b =>
      rw [he] at q
      exact ⟨d, d', b, rx.same e.vh, ry.same e.vh, hz.1, hz.2, he, Ok.at (d := .bl b) (fr := true) q e rp_bl rfl⟩
  · rw [if_neg hz] at q; exact (show False from q).elim
theorem os_ne : OpS C (compareOp .NotEq) (Dv.cmD .ne) := by
  refine ⟨_, op_neD C.un, fun x y d d' H Hv H1 Hv1 W Q e rx ry q => ?_⟩
  simp only [Dv.cmD] at q
  by_cases hz : (decide (Dv.depthD d ≤ 9) && decide (Dv.depthD d' ≤ 9)) = true
  · rw [if_pos hz] at q
    simp only [Bool.and_eq_true, decide_eq_true_eq] at hz
    cases he : Dv.eqD d d' with
    | none => rw [he] at q; exact (show False from q).elim
    | some b =>
      rw [he] at q
      exact ⟨d, d', b, rx.same e.vh, ry.same e.vh, hz.1, hz.2, he, Ok.at (d := .bl (!b)) (fr := true) q e rp_bl rfl⟩
  · rw [if_neg hz] at q; exact (show False from q).elim
theorem in_ints : ∀ (i : Int) (ds : List D) (vs : List V) (b : Bool) {K : PySem.W.Frag} {H : Hp}, Dv.inD i ds = some b → RpL K H ds vs → vs.all flatV = true ∧ inV (.int i) vs = b
  | i, [], vs, b, K, H, h, r => by
    unfold RpL at r; subst r
    simp [Dv.inD] at h; subst h
    exact ⟨rfl, rfl⟩
  | i, d :: ds, vs, b, K, H, h, r => by
    unfold RpL at r
    obtain ⟨v, ws, rfl, h1, h2⟩ := r
    cases d with
    | int j =>
      simp only [Dv.inD, Option.map_eq_some_iff] at h
      obtain ⟨c, hc, rfl⟩ := h
      obtain ⟨z1, z2⟩ := in_ints i ds ws c hc h2
      unfold Rp at h1
      subst h1
      refine ⟨by simp [flatV, z1], ?_⟩
      have : inV (.int i) (.int j :: ws) = (eqV (.int j) (.int i) || inV (.int i) ws) := rfl
      rw [this, z2]
      simp [eqV, Bool.beq_eq_decide_eq]
    | _ => simp [Dv.inD] at h
theorem os_in : OpS C (compareOp .In) (Dv.cmD .isin) := by
  refine ⟨_, op_in_seq, fun x y d d' H Hv H1 Hv1 W Q e rx ry q => ?_⟩
  cases d with
  | int i =>
    cases d' with
    | lst ds =>
      simp only [Dv.cmD] at q
      cases hi : Dv.inD i ds with
      | none => rw [hi] at q; exact (show False from q).elim
      | some b =>
        rw [hi] at q
        unfold Rp at rx ry
        subst rx
        obtain ⟨l, vs, rfl, h1, h2⟩ := ry
        obtain ⟨z1, z2⟩ := in_ints i ds vs b hi h2
        refine ⟨l, vs, rfl, .inl (h1.same e.vh).seq, rfl, z1, ?_⟩
        rw [z2]
        exact Ok.at (d := .bl b) (fr := true) q e rp_bl rfl
    | _ => exact (show False from q).elim
  | _ => exact (show False from q).elim
theorem at_atI {ds : List D} {vs : List V} {K : PySem.W.Frag} {H : Hp} {i : Int} {d : D} (r : RpL K H ds vs) (h : Dv.at? ds i = some d) : ∃ v, atI vs i = some v ∧ Rp K H d v := by
  unfold Dv.at? at h
  unfold atI ixN
  have hl := r.length
  by_cases h0 : 0 ≤ i
  · rw [if_pos h0] at h
    obtain ⟨v, h1, h2⟩ := r.get h
    have hlt : i.toNat < vs.length := (List.getElem?_eq_some_iff.mp h1).1
    refine ⟨v, ?_, h2⟩
    rw [if_pos h0, if_pos (by omega)]
    exact h1
  · rw [if_neg h0] at h
    by_cases h1 : -(ds.length : Int) ≤ i
    · rw [if_pos h1] at h
      obtain ⟨v, h2, h3⟩ := r.get h
      refine ⟨v, ?_, h3⟩
      rw [if_neg h0, if_pos (by omega)]
      rw [hl]
      exact h2
    · rw [if_neg h1] at h; cases h
theorem item_of {K : PySem.W.Frag} {H Hv H2 Hv2 : Hp} {ds : List D} {v : V} {fr : Bool} {k : Int} {d : D} (x : Ext Hv H Hv2 H2) (hk : Dv.at? ds k = some d) :
    (Rp K Hv2 (.lst ds) v → (fr = true → Rp [] (Hnew H H2) (.lst ds) v) → ∃ l vs u, v = .ref l ∧ SqX K H2 l vs ∧ atI vs k = some u ∧ Rp K Hv2 d u ∧ ((fr || Dv.scal d) = true → Rp [] (Hnew H H2) d u)) ∧
    (Rp K Hv2 (.tup ds) v → (fr = true → Rp [] (Hnew H H2) (.tup ds) v) → ∃ l vs u, v = .ref l ∧ Rd H2 l (.tup vs) ∧ atI vs k = some u ∧ Rp K Hv2 d u ∧ ((fr || Dv.scal d) = true → Rp [] (Hnew H H2) d u)) := by
  constructor
  · intro rp n
    cases fr with
    | true =>
      have rn := n rfl
      unfold Rp at rn
      obtain ⟨l, vs, rfl, h1, h2⟩ := rn
      obtain ⟨u, h3, h4⟩ := at_atI h2 hk
      refine ⟨l, vs, u, rfl, ?_, h3, (Rp.frag h4).same x.news, fun _ => h4⟩
      rcases h1 with h1 | ⟨its, n, e, _⟩
      · exact .inl (Rd.same Hnew.sub h1)
      · simp at e
    | false =>
      unfold Rp at rp
      obtain ⟨l, vs, rfl, h1, h2⟩ := rp
      obtain ⟨u, h3, h4⟩ := at_atI h2 hk
      exact ⟨l, vs, u, rfl, h1.same x.vh, h3, h4, fun z => h4.scal (by simpa using z)⟩
  · intro rp n
    cases fr with
    | true =>
      have rn := n rfl
      unfold Rp at rn
      obtain ⟨l, vs, rfl, h1, h2⟩ := rn
      obtain ⟨u, h3, h4⟩ := at_atI h2 hk
      exact ⟨l, vs, u, rfl, Rd.same Hnew.sub h1, h3, (Rp.frag h4).same x.news, fun _ => h4⟩
    | false =>
      unfold Rp at rp
      obtain ⟨l, vs, rfl, h1, h2⟩ := rp
      obtain ⟨u, h3, h4⟩ := at_atI h2 hk
      exact ⟨l, vs, u, rfl, Rd.same x.vh h1, h3, h4, fun z => h4.scal (by simpa using z)⟩
theorem se_ix (ha : SE C a f) (hb : SE C b g) (hs : PlainIx b := by intro _ _; rfl) : SE C (.Subscript a b pos) (Dv.eIx f g) := by
  obtain ⟨ta, pa, qa⟩ := ha
  obtain ⟨tb, pb, qb⟩ := hb
  refine ⟨_, pe_ix (ix_list.or ix_tup) pa pb hs, fun σ H Hv ρ Q e s w => ?_⟩
  refine qa.step e (.refl s) w fun v d fr Hv1 H1 _ x1 _ rp1 n1 q1 => qb.step e x1 q1 fun v2 d2 fr2 Hv2 H2 _ x2 y2 rp2 _ q2 => ?_
  have rp := rp1.same y2.vv
  have rn : fr = true → Rp [] (Hnew H H2) d v := fun z => (n1 z).same (Hnew.mono (.refl _) y2.hh)
  cases d2 with
  | int k =>
    unfold Rp at rp2
    cases d with
    | lst ds =>
      have q3 : Ok C.X.K Hv H (C.W σ) C.cls (match Dv.at? ds k with | some d => .ok d (fr || Dv.scal d) | none => .bad) Q := q2
      cases hk : Dv.at? ds k with
      | none => rw [hk] at q3; exact (show False from q3).elim
      | some d =>
        rw [hk] at q3
        obtain ⟨l, vs, u, e1, h1, h2, h3, h4⟩ := (item_of (fr := fr) x2 hk).1 rp rn
        exact .inl ⟨l, vs, k, u, e1, rp2, h1.seq, h2, q3 u Hv2 H2 x2 h3 h4⟩
    | tup ds =>
      have q3 : Ok C.X.K Hv H (C.W σ) C.cls (match Dv.at? ds k with | some d => .ok d (fr || Dv.scal d) | none => .bad) Q := q2
      cases hk : Dv.at? ds k with
      | none => rw [hk] at q3; exact (show False from q3).elim
      | some d =>
        rw [hk] at q3
        obtain ⟨l, vs, u, e1, h1, h2, h3, h4⟩ := (item_of (fr := fr) x2 hk).2 rp rn
        exact .inr ⟨l, vs, k, u, e1, rp2, .inl h1, h2, q3 u Hv2 H2 x2 h3 h4⟩
    | _ => exact (show False from q2).elim
  | _ => cases d <;> exact (show False from q2).elim
def C1S (C : Ctx) (fv : Value) (F : D → Bool → R) : Prop :=
  ∃ r, CallR C.X fv r ∧ ∀ x d fr H Hv H1 Hv1 W Q, Ext Hv H Hv1 H1 → Rp C.X.K Hv1 d x → (fr = true → Rp [] (Hnew H H1) d x) → Ok C.X.K Hv H W C.cls (F d fr) Q → r [x] H1 Q
theorem se_b1 {x : Str} {p : Pos} {id : String} {F : D → Bool → R} (o : C1S C (.builtin id) F) (hg : Gl C.X x) (hm : C.X.mg x = none) (hv : bootBuiltins x = some (.builtin id)) (ha : SE C a f)
    (hn : x ≠ "__name__" := by decide) (hdb : (x == ("__debug__" : Str)) = false := by decide) (he : starEach [a] C.X.env = [(false, eval a C.X.env)] := by rfl) : SE C (.Call (.Name x p) [a] [] pos) (Dv.eB1 F f) := by
  obtain ⟨r, ho, hr⟩ := o
  obtain ⟨t, pa, qa⟩ := ha
  refine ⟨_, pe_callB ho hg hm hv (pa_cons pa pa_nil he) hn hdb he rfl, fun σ H Hv ρ Q e s w => ?_⟩
  exact qa.step e (.refl s) w fun v d fr Hv1 H1 _ x1 _ rp1 n1 q1 => hr v d fr H Hv H1 Hv1 _ Q x1 rp1 n1 q1
theorem se_t1 {x : Str} {p : Pos} {id : String} {F : D → Bool → R} (o : C1S C (.type id) F) (hg : Gl C.X x) (hm : C.X.mg x = none) (hv : bootBuiltins x = some (.type id)) (ha : SE C a f)
    (hn : x ≠ "__name__" := by decide) (hdb : (x == ("__debug__" : Str)) = false := by decide) (he : starEach [a] C.X.env = [(false, eval a C.X.env)] := by rfl) : SE C (.Call (.Name x p) [a] [] pos) (Dv.eB1 F f) := by
  obtain ⟨r, ho, hr⟩ := o
  obtain ⟨t, pa, qa⟩ := ha
  refine ⟨_, pe_callTy ho hg hm hv (pa_cons pa pa_nil he) hn hdb he rfl, fun σ H Hv ρ Q e s w => ?_⟩
  exact qa.step e (.refl s) w fun v d fr Hv1 H1 _ x1 _ rp1 n1 q1 => hr v d fr H Hv H1 Hv1 _ Q x1 rp1 n1 q1
theorem c1_len : C1S C (.builtin "len") Dv.lenD := by
  refine ⟨_, call_len_seq, fun x d fr H Hv H1 Hv1 W Q e rx n q => ?_⟩
  cases d with
  | lst ds =>
    unfold Rp at rx
    obtain ⟨l, vs, rfl, h1, h2⟩ := rx
    refine ⟨l, vs, rfl, .inl (h1.same e.vh).seq, ?_⟩
    rw [h2.length]
    exact Ok.at (d := .int ds.length) (fr := true) q e rp_int rfl
  | tup ds =>
    unfold Rp at rx
    obtain ⟨l, vs, rfl, h1, h2⟩ := rx
    refine ⟨l, vs, rfl, .inr (.inl (Rd.same e.vh h1)), ?_⟩
    rw [h2.length]
    exact Ok.at (d := .int ds.length) (fr := true) q e rp_int rfl
  | _ => exact (show False from q).elim
theorem c1_list : C1S C (.type "list") Dv.listD := by
  refine ⟨_, call_list_of, fun x d fr H Hv H1 Hv1 W Q e rx n q => ?_⟩
  cases d with
  | lst ds =>
    cases fr with
    | true =>
      have rn := n rfl
      unfold Rp at rn
      obtain ⟨l, vs, rfl, h1, h2⟩ := rn
      have h1' : SqX C.X.K H1 l vs := by
        rcases h1 with h1 | ⟨its, n, e, _⟩
        · exact .inl (Rd.same Hnew.sub h1)
        · simp at e
      exact ⟨l, vs, rfl, .inl h1'.seq, fun p hp => Ok.newL q e ((RpL.frag h2).same e.news) (fun _ => h2) p hp⟩
    | false =>
      unfold Rp at rx
      obtain ⟨l, vs, rfl, h1, h2⟩ := rx
      exact ⟨l, vs, rfl, .inl (h1.same e.vh).seq, fun p hp => Ok.newL q e h2 (fun z => h2.flat (by simpa using z)) p hp⟩
  | tup ds =>
    cases fr with
    | true =>
      have rn := n rfl
      unfold Rp at rn
      obtain ⟨l, vs, rfl, h1, h2⟩ := rn
      exact ⟨l, vs, rfl, .inr (.inl (Rd.same Hnew.sub h1)), fun p hp => Ok.newL q e ((RpL.frag h2).same e.news) (fun _ => h2) p hp⟩
    | false =>
      unfold Rp at rx
      obtain ⟨l, vs, rfl, h1, h2⟩ := rx
      exact ⟨l, vs, rfl, .inr (.inl (Rd.same e.vh h1)), fun p hp => Ok.newL q e h2 (fun z => h2.flat (by simpa using z)) p hp⟩
  | _ => exact (show False from q).elim
theorem sorted_uniq : ∀ {a b : List Int}, a.Perm b → a.Pairwise (· ≤ ·) → b.Pairwise (· ≤ ·) → a = b
  | [], b, p, _, _ => by simpa using p.symm.eq_nil
  | x :: a, [], p, _, _ => absurd p.eq_nil (by simp)
  | x :: a, y :: b, p, ha, hb => by
    have h1 := List.pairwise_cons.mp ha
    have h2 := List.pairwise_cons.mp hb
    have e : x = y := by
      have hx : x ∈ y :: b := p.mem_iff.mp List.mem_cons_self
      have hy : y ∈ x :: a := p.mem_iff.mpr List.mem_cons_self
      rcases List.mem_cons.mp hx with e | hx
      · exact e
      rcases List.mem_cons.mp hy with e | hy
      · exact e.symm
      exact Int.le_antisymm (h1.1 y hy) (h2.1 x hx)
    subst e
    rw [sorted_uniq ((List.perm_cons x).mp p) h1.2 h2.2]
end
end Sd
set_option Elab.async false
set_option linter.all false
set_option maxRecDepth 100000
namespace Sd
open PySem PySem.Spec PyProof.Rows L2
open Dv (D R RL EE EL EI RI Sl Out SS)
def Nd (K : PySem.W.Frag) (Hc : Hp) : D → HO → Prop
  | .lst ds, o => ∃ vs, o = .lst vs ∧ RpL K Hc ds vs
  | .dct ks ds, o => ∃ vs, o = .dK ((ks.map Sum.inl).zip vs) ∧ ks.length = ds.length ∧ RpL K Hc ds vs
  | _, _ => False
theorem Nd.same {K : PySem.W.Frag} {H H' : Hp} {d : D} {o : HO} (e : Same H H') (h : Nd K H d o) : Nd K H' d o := by
  cases d with
  | lst ds => obtain ⟨vs, h1, h2⟩ := h; exact ⟨vs, h1, h2.same e⟩
  | dct ks ds => obtain ⟨vs, h1, h2, h3⟩ := h; exact ⟨vs, h1, h2, h3.same e⟩
  | _ => exact (show False from h).elim
theorem Nd.rp {K : PySem.W.Frag} {H : Hp} {d : D} {o : HO} {a : Addr} (h : Nd K H d o) (ha : H a = some o) : Rp K H d (.ref a) := by
  cases d with
  | lst ds => obtain ⟨vs, rfl, h2⟩ := h; unfold Rp; exact ⟨a, vs, rfl, SqX.of ha, h2⟩
  | dct ks ds => obtain ⟨vs, rfl, h2, h3⟩ := h; unfold Rp; exact ⟨a, vs, rfl, h2, .inl ha, h3⟩
  | _ => exact (show False from h).elim
def Jk (R : Hp) (n m : Nat) (v : V) : Prop := ∃ t vs, v = .ref t ∧ (R t = some (.lst vs) ∨ R t = some (.tup vs)) ∧ vs.length = n ∧ ∀ x ∈ vs, ∃ b ws, x = .ref b ∧ b ≠ t ∧ R b = some (.lst ws) ∧ ws.length ≤ m
structure RelC (K : PySem.W.Frag) (Hv₀ H₀ Hc : Hp) (O : Nat → Hp) (st : Dv.St) (σ : St) (H : Hp) : Prop where
  h0 : Same H₀ H
  vc : Same Hv₀ Hc
  ch : Same Hc H
  new : ∀ b o, Hc b = some o → Hv₀ b = none → H₀ b = none
  nf : ∀ b o u, H₀ b = none → H b ≠ some (.frz o u)
  len : st.length = σ.length
  sh : ∀ (i : Nat) (d : D), st[i]? = some (Sl.sh d) → ∃ v, σ[i]? = some (some v) ∧ Rp K Hc d v
  ow : ∀ (i : Nat) (d : D), st[i]? = some (Sl.ow d) → ∃ (a : Addr) (o : HO), σ[i]? = some (some (V.ref a)) ∧ O i a = some o ∧ Nd K Hc d o
  dp : ∀ (i : Nat) (d : D), st[i]? = some (Sl.dp d) → ∃ v, σ[i]? = some (some v) ∧ Rp [] (O i) d v
  jk : ∀ (i n m : Nat), st[i]? = some (Sl.jk n m) → ∃ v, σ[i]? = some (some v) ∧ Jk (O i) n m v
  oh : ∀ (i : Nat) (b : Addr) (o : HO), O i b = some o → H b = some o ∧ Hc b = none ∧ H₀ b = none
  one : ∀ (i j : Nat) (b : Addr) (o o' : HO), O i b = some o → O j b = some o' → i = j
def Rel (K : PySem.W.Frag) (Hv₀ H₀ : Hp) (st : Dv.St) (σ : St) (H : Hp) : Prop := ∃ Hc O, RelC K Hv₀ H₀ Hc O st σ H
section
variable {K : PySem.W.Frag} {Hv₀ H₀ Hc : Hp} {O : Nat → Hp} {st : Dv.St} {σ : St} {H : Hp}
theorem RelC.less {Hv1 : Hp} (r : RelC K Hc H₀ Hv1 O st σ H) (vc : Same Hv₀ Hc) (new : ∀ b o, Hc b = some o → Hv₀ b = none → H₀ b = none) : RelC K Hv₀ H₀ Hv1 O st σ H :=
  ⟨r.h0, vc.trans r.vc, r.ch, fun b o h n => (by
    cases q : Hc b with
    | some u => exact new b u q n
    | none => exact r.new b o h q), r.nf, r.len, r.sh, r.ow, r.dp, r.jk, r.oh, r.one⟩
def Held (O : Nat → Hp) (b : Addr) : Prop := ∃ (i : Nat) (o : HO), O i b = some o
open Classical in
noncomputable def Hall (Hc : Hp) (O : Nat → Hp) (H : Hp) : Hp := fun b => if Held O b then H b else Hc b
theorem RelC.cAll (r : RelC K Hv₀ H₀ Hc O st σ H) : Same Hc (Hall Hc O H) := fun b o h => by
  unfold Hall
  by_cases q : Held O b
  · obtain ⟨i, u, h1⟩ := q
    rw [(r.oh i b u h1).2.1] at h; cases h
  · rw [if_neg q]; exact h
theorem RelC.oAll (r : RelC K Hv₀ H₀ Hc O st σ H) (i : Nat) : Same (O i) (Hall Hc O H) := fun b o h => by
  unfold Hall
  rw [if_pos ⟨i, o, h⟩]
  exact (r.oh i b o h).1
theorem RelC.allH (r : RelC K Hv₀ H₀ Hc O st σ H) : Same (Hall Hc O H) H := fun b o h => by
  unfold Hall at h
  by_cases q : Held O b
  · rw [if_pos q] at h; exact h
  · rw [if_neg q] at h; exact r.ch b o h
theorem RelC.allNew (r : RelC K Hv₀ H₀ Hc O st σ H) : ∀ b o, Hall Hc O H b = some o → Hv₀ b = none → H₀ b = none := fun b o h n => by
  unfold Hall at h
  by_cases q : Held O b
  · obtain ⟨i, u, h1⟩ := q
    exact (r.oh i b u h1).2.2
  · rw [if_neg q] at h; exact r.new b o h n
theorem get_all {i : Nat} {d : D} (h : (Dv.all st)[i]? = some (some d)) : st[i]? = some (.sh d) ∨ st[i]? = some (.ow d) ∨ st[i]? = some (.dp d) := by
  unfold Dv.all at h
  rw [List.getElem?_map] at h
  cases q : st[i]? with
  | none => rw [q] at h; cases h
  | some s =>
    rw [q] at h
    cases s with
    | no => cases h
    | sh x => cases h; exact .inl rfl
    | ow x => cases h; exact .inr (.inl rfl)
    | dp x => cases h; exact .inr (.inr rfl)
    | jk n m => cases h
theorem get_open {i : Nat} {d : D} (h : (Dv.open_ st)[i]? = some (some d)) : st[i]? = some (.sh d) := by
  unfold Dv.open_ at h
  rw [List.getElem?_map] at h
  cases q : st[i]? with
  | none => rw [q] at h; cases h
  | some s =>
    rw [q] at h
    cases s with
    | sh x => cases h; rfl
    | _ => cases h
theorem RelC.envAll (r : RelC K Hv₀ H₀ Hc O st σ H) : EnvR K (Hall Hc O H) (Dv.all st) σ := fun i d h => by
  rcases get_all h with h | h | h
  · obtain ⟨v, h1, h2⟩ := r.sh i d h
    exact ⟨v, h1, h2.same r.cAll⟩
  · obtain ⟨a, o, h1, h2, h3⟩ := r.ow i d h
    exact ⟨_, h1, (h3.same r.cAll).rp (r.oAll i a o h2)⟩
  · obtain ⟨v, h1, h2⟩ := r.dp i d h
    exact ⟨v, h1, Rp.frag (h2.same (r.oAll i))⟩
theorem RelC.envOpen (r : RelC K Hv₀ H₀ Hc O st σ H) : EnvR K Hc (Dv.open_ st) σ := fun i d h => r.sh i d (get_open h)
theorem RelC.grow {H' : Hp} (r : RelC K Hv₀ H₀ Hc O st σ H) (hh : Same H H') (nf : ∀ b o u, H b = none → H' b ≠ some (.frz o u)) : RelC K Hv₀ H₀ Hc O st σ H' :=
  ⟨r.h0.trans hh, r.vc, r.ch.trans hh, r.new, fun b o u h => (by
    cases q : H b with
    | none => exact nf b o u q
    | some w => rw [hh b w q, ← q]; exact r.nf b o u h), r.len, r.sh, r.ow, r.dp, r.jk, fun i b o h => ⟨hh _ _ (r.oh i b o h).1, (r.oh i b o h).2⟩, r.one⟩
theorem RelC.growC {Hc' H' : Hp} (r : RelC K Hv₀ H₀ Hc O st σ H) (x : Ext Hc H Hc' H') : RelC K Hv₀ H₀ Hc' O st σ H' := by
  have g := r.grow x.hh x.nf
  refine ⟨g.h0, r.vc.trans x.vv, x.vh, fun b o h n => ?_, g.nf, g.len, fun i d h => ?_, fun i d h => ?_, r.dp, r.jk, fun i b o h => ?_, g.one⟩
  · cases q : Hc b with
    | some u => exact r.new b u q n
    | none => exact r.h0.free (x.new b o h q)
  · obtain ⟨v, h1, h2⟩ := r.sh i d h
    exact ⟨v, h1, h2.same x.vv⟩
  · obtain ⟨a, o, h1, h2, h3⟩ := r.ow i d h
    exact ⟨a, o, h1, h2, h3.same x.vv⟩
  · obtain ⟨h1, h2, h3⟩ := r.oh i b o h
    refine ⟨x.hh _ _ h1, ?_, h3⟩
    cases q : Hc' b with
    | none => rfl
    | some u =>
      have := x.new b u q h2
      rw [this] at h1; cases h1
theorem set_get {α : Type} {l : List α} {i j : Nat} {x y : α} (h : (l.set i x)[j]? = some y) : (j = i ∧ y = x ∧ i < l.length) ∨ (j ≠ i ∧ l[j]? = some y) := by
  by_cases e : j = i
  · subst e
    by_cases hl : j < l.length
    · rw [List.getElem?_set_self hl] at h
      exact .inl ⟨rfl, (Option.some.inj h).symm, hl⟩
    · rw [List.getElem?_eq_none (by rw [List.length_set]; omega)] at h
      cases h
  · rw [List.getElem?_set_ne (Ne.symm e)] at h
    exact .inr ⟨e, h⟩
theorem RelC.setAny {i : Nat} {s : Sl} {v : Option V} {H' : Hp} {O' : Nat → Hp} (r : RelC K Hv₀ H₀ Hc O st σ H) (h0 : Same H₀ H') (ch : Same Hc H') (nf : ∀ b o u, H₀ b = none → H' b ≠ some (.frz o u)) (hO : ∀ j, j ≠ i → O' j = O j)
    (sh : ∀ d, s = .sh d → ∃ w, v = some w ∧ Rp K Hc d w) (ow : ∀ d, s = .ow d → ∃ a o, v = some (.ref a) ∧ O' i a = some o ∧ Nd K Hc d o) (dp : ∀ d, s = .dp d → ∃ w, v = some w ∧ Rp [] (O' i) d w) (jk : ∀ n m, s = .jk n m → ∃ w, v = some w ∧ Jk (O' i) n m w)
    (oh : ∀ j b o, O' j b = some o → H' b = some o ∧ Hc b = none ∧ H₀ b = none) (one : ∀ j b o o', O' i b = some o → j ≠ i → O j b ≠ some o') : RelC K Hv₀ H₀ Hc O' (st.set i s) (σ.set i v) H' := by
  have at_ : ∀ {j : Nat}, j = i → i < st.length → (σ.set i v)[j]? = some v := fun {j} e hl => by subst e; exact List.getElem?_set_self (by rw [← r.len]; exact hl)
  have no : ∀ {j : Nat}, j ≠ i → (σ.set i v)[j]? = σ[j]? := fun hj => List.getElem?_set_ne (Ne.symm hj)
  refine ⟨h0, r.vc, ch, r.new, nf, by rw [List.length_set, List.length_set]; exact r.len, fun j x h => ?_, fun j x h => ?_, fun j x h => ?_, fun j n m h => ?_, oh, fun j k b o o' h1 h2 => ?_⟩
  · rcases set_get h with ⟨e, e2, hl⟩ | ⟨hj, h⟩
    · obtain ⟨w, e3, rp⟩ := sh x e2.symm
      exact ⟨w, by rw [at_ e hl, e3], rp⟩
    · obtain ⟨u, h1, h2⟩ := r.sh j x h
      exact ⟨u, by rw [no hj]; exact h1, h2⟩
  · rcases set_get h with ⟨e, e2, hl⟩ | ⟨hj, h⟩
    · obtain ⟨a, o, e3, e4, rp⟩ := ow x e2.symm
      exact ⟨a, o, by rw [at_ e hl, e3], by rw [e]; exact e4, rp⟩
    · obtain ⟨a, o, h1, h2, h3⟩ := r.ow j x h
      exact ⟨a, o, by rw [no hj]; exact h1, by rw [hO j hj]; exact h2, h3⟩
  · rcases set_get h with ⟨e, e2, hl⟩ | ⟨hj, h⟩
    · obtain ⟨w, e3, rp⟩ := dp x e2.symm
      exact ⟨w, by rw [at_ e hl, e3], by rw [e]; exact rp⟩
    · obtain ⟨u, h1, h2⟩ := r.dp j x h
      exact ⟨u, by rw [no hj]; exact h1, by rw [hO j hj]; exact h2⟩
  · rcases set_get h with ⟨e, e2, hl⟩ | ⟨hj, h⟩
    · obtain ⟨w, e3, rp⟩ := jk n m e2.symm
      exact ⟨w, by rw [at_ e hl, e3], by rw [e]; exact rp⟩
    · obtain ⟨u, h1, h2⟩ := r.jk j n m h
      exact ⟨u, by rw [no hj]; exact h1, by rw [hO j hj]; exact h2⟩
  · by_cases e1 : j = i
    · by_cases e2 : k = i
      · rw [e1, e2]
      · rw [e1] at h1; rw [hO k e2] at h2; exact absurd h2 (one k b o o' h1 e2)
    · by_cases e2 : k = i
      · rw [e2] at h2; rw [hO j e1] at h1; exact absurd h1 (one j b o' o h2 e1)
      · rw [hO j e1] at h1; rw [hO k e2] at h2; exact r.one j k b o o' h1 h2
theorem RelC.setSh {i : Nat} {d : D} {v : V} (r : RelC K Hv₀ H₀ Hc O st σ H) (rp : Rp K Hc d v) : RelC K Hv₀ H₀ Hc O (st.set i (.sh d)) (σ.set i (some v)) H :=
  r.setAny r.h0 r.ch r.nf (fun _ _ => rfl) (fun x e => by cases e; exact ⟨v, rfl, rp⟩) (fun x e => nomatch e) (fun x e => nomatch e) (fun n m e => nomatch e) r.oh fun j b o o' h hj h2 => hj (r.one j i b o' o h2 h)
theorem RelC.setNo {i : Nat} {v : Option V} (r : RelC K Hv₀ H₀ Hc O st σ H) : RelC K Hv₀ H₀ Hc O (st.set i .no) (σ.set i v) H :=
  r.setAny r.h0 r.ch r.nf (fun _ _ => rfl) (fun x e => nomatch e) (fun x e => nomatch e) (fun x e => nomatch e) (fun n m e => nomatch e) r.oh fun j b o o' h hj h2 => hj (r.one j i b o' o h2 h)
def putO (O : Nat → Hp) (i : Nat) (R : Hp) : Nat → Hp := fun j => if j = i then R else O j
theorem putO_same {R : Hp} {i : Nat} : putO O i R i = R := if_pos rfl
theorem putO_ne {R : Hp} {i j : Nat} (h : j ≠ i) : putO O i R j = O j := if_neg h
def only (a : Addr) (o : HO) : Hp := fun b => if b = a then some o else none
theorem only_same {a : Addr} {o : HO} : only a o a = some o := if_pos rfl
theorem only_of {a b : Addr} {o u : HO} (h : only a o b = some u) : b = a ∧ u = o := by
  unfold only at h
  by_cases e : b = a
  · rw [if_pos e] at h; exact ⟨e, (Option.some.inj h).symm⟩
  · rw [if_neg e] at h; cases h
theorem RelC.setOw {i : Nat} {d : D} {o : HO} {a : Addr} (r : RelC K Hv₀ H₀ Hc O st σ H) (ha : H a = some o) (hc : Hc a = none) (h0 : H₀ a = none) (no : ∀ j, j ≠ i → O j a = none)
    (nd : Nd K Hc d o) : RelC K Hv₀ H₀ Hc (putO O i (only a o)) (st.set i (.ow d)) (σ.set i (some (.ref a))) H :=
  r.setAny r.h0 r.ch r.nf (fun j hj => putO_ne hj) (fun x e => nomatch e) (fun x e => by cases e; exact ⟨a, o, rfl, by rw [putO_same]; exact only_same, nd⟩) (fun x e => nomatch e) (fun n m e => nomatch e)
    (fun j b u h => by
      by_cases hj : j = i
      · rw [hj, putO_same] at h
        obtain ⟨rfl, rfl⟩ := only_of h
        exact ⟨ha, hc, h0⟩
      · rw [putO_ne hj] at h; exact r.oh j b u h)
    fun j b u u' h hj h2 => by
      rw [putO_same] at h
      obtain ⟨rfl, rfl⟩ := only_of h
      rw [no j hj] at h2; cases h2
theorem RelC.setDp {i : Nat} {d : D} {v : V} {R : Hp} (r : RelC K Hv₀ H₀ Hc O st σ H) (hR : ∀ b o, R b = some o → H b = some o ∧ Hc b = none ∧ H₀ b = none ∧ ∀ j, j ≠ i → O j b = none)
    (rp : Rp [] R d v) : RelC K Hv₀ H₀ Hc (putO O i R) (st.set i (.dp d)) (σ.set i (some v)) H :=
  r.setAny r.h0 r.ch r.nf (fun j hj => putO_ne hj) (fun x e => nomatch e) (fun x e => nomatch e) (fun x e => by cases e; exact ⟨v, rfl, by rw [putO_same]; exact rp⟩) (fun n m e => nomatch e)
    (fun j b u h => by
      by_cases hj : j = i
      · rw [hj, putO_same] at h
        exact ⟨(hR b u h).1, (hR b u h).2.1, (hR b u h).2.2.1⟩
      · rw [putO_ne hj] at h; exact r.oh j b u h)
    fun j b u u' h hj h2 => by
      rw [putO_same] at h
      rw [(hR b u h).2.2.2 j hj] at h2; cases h2
theorem set_id {α : Type} {l : List α} {i : Nat} {x : α} (h : l[i]? = some x) : l.set i x = l := by
  refine List.ext_getElem? fun j => ?_
  by_cases hj : j = i
  · subst hj; rw [List.getElem?_set_self (List.getElem?_eq_some_iff.mp h).1, h]
  · rw [List.getElem?_set_ne (Ne.symm hj)]
theorem RelC.putAny {i : Nat} {s : Sl} {v : V} {a : Addr} {u o : HO} (r : RelC K Hv₀ H₀ Hc O st σ H) (hσ : σ[i]? = some (some v)) (ha : O i a = some u) (ho : ∀ q w, o ≠ .frz q w)
    (ow : ∀ d, s = .ow d → v = .ref a ∧ Nd K Hc d o) (jk : ∀ n m, s = .jk n m → Jk (upd (O i) a o) n m v) (hs : ∀ d, s ≠ .sh d ∧ s ≠ .dp d) :
    RelC K Hv₀ H₀ Hc (putO O i (upd (O i) a o)) (st.set i s) σ (upd H a o) := by
  obtain ⟨h1, h2, h3⟩ := r.oh i a u ha
  have hset : σ.set i (some v) = σ := set_id hσ
  have key := r.setAny (i := i) (s := s) (v := some v) (H' := upd H a o) (O' := putO O i (upd (O i) a o)) (fun b w h => by rw [upd_ne (ne_of_none h h3)]; exact r.h0 b w h) (fun b w h => by rw [upd_ne (ne_of_none h h2)]; exact r.ch b w h)
    (fun b q w h => by
      by_cases hb : b = a
      · subst hb; rw [upd_same]; exact fun z => ho q w (Option.some.inj z)
      · rw [upd_ne hb]; exact r.nf b q w h)
    (fun j hj => putO_ne hj) (fun d e => absurd e (hs d).1) (fun d e => ⟨a, o, by rw [(ow d e).1], by rw [putO_same, upd_same], (ow d e).2⟩) (fun d e => absurd e (hs d).2) (fun n m e => ⟨v, rfl, by rw [putO_same]; exact jk n m e⟩)
    (fun j b w h => by
      by_cases hj : j = i
      · rw [hj, putO_same] at h
        by_cases hb : b = a
        · subst hb; rw [upd_same] at h ⊢; exact ⟨h, h2, h3⟩
        · rw [upd_ne hb] at h ⊢; exact r.oh i b w h
      · rw [putO_ne hj] at h
        have hb : b ≠ a := fun z => hj (r.one j i b w u h (by rw [z]; exact ha))
        rw [upd_ne hb]; exact r.oh j b w h)
    fun j b w w' h hj h4 => by
      rw [putO_same] at h
      by_cases hb : b = a
      · exact hj (r.one j i b w' u h4 (by rw [hb]; exact ha))
      · rw [upd_ne hb] at h; exact hj (r.one j i b w' w h4 h)
  rw [hset] at key
  exact key
theorem RelC.put {i : Nat} {d : D} {ds : List D} {ws : List V} {a : Addr} (r : RelC K Hv₀ H₀ Hc O st σ H) (hi : st[i]? = some (.ow d)) (hσ : σ[i]? = some (some (.ref a))) (rp : RpL K Hc ds ws) :
    ∃ O', RelC K Hv₀ H₀ Hc O' (st.set i (.ow (.lst ds))) σ (upd H a (.lst ws)) := by
  obtain ⟨a', o, h1, h2, h3⟩ := r.ow i d hi
  rw [hσ] at h1
  cases h1
  exact ⟨_, r.putAny hσ h2 (by intro _ _ z; cases z) (fun x e => by cases e; exact ⟨rfl, ws, rfl, rp⟩) (fun n m e => nomatch e) fun x => ⟨nofun, nofun⟩⟩
def joinH (A B : Hp) : Hp := fun b => match A b with
  | some o => some o
  | none => B b
theorem joinH_l {A B : Hp} : Same A (joinH A B) := fun b o h => by unfold joinH; rw [h]
theorem joinH_r {A B : Hp} (d : ∀ b o, B b = some o → A b = none) : Same B (joinH A B) := fun b o h => by unfold joinH; rw [d b o h]; exact h
theorem joinH_of {A B : Hp} {b : Addr} {o : HO} (h : joinH A B b = some o) : A b = some o ∨ (A b = none ∧ B b = some o) := by
  unfold joinH at h
  cases q : A b with
  | some u => rw [q] at h; exact .inl h
  | none => rw [q] at h; exact .inr ⟨rfl, h⟩
theorem RelC.give1 {i : Nat} (r : RelC K Hv₀ H₀ Hc O st σ H) : ∃ Hc' O', Same Hc Hc' ∧ RelC K Hv₀ H₀ Hc' O' (st.set i ((st[i]?.getD .no).give)) σ H := by
  cases hi : st[i]? with
  | none =>
    refine ⟨Hc, O, .refl _, ?_⟩
    rw [List.set_eq_of_length_le (by have := List.getElem?_eq_none_iff.mp hi; omega)]
    exact r
  | some s =>
    have hs : st.set i s = st := set_id hi
    have key : ∀ (d : D) (v : V), σ[i]? = some (some v) → Rp K (joinH Hc (O i)) d v → ∃ Hc' O', Same Hc Hc' ∧ RelC K Hv₀ H₀ Hc' O' (st.set i (.sh d)) σ H := fun d v hσ rp => by
      have sm : Same Hc (joinH Hc (O i)) := joinH_l
      have hset : σ.set i (some v) = σ := set_id hσ
      have r1 : RelC K Hv₀ H₀ (joinH Hc (O i)) (putO O i fun _ => none) (st.set i .no) σ H := by
        refine ⟨r.h0, r.vc.trans sm, fun b o h => ?_, fun b o h n => ?_, r.nf, by rw [List.length_set]; exact r.len, fun j x h => ?_, fun j x h => ?_, fun j x h => ?_, fun j n m h => ?_, fun j b o h => ?_, fun j k b o o' h1 h2 => ?_⟩
        · rcases joinH_of h with h | ⟨_, h⟩
          · exact r.ch b o h
          · exact (r.oh i b o h).1
        · rcases joinH_of h with h | ⟨_, h⟩
          · exact r.new b o h n
          · exact (r.oh i b o h).2.2
        · rcases set_get h with ⟨_, e, _⟩ | ⟨hj, h⟩
          · cases e
          · obtain ⟨u, h1, h2⟩ := r.sh j x h
            exact ⟨u, h1, h2.same sm⟩
        · rcases set_get h with ⟨_, e, _⟩ | ⟨hj, h⟩
          · cases e
          · obtain ⟨a, o, h1, h2, h3⟩ := r.ow j x h
            exact ⟨a, o, h1, by rw [putO_ne hj]; exact h2, h3.same sm⟩
        · rcases set_get h with ⟨_, e, _⟩ | ⟨hj, h⟩
          · cases e
          · obtain ⟨u, h1, h2⟩ := r.dp j x h
            exact ⟨u, h1, by rw [putO_ne hj]; exact h2⟩
        · rcases set_get h with ⟨_, e, _⟩ | ⟨hj, h⟩
          · cases e
          · obtain ⟨u, h1, h2⟩ := r.jk j n m h
            exact ⟨u, h1, by rw [putO_ne hj]; exact h2⟩
        · by_cases hj : j = i
          · rw [hj, putO_same] at h; cases h
          · rw [putO_ne hj] at h
            obtain ⟨h1, h2, h3⟩ := r.oh j b o h
            refine ⟨h1, ?_, h3⟩
            cases q : joinH Hc (O i) b with
            | none => rfl
            | some u =>
              rcases joinH_of q with q | ⟨_, q⟩
              · rw [h2] at q; cases q
              · exact absurd (r.one j i b o u h q) hj
        · by_cases hj : j = i
          · rw [hj, putO_same] at h1; cases h1
          · by_cases hk : k = i
            · rw [hk, putO_same] at h2; cases h2
            · rw [putO_ne hj] at h1; rw [putO_ne hk] at h2; exact r.one j k b o o' h1 h2
      have r2 := r1.setSh (i := i) rp
      rw [hset, List.set_set] at r2
      exact ⟨_, _, sm, r2⟩
    cases s with
    | no => exact ⟨Hc, O, .refl _, by show RelC K Hv₀ H₀ Hc O (st.set i .no) σ H; rw [hs]; exact r⟩
    | sh d => exact ⟨Hc, O, .refl _, by show RelC K Hv₀ H₀ Hc O (st.set i (.sh d)) σ H; rw [hs]; exact r⟩
    | jk n m => exact ⟨Hc, O, .refl _, by show RelC K Hv₀ H₀ Hc O (st.set i (.jk n m)) σ H; rw [hs]; exact r⟩
    | ow d =>
      obtain ⟨a, o, h1, h2, h3⟩ := r.ow i d hi
      exact key d _ h1 ((h3.same joinH_l).rp (joinH_r (fun b o h => (r.oh i b o h).2.1) a o h2))
    | dp d =>
      obtain ⟨v, h1, h2⟩ := r.dp i d hi
      exact key d v h1 (Rp.frag (h2.same (joinH_r fun b o h => (r.oh i b o h).2.1)))
theorem RelC.give : ∀ (is : List Nat) {st : Dv.St} {Hc : Hp} {O : Nat → Hp}, RelC K Hv₀ H₀ Hc O st σ H → ∃ Hc' O', Same Hc Hc' ∧ RelC K Hv₀ H₀ Hc' O' (Dv.give is st) σ H
  | [], st, Hc, O, r => ⟨Hc, O, .refl _, r⟩
  | i :: is, st, Hc, O, r => by
    obtain ⟨Hc1, O1, s1, r1⟩ := r.give1 (i := i)
    obtain ⟨Hc2, O2, s2, r2⟩ := RelC.give is r1
    exact ⟨Hc2, O2, s1.trans s2, r2⟩
end
def OkS (C : Ctx) (Hv₀ H₀ : Hp) (E : Ends) (o : Out) : Prop := match o with
  | .nx st => ∀ σ' H', Rel C.X.K Hv₀ H₀ st σ' H' → E.nx σ' H'
  | .ret d nw => ∀ v Hv' H', Ext Hv₀ H₀ Hv' H' → Rp C.X.K Hv' d v → (nw = true → Rp [] (Hnew H₀ H') d v) → E.rt v H'
  | .brk st => ∀ σ' H', Rel C.X.K Hv₀ H₀ st σ' H' → E.bk σ' H'
  | .cont st => ∀ σ' H', Rel C.X.K Hv₀ H₀ st σ' H' → E.ct σ' H'
  | .exc c st => ∀ σ' H', Rel C.X.K Hv₀ H₀ st σ' H' → C.W σ' (C.cls c) none H'
  | .bad => False
def TakS (C : Ctx) (t : TS) (f : SS) : Prop := ∀ Hv₀ H₀ E σ H st, Rel C.X.K Hv₀ H₀ st σ H → OkS C Hv₀ H₀ E (f st) → t E σ H
def SSt (C : Ctx) (s : Stmt) (f : SS) : Prop := ∃ t : TS, PS C.X s t ∧ TakS C t f
def SSs (C : Ctx) (ss : List Stmt) (f : SS) : Prop := ∃ t : TS, PSs C.X ss t ∧ TakS C t f
section
variable {C : Ctx} {a b c : Expr} {e : Expr} {f g h : EE} {F G : SS} {s : Stmt} {ss : List Stmt} {pos pos' : Pos} {E : Ends}
theorem ss_nil : SSs C [] Dv.sNil := ⟨_, pss_nil, fun Hv₀ H₀ E σ H st r q => q σ H r⟩
theorem ss_cons (h1 : SSt C s F) (h2 : SSs C ss G) : SSs C (s :: ss) (Dv.sCons F G) := by
  obtain ⟨t, p, q⟩ := h1
  obtain ⟨u, p2, q2⟩ := h2
  refine ⟨_, pss_cons p p2, fun Hv₀ H₀ E σ H st r w => ?_⟩
  refine q Hv₀ H₀ { E with nx := u E } σ H st r ?_
  have w' : OkS C Hv₀ H₀ E ((F st).bind G) := w
  cases hf : F st with
  | nx st' => rw [hf] at w'; exact fun σ' H' r' => q2 Hv₀ H₀ E σ' H' st' r' w'
  | ret d nw => rw [hf] at w'; exact w'
  | brk st => rw [hf] at w'; exact w'
  | cont st => rw [hf] at w'; exact w'
  | exc c st => rw [hf] at w'; exact w'
  | bad => rw [hf] at w'; exact w'
theorem ss_one (h1 : SSt C s F) : SSs C [s] F := by
  obtain ⟨t, p, q⟩ := h1
  exact ⟨t, pss_one p, q⟩
theorem Tak.all {t : TE} (q : Tak C t f) {Hv₀ H₀ Hc H : Hp} {O : Nat → Hp} {σ : St} {st : Dv.St} (r : RelC C.X.K Hv₀ H₀ Hc O st σ H) {T : VK}
    (hx : ∀ c, f (Dv.all st) = .exc c → ∀ H', RelC C.X.K Hv₀ H₀ Hc O st σ H' → C.W σ (C.cls c) none H') (hb : f (Dv.all st) ≠ .bad)
    (ok : ∀ d fr v Hv' H', f (Dv.all st) = .ok d fr → Ext (Hall Hc O H) H Hv' H' → RelC C.X.K Hv₀ H₀ Hc O st σ H' → Rp C.X.K Hv' d v → (fr = true → Rp [] (Hnew H H') d v) → T v H') : t σ H T := by
  refine q σ H (Hall Hc O H) (Dv.all st) T r.envAll r.allH ?_
  cases hf : f (Dv.all st) with
  | bad => exact absurd hf hb
  | exc c => exact fun Hv' H' x => hx c hf H' (r.grow x.hh x.nf)
  | ok d fr => exact fun v Hv' H' x rp n => ok d fr v Hv' H' hf x (r.grow x.hh x.nf) rp n
theorem Tak.open {t : TE} (q : Tak C t f) {Hv₀ H₀ Hc H : Hp} {O : Nat → Hp} {σ : St} {st : Dv.St} (r : RelC C.X.K Hv₀ H₀ Hc O st σ H) {T : VK}
    (hx : ∀ c, f (Dv.open_ st) = .exc c → ∀ Hc' H', Ext Hc H Hc' H' → C.W σ (C.cls c) none H') (hb : f (Dv.open_ st) ≠ .bad)
    (ok : ∀ d fr v Hc' H', f (Dv.open_ st) = .ok d fr → Ext Hc H Hc' H' → RelC C.X.K Hv₀ H₀ Hc' O st σ H' → Rp C.X.K Hc' d v → T v H') : t σ H T := by
  refine q σ H Hc (Dv.open_ st) T r.envOpen r.ch ?_
  cases hf : f (Dv.open_ st) with
  | bad => exact absurd hf hb
  | exc c => exact fun Hv' H' x => hx c hf Hv' H' x
  | ok d fr => exact fun v Hv' H' x rp n => ok d fr v Hv' H' hf x (r.growC x) rp
theorem st_expr (he : SE C e f) (hs : swapsWith e none pos.line C.X.env = pure false := by rfl) : SSt C (.Expr e pos) (Dv.sExpr f) := by
  obtain ⟨t, p, q⟩ := he
  refine ⟨_, ps_expr p hs, fun Hv₀ H₀ E σ H st ⟨Hc, O, r⟩ w => ?_⟩
  unfold Dv.sExpr at w
  refine q.all r (fun c hf H' r' => ?_) (fun hf => ?_) fun d fr v Hv' H' hf x r' rp n => ?_
  · rw [hf] at w; exact w σ H' ⟨Hc, O, r'⟩
  · rw [hf] at w; exact w
  · rw [hf] at w; exact w σ H' ⟨Hc, O, r'⟩
theorem RelC.ret {Hv₀ H₀ Hc H Hv' H' : Hp} {O : Nat → Hp} {σ : St} {st : Dv.St} {K : PySem.W.Frag} (r : RelC K Hv₀ H₀ Hc O st σ H) (x : Ext (Hall Hc O H) H Hv' H') : ∃ Hv2, Ext Hv₀ H₀ Hv2 H' ∧ Same Hv' Hv2 := by
  have key : ∀ b o, Hv' b = some o → Hv₀ b = none → H₀ b = none := fun b o h n => by
    cases q : Hall Hc O H b with
    | some u => exact r.allNew b u q n
    | none => exact r.h0.free (x.new b o h q)
  refine ⟨fun b => match H₀ b with | none => H' b | some _ => Hv' b, ⟨r.h0.trans x.hh, fun b o h => ?_, fun b o h => ?_, fun b o h n => ?_, fun b h => ?_, fun b o u h => ?_⟩, fun b o h => ?_⟩
  · have h2 : Hv' b = some o := x.vv _ _ (r.cAll _ _ (r.vc b o h))
    show (match H₀ b with | none => H' b | some _ => Hv' b) = some o
    cases H₀ b with
    | none => exact x.vh b o h2
    | some _ => exact h2
  · have h' : (match H₀ b with | none => H' b | some _ => Hv' b) = some o := h
    cases q : H₀ b with
    | none => rw [q] at h'; exact h'
    | some _ => rw [q] at h'; exact x.vh b o h'
  · have h' : (match H₀ b with | none => H' b | some _ => Hv' b) = some o := h
    cases q : H₀ b with
    | none => rfl
    | some u =>
      rw [q] at h'
      have := key b o h' n
      rw [q] at this; cases this
  · show (match H₀ b with | none => H' b | some _ => Hv' b) = H' b
    rw [h]
  · exact (r.grow x.hh x.nf).nf b o u h
  · show (match H₀ b with | none => H' b | some _ => Hv' b) = some o
    cases H₀ b with
    | none => exact x.vh b o h
    | some _ => exact h
theorem st_ret (he : SE C e f) : SSt C (.Return (some e) pos) (Dv.sRet f) := by
  obtain ⟨t, p, q⟩ := he
  refine ⟨_, ps_ret p, fun Hv₀ H₀ E σ H st ⟨Hc, O, r⟩ w => ?_⟩
  unfold Dv.sRet at w
  refine q.all r (fun c hf H' r' => ?_) (fun hf => ?_) fun d fr v Hv' H' hf x r' rp n => ?_
  · rw [hf] at w; exact w σ H' ⟨Hc, O, r'⟩
  · rw [hf] at w; exact w
  · rw [hf] at w
    obtain ⟨Hv2, x2, s2⟩ := r.ret x
    exact w v Hv2 H' x2 (rp.same s2) fun z => (n z).same (Hnew.mono r.h0 (.refl _))
theorem st_retO (i : Nat) {x : Str} (hN : C.X.N[i]? = some x := by rfl) (hv : Vis C.X.env.scope x := by first | exact Or.inl rfl | exact Or.inr (Or.inl rfl) | exact Or.inr (Or.inr rfl)) (hd : (x == ("__debug__" : Str)) = false := by decide)
    (hcd : (x == ("__classdict__" : Str)) = false := by decide) : SSt C (.Return (some (.Name x pos')) pos) (Dv.sRetO i) := by
  refine ⟨_, ps_ret (pe_var hN hv hd hcd), fun Hv₀ H₀ E σ H st ⟨Hc, O, r⟩ w => ?_⟩
  unfold Dv.sRetO at w
  obtain ⟨Hv2, x2, s2⟩ := r.ret (.refl r.allH)
  cases hi : st[i]? with
  | none => rw [hi] at w; exact (show False from w).elim
  | some s =>
    rw [hi] at w
    cases s with
    | no => exact (show False from w).elim
    | sh d =>
      obtain ⟨v, h1, h2⟩ := r.sh i d hi
      exact ⟨v, h1, w v Hv2 H x2 ((h2.same r.cAll).same s2) fun z => h2.scal z⟩
    | jk n m => exact (show False from w).elim
    | dp d =>
      obtain ⟨v, h1, h2⟩ := r.dp i d hi
      exact ⟨v, h1, w v Hv2 H x2 ((Rp.frag (h2.same (r.oAll i))).same s2) fun _ => h2.same fun b o h => by
        unfold Hnew
        rw [(r.oh i b o h).2.2]
        exact (r.oh i b o h).1⟩
    | ow d =>
      obtain ⟨a, o, h1, h2, h3⟩ := r.ow i d hi
      have rp : Rp C.X.K Hv2 d (.ref a) := by
        obtain ⟨v, h6, h7⟩ := r.envAll i d (by unfold Dv.all; rw [List.getElem?_map, hi]; rfl)
        rw [h1] at h6
        cases h6
        exact h7.same s2
      cases d with
      | lst ds =>
        refine ⟨_, h1, w (.ref a) Hv2 H x2 rp fun z => ?_⟩
        obtain ⟨vs, rfl, h5⟩ := h3
        unfold Rp
        refine ⟨a, vs, rfl, SqX.of ?_, h5.flat z⟩
        unfold Hnew
        rw [(r.oh i a _ h2).2.2]
        exact (r.oh i a _ h2).1
      | dct ks ds => exact ⟨_, h1, w (.ref a) Hv2 H x2 rp fun z => nomatch z⟩
      | _ => exact (show False from h3).elim
theorem st_if {pa pb : List Stmt} (hc : SC C c f) (ha : SSs C pa F) (hb : SSs C pb G) : SSt C (.If c pa pb pos) (Dv.sIf f F G) := by
  obtain ⟨tc, pc, qc⟩ := hc
  obtain ⟨t, p, q⟩ := ha
  obtain ⟨u, p2, q2⟩ := hb
  refine ⟨_, ps_if pc p p2, fun Hv₀ H₀ E σ H st ⟨Hc, O, r⟩ w => ?_⟩
  unfold Dv.sIf at w
  refine qc σ H (Hall Hc O H) (Dv.all st) _ r.envAll r.allH ?_
  cases hf : f (Dv.all st) with
  | bad => rw [hf] at w; exact w
  | exc c => rw [hf] at w; exact fun Hv' H' x => w σ H' ⟨Hc, O, r.grow x.hh x.nf⟩
  | ok d fr =>
    rw [hf] at w
    intro v Hv' H' x rp n
    cases d with
    | bl b =>
      unfold Rp at rp
      refine ⟨b, rp, ?_⟩
      cases b with
      | true => exact iteT (q Hv₀ H₀ E σ H' st ⟨Hc, O, r.grow x.hh x.nf⟩ w)
      | false => exact iteF (q2 Hv₀ H₀ E σ H' st ⟨Hc, O, r.grow x.hh x.nf⟩ w)
    | _ => exact (show False from w).elim
theorem sSet_ok {t : TE} (q : Tak C t f) (i : Nat) {Hv₀ H₀ H : Hp} {σ : St} {st : Dv.St} (r : Rel C.X.K Hv₀ H₀ st σ H) (w : OkS C Hv₀ H₀ E (Dv.sSet i f st)) : t σ H fun v H' => E.nx (σ.set i (some v)) H' := by
  obtain ⟨Hc, O, r⟩ := r
  unfold Dv.sSet at w
  refine q.all r (fun c hf H' r' => ?_) (fun hf => ?_) fun d fr v Hv' H' hf x r' rp n => ?_
  · rw [hf] at w; exact w σ H' ⟨Hc, O, r'⟩
  · rw [hf] at w; exact w
  · rw [hf] at w
    cases d with
    | lst ds =>
      simp only [Dv.keepD] at w
      by_cases z : (fr && Dv.flatL ds) = true
      · simp only [z, if_true] at w
        rw [Bool.and_eq_true] at z
        have rn := n z.1
        unfold Rp at rn
        obtain ⟨a, vs, rfl, h1, h2⟩ := rn
        have h1' : Hnew H H' a = some (.lst vs) := by
          rcases h1 with (h1 | ⟨o, h1⟩) | ⟨its, m, e, _⟩
          · exact h1
          · exfalso
            have hn : H a = none := by
              unfold Hnew at h1
              cases q : H a with
              | none => rfl
              | some u => rw [q] at h1; cases h1
            exact x.nf a o _ hn (Hnew.sub a _ h1)
          · simp at e
        have hn : H a = none := by
          unfold Hnew at h1'
          cases q : H a with
          | none => rfl
          | some u => rw [q] at h1'; cases h1'
        refine w _ H' ⟨Hc, _, r'.setOw (Hnew.sub a _ h1') (r.ch.free hn) (r.h0.free hn) (fun j _ => ?_) ⟨vs, rfl, h2.flat z.2⟩⟩
        cases q : O j a with
        | none => rfl
        | some u => have := (r.oh j a u q).1; rw [hn] at this; cases this
      · simp only [z] at w
        exact (show False from w).elim
    | tup ds => exact (show False from w).elim
    | exn c => exact (show False from w).elim
    | raw _ => exact (show False from w).elim
    | tab _ => exact (show False from w).elim
    | dct ks ds =>
      simp only [Dv.keepD] at w
      by_cases z : (fr && ks.isEmpty && ds.isEmpty) = true
      · simp only [z, if_true] at w
        simp only [Bool.and_eq_true, List.isEmpty_iff] at z
        obtain ⟨⟨z1, z2⟩, z3⟩ := z
        subst z2 z3
        have rn := n z1
        unfold Rp at rn
        obtain ⟨a, vs, rfl, _, h1, h2⟩ := rn
        unfold RpL at h2
        subst h2
        have h1' : Hnew H H' a = some (.dK []) := by
          rcases h1 with h1 | ⟨o, h1⟩
          · exact h1
          · exfalso
            have hn : H a = none := by
              unfold Hnew at h1
              cases q : H a with
              | none => rfl
              | some u => rw [q] at h1; cases h1
            exact x.nf a o _ hn (Hnew.sub a _ h1)
        have hn : H a = none := by
          unfold Hnew at h1'
          cases q : H a with
          | none => rfl
          | some u => rw [q] at h1'; cases h1'
        refine w _ H' ⟨Hc, _, r'.setOw (Hnew.sub a _ h1') (r.ch.free hn) (r.h0.free hn) (fun j _ => ?_) ⟨[], rfl, rfl, .nil⟩⟩
        cases q : O j a with
        | none => rfl
        | some u => have := (r.oh j a u q).1; rw [hn] at this; cases this
      · simp only [z] at w
        exact (show False from w).elim
    | _ => exact w _ H' ⟨Hc, O, r'.setSh (Rp.scal rfl rp)⟩
theorem st_set {i : Nat} {x : Str} (he : SE C e f) (hN : C.X.N.Nodup) (hi : C.X.N[i]? = some x) (hx : Loc C.X.env.scope x) (hs : swapsWith e (some (.Name x pos')) pos.line C.X.env = pure false := by rfl)
    (hf : C.X.fn x = true ∨ C.X.env.scope.names.lookup x = some .local := by first | exact .inl rfl | exact .inr rfl | assumption) : SSt C (.Assign [.Name x pos'] e pos) (Dv.sSet i f) := by
  obtain ⟨t, p, q⟩ := he
  exact ⟨_, ps_set hN hi hx p hs hf, fun Hv₀ H₀ E σ H st r w => sSet_ok q i r w⟩
theorem sSetG_ok {t : TE} (q : Tak C t f) (is : List Nat) (i : Nat) {Hv₀ H₀ H : Hp} {σ : St} {st : Dv.St} (r : Rel C.X.K Hv₀ H₀ st σ H) (w : OkS C Hv₀ H₀ E (Dv.sSetG is i f st)) : t σ H fun v H' => E.nx (σ.set i (some v)) H' := by
  obtain ⟨Hc0, O0, r0⟩ := r
  obtain ⟨Hc, O, _, r⟩ := r0.give is
  unfold Dv.sSetG at w
  refine q.open r (fun c hf Hc' H' x => ?_) (fun hf => ?_) fun d fr v Hc' H' hf x r' rp => ?_
  · rw [hf] at w; exact w σ H' ⟨Hc0, O0, r0.grow x.hh x.nf⟩
  · rw [hf] at w; exact w
  · rw [hf] at w
    exact w _ H' ⟨Hc', O, r'.setSh rp⟩
theorem st_setG (is : List Nat) {i : Nat} {x : Str} (he : SE C e f) (hN : C.X.N.Nodup) (hi : C.X.N[i]? = some x) (hx : Loc C.X.env.scope x) (hs : swapsWith e (some (.Name x pos')) pos.line C.X.env = pure false := by rfl)
    (hf : C.X.fn x = true ∨ C.X.env.scope.names.lookup x = some .local := by first | exact .inl rfl | exact .inr rfl | assumption) : SSt C (.Assign [.Name x pos'] e pos) (Dv.sSetG is i f) := by
  obtain ⟨t, p, q⟩ := he
  exact ⟨_, ps_set hN hi hx p hs hf, fun Hv₀ H₀ E σ H st r w => sSetG_ok q is i r w⟩
theorem RelC.own {Hv₀ H₀ Hc H : Hp} {O : Nat → Hp} {σ : St} {st : Dv.St} {K : PySem.W.Frag} {i : Nat} {ds : List D} (r : RelC K Hv₀ H₀ Hc O st σ H) (hi : st[i]? = some (.ow (.lst ds))) :
    ∃ a vs, σ[i]? = some (some (.ref a)) ∧ H a = some (.lst vs) ∧ RpL K Hc ds vs := by
  obtain ⟨a, o, h1, h2, vs, rfl, h3⟩ := r.ow i _ hi
  exact ⟨a, vs, h1, (r.oh i a _ h2).1, h3⟩
theorem st_app {i : Nat} {x : Str} {apos cpos : Pos} {px : Pos} (he : SE C e f) (hN : C.X.N[i]? = some x := by rfl) (hv : Vis C.X.env.scope x := by first | exact Or.inl rfl | exact Or.inr (Or.inl rfl) | exact Or.inr (Or.inr rfl))
    (hd : (x == ("__debug__" : Str)) = false := by decide) (hcd : (x == ("__classdict__" : Str)) = false := by decide) (hst : starEach [e] C.X.env = [(false, eval e C.X.env)] := by rfl)
    (hbase : attributeBase (.Name x px) "append" C.X.env (eval (.Name x px) C.X.env) = eval (.Name x px) C.X.env := by rfl)
    (hfew : ((backTo cpos (starEach [e] C.X.env)).all (fun x => !x.1) && (backToKw cpos (keywordEach [] C.X.env)).all (fun x => x.1.isSome)
      && decide ([e].length + ([] : List Keyword).length + (if ([] : List Keyword).isEmpty then 0 else 1) < 30)) = true := by rfl)
    (hline : (apos.endLine == cpos.line) = true := by rfl)
    (hs : swapsWith (.Call (.Attribute (.Name x px) "append" apos) [e] [] cpos) none pos.line C.X.env = pure false := by rfl) :
    SSt C (.Expr (.Call (.Attribute (.Name x px) "append" apos) [e] [] cpos) pos) (Dv.sApp i f) := by
  obtain ⟨t, p, q⟩ := he
  refine ⟨_, ps_expr (pe_bm PySem.F.plainAttrs_list PySem.F.slot_list_append PySem.F.type_list_append mt_append (pe_var hN hv hd hcd) (pa_cons p pa_nil hst) hbase hfew hline hst rfl) hs, fun Hv₀ H₀ E σ H st ⟨Hc, O, r⟩ w => ?_⟩
  unfold Dv.sApp at w
  cases hi : st[i]? with
  | none => rw [hi] at w; exact (show False from w).elim
  | some s =>
    rw [hi] at w
    cases s with
    | no => exact (show False from w).elim
    | sh d => exact (show False from w).elim
    | dp d => exact (show False from w).elim
    | jk n m => exact (show False from w).elim
    | ow d0 =>
     cases d0 with
     | lst ds =>
      obtain ⟨a, vs, h1, h2, h5⟩ := r.own hi
      refine ⟨_, h1, .inl ⟨rfl, vs, SqL.of h2⟩, ?_⟩
      refine q.all r (fun c hf H' r' => ?_) (fun hf => ?_) fun d fr v Hv' H' hf x r' rp n => ?_
      · simp only [hf] at w; exact w σ H' ⟨Hc, O, r'⟩
      · simp only [hf] at w; exact w
      · simp only [hf] at w
        by_cases z : (Dv.scal d && decide (ds.length < Dv.mx)) = true
        · simp only [z, if_true] at w
          rw [Bool.and_eq_true, decide_eq_true_eq] at z
          obtain ⟨O', r2⟩ := r'.put hi h1 (h5.append (.cons (rp.scal z.1) .nil))
          refine ⟨a, vs, v, rfl, rfl, x.hh _ _ h2, ?_, w σ _ ⟨Hc, O', r2⟩⟩
          have := h5.length
          have := mx_line (Nat.le_of_lt z.2)
          have e1 : (100000 : Nat) < sizeLine := by rw [sizeLine_eq]; decide
          have e2 : ds.length < 100000 := z.2
          omega
        · simp only [z] at w
          exact (show False from w).elim
     | _ => exact (show False from w).elim
end
end Sd
set_option Elab.async false
set_option linter.all false
set_option maxRecDepth 100000
namespace Sd
open PySem PySem.Spec PyProof.Rows L2
open Dv (D R RL EE EL EI RI Sl Out SS)
section
variable {C : Ctx} {a b c e o k : Expr} {f g h : EE} {fl : EL} {F G : SS} {s : Stmt} {ss : List Stmt} {pos pos' : Pos} {E : Ends}
def Wlk (K : PySem.W.Frag) (J : It) (Hv : Hp) (ds : List D) : Prop :=
  ∀ (i : Nat) (H : Hp), Same Hv H → (∀ d, ds[i]? = some d → J.go i H ∧ ∀ x H', J.yld i H x H' → ∃ Hv', Ext Hv H Hv' H' ∧ Rp K Hv' d x) ∧ (i = ds.length → J.stop i H)
def OkI (K : PySem.W.Frag) (Hv H : Hp) (W : XK) (cls : String → Value) (r : RI) (T : It → Hp → Prop) : Prop := match r with
  | .ok ds _ => ∀ J Hv' H', Ext Hv H Hv' H' → Wlk K J Hv' ds → T J H'
  | .exc c => ∀ Hv' H', Ext Hv H Hv' H' → W (cls c) none H'
  | .bad => False
def SI (C : Ctx) (tg it : Expr) (f : EI) : Prop :=
  ∃ wi : TI, PI C.X tg it wi ∧ ∀ σ H Hv ρ T, EnvR C.X.K Hv ρ σ → Same Hv H → OkI C.X.K Hv H (C.W σ) C.cls (f ρ) T → wi σ H T
theorem si_list {tg : Expr} (he : SE C e f) : SI C tg e (Dv.iSeq f) := by
  obtain ⟨t, p, q⟩ := he
  refine ⟨_, pi_list p, fun σ H Hv ρ T er s w => ?_⟩
  refine q σ H Hv ρ _ er s ?_
  unfold Dv.iSeq at w
  cases hf : f ρ with
  | bad => rw [hf] at w; exact w
  | exc c => rw [hf] at w; exact w
  | ok d fr =>
    rw [hf] at w
    intro v Hv' H' x rp n
    cases d with
    | lst ds =>
      unfold Rp at rp
      obtain ⟨l, vs, rfl, h1, h2⟩ := rp
      refine ⟨l, rfl, ⟨vs, (h1.same x.vh).seq⟩, w _ Hv' H' x fun i H2 s2 => ⟨fun d hd => ?_, fun hi => ?_⟩⟩
      · obtain ⟨u, h3, h4⟩ := h2.get hd
        refine ⟨⟨vs, u, (h1.same s2).seq, h3⟩, fun x H3 ⟨e1, hy⟩ => ?_⟩
        subst e1
        have := hy vs (h1.same s2).seq
        rw [h3] at this
        cases this
        exact ⟨Hv', .refl s2, h4⟩
      · exact ⟨vs, (h1.same s2).seq, by rw [h2.length, hi]; exact Nat.le_refl _⟩
    | _ => exact (show False from w).elim
theorem range_get (lo : Int) : ∀ (n i : Nat) (d : D), (Dv.rangeL lo n)[i]? = some d → i < n ∧ d = .int (lo + i) := by
  intro n
  induction n generalizing lo with
  | zero => intro i d h; simp [Dv.rangeL] at h
  | succ n ih =>
    intro i d h
    cases i with
    | zero => simp [Dv.rangeL] at h; subst h; exact ⟨by omega, by simp⟩
    | succ i =>
      simp only [Dv.rangeL, List.getElem?_cons_succ] at h
      obtain ⟨h1, h2⟩ := ih (lo + 1) i d h
      exact ⟨by omega, by rw [h2]; congr 1; omega⟩
theorem range_len (lo : Int) : ∀ n : Nat, (Dv.rangeL lo n).length = n := by
  intro n
  induction n generalizing lo with
  | zero => rfl
  | succ n ih => simp [Dv.rangeL, ih]
theorem wlk_range {K : PySem.W.Frag} {Hv : Hp} (lo : Int) (n : Nat) : Wlk K (Itr lo n) Hv (Dv.rangeL lo n) := fun i H s => ⟨fun d hd => by
    obtain ⟨h1, rfl⟩ := range_get lo n i d hd
    refine ⟨h1, fun x H' ⟨e1, e2⟩ => ?_⟩
    subst e1 e2
    exact ⟨Hv, .refl s, rp_int⟩, fun hi => by rw [range_len] at hi; subst hi; exact Nat.le_refl _⟩
theorem rng62 {j : Int} (h : Dv.rngOk j = true) : -(2 ^ 62) ≤ j ∧ j < 2 ^ 62 := by
  unfold Dv.rngOk at h
  simp only [Bool.and_eq_true, decide_eq_true_eq] at h
  omega
theorem si_range {tg : Expr} {p : Pos} (hg : Gl C.X "range") (hm : C.X.mg "range" = none) (he : SE C e f) (hs : starEach [e] C.X.env = [(false, eval e C.X.env)] := by rfl) :
    SI C tg (.Call (.Name "range" p) [e] [] pos) (Dv.iRange f) := by
  obtain ⟨t, pe, q⟩ := he
  refine ⟨_, pi_range1 hg hm (pa_cons pe pa_nil hs) hs, fun σ H Hv ρ T er s w => ?_⟩
  refine q σ H Hv ρ _ er s ?_
  unfold Dv.iRange at w
  cases hf : f ρ with
  | bad => rw [hf] at w; exact w
  | exc c => rw [hf] at w; exact w
  | ok d fr =>
    rw [hf] at w
    intro v Hv' H' x rp n
    cases d with
    | int j =>
      unfold Rp at rp
      subst rp
      by_cases hr : Dv.rngOk j = true
      · simp only [hr, if_true] at w
        obtain ⟨h1, h2⟩ := rng62 hr
        exact ⟨j, rfl, h1, h2, w _ Hv' H' x (wlk_range 0 j.toNat)⟩
      · simp only [hr] at w
        exact (show False from w).elim
    | _ => exact (show False from w).elim
def SG (C : Ctx) (tg : Expr) (st : D → Dv.St → Option Dv.St) : Prop :=
  ∃ g : TG, PG C.X tg g ∧ ∀ Hv₀ H₀ Hc O H σ s s' d v T, RelC C.X.K Hv₀ H₀ Hc O s σ H → Rp C.X.K Hc d v → st d s = some s' → (∀ σ' , RelC C.X.K Hv₀ H₀ Hc O s' σ' H → T σ' H) → g v σ H T
theorem sg_name {i : Nat} {x : Str} (hN : C.X.N.Nodup) (hi : C.X.N[i]? = some x) (hx : Loc C.X.env.scope x) (hf : C.X.fn x = true ∨ C.X.env.scope.names.lookup x = some .local := by first | exact .inl rfl | exact .inr rfl | assumption) :
    SG C (.Name x pos) (fun d s => some (s.set i (.sh d))) := by
  refine ⟨_, pg_name hN hi hx hf, fun Hv₀ H₀ Hc O H σ s s' d v T r rp e h => ?_⟩
  cases e
  exact h _ (r.setSh rp)
theorem RelC.self {K : PySem.W.Frag} {Hv₀ H₀ Hc H : Hp} {O : Nat → Hp} {st : Dv.St} {σ : St} (r : RelC K Hv₀ H₀ Hc O st σ H) : RelC K Hc H₀ Hc O st σ H :=
  ⟨r.h0, .refl _, r.ch, fun b o h n => (by rw [n] at h; cases h), r.nf, r.len, r.sh, r.ow, r.dp, r.jk, r.oh, r.one⟩
theorem OkS.less {Hv₀ Hc H₀ : Hp} {o : Out} (h : OkS C Hv₀ H₀ E o) (vc : Same Hv₀ Hc) (new : ∀ b o, Hc b = some o → Hv₀ b = none → H₀ b = none) : OkS C Hc H₀ E o := by
  have rl : ∀ {st σ H}, Rel C.X.K Hc H₀ st σ H → Rel C.X.K Hv₀ H₀ st σ H := fun ⟨Hd, O, r⟩ => ⟨Hd, O, r.less vc new⟩
  cases o with
  | nx st => exact fun σ H r => h σ H (rl r)
  | ret d nw =>
    refine fun v Hv' H' x rp n => h v Hv' H' ⟨x.hh, vc.trans x.vv, x.vh, fun b o q m => ?_, x.all, x.nf⟩ rp n
    cases z : Hc b with
    | some u => exact new b u z m
    | none => exact x.new b o q z
  | brk st => exact fun σ H r => h σ H (rl r)
  | cont st => exact fun σ H r => h σ H (rl r)
  | exc c st => exact fun σ H r => h σ H (rl r)
  | bad => exact h
theorem for_ok {tgt : D → Dv.St → Option Dv.St} {g : TG} {tb : TS} {J : It} {ds : List D} {Hc H₀ H : Hp} {σ : St} {st : Dv.St}
    (qg : ∀ Hv₀ H₀ Hc O H σ s s' d v T, RelC C.X.K Hv₀ H₀ Hc O s σ H → Rp C.X.K Hc d v → tgt d s = some s' → (∀ σ' , RelC C.X.K Hv₀ H₀ Hc O s' σ' H → T σ' H) → g v σ H T)
    (qb : TakS C tb F) (wl : Wlk C.X.K J Hc ds) (r : Rel C.X.K Hc H₀ st σ H) (w : OkS C Hc H₀ E (Dv.forGoT tgt F ds st)) :
    ∃ W : Nat → Nat → St → Hp → Prop, (∃ m, W 0 m σ H) ∧ ∀ i m σ H, W i m σ H →
      (J.stop i H ∧ E.nx σ H) ∨ (J.go i H ∧ ∃ N : St → Hp → Prop, (∀ σ' H', N σ' H' → ∃ m', m' < m ∧ W (i + 1) m' σ' H') ∧ ∀ x H', J.yld i H x H' → g x σ H' fun σ2 H2 => tb { E with nx := N, ct := N, bk := E.nx } σ2 H2) := by
  refine ⟨fun i m σ H => m = ds.length - i ∧ i ≤ ds.length ∧ ∃ st, Rel C.X.K Hc H₀ st σ H ∧ OkS C Hc H₀ E (Dv.forGoT tgt F (ds.drop i) st), ⟨_, rfl, Nat.zero_le _, st, r, w⟩, ?_⟩
  rintro i m σ H ⟨rfl, hi, st, ⟨Hd, O, r⟩, w⟩
  obtain ⟨w1, w2⟩ := wl i H (r.vc.trans r.ch)
  by_cases hlt : i < ds.length
  · have hd : ds[i]? = some ds[i] := by simp [hlt]
    have e1 : ds.drop i = ds[i] :: ds.drop (i + 1) := List.drop_eq_getElem_cons hlt
    rw [e1] at w
    generalize ds[i] = d at hd e1 w
    obtain ⟨go, yl⟩ := w1 d hd
    refine .inr ⟨go, fun σ' H' => ∃ st, Rel C.X.K Hc H₀ st σ' H' ∧ OkS C Hc H₀ E (Dv.forGoT tgt F (ds.drop (i + 1)) st), fun σ' H' h => ⟨ds.length - (i + 1), by omega, rfl, hlt, h⟩, fun x H' hy => ?_⟩
    obtain ⟨Hv', x1, rp⟩ := yl x H' hy
    unfold Dv.forGoT at w
    cases ht : tgt d st with
    | none => simp only [ht] at w; exact (show False from w).elim
    | some st1 =>
      simp only [ht] at w
      have x2 : Ext Hd H (fun b => match H b with | none => H' b | some _ => Hd b) H' := by
        refine ⟨x1.hh, fun b o q => ?_, fun b o q => ?_, fun b o q n => ?_, fun b q => ?_, x1.nf⟩
        · show (match H b with | none => H' b | some _ => Hd b) = some o
          cases z : H b with
          | none => rw [r.ch b o q] at z; cases z
          | some _ => exact q
        · have q' : (match H b with | none => H' b | some _ => Hd b) = some o := q
          cases z : H b with
          | none => rw [z] at q'; exact q'
          | some u => rw [z] at q'; exact x1.hh _ _ (r.ch b o q')
        · have q' : (match H b with | none => H' b | some _ => Hd b) = some o := q
          cases z : H b with
          | none => rfl
          | some u => rw [z] at q'; rw [n] at q'; cases q'
        · show (match H b with | none => H' b | some _ => Hd b) = H' b
          rw [q]
      have r2 := r.growC x2
      have sub : Same Hv' (fun b => match H b with | none => H' b | some _ => Hd b) := fun b o q => by
        show (match H b with | none => H' b | some _ => Hd b) = some o
        cases z : H b with
        | none => exact x1.vh b o q
        | some u =>
          cases z2 : Hc b with
          | none => have := x1.new b o q z2; rw [z] at this; cases this
          | some u' =>
            have h1 := x1.vv b u' z2
            rw [q] at h1
            cases h1
            exact r.vc b o z2
      refine qg Hc H₀ _ _ H' σ st st1 d x _ r2 (rp.same sub) ht fun σ2 r3 => ?_
      refine qb Hc H₀ _ σ2 H' st1 ⟨_, _, r3⟩ ?_
      cases hb : F st1 with
      | nx st' => simp only [hb] at w; exact fun σ' H' r' => ⟨st', r', w⟩
      | cont st' => simp only [hb] at w; exact fun σ' H' r' => ⟨st', r', w⟩
      | brk st' => simp only [hb] at w; exact w
      | ret d nw => simp only [hb] at w; exact w
      | exc c st' => simp only [hb] at w; exact w
      | bad => simp only [hb] at w; exact w
  · have e : i = ds.length := by omega
    refine .inl ⟨w2 e, ?_⟩
    rw [e, List.drop_length] at w
    exact w σ H ⟨Hd, O, r⟩
theorem st_forT (is : List Nat) {tg it : Expr} {body : List Stmt} {tgt : D → Dv.St → Option Dv.St} {fi : EI} (hi : SI C tg it fi) (hg : SG C tg tgt) (hb : SSs C body F) (hcalm : C.X.calm = true := by rfl)
    (hs : ∀ x, foldedSetIterable it C.X.env x = pure x := by intro _; rfl) : SSt C (.For tg it body [] pos) (Dv.sForT is tgt fi F) := by
  obtain ⟨wi, pi, qi⟩ := hi
  obtain ⟨g, pg, qg⟩ := hg
  obtain ⟨tb, pb, qb⟩ := hb
  refine ⟨_, ps_for C.own hcalm pi pg pb hs, fun Hv₀ H₀ E σ H st ⟨Hc0, O0, r0⟩ w => ?_⟩
  obtain ⟨Hc, O, _, r⟩ := r0.give is
  unfold Dv.sForT at w
  refine qi σ H Hc (Dv.open_ (Dv.give is st)) _ r.envOpen r.ch ?_
  cases hf : fi (Dv.open_ (Dv.give is st)) with
  | bad => simp only [hf] at w; exact w
  | exc c => simp only [hf] at w; exact fun Hv' H' x => w σ H' ⟨Hc0, O0, r0.grow x.hh x.nf⟩
  | ok ds fr =>
    simp only [hf] at w
    intro J Hc' H' x wl
    have r1 := r.growC x
    exact for_ok qg qb wl ⟨Hc', O, r1.self⟩ (w.less r1.vc r1.new)
theorem forGo_T (x : Nat) (body : SS) : ∀ (ds : List D) (st : Dv.St), Dv.forGoT (fun d s => some (s.set x (.sh d))) body ds st = Dv.forGo x body ds st
  | [], st => rfl
  | d :: r, st => by
    unfold Dv.forGoT Dv.forGo
    cases h : body (st.set x (.sh d)) with
    | nx st' => simp only [h]; exact forGo_T x body r st'
    | cont st' => simp only [h]; exact forGo_T x body r st'
    | _ => simp only [h]
theorem st_for (is : List Nat) {i : Nat} {x : Str} {it : Expr} {body : List Stmt} {fi : EI} (hi : SI C (.Name x pos') it fi) (hb : SSs C body F) (hN : C.X.N.Nodup) (hn : C.X.N[i]? = some x) (hx : Loc C.X.env.scope x)
    (hf : C.X.fn x = true ∨ C.X.env.scope.names.lookup x = some .local := by first | exact .inl rfl | exact .inr rfl | assumption) (hs : ∀ x, foldedSetIterable it C.X.env x = pure x := by intro _; rfl) (hcalm : C.X.calm = true := by rfl) :
    SSt C (.For (.Name x pos') it body [] pos) (Dv.sFor is i fi F) := by
  obtain ⟨t, p, q⟩ := st_forT (pos := pos) is hi (sg_name (pos := pos') hN hn hx hf) hb hcalm hs
  refine ⟨t, p, fun Hv₀ H₀ E σ H st r w => q Hv₀ H₀ E σ H st r ?_⟩
  unfold Dv.sForT
  unfold Dv.sFor at w
  cases hf : fi (Dv.open_ (Dv.give is st)) with
  | bad => simp only [hf] at w ⊢; exact w
  | exc c => simp only [hf] at w ⊢; exact w
  | ok ds fr => simp only [hf] at w ⊢; rw [forGo_T]; exact w
def spD (K : PySem.W.Frag) (cls : String → Value) (F : List D → R) (n : Nat) : Sp := fun vs H Q E => ∃ ds Hv, ds.length = n ∧ Same Hv H ∧ RpL K Hv ds vs ∧ Ok K Hv H E cls (F ds) Q
theorem spD_len {K : PySem.W.Frag} {cls : String → Value} {F : List D → R} {n : Nat} {vs : List V} {H : Hp} {Q : VK} {E : XK} (h : spD K cls F n vs H Q E) : vs.length = n := by
  obtain ⟨ds, Hv, h1, _, h2, _⟩ := h
  rw [h2.length, h1]
theorem start_get {N : List Str} {vs : List V} {i : Nat} {v : V} (h : vs[i]? = some v) : (L2.start N vs)[i]? = some (some v) := by
  have hl : i < vs.length := (List.getElem?_eq_some_iff.mp h).1
  unfold L2.start
  rw [List.getElem?_append_left (by simpa using hl), List.getElem?_map, h]
  rfl
theorem rel_start {K : PySem.W.Frag} {Hv H : Hp} {ds : List D} {vs : List V} {N : List Str} (s : Same Hv H) (rp : RpL K Hv ds vs) (hN : ds.length ≤ N.length) :
    RelC K Hv H Hv (fun _ _ => none) (ds.map Sl.sh ++ List.replicate (N.length - ds.length) Sl.no) (L2.start N vs) H := by
  have hl := rp.length
  have get : ∀ {i : Nat} {x : Sl}, (ds.map Sl.sh ++ List.replicate (N.length - ds.length) Sl.no)[i]? = some x → (∃ d, x = .sh d ∧ ds[i]? = some d) ∨ x = .no := fun {i x} h => by
    by_cases hi : i < ds.length
    · rw [List.getElem?_append_left (by simpa using hi), List.getElem?_map] at h
      cases q : ds[i]? with
      | none => rw [q] at h; cases h
      | some d => rw [q] at h; cases h; exact .inl ⟨d, rfl, rfl⟩
    · rw [List.getElem?_append_right (by simpa using hi), List.getElem?_replicate] at h
      split at h
      · cases h; exact .inr rfl
      · cases h
  refine ⟨.refl _, .refl _, s, fun b o h n => (by rw [n] at h; cases h), fun b o u h => (by rw [h]; intro z; cases z), ?_, fun i d h => ?_, fun i d h => ?_, fun i d h => ?_, fun i n m h => ?_, (fun i b o h => nomatch h), (fun i j b o o' h => nomatch h)⟩
  · unfold L2.start
    simp only [List.length_append, List.length_map, List.length_replicate]
    omega
  · rcases get h with ⟨d', e, h2⟩ | e
    · cases e
      obtain ⟨v, h3, h4⟩ := rp.get h2
      exact ⟨v, start_get h3, h4⟩
    · cases e
  · rcases get h with ⟨d', e, _⟩ | e <;> cases e
  · rcases get h with ⟨d', e, _⟩ | e <;> cases e
  · rcases get h with ⟨d', e, _⟩ | e <;> cases e
theorem fn_end {Hv H : Hp} {ds : List D} {Q : VK} {W : XK} {n : Nat} {body : SS} (hW : C.W = fun _ => W) (h : Ok C.X.K Hv H W C.cls (Dv.fn n body ds) Q) :
    OkS C Hv H { nx := fun _ H' => Q .non H', rt := Q } (body (ds.map Sl.sh ++ List.replicate (n - ds.length) Sl.no)) := by
  unfold Dv.fn at h
  have ext : ∀ {st σ' H'}, Rel C.X.K Hv H st σ' H' → ∃ Hv2, Ext Hv H Hv2 H' := fun {st σ' H'} ⟨Hc, O, r⟩ => by
    obtain ⟨Hv2, x, _⟩ := r.ret (.refl r.allH)
    exact ⟨Hv2, x⟩
  cases hb : body (ds.map Sl.sh ++ List.replicate (n - ds.length) Sl.no) with
  | nx st =>
    simp only [hb] at h
    intro σ' H' r
    obtain ⟨Hv2, x⟩ := ext r
    exact h .non Hv2 H' x rp_non fun _ => rp_non
  | ret d nw => simp only [hb] at h; exact fun v Hv' H' x rp nn => h v Hv' H' x rp nn
  | brk st => simp only [hb] at h; exact (show False from h).elim
  | cont st => simp only [hb] at h; exact (show False from h).elim
  | exc c st =>
    simp only [hb] at h
    intro σ' H' r
    obtain ⟨Hv2, x⟩ := ext r
    rw [hW]
    exact h Hv2 H' x
  | bad => simp only [hb] at h; exact (show False from h).elim
end
end Sd
set_option Elab.async false
set_option linter.all false
set_option maxRecDepth 100000
namespace Sd
open PySem PySem.Spec PyProof.Rows L2
open Dv (D R RL EE EL EI RI Sl Out SS)
structure CXok (P : Program) (w : World) (CX : CXT) : Prop where
  no : ∀ (outer : List PySem.Env) (H : Hp) (s : Shared) (e : Value) (s' : Shared), CX outer H s (fun _ _ _ => False) e s' → False
  leave : ∀ (K : PySem.W.Frag) (mg : Str → Option Value) (base : Heap) (N : List Str) (qual : Str) (scope : Scope) (f : Addr) (cd : Value) (A : Around) (outer : List PySem.Env) (s : Shared) (H : Hp) (E : XK)
    (pins : List (Addr × Obj)) (σ : St) (H1 : Hp) (s1 : Shared) (e : Value) (s' : Shared), Inv (cxOf CX P w K mg base N qual scope f cd A outer s H E) pins σ H1 s1 →
    CX (cxOf CX P w K mg base N qual scope f cd A outer s H E).stack H1 s1 E e s' → (cxOf CX P w K mg base N qual scope f cd A outer s H E).xe e s'
section
variable {P : Program} {w : World} {K : PySem.W.Frag} {mg : Str → Option Value} {base : Heap} {CX : CXT}
def ctxOf {P : Program} {w : World} (hC : CXok P w CX) (cls : String → Value) (K : PySem.W.Frag) (mg : Str → Option Value) (base : Heap) (N : List Str) (qual : Str) (scope : Scope) (f : Addr) (cd : Value) (A : Around) (outer : List PySem.Env) (s : Shared) (H : Hp) (E : XK)
    {k : Nat} (hr : Room k (A.deeper (envOfC qual scope s.heap.objs.size f cd))) : Ctx where
  X := cxOf CX P w K mg base N qual scope f cd A outer s H E
  W := fun _ => E
  cls := cls
  CX := CX
  un := hr.units
  own := PassesOwn.leaving
  pass := fun pins σ H1 s1 e s' I h => hC.leave K mg base N qual scope f cd A outer s H E pins σ H1 s1 e s' I h
  cxF := hC.no
theorem fn_ok (hC : CXok P w CX) (cls : String → Value) {x qual : Str} {st : Stmt} {f : Addr} {N ps : List Str} {k : Nat} {body : SS} (oc : Value) (od : Option Addr) (dV kV doc pm : Value) (an : Option Addr) (cdv ct : Value) (osl : Array (Option Value))
    (lk : K.lookup f = some ⟨oc, od, .func (PySem.W.fnOf x qual (defArgs st) (defBody st) (defScope st) dV kV doc pm an cdv ct), osl⟩) (hcd : PySem.W.codeIn K cdv qual = true) (S : FnScope N ps (defScope st))
    (hbody : ∀ (A : Around) (outer : List PySem.Env) (s : Shared) (H : Hp) (E : XK) (hr : Room k (A.deeper (envOfC qual (defScope st) s.heap.objs.size f cdv))),
      SSs (ctxOf hC cls K mg base N qual (defScope st) f cdv A outer s H E hr) (defBody st) body) :
    FnOk P w K mg base CX (k + 1) f (PySem.W.fnOf x qual (defArgs st) (defBody st) (defScope st) dV kV doc pm an cdv ct) ps (spD K cls (Dv.fn N.length body) ps.length) := by
  refine fn_of lk hcd S (fun vs H Q E h => spD_len h) fun A outer s H vs Q E hr h => ?_
  obtain ⟨ds, Hv, hl, sv, rp, ok⟩ := h
  obtain ⟨t, p, q⟩ := hbody A outer s H E hr
  have hpl : ps.length ≤ N.length := by
    have := congrArg List.length S.pre
    rw [List.length_take] at this
    omega
  exact ⟨t, p, q Hv H _ (L2.start N vs) H _ ⟨Hv, _, rel_start sv rp (by omega)⟩ (fn_end (C := ctxOf hC cls K mg base N qual (defScope st) f cdv A outer s H E hr) rfl ok)⟩
end
section
variable {C : Ctx} {a b c e o : Expr} {es : List Expr} {f g h : EE} {fl : EL} {F G : SS} {pos pos' : Pos} {E : Ends}
theorem pe_callW {X : Cx} {CX : CXT} {W : St → XK} {k : Nat} {fa : Addr} {fd : FuncData} {ps : List Str} {sp : Sp} {dvs : List V} {ds : List Value} {x : Str} {p : Pos} {t : TA} (Fn : FnOk X.prog X.w X.K X.mg X.base CX k fa fd ps sp) (hr : Room k X.A) (hg : Gl X x) (hm : X.mg x = some (.ref fa)) (hk : PySem.W.keepIn X.K (.ref fa) = true)
    (hb : Binds X.K fd ps ds) (hd : Vals dvs ds) (hx : ∀ (pins : List (Addr × Obj)) (σ : St) (H : Hp) (s : Shared) (e : Value) (s' : Shared), Inv X pins σ H s → CX X.stack H s (W σ) e s' → X.xe e s')
    (ha : PA X (e :: es) t) (hdb : (x == ("__debug__" : Str)) = false) (he : starEach (e :: es) X.env = (false, eval e X.env) :: starEach es X.env) (hpl : (backTo pos (starEach es X.env)).any (·.1) = false) :
    PE X (.Call (.Name x p) (e :: es) [] pos) (fun σ H Q => t σ H fun vs H1 => sp (vs ++ dvs) H1 Q (W σ)) := by
  intro pins s σ H Q I h
  refine wpAny_Call_Name_kw (ld_glob I hg hm ?_ hdb)
  refine PySem.W.callWith_K (h₀ := X.base) I.ok.mod.kin hk (thn (ha pos pins s σ H _ I h) fun us s1 ⟨vs, H1, I1, r, q⟩ => ⟨I1.kIn, ?_⟩) he hpl
  have r2 : Vals (vs ++ dvs) (us ++ ds) := r.append hd
  have hl : (us ++ ds).length = ps.length := by rw [← r2.length]; exact Fn.len _ _ _ _ q
  refine wpAny_call (codeAny_mono (Fn.run X.A X.stack s1 H1 ⟨us, []⟩ (us ++ ds) (vs ++ dvs) Q (W σ) hr I1.env0 (hb s1 us I1.kIn hl) r2 q) fun rr s' hq => ?_)
  cases rr with
  | error e => exact hx pins σ H1 s1 e s' I1 hq
  | ok fl =>
    cases fl with
    | ret u => exact I1.after hq
    | next => exact False.elim hq
    | brk => exact False.elim hq
    | cont => exact False.elim hq
theorem se_call {k j : Nat} {fa : Addr} {fd : FuncData} {ps : List Str} {Fm : List D → R} {dds : List D} {dvs : List V} {dus : List Value} {x : Str} {p : Pos} (Fn : FnOk C.X.prog C.X.w C.X.K C.X.mg C.X.base C.CX j fa fd ps (spD C.X.K C.cls Fm ps.length)) (hr : Room k C.X.A) (hj : j ≤ k)
    (hg : Gl C.X x) (hm : C.X.mg x = some (.ref fa)) (hk : PySem.W.keepIn C.X.K (.ref fa) = true) (hb : Binds C.X.K fd ps dus) (hd : Vals dvs dus) (hdd : ∀ K H, RpL K H dds dvs) (ha : SL C (e :: es) fl) (hlen : (e :: es).length + dds.length = ps.length := by rfl)
    (hdb : (x == ("__debug__" : Str)) = false := by decide) (he : starEach (e :: es) C.X.env = (false, eval e C.X.env) :: starEach es C.X.env := by rfl) (hpl : (backTo pos (starEach es C.X.env)).any (·.1) = false := by rfl) :
    SE C (.Call (.Name x p) (e :: es) [] pos) (Dv.eCall (fun ds => Fm (ds ++ dds)) fl) := by
  obtain ⟨t, pa, qa, hl⟩ := ha
  refine ⟨_, pe_callW (W := C.W) (Fn.mono hj) hr hg hm hk hb hd C.pass pa hdb he hpl, fun σ H Hv ρ Q er s w => ?_⟩
  refine qa.step er (.refl s) w fun vs ds fr Hv1 H1 hf x1 _ rp _ w1 => ?_
  refine ⟨ds ++ dds, Hv1, ?_, x1.vh, rp.append (hdd _ _), Ok.later x1 w1⟩
  rw [List.length_append, hl ρ ds fr hf]; exact hlen
def compCx (X : Cx) (N : List Str) (scope : Scope) (cl : List (Str × Addr)) (L : Addr) (s₀ : Shared) (H₀ : Hp) (ex : List Addr) : Cx :=
  { X with N := N, s₀ := s₀, H₀ := H₀, env := compEnvC scope cl L X.env, outer := X.stack, ex := ex, fn := fun _ => false, pn := [], xe := fun _ _ => False }
def compCtx (C : Ctx) (N : List Str) (scope : Scope) (cl : List (Str × Addr)) (L : Addr) (s₀ : Shared) (H₀ : Hp) (ex : List Addr) : Ctx where
  X := compCx C.X N scope cl L s₀ H₀ ex
  W := fun _ _ _ _ => False
  cls := C.cls
  CX := C.CX
  un := C.un
  own := PassesOwn.never
  pass := fun _ _ _ _ _ _ _ h => C.cxF _ _ _ _ _ h
  cxF := C.cxF
theorem closure_ok {env : PySem.Env} : ∀ (names : List (Str × NameKind)) (acc : List (Str × Addr)), (∀ y ∈ names, y.2 = .free → ∃ c, env.cells.lookup y.1 = some c) →
    ∃ cl, (forIn names acc fun (x : Str × NameKind) (cs : List (Str × Addr)) => (if (x.2 == .free) = true then do let a ← cellOf env x.1; pure (ForInStep.yield ((x.1, a) :: cs)) else pure (ForInStep.yield cs) : Sem (ForInStep (List (Str × Addr))))) = pure cl ∧
      (∀ x c, cl.lookup x = some c → acc.lookup x = some c ∨ env.cells.lookup x = some c) ∧ (∀ y ∈ names, y.2 = .free → ∃ c, cl.lookup y.1 = some c) ∧ (∀ x c, acc.lookup x = some c → ∃ c', cl.lookup x = some c')
  | [], acc, _ => ⟨acc, rfl, fun _ _ h => .inl h, (fun _ h => nomatch h), fun x c h => ⟨c, h⟩⟩
  | (n, k) :: r, acc, h => by
    simp only [List.forIn_cons]
    by_cases hk : (k == NameKind.free) = true
    · obtain ⟨c, hc⟩ := h (n, k) List.mem_cons_self (by simpa using hk)
      obtain ⟨cl, e, h1, h2, h3⟩ := closure_ok r ((n, c) :: acc) fun y hy => h y (List.mem_cons_of_mem _ hy)
      refine ⟨cl, ?_, fun x d hx => ?_, fun y hy hf => ?_, fun x d hx => ?_⟩
      · simp only [hk, if_true]
        have e2 : cellOf env n = pure c := by unfold cellOf; rw [hc]
        rw [e2]
        exact e
      · rcases h1 x d hx with q | q
        · rw [List.lookup_cons] at q
          cases z : x == n with
          | true =>
            rw [z] at q
            have : x = n := by simpa using z
            subst this
            cases q
            exact .inr hc
          | false => rw [z] at q; exact .inl q
        · exact .inr q
      · rcases List.mem_cons.mp hy with rfl | hy
        · exact h3 n c (by simp [List.lookup_cons])
        · exact h2 y hy hf
      · by_cases z : (x == n) = true
        · exact h3 x c (by simp [List.lookup_cons, z])
        · exact h3 x d (by rw [List.lookup_cons]; simp only [Bool.not_eq_true] at z; rw [z]; exact hx)
    · obtain ⟨cl, e, h1, h2, h3⟩ := closure_ok r acc fun y hy => h y (List.mem_cons_of_mem _ hy)
      refine ⟨cl, ?_, h1, fun y hy hf => ?_, h3⟩
      · simp only [hk]
        exact e
      · rcases List.mem_cons.mp hy with rfl | hy
        · exact absurd (by simpa using hf) hk
        · exact h2 y hy hf
theorem closure_of {env : PySem.Env} {scope : Scope} (h : ∀ y ∈ scope.names, y.2 = .free → ∃ c, env.cells.lookup y.1 = some c) :
    ∃ cl, closureFor scope env = pure cl ∧ (∀ x c, cl.lookup x = some c → env.cells.lookup x = some c) ∧ ∀ y ∈ scope.names, y.2 = .free → ∃ c, cl.lookup y.1 = some c := by
  obtain ⟨cl, e, h1, h2, _⟩ := closure_ok scope.names [] h
  refine ⟨cl, ?_, fun x c hx => ?_, h2⟩
  · unfold closureFor
    exact (congrArg (fun m : Sem (List (Str × Addr)) => m >>= fun s => pure s) e).trans rfl
  · rcases h1 x c hx with q | q
    · simp at q
    · exact q
end
end Sd
set_option Elab.async false
set_option linter.all false
set_option maxRecDepth 100000
namespace Sd
open PySem PySem.Spec PyProof.Rows L2
open Dv (D R RL EE EL EI RI Sl Out SS)
theorem comp_turns {prog : Program} {w : World} {A : Around} {T : Result → Shared → Prop} {s : Shared} {elt target iter : Expr} {ifs : List Expr} {scope : Scope} {pos : Pos} {it acc : Value} {env : PySem.Env} (J : Nat → Shared → Prop)
    (turn : ∀ n s, J n s → wpAny (model prog w) A (pyNext it) (fun r s1 => match r with
      | none => T (.ok .next) s1
      | some v => wpAny (model prog w) A (letOwnedTupleGo target it v) (fun _ s2 => wpAny (model prog w) A (assign target env v) (fun _ s3 =>
          wpAny (model prog w) A (forIn ifs true fun c r => if r = true then do let ok ← isTrue c env (eval c env); pure (ForInStep.yield ok) else pure (ForInStep.yield r)) (fun ok s4 =>
            if ok = true then wpAny (model prog w) A (eval elt env) (fun x s5 => wpAny (model prog w) A (call (.builtin "list.append") [acc, x]) (fun _ s6 => ∃ m, m < n ∧ J m s6) (fun _ _ => False) s5) (fun _ _ => False) s4
            else ∃ m, m < n ∧ J m s4) (fun _ _ => False) s3) (fun _ _ => False) s2) (fun _ _ => False) s1) (fun _ _ => False) s)
    (n : Nat) (h : J n s) : codeAny (model prog w) A (.compLoop (.ListComp elt [⟨target, iter, ifs, 0⟩] scope pos) 0 it acc env) T s := by
  refine codeAny_loop rfl J (fun n s hJ => ?_) n h
  show wpAny _ A ((compTurn (.ListComp elt [⟨target, iter, ifs, 0⟩] scope pos) 0 it acc env).onRaise (fun x => do noteFrame x env; theTreesLotGoes x)) _ _ s
  refine wpAny_noted ?_
  rw [compTurn_list]
  refine wpAny_bind (wpAny_standAt (wpAny_bind (wpAny_mono (turn n s hJ) (fun r s1 h1 => ?_) fun _ _ z => z.elim)))
  cases r with
  | none => exact wpAny_pure h1
  | some v =>
    refine wpAny_bind (wpAny_mono h1 (fun _ s2 h2 => wpAny_bind (wpAny_mono h2 (fun _ s3 h3 => wpAny_bind (wpAny_mono h3 (fun ok s4 h4 => ?_) fun _ _ z => z.elim)) fun _ _ z => z.elim)) fun _ _ z => z.elim)
    cases ok with
    | false => exact wpAny_pure ⟨rfl, h4⟩
    | true =>
      refine wpAny_bind (wpAny_bind (wpAny_mono h4 (fun x s5 h5 => wpAny_bind (wpAny_mono h5 (fun _ s6 h6 => ?_) fun _ _ z => z.elim)) fun _ _ z => z.elim))
      exact wpAny_pure (wpAny_pure ⟨rfl, h6⟩)
theorem relabel_free {env : PySem.Env} : ∀ {names : List (Str × NameKind)} {x : Str}, names.lookup x = some .free →
    (names.map fun (n, k) => if (k == NameKind.free && env.scope.kind == .function && env.kindOf n == some .cell) then (n, NameKind.cell) else (n, k)).lookup x = some .cell ∨
    (names.map fun (n, k) => if (k == NameKind.free && env.scope.kind == .function && env.kindOf n == some .cell) then (n, NameKind.cell) else (n, k)).lookup x = some .free
  | [], _, h => by simp at h
  | (n, k) :: r, x, h => by
    have ih := @relabel_free env r x
    simp only [List.map_cons]
    cases hx : x == n with
    | true =>
      simp only [List.lookup_cons, hx] at h
      cases h
      by_cases hc : (NameKind.free == NameKind.free && env.scope.kind == .function && env.kindOf n == some .cell) = true
      · rw [if_pos hc]; left; simp [List.lookup_cons, hx]
      · rw [if_neg hc]; right; simp [List.lookup_cons, hx]
    | false =>
      simp only [List.lookup_cons, hx] at h
      by_cases hc : (k == NameKind.free && env.scope.kind == .function && env.kindOf n == some .cell) = true
      · rw [if_pos hc]; simp only [List.lookup_cons, hx]; exact ih h
      · rw [if_neg hc]; simp only [List.lookup_cons, hx]; exact ih h
theorem of_relabel {env : PySem.Env} : ∀ {names : List (Str × NameKind)} {x : Str} {kd : NameKind}, (∀ y ∈ names, y.2 ≠ .cell) → kd = .cell ∨ kd = .free →
    (names.map fun (n, k) => if (k == NameKind.free && env.scope.kind == .function && env.kindOf n == some .cell) then (n, NameKind.cell) else (n, k)).lookup x = some kd → (x, NameKind.free) ∈ names
  | [], _, _, _, _, h => by simp at h
  | (n, k) :: r, x, kd, nc, hk, h => by
    have ih := @of_relabel env r x kd (fun y hy => nc y (List.mem_cons_of_mem _ hy)) hk
    simp only [List.map_cons] at h
    cases hx : x == n with
    | true =>
      have e : x = n := by simpa using hx
      subst e
      by_cases hc : (k == NameKind.free && env.scope.kind == .function && env.kindOf x == some .cell) = true
      · have : k = .free := by
          simp only [Bool.and_eq_true, beq_iff_eq] at hc
          exact hc.1.1
        subst this
        exact List.mem_cons_self
      · rw [if_neg hc] at h
        simp only [List.lookup_cons, hx] at h
        have e2 : k = kd := by simpa using h
        subst e2
        rcases hk with rfl | rfl
        · exact absurd rfl (nc (x, .cell) List.mem_cons_self)
        · exact List.mem_cons_self
    | false =>
      refine List.mem_cons_of_mem _ (ih ?_)
      by_cases hc : (k == NameKind.free && env.scope.kind == .function && env.kindOf n == some .cell) = true
      · rw [if_pos hc] at h; simp only [List.lookup_cons, hx] at h; exact h
      · rw [if_neg hc] at h; simp only [List.lookup_cons, hx] at h; exact h
structure CompNames (X : Cx) (scope : Scope) (x : Str) (fs : List Str) (is : List Nat) : Prop where
  kind : scope.kind = .function
  cell : ∀ y ∈ scope.names, y.2 ≠ .cell
  names : ∀ y ∈ scope.names, y.2 = .local → scope.names.lookup y.1 = some .local
  tgt : scope.names.lookup x = some .local
  nd : (x :: fs).Nodup
  free : ∀ y ∈ scope.names, y.2 = .free → X.env.kindOf y.1 = some .cell ∨ X.env.kindOf y.1 = some .free
  fsf : ∀ y ∈ fs, scope.names.lookup y = some .free
  len : is.length = fs.length
  at' : ∀ (j : Nat) (y : Str), fs[j]? = some y → ∃ i, is[j]? = some i ∧ X.N[i]? = some y
theorem mem_lookup {α β : Type} [BEq α] [LawfulBEq α] : ∀ {l : List (α × β)} {x : α} {y : β}, l.lookup x = some y → (x, y) ∈ l
  | [], _, _, h => by simp at h
  | (a, b) :: r, x, y, h => by
    rw [List.lookup_cons] at h
    cases hx : x == a with
    | true =>
      rw [hx] at h
      have e : x = a := by simpa using hx
      subst e
      cases h
      exact List.mem_cons_self
    | false => rw [hx] at h; exact List.mem_cons_of_mem _ (mem_lookup h)
def STs (C : Ctx) (ifs : List Expr) (f : EE) : Prop :=
  ∃ t : TT, (∀ (pins : List (Addr × Obj)) (s : Shared) (σ : St) (H : Hp) (Q : Bool → Hp → Prop), Inv C.X pins σ H s → t σ H Q →
    wpAny (model C.X.prog C.X.w) C.X.A (forIn ifs true fun c r => if r = true then do let ok ← isTrue c C.X.env (eval c C.X.env); pure (ForInStep.yield ok) else pure (ForInStep.yield r)) (TP C.X pins σ Q) C.X.xe s) ∧ TakC C t f
theorem ts_nil {C : Ctx} : STs C [] (Dv.eBl true) :=
  ⟨fun _ H Q => Q true H, fun pins s σ H Q I h => wpAny_tests_nil ⟨H, I, h⟩, fun σ H Hv ρ Q e s q => by
    obtain ⟨b, e1, q⟩ := q.now (v := .bl true) s rp_bl rfl
    cases e1
    exact q⟩
theorem ts_one {C : Ctx} {c : Expr} {f : EE} (h : SC C c f) : STs C [c] f := by
  obtain ⟨t, p, q⟩ := h
  exact ⟨t, fun pins s σ H Q I h => wpAny_tests_one (p pins s σ H Q I h), q⟩
theorem hok_track {P : Program} {w : World} {H : Hp} {h : Heap} {a : Addr} {o : HO} (x : HOk P w H h) (hn : H a = none) (new : ObjOk P w (upd H a o) h a o) : HOk P w (upd H a o) h := fun b u e => by
  by_cases hb : b = a
  · subst hb; rw [upd_same] at e; cases e; exact new
  · rw [upd_ne hb] at e
    exact (x b u e).stay (fun c v _ q => q) (fun c q => by rw [upd_ne (ne_of_none q hn)]; exact q) fun c xs q => by rw [upd_ne (ne_of_none q hn)]; exact q
theorem hok_but {P : Program} {w : World} {H : Hp} {h h' : Heap} {a : Addr} (x : HOk P w H h) (hn : H a = none) (k : ∀ b o, b ≠ a → h.get? b = some o → h'.get? b = some o) : HOk P w H h' := fun b u e => by
  refine (x b u e).stay (fun c v hc q => k c v ?_ q) (fun c q => q) fun c xs q => q
  rcases hc with rfl | hc
  · exact ne_of_none e hn
  · exact ne_of_none hc hn
end Sd
set_option Elab.async false
set_option linter.all false
set_option maxRecDepth 100000
namespace Sd
open PySem PySem.Spec PyProof.Rows L2
open Dv (D R RL EE EL EI RI Sl Out SS)
section
variable {C : Ctx}
theorem pick_get {ρ : Dv.Env} {is : List Nat} {j : Nat} {d : D} (h : (Dv.pick ρ is)[j]? = some (some d)) : ∃ i, is[j]? = some i ∧ ρ[i]? = some (some d) := by
  unfold Dv.pick at h
  rw [List.getElem?_map] at h
  cases q : is[j]? with
  | none => rw [q] at h; cases h
  | some i =>
    rw [q] at h
    have h' : (ρ[i]?).getD none = some d := Option.some.inj h
    refine ⟨i, rfl, ?_⟩
    cases z : ρ[i]? with
    | none => rw [z] at h'; cases h'
    | some o => rw [z] at h'; exact congrArg some h'
def freeV (σ : St) (is : List Nat) : St := is.map fun i => (σ[i]?).getD none
theorem freeV_get {σ : St} {is : List Nat} {j i : Nat} {v : V} (hi : is[j]? = some i) (h : σ[i]? = some (some v)) : (freeV σ is)[j]? = some (some v) := by
  unfold freeV
  rw [List.getElem?_map, hi]
  show some ((σ[i]?).getD none) = _
  rw [h]
  rfl
theorem of_freeV {σ : St} {is : List Nat} {j : Nat} {v : V} (h : (freeV σ is)[j]? = some (some v)) : ∃ i, is[j]? = some i ∧ σ[i]? = some (some v) := by
  unfold freeV at h
  rw [List.getElem?_map] at h
  cases q : is[j]? with
  | none => rw [q] at h; cases h
  | some i =>
    rw [q] at h
    have h' : (σ[i]?).getD none = some v := Option.some.inj h
    refine ⟨i, rfl, ?_⟩
    cases z : σ[i]? with
    | none => rw [z] at h'; cases h'
    | some o => rw [z] at h'; exact congrArg some h'
theorem env_comp {K : PySem.W.Frag} {Hv : Hp} {ρ : Dv.Env} {σ : St} {is : List Nat} {d : D} {v : V} (e : EnvR K Hv ρ σ) (r : Rp K Hv d v) : EnvR K Hv (some d :: Dv.pick ρ is) (some v :: freeV σ is) := fun j x h => by
  cases j with
  | zero => cases h; exact ⟨v, rfl, r⟩
  | succ j =>
    obtain ⟨i, h1, h2⟩ := pick_get (show (Dv.pick ρ is)[j]? = some (some x) from h)
    obtain ⟨u, h3, h4⟩ := e i x h2
    exact ⟨u, freeV_get h1 h3, h4⟩
theorem comp_cxok {X : Cx} {pins : List (Addr × Obj)} {σ : St} {H1 : Hp} {s2 : Shared} {scope : Scope} {x : Str} {fs : List Str} {is : List Nat} {cl : List (Str × Addr)} {fp : List Addr} {L : Addr} (I : Inv X pins σ H1 s2) (S : CompNames X scope x fs is)
    (clsub : ∀ x c, cl.lookup x = some c → X.env.cells.lookup x = some c) (clhas : ∀ y ∈ scope.names, y.2 = .free → ∃ c, cl.lookup y.1 = some c) (f2 : ∀ b ∈ fp, FpOk X pins H1 b) (fin : ∀ b ∈ fp, b < s2.heap.objs.size) (hL : s2.heap.objs.size ≤ L) :
    (compCx X (x :: fs) scope cl L s2 H1 fp).Ok := by
  refine ⟨I.ok.mod, S.kind, I.ok.glob, I.ok.blt, hL, fun y z c h1 h2 => I.ok.inj y z c (clsub y c h1) (clsub z c h2), fun y hy => ?_, fun y c h => (by cases h), I.ok.hd, I.ok.frames, .inl rfl, fun b hb => ⟨?_, fun y c h => ?_⟩, I.bs, Nat.le_trans I.ok.bsz I.sz, fun b o e hb => ?_, fun b hb hf => ?_, I.stack, I.stkFree⟩
  · have : (y, NameKind.free) ∈ scope.names := by
      rcases hy with hy | hy
      · exact of_relabel (env := X.env) S.cell (.inl rfl) hy
      · exact of_relabel (env := X.env) S.cell (.inr rfl) hy
    exact clhas _ this rfl
  · exact Nat.ne_of_lt (Nat.lt_of_lt_of_le (fin b hb) hL)
  · exact (f2 b hb).2.2.2.2.1 y c (clsub y c h)
  · obtain ⟨_, _, _, h4, _⟩ := f2 b hb
    rcases h4 with h4 | h4
    · exact I.ok.noex b o e h4
    · exact absurd (Heap.lt_size (I.ok.bs b o e).1) (Nat.not_lt.mpr h4)
  · obtain ⟨_, h2, h3, _⟩ := f2 b hb
    rcases List.mem_cons.mp (I.stkSub b hf) with e | e
    · exact h2 e
    · exact h3 e
theorem comp_inv {X : Cx} {pins : List (Addr × Obj)} {σ : St} {H1 : Hp} {s2 : Shared} {scope : Scope} {x : Str} {fs : List Str} {is : List Nat} {cl : List (Str × Addr)} {fp : List Addr} {L : Addr} {h1 : Heap} {t1 : Nat} {m : Str → Option Value} (I : Inv X pins σ H1 s2) (S : CompNames X scope x fs is)
    (clsub : ∀ x c, cl.lookup x = some c → X.env.cells.lookup x = some c) (clhas : ∀ y ∈ scope.names, y.2 = .free → ∃ c, cl.lookup y.1 = some c) (f2 : ∀ b ∈ fp, FpOk X pins H1 b) (fin : ∀ b ∈ fp, b < s2.heap.objs.size) (hL : s2.heap.objs.size ≤ L)
    (old : ∀ b o, s2.heap.get? b = some o → h1.get? b = some o) (hn : h1.Ns L m) : Inv (compCx X (x :: fs) scope cl L s2 H1 fp) [] (none :: freeV σ is) H1 { s2 with heap := h1, toks := t1 } := by
  refine ⟨comp_cxok I S clsub clhas f2 fin hL, rfl, I.bare, Un.kept old, ⟨m, hn, fun i y v e1 e2 e3 => ?_⟩, fun y c e => ?_, I.hok.fresh hL, fun y c e => I.freeC y c (clsub y c e), fun p hp => absurd (show p ∈ ([] : List (Addr × Obj)) from hp) (by simp), I.hok.kept old, ?_⟩
  · cases i with
    | zero => cases e2
    | succ j =>
      have e1' : fs[j]? = some y := e1
      obtain ⟨i, h1', h2'⟩ := of_freeV (show (freeV σ is)[j]? = some (some v) from e2)
      obtain ⟨i', h3, h4⟩ := S.at' j y e1'
      rw [h1'] at h3
      cases h3
      have hfr := S.fsf y (List.mem_of_getElem? e1')
      have hk := S.free (y, .free) (mem_lookup hfr) rfl
      obtain ⟨mm, hm, hl⟩ := I.loc
      have vis : Vis X.env.scope y := by
        rcases hk with k | k
        · exact .inr (.inl k)
        · exact .inr (.inr k)
      obtain ⟨u, r, l⟩ := hl i y v h4 h2' vis
      refine ⟨u, r, ?_⟩
      rcases l with ⟨k, _⟩ | ⟨_, c, hc, hcell⟩
      · have k : X.env.kindOf y = some .local := k
        rcases hk with k' | k' <;> rw [k] at k' <;> cases k'
      · obtain ⟨c', hc'⟩ := clhas (y, .free) (mem_lookup hfr) rfl
        have := clsub y c' hc'
        rw [hc] at this
        cases this
        obtain ⟨oc, hoc, hod⟩ := hcell
        refine .inr ⟨?_, c, hc', oc, old c oc hoc, hod⟩
        exact relabel_free (env := X.env) hfr
  · obtain ⟨v, oc, hoc, hod⟩ := I.cell y c (clsub y c e)
    exact ⟨v, oc, old c oc hoc, hod⟩
  · show (none :: freeV σ is).length = (x :: fs).length
    rw [List.length_cons, List.length_cons]
    unfold freeV
    rw [List.length_map, S.len]
end
end Sd
set_option Elab.async false
set_option linter.all false
set_option maxRecDepth 100000
namespace Sd
open PySem PySem.Spec PyProof.Rows L2
open Dv (D R RL EE EL EI RI Sl Out SS)
theorem ext_merge {Hv1 H1 Hvn Hn Hv' H' : Hp} (x : Ext Hv1 H1 Hvn Hn) (y : Ext Hv1 Hn Hv' H') : ∃ Hvm, Ext Hvn Hn Hvm H' ∧ Same Hv' Hvm := by
  refine ⟨fun b => match Hn b with | none => H' b | some _ => Hvn b, ⟨y.hh, fun b o q => ?_, fun b o q => ?_, fun b o q n => ?_, fun b q => ?_, y.nf⟩, fun b o q => ?_⟩
  · show (match Hn b with | none => H' b | some _ => Hvn b) = some o
    cases z : Hn b with
    | none => rw [x.vh b o q] at z; cases z
    | some _ => exact q
  · have q' : (match Hn b with | none => H' b | some _ => Hvn b) = some o := q
    cases z : Hn b with
    | none => rw [z] at q'; exact q'
    | some u => rw [z] at q'; exact y.hh _ _ (x.vh b o q')
  · have q' : (match Hn b with | none => H' b | some _ => Hvn b) = some o := q
    cases z : Hn b with
    | none => rfl
    | some u => rw [z] at q'; rw [n] at q'; cases q'
  · show (match Hn b with | none => H' b | some _ => Hvn b) = H' b
    rw [q]
  · show (match Hn b with | none => H' b | some _ => Hvn b) = some o
    cases z : Hn b with
    | none => exact y.vh b o q
    | some u =>
      cases z2 : Hv1 b with
      | none => have := y.new b o q z2; rw [z] at this; cases this
      | some u' =>
        have h1 := y.vv b u' z2
        rw [q] at h1
        cases h1
        exact x.vv b o z2
section
variable {C : Ctx} {elt iter : Expr} {x : Str} {px pos : Pos} {ifs : List Expr} {scope : Scope} {fs : List Str} {is : List Nat} {fi : EI} {fe fc : EE}
structure CompAt (C : Ctx) (x : Str) (fs : List Str) (is : List Nat) (scope : Scope) (cl : List (Str × Addr)) (L Da : Addr) (s2 : Shared) (H1 Hv1 : Hp) (fp : List Addr) (tn : Nat → Heap → Prop) (σ : St) (ds : List D) (i : Nat) (o : Option V) (vs : List V) (xs : List D) (f1 : Bool) (Hn Hvn : Hp) (s : Shared) : Prop where
  le : i ≤ ds.length
  inv : Inv (compCx C.X (x :: fs) scope cl L s2 H1 fp) [] (o :: freeV σ is) Hn s
  at_ : tn i s.heap
  fpn : ∀ b ∈ fp, Hn b = none
  obj : ∃ (its : List Value) (ne : Nat), s.heap.get? Da = some { cls := .type "list", data := .seq its.toArray ne } ∧ Vals vs its
  dn : Hn Da = none
  few : vs.length ≤ i
  ext : Ext Hv1 H1 Hvn Hn
  rp : RpL C.X.K Hvn xs vs
  fr : f1 = true → RpL [] (Hnew H1 Hn) xs vs
theorem comp_end {cl : List (Str × Addr)} {L Da : Addr} {s2 : Shared} {H1 : Hp} {fp : List Addr} {σ : St} {pins : List (Addr × Obj)} {its : List Value} {ne : Nat} {vs : List V} {Hn : Hp} {s1 : Shared} {o : Option V} {h' : Heap}
    (I2 : Inv C.X pins σ H1 s2) (f2 : ∀ b ∈ fp, FpOk C.X pins H1 b) (eD : Da = s2.heap.objs.size) (eL : L = s2.heap.objs.size + 1)
    (I : Inv (compCx C.X (x :: fs) scope cl L s2 H1 fp) [] (o :: freeV σ is) Hn s1) (obj : s1.heap.get? Da = some { cls := .type "list", data := .seq its.toArray ne }) (rv : Vals vs its) (dn : Hn Da = none) (few : vs.length ≤ sizeLine)
    (sb : ∀ b, b ≠ L → h'.get? b = s1.heap.get? b) : Inv C.X pins σ (upd Hn Da (.lst vs)) { s1 with heap := h' } := by
  have lt : ∀ b o, s2.heap.get? b = some o → b ≠ Da ∧ b ≠ L := fun b o e => by
    have hlt := Heap.lt_size e
    rw [eD, eL]
    exact ⟨Nat.ne_of_lt hlt, Nat.ne_of_lt (Nat.lt_succ_of_lt hlt)⟩
  have hDL : Da ≠ L := by rw [eD, eL]; exact Nat.ne_of_lt (Nat.lt_succ_self _)
  have kp : ∀ b o, b ≠ L → s1.heap.get? b = some o → h'.get? b = some o := fun b o hb e => (sb b hb).trans e
  refine I2.call' (s' := { s1 with heap := h' }) (ch := fp) I.os ⟨fun b ob e n hb hx => ?_, fun b ob e n hb hx => ?_, fun b ob e n hx => ?_, fun b ob e hx => ?_, fun b us e => ?_, fun b ob u e => ?_, fun b ps e => ?_⟩ ?_ I.bare fun b hb => ⟨(f2 b hb).2.2.2.1, (f2 b hb).2.1, (f2 b hb).2.2.2.2.1, (f2 b hb).2.2.2.2.2⟩
  · exact kp b ob (lt b ob e).2 (I.base.keep b ob e n hb hx)
  · obtain ⟨sl, h1⟩ := I.base.slot b ob e n hb hx
    exact ⟨sl, kp b _ (lt b ob e).2 h1⟩
  · rw [upd_ne (lt b ob e).1]; exact I.base.free b ob e n hx
  · obtain ⟨o', h1⟩ := I.base.there b ob e hx
    exact ⟨o', kp b _ (lt b ob e).2 h1⟩
  · have h1 := I.base.tups b us e
    rw [upd_ne (ne_of_none h1 dn)]; exact h1
  · have h1 := I.base.frzs b ob u e
    rw [upd_ne (ne_of_none h1 dn)]; exact h1
  · obtain ⟨more, h1⟩ := I.base.tbls b ps e
    exact ⟨more, by rw [upd_ne (ne_of_none h1 dn)]; exact h1⟩
  · exact hok_track (hok_but I.hok I.free kp) dn ⟨few, its, ne, rv, kp Da _ hDL obj⟩
theorem compGo_cons {elt cond : EE} {free : Dv.Env} {d : D} {r : List D} {xs : List D} {f : Bool} (h : Dv.compGo elt cond free (d :: r) = .ok xs f) :
    (∃ g x fx xs' f', cond (some d :: free) = .ok (.bl true) g ∧ elt (some d :: free) = .ok x fx ∧ Dv.compGo elt cond free r = .ok xs' f' ∧ xs = x :: xs' ∧ f = (fx && f')) ∨
    (∃ g, cond (some d :: free) = .ok (.bl false) g ∧ Dv.compGo elt cond free r = .ok xs f) := by
  unfold Dv.compGo at h
  cases hc : cond (some d :: free) with
  | bad => simp only [hc] at h; cases h
  | exc c => simp only [hc] at h; cases h
  | ok b g =>
    cases b with
    | bl b =>
      cases b with
      | true =>
        simp only [hc] at h
        cases he : elt (some d :: free) with
        | bad => simp only [he] at h; cases h
        | exc c => simp only [he] at h; cases h
        | ok x fx =>
          simp only [he] at h
          cases hr : Dv.compGo elt cond free r with
          | bad => simp only [hr] at h; cases h
          | exc c => simp only [hr] at h; cases h
          | ok xs' f' =>
            simp only [hr] at h
            cases h
            exact .inl ⟨g, x, fx, xs', f', rfl, rfl, rfl, rfl, rfl⟩
      | false => simp only [hc] at h; exact .inr ⟨g, rfl, h⟩
    | _ => simp only [hc] at h; cases h
def CompFin (C : Ctx) (pins : List (Addr × Obj)) (σ : St) (Q : VK) (Da L : Addr) (s5 : Shared) : Prop :=
  (∃ m, s5.heap.Ns L m) ∧ L ≠ C.X.env.locals ∧ (∀ x c, C.X.env.cells.lookup x = some c → c ≠ L) ∧ C.X.s₀.heap.objs.size ≤ L ∧ (∀ p ∈ C.X.pn ++ pins, p.1 ≠ L) ∧
    ∃ H', H' L = none ∧ Q (.ref Da) H' ∧ ∀ h', (∀ b, b ≠ L → h'.get? b = s5.heap.get? b) → Inv C.X pins σ H' { s5 with heap := h' }
theorem comp_core {pins : List (Addr × Obj)} {s : Shared} {σ : St} {H Hv : Hp} {ρ : Dv.Env} {Q : VK} {use : Option (Value → Sem Unit)} {Q' : Value → Shared → Prop} {pos' : Pos} (hclm : C.X.calm = true) (S : CompNames C.X scope x fs is) (hi : SI C (.Name x px) iter fi) (he : ∀ cl L s₀ H₀ ex, SE (compCtx C (x :: fs) scope cl L s₀ H₀ ex) elt fe) (hc : ∀ cl L s₀ H₀ ex, STs (compCtx C (x :: fs) scope cl L s₀ H₀ ex) ifs fc)
    (hs : ∀ v, foldedSetIterable iter C.X.env v = pure v) (I : Inv C.X pins σ H s) (er : EnvR C.X.K Hv ρ σ) (sv : Same Hv H) (ok : Ok C.X.K Hv H (C.W σ) C.cls (Dv.eComp fe fc is fi ρ) Q)
    (hfin : ∀ Da L s5, CompFin C pins σ Q Da L s5 → compPost (model C.X.prog C.X.w) C.X.A C.X.xe use Q' (.ref Da) L (.ok .next) s5) :
    wpAny (model C.X.prog C.X.w) C.X.A (comprehension (.ListComp elt [⟨.Name x px, iter, ifs, 0⟩] scope pos) scope C.X.env pos' (newList []) false (eval iter C.X.env) use) Q' C.X.xe s := by
  obtain ⟨wi, pi, qi⟩ := hi
  obtain ⟨cl, hcl, clsub, clhas⟩ := closure_of (env := C.X.env) (scope := scope) fun y hy hf => I.ok.has y.1 (S.free y hy hf)
  have h0 : wi σ H (fun J H1 => ∃ Hv1 ds xs fr, Ext Hv H Hv1 H1 ∧ Wlk C.X.K J Hv1 ds ∧ ds.length ≤ Dv.mx ∧ Dv.compGo fe fc (Dv.pick ρ is) ds = .ok xs fr ∧ Ok C.X.K Hv H (C.W σ) C.cls (.ok (.lst xs) fr) Q) := by
    refine qi σ H Hv ρ _ er sv ?_
    unfold Dv.eComp at ok
    cases hf : fi ρ with
    | bad => simp only [hf] at ok; exact ok
    | exc c => simp only [hf] at ok; exact ok
    | ok ds g =>
      simp only [hf] at ok
      by_cases hz : ds.length ≤ Dv.mx
      · simp only [hz, if_true] at ok
        cases hgo : Dv.compGo fe fc (Dv.pick ρ is) ds with
        | bad => simp only [hgo] at ok; exact (show False from ok).elim
        | exc c => simp only [hgo] at ok; exact (show False from ok).elim
        | ok xs fr =>
          simp only [hgo] at ok
          exact fun J Hv1 H1 x1 wl => ⟨Hv1, ds, xs, fr, x1, wl, hz, hgo, ok⟩
      · simp only [hz, if_false] at ok
        exact (show False from ok).elim
  refine wpAny_comprehension_free (use := use) rfl hs hcl S.kind S.names (wpAny_mono (pi pins s σ H _ I h0) (fun v s1 h1 => wpAny_mono h1 (fun itv s2 h2 => ?_) fun _ _ z => z) fun _ _ z => z)
  obtain ⟨it, fp, tn, J, H1, rfl, I2, T, st2, f2, Hv1, ds, xs, fr, x1, wl, hz, hgo, okE⟩ := h2
  clear ok
  have fin : ∀ b ∈ fp, b < s2.heap.objs.size := fun b hb => by
    obtain ⟨o, e, _⟩ := T.obj 0 _ st2 b hb
    exact Heap.lt_size e
  refine wpAny_newObj_type (wpAny_newFunctionEnv S.cell (by intro y hy; simp at hy) (fun h1 hns hsb => ?_) S.kind)
  dsimp only at hns hsb ⊢
  generalize hH2 : s2.heap.push { cls := .type "list", dict := none, data := .seq ([] : List Value).toArray } = G2 at hns hsb ⊢
  have hL : G2.objs.size = s2.heap.objs.size + 1 := by rw [← hH2, Heap.size_push]
  generalize eL : G2.objs.size = L at hns hsb ⊢
  rw [eL] at hL
  have old : ∀ b o, s2.heap.get? b = some o → h1.get? b = some o := fun b o e => by
    have hlt := Heap.lt_size e
    exact hsb.extBut b o (by rw [hL]; exact Nat.ne_of_lt (Nat.lt_succ_of_lt hlt)) (Heap.get?_push_of_some _ (hH2 ▸ Heap.get?_push_of_some _ e))
  have hacc : h1.get? s2.heap.objs.size = some { cls := .type "list", data := .seq ([] : List Value).toArray 0 } := hsb.extBut _ _ (by rw [hL]; exact Nat.ne_of_lt (Nat.lt_succ_self _)) (Heap.get?_push_of_some _ (hH2 ▸ Heap.get?_push_size _ rfl))
  generalize eD : s2.heap.objs.size = Da at hacc hL ⊢
  have hDfp : Da ∉ fp := fun hb => by
    have := fin Da hb
    rw [eD] at this
    exact Nat.lt_irrefl _ this
  have hDL : Da ≠ L := by rw [hL]; exact Nat.ne_of_lt (Nat.lt_succ_self _)
  have hsL : s2.heap.objs.size ≤ L := by rw [hL, eD]; exact Nat.le_succ _
  have hsD : s2.heap.objs.size ≤ Da := Nat.le_of_eq eD
  obtain ⟨te, pe, qe⟩ := he cl L s2 H1 fp
  obtain ⟨tt, pt, qt⟩ := hc cl L s2 H1 fp
  have hDfs : Da ∉ frs C.X.stack := fun hb => by
    obtain ⟨_, ob, hob, _⟩ := I2.stack.mem hb
    have := Heap.lt_size hob
    rw [eD] at this
    exact Nat.lt_irrefl _ this
  have hcalm : (compCx C.X (x :: fs) scope cl L s2 H1 fp).calm = true := hclm
  have start : CompAt C x fs is scope cl L Da s2 H1 Hv1 fp tn σ ds 0 none [] [] true H1 Hv1 { s2 with heap := h1, toks := s2.toks + ([] : List (Str × Value)).length } :=
    ⟨Nat.zero_le _, comp_inv I2 S clsub clhas f2 fin hsL old hns, T.keep 0 _ _ st2 fun b hb o e => old b o e, fun b hb => (f2 b hb).1, ⟨[], 0, hacc, .nil⟩, I2.hok.fresh hsD, Nat.le_refl _, .refl x1.vh, .nil, fun _ => .nil⟩
  have loop : ∀ (T0 : Result → Shared → Prop) (s4 : Shared), (∀ s', CompFin C pins σ Q Da L s' → T0 (.ok .next) s') → CompAt C x fs is scope cl L Da s2 H1 Hv1 fp tn σ ds 0 none [] [] true H1 Hv1 s4 →
      codeAny (model C.X.prog C.X.w) C.X.A (.compLoop (.ListComp elt [⟨.Name x px, iter, ifs, 0⟩] scope pos) 0 (.ref it) (.ref Da) (compEnvC scope cl L C.X.env)) T0 s4 := by
    intro T0 s4 hT hst
    refine comp_turns (fun n s => ∃ i o vs xs1 f1 xs2 fr2 Hn Hvn, n = ds.length - i ∧ CompAt C x fs is scope cl L Da s2 H1 Hv1 fp tn σ ds i o vs xs1 f1 Hn Hvn s ∧ Dv.compGo fe fc (Dv.pick ρ is) (ds.drop i) = .ok xs2 fr2 ∧ xs = xs1 ++ xs2 ∧ fr = (f1 && fr2)) ?_ ds.length ⟨0, none, [], [], true, xs, fr, H1, Hv1, rfl, hst, hgo, rfl, by simp⟩
    rintro n s ⟨i, o, vs, xs1, f1, xs2, fr2, Hn, Hvn, rfl, A, hg2, hxs, hfr⟩
    obtain ⟨its, ne, hob, rv⟩ := A.obj
    have I1 : Inv (compCx C.X (x :: fs) scope cl L s2 H1 fp) [(Da, { cls := .type "list", data := .seq its.toArray ne })] (o :: freeV σ is) Hn s := A.inv.pins_of fun p hp => by
      have e : p = (Da, ({ cls := .type "list", data := .seq its.toArray ne } : Obj)) := by simpa using hp
      subst e
      exact ⟨hob, A.dn, hDL, hDfs, fun v z => by cases z⟩
    have hfp : ∀ Hx : Hp, (∀ b ∈ fp, Hx b = none) → ∀ b ∈ fp, FpOk (compCx C.X (x :: fs) scope cl L s2 H1 fp) [(Da, { cls := .type "list", data := .seq its.toArray ne })] Hx b := fun Hx hx b hb => by
      refine ⟨hx b hb, ?_, fun hf => ?_, .inl hb, fun y c e => (f2 b hb).2.2.2.2.1 y c (clsub y c e), fun p hp => ?_⟩
      · have := fin b hb
        exact fun z => by
          have z' : b = L := z
          rw [z'] at this
          exact absurd this (Nat.not_lt.mpr hsL)
      · obtain ⟨_, ob, hob', _⟩ := I2.stack.mem hf
        rcases List.mem_cons.mp (I2.stkSub b hf) with e | e
        · exact (f2 b hb).2.1 e
        · exact (f2 b hb).2.2.1 e
      · have e : p = (Da, ({ cls := .type "list", data := .seq its.toArray ne } : Obj)) := by simpa using (show p ∈ [] ++ [(Da, ({ cls := .type "list", data := .seq its.toArray ne } : Obj))] from hp)
        subst e
        exact fun z => hDfp (by rw [show Da = b from z]; exact hb)
    obtain ⟨w1, w2⟩ := wl i Hn (A.ext.vv.trans A.ext.vh)
    by_cases hlt : i < ds.length
    · have hd : ds[i]? = some ds[i] := by simp [hlt]
      have e1 : ds.drop i = ds[i] :: ds.drop (i + 1) := List.drop_eq_getElem_cons hlt
      rw [e1] at hg2
      generalize ds[i] = d at hd e1 hg2
      obtain ⟨go, yl⟩ := w1 d hd
      refine wpAny_mono (T.item (compCx C.X (x :: fs) scope cl L s2 H1 fp) rfl rfl rfl hcalm i _ s _ Hn (fun _ _ => False) I1 (hfp Hn A.fpn) A.at_ go) (fun r s5 h5 => ?_) fun _ _ z => z
      obtain ⟨u, rfl, h5⟩ := h5
      refine wpAny_mono h5 (fun _ s6 h6 => ?_) fun _ _ z => z
      obtain ⟨xv, H6, I6, ru, y6, tn6, fr6⟩ := h6
      obtain ⟨Hv6, x6, rp6⟩ := yl xv H6 y6
      obtain ⟨Hvm, xm, sm⟩ := ext_merge A.ext x6
      have I6p := I6.pinned (fp := fp) (hfp H6 fr6) (T.obj _ _ tn6)
      have dn6 : H6 Da = none := (I6.pin (Da, { cls := .type "list", data := .seq its.toArray ne }) (List.mem_append_right _ (by simp))).2.1
      have hg := pg_name (X := compCx C.X (x :: fs) scope cl L s2 H1 fp) (pos := px) (i := 0) (x := x) S.nd rfl (.inl (lookup_relabel_local S.tgt)) (.inr (lookup_relabel_local S.tgt))
      refine wpAny_mono (hg _ s6 _ H6 xv u (fun σ' H' => σ' = some xv :: freeV σ is ∧ H' = H6) I6p ru ⟨rfl, rfl⟩) (fun _ s7 h7 => ?_) fun _ _ z => z
      obtain ⟨σ7, H7, I7, e7, e7'⟩ := h7
      subst e7 e7'
      have er7 : EnvR C.X.K Hvm (some d :: Dv.pick ρ is) (some xv :: freeV σ is) := env_comp (er.same ((x1.vv.trans A.ext.vv).trans xm.vv)) (rp6.same sm)
      have back : ∀ {s' : Shared} {H' : Hp} {σ' : St}, Inv (compCx C.X (x :: fs) scope cl L s2 H1 fp) ([(Da, { cls := .type "list", data := .seq its.toArray ne })] ++ pinsAt fp s6.heap) σ' H' s' → tn (i + 1) s'.heap ∧ (∀ b ∈ fp, H' b = none) ∧ s'.heap.get? Da = some { cls := .type "list", data := .seq its.toArray ne } ∧ H' Da = none := fun {s' H' σ'} I' => by
        refine ⟨T.keep _ _ _ tn6 fun b hb o e => (I'.pin (b, o) (List.mem_append_right _ (List.mem_append_right _ (mem_pinsAt hb e)))).1, fun b hb => ?_, ?_, ?_⟩
        · obtain ⟨o, e, _⟩ := T.obj _ _ tn6 b hb
          exact (I'.pin (b, o) (List.mem_append_right _ (List.mem_append_right _ (mem_pinsAt hb e)))).2.1
        · exact (I'.pin (Da, { cls := .type "list", data := .seq its.toArray ne }) (List.mem_append_right _ (List.mem_append_left _ (by simp)))).1
        · exact (I'.pin (Da, { cls := .type "list", data := .seq its.toArray ne }) (List.mem_append_right _ (List.mem_append_left _ (by simp)))).2.1
      rcases compGo_cons hg2 with ⟨g, xd, fx, xs', f', hcond, helt, hrest, exs, ef⟩ | ⟨g, hcond, hrest⟩
      · -- the item is taken
        refine wpAny_mono (pt _ s7 _ H7 (fun b H' => b = true ∧ ∃ Hvq, Ext Hvm H7 Hvq H') I7 (qt _ H7 Hvm (some d :: Dv.pick ρ is) _ er7 xm.vh ?_)) (fun okb s8 h8 => ?_) fun _ _ z => z
        · rw [hcond]
          intro v Hv' H' xx rpb _
          unfold Rp at rpb
          exact ⟨true, rpb, rfl, Hv', xx⟩
        obtain ⟨H8, I8, rfl, Hv8, x8⟩ := h8
        rw [if_pos rfl]
        refine wpAny_mono (pe _ s8 _ H8 (fun v H' => ∃ Hv', Ext Hv8 H8 Hv' H' ∧ Rp C.X.K Hv' xd v ∧ (fx = true → Rp [] (Hnew H8 H') xd v)) I8 (qe _ H8 Hv8 (some d :: Dv.pick ρ is) _ (er7.same x8.vv) x8.vh ?_)) (fun uv s9 h9 => ?_) fun _ _ z => z
        · show Ok C.X.K Hv8 H8 _ C.cls (fe (some d :: Dv.pick ρ is)) _
          rw [helt]
          exact fun v Hv' H' xx rpb nn => ⟨Hv', xx, rpb, nn⟩
        obtain ⟨v9, H9, I9, r9, Hv9, x9, rp9, n9⟩ := h9
        obtain ⟨tn9, fpn9, ob9, dn9⟩ := back I9
        have hlen := rv.length
        refine call_meets F.slot_list_append ⟨_, ob9, rfl⟩ F.entry_list_append (F.args_list_append_2 _ _) (PySem.list_append Da its.toArray ne uv (by rw [List.size_toArray]; have := A.few; have := mx_line hz; omega)) ⟨ob9, ?_⟩
        refine ⟨ds.length - (i + 1), by omega, i + 1, some xv, vs ++ [v9], xs1 ++ [xd], f1 && fx, xs', f', H9, Hv9, rfl, ⟨hlt, ?_, ?_, fpn9, ?_, dn9, ?_, ?_, ?_, ?_⟩, hrest, by rw [hxs, exs]; simp, by rw [hfr, ef, Bool.and_assoc]⟩
        · have I9' : Inv (compCx C.X (x :: fs) scope cl L s2 H1 fp) [] (some xv :: freeV σ is) H9 s9 := I9.pins_of fun p hp => absurd hp (by simp)
          exact I9'.turned (it := Da) (fun b ob hb e => (Heap.get?_update_other _ _ (Ne.symm hb)).trans e) dn9 hDL (.inr hsD) (fun y c e z => by
            obtain ⟨w', oc, hoc, _⟩ := I2.cell y c (clsub y c e)
            have := Heap.lt_size hoc
            rw [z] at this
            exact absurd this (Nat.not_lt.mpr hsD)) (fun p hp => absurd (show p ∈ ([] : List (Addr × Obj)) from hp) (by simp))
        · exact T.keep _ _ _ tn9 fun b hb ob e => (Heap.get?_update_other _ _ (fun z => hDfp (by rw [z]; exact hb))).trans e
        · have q := PySem.IsL.update ob9 (fun a => a.push uv)
          exact ⟨its ++ [uv], _, by simpa using q, rv.append (.cons r9 .nil)⟩
        · rw [List.length_append, List.length_singleton]; have := A.few; omega
        · exact A.ext.trans (xm.trans (x8.trans x9))
        · exact (A.rp.same ((xm.vv.trans x8.vv).trans x9.vv)).append (.cons rp9 .nil)
        · intro z
          rw [Bool.and_eq_true] at z
          refine ((A.fr z.1).same (Hnew.mono (.refl _) ((xm.hh.trans x8.hh).trans x9.hh))).append (.cons ((n9 z.2).same (Hnew.mono ((A.ext.hh.trans xm.hh).trans x8.hh) (.refl _))) .nil)
      · -- the item is left out
        refine wpAny_mono (pt _ s7 _ H7 (fun b H' => b = false ∧ ∃ Hvq, Ext Hvm H7 Hvq H') I7 (qt _ H7 Hvm (some d :: Dv.pick ρ is) _ er7 xm.vh ?_)) (fun okb s8 h8 => ?_) fun _ _ z => z
        · rw [hcond]
          intro v Hv' H' xx rpb _
          unfold Rp at rpb
          exact ⟨false, rpb, rfl, Hv', xx⟩
        obtain ⟨H8, I8, rfl, Hv8, x8⟩ := h8
        rw [if_neg Bool.false_ne_true]
        obtain ⟨tn8, fpn8, ob8, dn8⟩ := back I8
        refine ⟨ds.length - (i + 1), by omega, i + 1, some xv, vs, xs1, f1, xs2, fr2, H8, Hv8, rfl, ⟨hlt, I8.pins_of fun p hp => absurd hp (by simp), tn8, fpn8, ⟨its, ne, ob8, rv⟩, dn8, Nat.le_succ_of_le A.few, A.ext.trans (xm.trans x8), A.rp.same (xm.vv.trans x8.vv), fun z => (A.fr z).same (Hnew.mono (.refl _) (xm.hh.trans x8.hh))⟩, hrest, hxs, hfr⟩
    · have ei : i = ds.length := Nat.le_antisymm A.le (by omega)
      refine wpAny_mono (T.done (compCx C.X (x :: fs) scope cl L s2 H1 fp) rfl rfl rfl hcalm i _ s _ Hn (fun _ _ => False) I1 (hfp Hn A.fpn) A.at_ (w2 ei)) (fun r s5 h5 => ?_) fun _ _ z => z
      obtain ⟨rfl, I5⟩ := h5
      refine hT s5 ?_
      obtain ⟨m5, hn5, _⟩ := I5.loc
      rw [ei, List.drop_length] at hg2
      cases hg2
      rw [List.append_nil] at hxs
      rw [Bool.and_true] at hfr
      subst hxs hfr
      have ob5 := (I5.pin (Da, { cls := .type "list", data := .seq its.toArray ne }) (List.mem_append_right _ (by simp))).1
      refine ⟨⟨m5, hn5⟩, fun z => absurd I2.lt (by rw [← z]; exact Nat.not_lt.mpr hsL), fun y c e z => ?_, Nat.le_trans I2.sz hsL, fun p hp z => ?_, upd Hn Da (.lst vs), ?_, ?_, fun h' sb => ?_⟩
      · obtain ⟨w', oc, hoc, _⟩ := I2.cell y c e
        exact absurd (Heap.lt_size hoc) (by rw [z]; exact Nat.not_lt.mpr hsL)
      · exact absurd (Heap.lt_size (I2.pin p hp).1) (by rw [z]; exact Nat.not_lt.mpr hsL)
      · rw [upd_ne (Ne.symm hDL)]; exact A.inv.free
      · exact Ok.newL okE (x1.trans A.ext) A.rp (fun z => (A.fr z).same (Hnew.mono x1.hh (.refl _))) Da A.dn
      · exact comp_end I2 f2 eD.symm (by rw [hL, eD]) (I5.pins_of fun p hp => absurd hp (by simp)) ob5 rv A.dn (by have := A.few; have := A.le; have := mx_line hz; omega) sb
  refine codeAny_compStart_list (loop _ _ (fun s' h => hfin Da L s' h) start) ?_
  exact T.self _ 0 _ _ _ start.at_ (loop _ _ (fun s' h => hfin Da L s' h) start)
theorem se_comp (S : CompNames C.X scope x fs is) (hi : SI C (.Name x px) iter fi) (he : ∀ cl L s₀ H₀ ex, SE (compCtx C (x :: fs) scope cl L s₀ H₀ ex) elt fe) (hc : ∀ cl L s₀ H₀ ex, STs (compCtx C (x :: fs) scope cl L s₀ H₀ ex) ifs fc)
    (hs : ∀ v, foldedSetIterable iter C.X.env v = pure v := by intro _; rfl) (hclm : C.X.calm = true := by rfl) : SE C (.ListComp elt [⟨.Name x px, iter, ifs, 0⟩] scope pos) (Dv.eComp fe fc is fi) := by
  refine ⟨fun σ H Q => ∃ Hv ρ, EnvR C.X.K Hv ρ σ ∧ Same Hv H ∧ Ok C.X.K Hv H (C.W σ) C.cls (Dv.eComp fe fc is fi ρ) Q, ?_, fun σ H Hv ρ Q e s q => ⟨Hv, ρ, e, s, q⟩⟩
  intro pins s σ H Q I ⟨Hv, ρ, er, sv, ok⟩
  rw [eval_ListComp]
  refine comp_core (use := none) hclm S hi he hc hs I er sv ok fun Da L s5 h => ?_
  obtain ⟨⟨m, hn⟩, _, _, _, _, H', hL, q, iv⟩ := h
  exact ⟨m, hn, fun h' sb => ⟨.ref Da, H', iv h' fun b hb => sb.2 b hb, rfl, q⟩⟩
end
end Sd
set_option Elab.async false
set_option linter.all false
set_option maxRecDepth 100000
namespace Sd
open PySem PySem.Spec PyProof.Rows L2
open Dv (D R RL EE EL EI RI Sl Out SS)
section
variable {C : Ctx} {a b c e o k : Expr} {es : List Expr} {f g h : EE} {fl : EL} {F G : SS} {pos pos' : Pos} {E : Ends}
theorem cutI_eq (n d : Nat) (o : Option Int) : Dv.cutI n d o = HT.sIx n d o := by cases o <;> rfl
theorem RpL.drop {K : PySem.W.Frag} {H : Hp} : ∀ {ds : List D} {vs : List V} (n : Nat), RpL K H ds vs → RpL K H (ds.drop n) (vs.drop n)
  | _, _, 0, h => h
  | [], _, n + 1, h => by unfold RpL at h; subst h; exact .nil
  | d :: r, vs, n + 1, h => by
    unfold RpL at h
    obtain ⟨v, ws, rfl, _, h3⟩ := h
    exact RpL.drop n h3
theorem RpL.take {K : PySem.W.Frag} {H : Hp} : ∀ {ds : List D} {vs : List V} (n : Nat), RpL K H ds vs → RpL K H (ds.take n) (vs.take n)
  | _, _, 0, _ => .nil
  | [], _, n + 1, h => by unfold RpL at h; subst h; exact .nil
  | d :: r, vs, n + 1, h => by
    unfold RpL at h
    obtain ⟨v, ws, rfl, h2, h3⟩ := h
    exact .cons h2 (RpL.take n h3)
theorem RpL.cut {K : PySem.W.Frag} {H : Hp} {ds : List D} {vs : List V} (h : RpL K H ds vs) (lo hi : Option Int) : RpL K H (Dv.cutL ds lo hi) (cutV vs lo hi) := by
  unfold Dv.cutL cutV
  rw [h.length, cutI_eq, cutI_eq]
  exact (h.drop _).take _
def SO (C : Ctx) (e : Option Expr) (f : Option EE) : Prop :=
  ∃ t : TO, PO C.X e t ∧ ∀ σ H Hv ρ (Q : VK) (T : Option Int → Hp → Prop) (k : Option Int → R) Hv1 H1, EnvR C.X.K Hv ρ σ → Ext Hv H Hv1 H1 → Ok C.X.K Hv H (C.W σ) C.cls (Dv.ePart f ρ k) Q →
    (∀ i Hv2 H2, Ext Hv H Hv2 H2 → Ext Hv1 H1 Hv2 H2 → Ok C.X.K Hv H (C.W σ) C.cls (k i) Q → T i H2) → t σ H1 T
theorem so_none : SO C none none := ⟨_, po_none, fun σ H Hv ρ Q T k Hv1 H1 e x q n => n none Hv1 H1 x (.refl x.vh) q⟩
theorem so_some (he : SE C e f) : SO C (some e) (some f) := by
  obtain ⟨t, p, q⟩ := he
  refine ⟨_, po_some p, fun σ H Hv ρ Q T k Hv1 H1 er x w n => ?_⟩
  refine Tak.step q er x w fun v d fr Hv2 H2 hf x2 y2 rp _ w2 => ?_
  cases d with
  | int i =>
    unfold Rp at rp
    exact ⟨i, rp, n (some i) Hv2 H2 x2 y2 w2⟩
  | _ => exact (show False from w2).elim
theorem se_slice {lo hi : Option Expr} {fl fh : Option EE} {p2 : Pos} (he : SE C e f) (hl : SO C lo fl) (hh : SO C hi fh) : SE C (.Subscript e (.Slice lo hi none p2) pos) (Dv.eSlice f fl fh) := by
  obtain ⟨t, p, q⟩ := he
  obtain ⟨tl, pl, ql⟩ := hl
  obtain ⟨th, ph, qh⟩ := hh
  refine ⟨_, pe_slice sl_list p pl ph, fun σ H Hv ρ Q er s w => ?_⟩
  refine Tak.step q er (.refl s) w fun v d fr Hv1 H1 _ x1 _ rp1 n1 w1 => ?_
  refine ql σ H Hv ρ Q _ _ Hv1 H1 er x1 w1 fun i Hv2 H2 x2 y2 w2 => ?_
  refine qh σ H Hv ρ Q _ _ Hv2 H2 er x2 w2 fun j Hv3 H3 x3 y3 w3 => ?_
  have y13 := y2.trans y3
  cases d with
  | lst ds =>
    cases fr with
    | true =>
      have rn := (n1 rfl).same (Hnew.mono (.refl _) y13.hh)
      unfold Rp at rn
      obtain ⟨l, vs, rfl, h1, h2⟩ := rn
      have h1' : SqX C.X.K H3 l vs := by
        rcases h1 with h1 | ⟨its, n, e, _⟩
        · exact .inl (Rd.same Hnew.sub h1)
        · simp at e
      exact ⟨l, vs, rfl, h1'.seq, fun p hp => Ok.newL (fr := true || Dv.flatL (Dv.cutL ds i j)) w3 x3 (((RpL.frag h2).same x3.news).cut i j) (fun _ => h2.cut i j) p hp⟩
    | false =>
      have rp := rp1.same y13.vv
      unfold Rp at rp
      obtain ⟨l, vs, rfl, h1, h2⟩ := rp
      exact ⟨l, vs, rfl, (h1.same x3.vh).seq, fun p hp => Ok.newL (fr := false || Dv.flatL (Dv.cutL ds i j)) w3 x3 (h2.cut i j) (fun z => (h2.cut i j).flat (by simpa using z)) p hp⟩
  | _ => exact (show False from w3).elim
def C2S (C : Ctx) (fv : Value) (F : D → D → R) : Prop :=
  ∃ r, CallR C.X fv r ∧ ∀ x y d d' H Hv H1 Hv1 W Q, Ext Hv H Hv1 H1 → Rp C.X.K Hv1 d x → Rp C.X.K Hv1 d' y → Ok C.X.K Hv H W C.cls (F d d') Q → r [x, y] H1 Q
theorem se_b2 {x : Str} {p : Pos} {id : String} {F : D → D → R} (hc : C2S C (.builtin id) F) (hg : Gl C.X x) (hm : C.X.mg x = none) (hv : bootBuiltins x = some (.builtin id)) (ha : SE C a f) (hb : SE C b g)
    (hn : x ≠ "__name__" := by decide) (hdb : (x == ("__debug__" : Str)) = false := by decide) (he : starEach [a, b] C.X.env = (false, eval a C.X.env) :: starEach [b] C.X.env := by rfl) (he2 : starEach [b] C.X.env = [(false, eval b C.X.env)] := by rfl) : SE C (.Call (.Name x p) [a, b] [] pos) (Dv.eB2 F f g) := by
  obtain ⟨r, ho, hr⟩ := hc
  obtain ⟨t, pa, qa⟩ := ha
  obtain ⟨u, pb, qb⟩ := hb
  refine ⟨_, pe_callB ho hg hm hv (pa_cons pa (pa_cons pb pa_nil he2) he) hn hdb he (by rw [he2]; rfl), fun σ H Hv ρ Q e s w => ?_⟩
  exact qa.step e (.refl s) w fun v d fr Hv1 H1 _ x1 _ rp1 _ q1 => qb.step e x1 q1 fun v2 d2 fr2 Hv2 H2 _ x2 y2 rp2 _ q2 => hr v v2 d d2 H Hv H2 Hv2 _ Q x2 (rp1.same y2.vv) rp2 q2
theorem c2_max (hcl : C.X.calm = true) : C2S C (.builtin "max") Dv.max2D := by
  refine ⟨_, call_max2 hcl, fun x y d d' H Hv H1 Hv1 W Q e rx ry q => ?_⟩
  cases d with
  | int i =>
    cases d' with
    | int j =>
      unfold Rp at rx ry
      subst rx ry
      exact ⟨i, j, rfl, Ok.at (d := .int (if j > i then j else i)) (fr := true) q e rp_int rfl⟩
    | _ => exact (show False from q).elim
  | _ => exact (show False from q).elim
theorem c1_int : C1S C (.type "int") Dv.intD := by
  refine ⟨_, call_int1, fun x d fr H Hv H1 Hv1 W Q e rx n q => ?_⟩
  cases d with
  | int i =>
    unfold Rp at rx
    subst rx
    exact .inl ⟨i, rfl, Ok.at (d := .int i) (fr := true) q e rp_int rfl⟩
  | bl i =>
    unfold Rp at rx
    subst rx
    exact .inr ⟨i, rfl, Ok.at (d := .int (if i then 1 else 0)) (fr := true) q e rp_int rfl⟩
  | _ => exact (show False from q).elim
def tyD : D → String
  | .non => "NoneType"
  | .bl _ => "bool"
  | .int _ => "int"
  | .str _ => "str"
  | .lst _ => "list"
  | .tup _ => "tuple"
  | .exn _ => "BaseException"
  | .raw _ => "BaseException"
  | .tab _ => "BaseException"
  | .dct _ _ => "dict"
theorem call_isi {X : Cx} : CallR X (.builtin "isinstance") (fun xs H Q => ∃ x d T b, xs = [x, .ty T] ∧ Rp X.K H d x ∧ Dv.noTy d = false ∧ PySem.W.kitOne X.K (.type (tyD d)) (.type T) = some b ∧ Q (.bl b) H) := by
  intro pins s σ H xs us Q I r h
  obtain ⟨x, d, T, b, rfl, rp, hnx, hk, q⟩ := h
  obtain ⟨u, w', rfl, ru, rw'⟩ := vals2 r
  have rw2 : w' = Value.type T := rw'
  subst rw2
  have fin : ∀ tk, EP X pins σ Q (.bool b) { s with toks := tk } := fun tk => ⟨.bl b, H, I.tok tk, rfl, q⟩
  cases d with
  | non => unfold Rp at rp; subst rp; cases ru; exact PySem.W.kia_one PySem.W.kitx_none I.kIn True.intro hk (fun z => nomatch z) fin
  | bl y => unfold Rp at rp; subst rp; cases ru; exact PySem.W.kia_one PySem.W.kitx_bool I.kIn True.intro hk (fun z => nomatch z) fin
  | int i => unfold Rp at rp; subst rp; obtain ⟨t, rfl⟩ := ru; exact PySem.W.kia_one PySem.W.kitx_int I.kIn True.intro hk (fun z => nomatch z) fin
  | str y => unfold Rp at rp; subst rp; obtain ⟨t, rfl⟩ := ru; exact PySem.W.kia_one PySem.W.kitx_str I.kIn True.intro hk (fun z => nomatch z) fin
  | lst ds =>
    unfold Rp at rp
    obtain ⟨l, vs, rfl, h1, h2⟩ := rp
    cases ru
    obtain ⟨its, n, rv, e, _⟩ := Inv.listX I h1
    exact PySem.W.kia_one PySem.W.kitx_list I.kIn ⟨_, e, rfl⟩ hk (fun z => nomatch z) fin
  | tup ds =>
    unfold Rp at rp
    obtain ⟨l, vs, rfl, h1, h2⟩ := rp
    cases ru
    obtain ⟨_, its, rv, ob, e, hc, n, hd⟩ := h1.ok I.hok
    exact PySem.W.kia_one PySem.W.kitx_tuple I.kIn ⟨ob, e, hc⟩ hk (fun z => nomatch z) fin
  | exn c => exact absurd hnx (by simp [Dv.noTy])
  | raw c => exact absurd hnx (by simp [Dv.noTy])
  | tab c => exact absurd hnx (by simp [Dv.noTy])
  | dct ks ds =>
    unfold Rp at rp
    obtain ⟨l, vs, rfl, h0, h1, h2⟩ := rp
    cases ru
    exact PySem.W.kia_one PySem.W.kitx_dict I.kIn (isD_at I (.inl ⟨_, h1⟩)).1 hk (fun z => nomatch z) fin
theorem se_isi {x : Str} {T : String} {p p2 : Pos} {F : D → Bool → R} (β : D → Bool) (hF : ∀ d fr, Dv.noTy d = false → F d fr = .ok (.bl (β d)) true) (hX : ∀ d fr, Dv.noTy d = true → F d fr = .bad) (hβ : ∀ K d, PySem.W.kitOne K (.type (tyD d)) (.type T) = some (β d)) (hg : Gl C.X "isinstance") (hm : C.X.mg "isinstance" = none) (hgx : Gl C.X x) (hmx : C.X.mg x = none)
    (hvx : bootBuiltins x = some (.type T)) (ha : SE C a f) (hn : x ≠ "__name__" := by decide) (hdb : (x == ("__debug__" : Str)) = false := by decide) (he : starEach [a, .Name x p2] C.X.env = (false, eval a C.X.env) :: starEach [.Name x p2] C.X.env := by rfl)
    (he2 : starEach [.Name x p2] C.X.env = [(false, eval (.Name x p2) C.X.env)] := by rfl) : SE C (.Call (.Name "isinstance" p) [a, .Name x p2] [] pos) (Dv.eB1 F f) := by
  obtain ⟨t, pa, qa⟩ := ha
  refine ⟨_, pe_callB call_isi hg hm (by decide +kernel) (pa_cons pa (pa_cons (pe_bltn (v := .ty T) hgx hmx hvx rfl hn hdb) pa_nil he2) he) (by decide) (by decide) he (by rw [he2]; rfl), fun σ H Hv ρ Q e s w => ?_⟩
  refine qa.step e (.refl s) w fun v d fr Hv1 H1 _ x1 _ rp1 _ q1 => ?_
  by_cases hd : Dv.noTy d = true
  · rw [hX d fr hd] at q1
    exact q1.elim
  · have hd' : Dv.noTy d = false := by simpa using hd
    rw [hF d fr hd'] at q1
    exact ⟨v, d, T, β d, rfl, rp1.same x1.vh, hd', hβ _ d, q1.at x1 rp_bl rfl⟩
def bInt : D → Bool
  | .int _ => true
  | .bl _ => true
  | _ => false
def bBool : D → Bool
  | .bl _ => true
  | _ => false
def bList : D → Bool
  | .lst _ => true
  | _ => false
theorem kit_int (K : PySem.W.Frag) (d : D) : PySem.W.kitOne K (.type (tyD d)) (.type "int") = some (bInt d) := by cases d <;> rfl
theorem kit_bool (K : PySem.W.Frag) (d : D) : PySem.W.kitOne K (.type (tyD d)) (.type "bool") = some (bBool d) := by cases d <;> rfl
theorem kit_list (K : PySem.W.Frag) (d : D) : PySem.W.kitOne K (.type (tyD d)) (.type "list") = some (bList d) := by cases d <;> rfl
theorem isIntD_eq (d : D) (fr : Bool) (h : Dv.noTy d = false) : Dv.isIntD d fr = .ok (.bl (bInt d)) true := by cases d <;> first | rfl | exact absurd h (by simp [Dv.noTy])
theorem isBoolD_eq (d : D) (fr : Bool) (h : Dv.noTy d = false) : Dv.isBoolD d fr = .ok (.bl (bBool d)) true := by cases d <;> first | rfl | exact absurd h (by simp [Dv.noTy])
theorem isListD_eq (d : D) (fr : Bool) (h : Dv.noTy d = false) : Dv.isListD d fr = .ok (.bl (bList d)) true := by cases d <;> first | rfl | exact absurd h (by simp [Dv.noTy])
def SGs (C : Ctx) (ts : List Expr) (xs : List Nat) : Prop :=
  ∃ t : TGs, PGs C.X ts t ∧ ∀ Hv₀ H₀ Hc O H σ s ds vs T, RelC C.X.K Hv₀ H₀ Hc O s σ H → RpL C.X.K Hc ds vs → ds.length = xs.length → (∀ σ', RelC C.X.K Hv₀ H₀ Hc O (Dv.setAll xs ds s) σ' H → T σ' H) → t vs σ H T
theorem gs_nil : SGs C [] [] := ⟨_, pgs_nil, fun Hv₀ H₀ Hc O H σ s ds vs T r rp hl h => by
  cases ds with
  | nil => unfold RpL at rp; exact ⟨rp, h σ r⟩
  | cons d ds => cases hl⟩
theorem gs_cons {i : Nat} {x : Str} {ts : List Expr} {xs : List Nat} (hs : SGs C ts xs) (hN : C.X.N.Nodup) (hi : C.X.N[i]? = some x) (hx : Loc C.X.env.scope x) (hf : C.X.fn x = true ∨ C.X.env.scope.names.lookup x = some .local := by first | exact .inl rfl | exact .inr rfl | assumption)
    (ha : (assignEach (.Name x pos :: ts) C.X.env).map (·.2) = assign (.Name x pos) C.X.env :: (assignEach ts C.X.env).map (·.2) := by rfl) : SGs C (.Name x pos :: ts) (i :: xs) := by
  obtain ⟨t, p, q⟩ := hs
  refine ⟨_, pgs_cons (pg_name hN hi hx hf) p ha, fun Hv₀ H₀ Hc O H σ s ds vs T r rp hl h => ?_⟩
  cases ds with
  | nil => cases hl
  | cons d ds =>
    unfold RpL at rp
    obtain ⟨v, ws, rfl, h1, h2⟩ := rp
    exact ⟨v, ws, rfl, q Hv₀ H₀ Hc O H _ _ ds ws T (r.setSh h1) h2 (by simpa using hl) h⟩
end
end Sd
set_option Elab.async false
set_option linter.all false
set_option maxRecDepth 100000
namespace Sd
open PySem PySem.Spec PyProof.Rows L2
open Dv (D R RL EE EL EI RI Sl Out SS)
def ItZ (K : PySem.W.Frag) (l1 l2 : Addr) : It :=
  ⟨fun i H => ∃ (xs ys : List V) (x y : V), SqL K H l1 xs ∧ SqL K H l2 ys ∧ xs[i]? = some x ∧ ys[i]? = some y,
   fun i H v H' => ∃ p, H p = none ∧ v = .ref p ∧ ∀ xs ys, SqL K H l1 xs → SqL K H l2 ys → ∃ x y, xs[i]? = some x ∧ ys[i]? = some y ∧ H' = upd H p (.tup [x, y]),
   fun i H => ∃ xs ys, SqL K H l1 xs ∧ SqL K H l2 ys ∧ (xs.length ≤ i ∨ ys.length ≤ i)⟩
theorem Inv.but {X : Cx} {pins : List (Addr × Obj)} {σ : St} {H : Hp} {s : Shared} {ch : List Addr} {h' : Heap} (I : Inv X pins σ H s) (hf : ∀ b ∈ ch, FpOk X pins H b) (k : ∀ b o, b ∉ ch → s.heap.get? b = some o → h'.get? b = some o) : Inv X pins σ H { s with heap := h' } := by
  have nch : ∀ b u, H b = some u → b ∉ ch := fun b u e hb => by rw [(hf b hb).1] at e; cases e
  refine I.step (g' := s.gens) (d' := s.drawn) (t' := s.toks) (ch := ch) (fun b hb => ⟨(hf b hb).2.2.2.1, (hf b hb).2.1, (hf b hb).2.2.2.2.1, (hf b hb).2.2.2.2.2⟩) (fun b o _ _ hc e _ => k b o hc e) (fun b o _ _ hc e _ => ⟨o.slots, k b o hc e⟩) (fun _ _ _ _ n => n)
    (fun b o hc e => ⟨o, k b o hc e⟩) (fun _ _ e => e) (fun _ _ _ e => e) (fun b ps e => ⟨#[], by rw [e]; simp⟩) (fun m hm => ?_) (fun b u e => ?_) I.bare
  · obtain ⟨o, es, ep, ho, r⟩ := hm
    exact ⟨o, es, ep, k _ _ (fun hb => (hf _ hb).2.1 rfl) ho, r⟩
  · refine (I.hok b u e).stay (fun c v hc q => k c v ?_ q) (fun c q => q) fun c xs q => q
    rcases hc with rfl | hc
    · exact nch _ u e
    · exact nch _ _ hc
theorem turn_zip {P : Program} {w : World} {K : PySem.W.Frag} {es : List Expr} {kt : Nat} {tpos : Pos} {z TI TO i1 i2 l1 l2 : Addr} (Dz : ZipApart z TI TO i1 i2 l1 l2) :
    Turn P w K (.Tuple es kt tpos) (ItZ K l1 l2) [z, TI, TO, i1, i2] z (fun i h => IsZip h z TI TO .none ∧ IsPair h TI (.ref i1) (.ref i2) ∧ (∃ a b, IsPair h TO a b) ∧ h.IsListIter i1 l1 i ∧ h.IsListIter i2 l2 i) where
  mem := by simp
  obj := fun i h ⟨a1, a2, ⟨_, _, a3⟩, ⟨o4, e4, _, d4⟩, ⟨o5, e5, _, d5⟩⟩ b hb => by
    simp only [List.mem_cons, List.not_mem_nil, or_false] at hb
    rcases hb with rfl | rfl | rfl | rfl | rfl
    · exact ⟨_, a1, fun v q => by cases q⟩
    · exact ⟨_, a2, fun v q => by cases q⟩
    · exact ⟨_, a3, fun v q => by cases q⟩
    · exact ⟨_, e4, fun v q => by rw [d4] at q; cases q⟩
    · exact ⟨_, e5, fun v q => by rw [d5] at q; cases q⟩
  keep := fun i h h' ⟨a1, a2, ⟨x, y, a3⟩, a4, a5⟩ k => ⟨k z (by simp) _ a1, k TI (by simp) _ a2, ⟨x, y, k TO (by simp) _ a3⟩, a4.at fun o e => k i1 (by simp) o e, a5.at fun o e => k i2 (by simp) o e⟩
  item := by
    intro X hP hw hK hc i pins s σ H E I hf ⟨a1, a2, ⟨xa, xb, a3⟩, a4, a5⟩ hg
    subst hP hw hK
    obtain ⟨xs, ys, x, y, hq1, hq2, hx, hy⟩ := hg
    obtain ⟨its1, r1, p1, z1⟩ := I.list hq1
    obtain ⟨its2, r2, p2, z2⟩ := I.list hq2
    obtain ⟨u1, e1, ru1⟩ := r1.get hx
    obtain ⟨u2, e2, ru2⟩ := r2.get hy
    refine wpAny_pyNext_zip_item Dz a1 a2 a3 a4 a5 p1.isList p2.isList (x := u1) (y := u2) (by simpa using e1) (by simpa using e2) fun h' b1 b2 b3 b4 b5 b6 kk => ?_
    refine ⟨_, rfl, wpAny_letOwnedTupleGo_zip b1 fun h2 hz sb => ?_⟩
    have hf0 : H s.heap.objs.size = none := I.hok.fresh (Nat.le_refl _)
    have ltz : s.heap.objs.size ≠ z := Nat.ne_of_gt (Heap.lt_size a1)
    have kept : ∀ b o, b ∉ [z, TI, TO, i1, i2] → s.heap.get? b = some o → h2.get? b = some o := fun b o hb e => by
      simp only [List.mem_cons, List.not_mem_nil, or_false, not_or] at hb
      exact (sb.2 b hb.1).trans (kk b o hb.1 hb.2.2.1 hb.2.2.2.1 hb.2.2.2.2 e)
    have I2 : Inv X pins σ H { s with heap := h2 } := Inv.but I hf kept
    have tp : IsTup h2 s.heap.objs.size #[u1, u2] := ⟨_, (sb.2 _ ltz).trans b5, rfl, _, rfl⟩
    have I3 : Inv X pins σ (upd H s.heap.objs.size (.tup [x, y])) { s with heap := h2 } := by
      have hk2 : HOk X.prog X.w (upd H s.heap.objs.size (.tup [x, y])) h2 := hok_track I2.hok hf0 ⟨by show 2 ≤ sizeLine; decide, [u1, u2], .cons ru1 (.cons ru2 .nil), tp⟩
      have nsz : ∀ b o, s.heap.get? b = some o → b ≠ s.heap.objs.size := fun b o e => Nat.ne_of_lt (Heap.lt_size e)
      refine I.step (g' := s.gens) (d' := s.drawn) (t' := s.toks) (ch := [z, TI, TO, i1, i2]) (fun b hb => ⟨(hf b hb).2.2.2.1, (hf b hb).2.1, (hf b hb).2.2.2.2.1, (hf b hb).2.2.2.2.2⟩) (fun b o _ _ hc e _ => kept b o hc e) (fun b o _ _ hc e _ => ⟨o.slots, kept b o hc e⟩) (fun b o _ e n => by rw [upd_ne (nsz b o e)]; exact n)
        (fun b o hc e => ⟨o, kept b o hc e⟩) (fun b us e => by rw [upd_ne (ne_of_none e hf0)]; exact e) (fun b ob us e => by rw [upd_ne (ne_of_none e hf0)]; exact e) (fun b ps e => ⟨#[], by rw [upd_ne (ne_of_none e hf0), e]; simp⟩) (fun m hm => ?_) hk2 I.bare
      obtain ⟨o, es, ep, ho, r⟩ := hm
      exact ⟨o, es, ep, kept _ _ (fun hb => (hf _ hb).2.1 rfl) ho, r⟩
    have c4 : h2.IsListIter i1 l1 (i + 1) := b3.extBut sb.extBut Dz.i1z
    have c5 : h2.IsListIter i2 l2 (i + 1) := b4.extBut sb.extBut Dz.i2z
    refine ⟨.ref s.heap.objs.size, _, I3, rfl, ⟨s.heap.objs.size, hf0, rfl, fun as bs h1 h2' => ?_⟩, ⟨hz, ?_, ⟨u1, u2, (sb.2 TO Dz.TOz).trans b2⟩, c4, c5⟩, fun b hb => ?_⟩
    · exact ⟨x, y, by rw [I.list_inj h1 hq1]; exact hx, by rw [I.list_inj h2' hq2]; exact hy, rfl⟩
    · exact (sb.2 TI Dz.TIz).trans (kk TI _ Dz.TIz Dz.TITO Dz.TIi1 Dz.TIi2 a2)
    · have hbs : b ≠ s.heap.objs.size := by
        simp only [List.mem_cons, List.not_mem_nil, or_false] at hb
        rcases hb with rfl | rfl | rfl | rfl | rfl
        · exact Nat.ne_of_lt (Heap.lt_size a1)
        · exact Nat.ne_of_lt (Heap.lt_size a2)
        · exact Nat.ne_of_lt (Heap.lt_size a3)
        · obtain ⟨o, e, _⟩ := a4; exact Nat.ne_of_lt (Heap.lt_size e)
        · obtain ⟨o, e, _⟩ := a5; exact Nat.ne_of_lt (Heap.lt_size e)
      rw [upd_ne hbs]
      exact (hf b hb).1
  done := by
    intro X hP hw hK hc i pins s σ H E I hf ⟨a1, a2, ⟨xa, xb, a3⟩, a4, a5⟩ hg
    subst hP hw hK
    obtain ⟨xs, ys, hq1, hq2, hx⟩ := hg
    obtain ⟨its1, r1, p1, z1⟩ := I.list hq1
    obtain ⟨its2, r2, p2, z2⟩ := I.list hq2
    have n1 := r1.length
    have n2 := r2.length
    refine wpAny_pyNext_zip_end (I.ok.hd hc) Dz a1 a2 a3 a4 a5 p1.isList p2.isList (by
      rcases hx with hx | hx
      · left; simp; omega
      · right; simp; omega) fun h' kk => ⟨rfl, Inv.but I hf fun b o hb e => ?_⟩
    simp only [List.mem_cons, List.not_mem_nil, or_false, not_or] at hb
    exact kk b o hb.1 hb.2.2.1 hb.2.2.2.1 hb.2.2.2.2 e
  self := fun _ _ _ _ _ st h => wpAny_pyIter_zip st.1 h
def iZipR (K : PySem.W.Frag) (ta : TA) : TI := fun σ H T => ta σ H fun vs H1 => ∃ l1 l2 xs ys, vs = [.ref l1, .ref l2] ∧ SqL K H1 l1 xs ∧ SqL K H1 l2 ys ∧ T (ItZ K l1 l2) H1
theorem pi_zip {X : Cx} {a b : Expr} {ta : TA} {es : List Expr} {kt : Nat} {tpos p pos : Pos} (hg : Gl X "zip") (hm : X.mg "zip" = none) (ha : PA X [a, b] ta) (hs : starEach [a, b] X.env = [(false, eval a X.env), (false, eval b X.env)]) (hs2 : starEach [b] X.env = [(false, eval b X.env)]) :
    PI X (.Tuple es kt tpos) (.Call (.Name "zip" p) [a, b] [] pos) (iZipR X.K ta) := by
  intro pins s σ H R I h
  refine Call_ (ld_blt I hg hm (by decide +kernel : bootBuiltins "zip" = some (.type "zip")) (PyProof.Rows.callWith_type1 (thn (ha pos pins s σ H _ I h) fun us s1 ⟨vs, H1, I1, r1, q1⟩ => ?_) (by rw [hs, hs2]) (by rw [hs2]; rfl)))
  obtain ⟨l1, l2, xs, ys, rfl, hq1, hq2, q⟩ := q1
  obtain ⟨u1, u2, rfl, e1, e2⟩ := vals2 r1
  cases e1
  cases e2
  obtain ⟨its1, rr1, p1, z1⟩ := I1.list hq1
  obtain ⟨its2, rr2, p2, z2⟩ := I1.list hq2
  refine call_zip_2 p1.isList p2.isList fun h' c1 c2 c3 c4 c5 c6 kk => ?_
  have lt1 : l1 < s1.heap.objs.size := by obtain ⟨o, e, _⟩ := p1.isList; exact Heap.lt_size e
  have lt2 : l2 < s1.heap.objs.size := by obtain ⟨o, e, _⟩ := p2.isList; exact Heap.lt_size e
  have I2 : Inv X pins σ H1 { s1 with heap := h' } := I1.kept (t' := s1.toks) kk
  generalize hN : s1.heap.objs.size = N at c1 c2 c3 c4 c5 c6 lt1 lt2 ⊢
  have Dz : ZipApart (N + 4) (N + 2) (N + 3) N (N + 1) l1 l2 := by
    have far : ∀ {l : Addr}, l < N → ∀ k : Nat, l ≠ N + k := fun h k => Nat.ne_of_lt (Nat.lt_of_lt_of_le h (Nat.le_add_right _ _))
    have ne : ∀ {a b : Nat}, a < b → a ≠ b := fun h => Nat.ne_of_lt h
    have ne' : ∀ {a b : Nat}, b < a → a ≠ b := fun h => Nat.ne_of_gt h
    exact ⟨ne (by omega), ne (by omega), ne (by omega), ne (by omega), ne (by omega), ne' (by omega), ne' (by omega), ne' (by omega), ne' (by omega), ne (by omega), far lt1 4, far lt1 3, Nat.ne_of_lt lt1, far lt1 1, far lt2 4, far lt2 3, Nat.ne_of_lt lt2, far lt2 1⟩
  refine wpAny_pyIter_zip c1 ⟨N + 4, [N + 4, N + 2, N + 3, N, N + 1], _, _, H1, rfl, I2, turn_zip Dz, ⟨c1, c2, ⟨_, _, c3⟩, c4, c5⟩, fun b hb => ?_, q⟩
  have hb' : s1.heap.objs.size ≤ b := by
    rw [hN]
    simp only [List.mem_cons, List.not_mem_nil, or_false] at hb
    rcases hb with rfl | rfl | rfl | rfl | rfl
    · exact Nat.le_add_right _ _
    · exact Nat.le_add_right _ _
    · exact Nat.le_add_right _ _
    · exact Nat.le_refl _
    · exact Nat.le_add_right _ _
  exact I1.fpOk hb' (I1.hok.fresh hb')
theorem zip_get {xs ys : List D} {i : Nat} {d : D} (h : (List.zipWith (fun x y => D.tup [x, y]) xs ys)[i]? = some d) : ∃ x y, xs[i]? = some x ∧ ys[i]? = some y ∧ d = .tup [x, y] := by
  rw [List.getElem?_zipWith] at h
  cases h1 : xs[i]? with
  | none => rw [h1] at h; cases h
  | some x =>
    cases h2 : ys[i]? with
    | none => rw [h1, h2] at h; cases h
    | some y => rw [h1, h2] at h; cases h; exact ⟨x, y, rfl, rfl, rfl⟩
theorem si_zip {C : Ctx} {a b : Expr} {f g : EE} {es : List Expr} {kt : Nat} {tpos p pos : Pos} (hg : Gl C.X "zip") (hm : C.X.mg "zip" = none) (ha : SE C a f) (hb : SE C b g) (hs : starEach [a, b] C.X.env = [(false, eval a C.X.env), (false, eval b C.X.env)] := by rfl) (hs2 : starEach [b] C.X.env = [(false, eval b C.X.env)] := by rfl) :
    SI C (.Tuple es kt tpos) (.Call (.Name "zip" p) [a, b] [] pos) (Dv.iZip f g) := by
  obtain ⟨t, pe, q⟩ := ha
  obtain ⟨t2, pe2, q2⟩ := hb
  refine ⟨_, pi_zip hg hm (pa_cons pe (pa_cons pe2 pa_nil hs2) (by rw [hs, hs2])) hs hs2, fun σ H Hv ρ T er s w => ?_⟩
  refine q σ H Hv ρ _ er s ?_
  unfold Dv.iZip at w
  cases hf : f ρ with
  | bad => rw [hf] at w; exact w
  | exc c => rw [hf] at w; exact w
  | ok d fr =>
    rw [hf] at w
    intro v Hv' H' x rp n
    cases d with
    | lst xs =>
      refine q2 σ H' Hv' ρ _ (er.same x.vv) x.vh ?_
      cases hg' : g ρ with
      | bad => simp only [hg'] at w; exact w
      | exc c => simp only [hg'] at w; exact fun Hv2 H2 y => w Hv2 H2 (x.trans y)
      | ok d2 fr2 =>
        simp only [hg'] at w
        intro v2 Hv2 H2 y rp2 n2
        cases d2 with
        | lst ys =>
          have rp1 := rp.same y.vv
          unfold Rp at rp1 rp2
          obtain ⟨l1, vs, rfl, h1, h2⟩ := rp1
          obtain ⟨l2, ws, rfl, h3, h4⟩ := rp2
          refine ⟨l1, l2, vs, ws, rfl, (h1.same y.vh).seq, (h3.same y.vh).seq, w _ Hv2 H2 (x.trans y) fun i H3 s3 => ⟨fun d hd => ?_, fun hi => ?_⟩⟩
          · obtain ⟨dx, dy, g1, g2, rfl⟩ := zip_get hd
            obtain ⟨vx, k1, k2⟩ := h2.get g1
            obtain ⟨vy, k3, k4⟩ := h4.get g2
            refine ⟨⟨vs, ws, vx, vy, (h1.same s3).seq, (h3.same s3).seq, k1, k3⟩, fun u H4 ⟨p, hp, e1, hh⟩ => ?_⟩
            obtain ⟨x', y', m1, m2, rfl⟩ := hh vs ws (h1.same s3).seq (h3.same s3).seq
            rw [k1] at m1
            rw [k3] at m2
            cases m1
            cases m2
            subst e1
            have nx := Ext.new1 s3 hp (.tup [vx, vy])
            refine ⟨_, nx, ?_⟩
            unfold Rp
            exact ⟨p, _, rfl, .inl upd_same, .cons (k2.same nx.vv) (.cons (k4.same nx.vv) .nil)⟩
          · refine ⟨vs, ws, (h1.same s3).seq, (h3.same s3).seq, ?_⟩
            rw [h2.length, h4.length]
            rw [List.length_zipWith] at hi
            omega
        | _ => exact (show False from w).elim
    | _ => exact (show False from w).elim
theorem sg_tup {C : Ctx} {ts : List Expr} {xs : List Nat} {kt : Nat} {tpos : Pos} (hg : SGs C ts xs) (hl : ts.length = xs.length) (hn : (assignEach ts C.X.env).length = ts.length := by rfl) (hst : (assignEach ts C.X.env).findIdx? (·.1) = none := by rfl) (hcl : C.X.calm = true := by rfl) :
    SG C (.Tuple ts kt tpos) (Dv.tupTo xs) := by
  obtain ⟨g, pg, qg⟩ := hg
  refine ⟨_, pg_tup hcl pg hn hst, fun Hv₀ H₀ Hc O H σ s s' d v T r rp e h => ?_⟩
  unfold Dv.tupTo at e
  cases d with
  | tup ds =>
    by_cases hz : ds.length = xs.length
    · simp only [hz, if_true] at e
      cases e
      unfold Rp at rp
      obtain ⟨a, vs, rfl, h2, h3⟩ := rp
      exact ⟨a, vs, rfl, .inl (Rd.same r.ch h2), by rw [h3.length, hz, hl], qg Hv₀ H₀ Hc O H σ s ds vs _ r h3 hz h⟩
    · simp only [hz, if_false] at e
      cases e
  | _ => cases e
end Sd
set_option Elab.async false
set_option linter.all false
set_option maxRecDepth 100000
namespace Sd
open PySem PySem.Spec PyProof.Rows L2
open Dv (D R RL EE EL EI RI Sl Out SS)
section
variable {C : Ctx} {a b c e k : Expr} {f g h : EE} {pos pos' : Pos}
end
end Sd
set_option Elab.async false
set_option linter.all false
set_option maxRecDepth 100000
namespace Sd
open PySem PySem.Spec PyProof.Rows L2
open Dv (D R RL EE EL EI RI Sl Out SS)
section
variable {C : Ctx} {a b c e : Expr} {f g h : EE} {pos : Pos}
theorem se_add (ha : SE C a f) (hb : SE C b g) : SE C (.BinOp a .Add b pos) (Dv.eOp .add f g) := se_op2 os_add ha hb
theorem se_sub (ha : SE C a f) (hb : SE C b g) : SE C (.BinOp a .Sub b pos) (Dv.eOp .sub f g) := se_op2 os_sub ha hb
theorem se_mul (ha : SE C a f) (hb : SE C b g) : SE C (.BinOp a .Mult b pos) (Dv.eOp .mul f g) := se_op2 os_mul ha hb
theorem se_mod (ha : SE C a f) (hb : SE C b g) : SE C (.BinOp a .Mod b pos) (Dv.eOp .mod f g) := se_op2 os_mod ha hb
theorem se_fdiv (ha : SE C a f) (hb : SE C b g) : SE C (.BinOp a .FloorDiv b pos) (Dv.eOp .fdiv f g) := se_op2 os_fdiv ha hb
theorem se_pow (ha : SE C a f) (hb : SE C b g) : SE C (.BinOp a .Pow b pos) (Dv.eOp .pow f g) := se_op2 os_pow ha hb
theorem se_shr (ha : SE C a f) (hb : SE C b g) : SE C (.BinOp a .RShift b pos) (Dv.eOp .shr f g) := se_op2 os_shr ha hb
theorem se_in (ha : SE C a f) (hb : SE C b g) (hm : behindInMarks .In b = false := by with_unfolding_all rfl) : SE C (.Compare a [.In] [b] pos) (Dv.eCm .isin f g) := se_cm2 os_in ha hb hm
theorem sc_lt (ha : SE C a f) (hb : SE C b g) : SC C (.Compare a [.Lt] [b] pos) (Dv.eCm .lt f g) := sc_cm2 os_lt ha hb (nomark _)
theorem sc_le (ha : SE C a f) (hb : SE C b g) : SC C (.Compare a [.LtE] [b] pos) (Dv.eCm .le f g) := sc_cm2 os_le ha hb (nomark _)
theorem sc_gt (ha : SE C a f) (hb : SE C b g) : SC C (.Compare a [.Gt] [b] pos) (Dv.eCm .gt f g) := sc_cm2 os_gt ha hb (nomark _)
theorem sc_ge (ha : SE C a f) (hb : SE C b g) : SC C (.Compare a [.GtE] [b] pos) (Dv.eCm .ge f g) := sc_cm2 os_ge ha hb (nomark _)
theorem sc_eq (ha : SE C a f) (hb : SE C b g) : SC C (.Compare a [.Eq] [b] pos) (Dv.eCm .eq f g) := sc_cm2 os_eq ha hb (nomark _)
theorem sc_ne (ha : SE C a f) (hb : SE C b g) : SC C (.Compare a [.NotEq] [b] pos) (Dv.eCm .ne f g) := sc_cm2 os_ne ha hb (nomark _)
theorem sc_in (ha : SE C a f) (hb : SE C b g) (hm : behindInMarks .In b = false := by with_unfolding_all rfl) : SC C (.Compare a [.In] [b] pos) (Dv.eCm .isin f g) := sc_cm2 os_in ha hb hm
theorem se_num {x : Str} {i : Int} {t : Tok} (hg : Gl C.X x) (hm : C.X.mg x = some (.int i t)) (hd : (x == ("__debug__" : Str)) = false := by decide) : SE C (.Name x pos) (Dv.eInt i) :=
  ⟨_, pe_glob (v := .int i) hg hm ⟨t, rfl⟩ hd, fun _ _ _ _ _ _ s q => q.now (v := .int i) s rp_int rfl⟩
theorem se_len {p : Pos} (hm : C.X.mg "len" = none) (hg : Gl C.X "len") (ha : SE C a f) (he : starEach [a] C.X.env = [(false, eval a C.X.env)] := by rfl) : SE C (.Call (.Name "len" p) [a] [] pos) (Dv.eB1 Dv.lenD f) := se_b1 c1_len hg hm PySem.boot_len ha (by decide) (by decide) he
theorem se_list {p : Pos} (hm : C.X.mg "list" = none) (hg : Gl C.X "list") (ha : SE C a f) (he : starEach [a] C.X.env = [(false, eval a C.X.env)] := by rfl) : SE C (.Call (.Name "list" p) [a] [] pos) (Dv.eB1 Dv.listD f) := se_t1 c1_list hg hm (by decide +kernel) ha (by decide) (by decide) he
theorem se_int1 {p : Pos} (hm : C.X.mg "int" = none) (hg : Gl C.X "int") (ha : SE C a f) (he : starEach [a] C.X.env = [(false, eval a C.X.env)] := by rfl) : SE C (.Call (.Name "int" p) [a] [] pos) (Dv.eB1 Dv.intD f) := se_t1 c1_int hg hm (by decide +kernel) ha (by decide) (by decide) he
theorem se_max2 {p : Pos} (hm : C.X.mg "max" = none) (hg : Gl C.X "max") (ha : SE C a f) (hb : SE C b g) (he : starEach [a, b] C.X.env = (false, eval a C.X.env) :: starEach [b] C.X.env := by rfl) (he2 : starEach [b] C.X.env = [(false, eval b C.X.env)] := by rfl) (hcl : C.X.calm = true := by rfl) : SE C (.Call (.Name "max" p) [a, b] [] pos) (Dv.eB2 Dv.max2D f g) := se_b2 (c2_max hcl) hg hm (by decide +kernel) ha hb (by decide) (by decide) he he2
theorem se_isInt {p p2 : Pos} (hm : C.X.mg "isinstance" = none) (hmx : C.X.mg "int" = none) (hg : Gl C.X "isinstance") (hgx : Gl C.X "int") (ha : SE C a f) (he : starEach [a, .Name "int" p2] C.X.env = (false, eval a C.X.env) :: starEach [.Name "int" p2] C.X.env := by rfl)
    (he2 : starEach [.Name "int" p2] C.X.env = [(false, eval (.Name "int" p2) C.X.env)] := by rfl) : SE C (.Call (.Name "isinstance" p) [a, .Name "int" p2] [] pos) (Dv.eB1 Dv.isIntD f) := se_isi _ isIntD_eq (fun d fr h => by cases d <;> first | rfl | exact absurd h (by simp [Dv.noTy])) kit_int hg hm hgx hmx (by decide +kernel) ha (by decide) (by decide) he he2
theorem se_isBool {p p2 : Pos} (hm : C.X.mg "isinstance" = none) (hmx : C.X.mg "bool" = none) (hg : Gl C.X "isinstance") (hgx : Gl C.X "bool") (ha : SE C a f) (he : starEach [a, .Name "bool" p2] C.X.env = (false, eval a C.X.env) :: starEach [.Name "bool" p2] C.X.env := by rfl)
    (he2 : starEach [.Name "bool" p2] C.X.env = [(false, eval (.Name "bool" p2) C.X.env)] := by rfl) : SE C (.Call (.Name "isinstance" p) [a, .Name "bool" p2] [] pos) (Dv.eB1 Dv.isBoolD f) := se_isi _ isBoolD_eq (fun d fr h => by cases d <;> first | rfl | exact absurd h (by simp [Dv.noTy])) kit_bool hg hm hgx hmx (by decide +kernel) ha (by decide) (by decide) he he2
theorem se_isList {p p2 : Pos} (hm : C.X.mg "isinstance" = none) (hmx : C.X.mg "list" = none) (hg : Gl C.X "isinstance") (hgx : Gl C.X "list") (ha : SE C a f) (he : starEach [a, .Name "list" p2] C.X.env = (false, eval a C.X.env) :: starEach [.Name "list" p2] C.X.env := by rfl)
    (he2 : starEach [.Name "list" p2] C.X.env = [(false, eval (.Name "list" p2) C.X.env)] := by rfl) : SE C (.Call (.Name "isinstance" p) [a, .Name "list" p2] [] pos) (Dv.eB1 Dv.isListD f) := se_isi _ isListD_eq (fun d fr h => by cases d <;> first | rfl | exact absurd h (by simp [Dv.noTy])) kit_list hg hm hgx hmx (by decide +kernel) ha (by decide) (by decide) he he2
end
structure Df (K : PySem.W.Frag) (mg : Str → Option Value) (x : Str) (st : Stmt) (ps : List Str) (f : Addr) (fd : FuncData) : Prop where
  m : mg x = some (.ref f)
  kp : PySem.W.keepIn K (.ref f) = true
  ex : ∃ (oc : Value) (od : Option Addr) (dV kV doc pm : Value) (an : Option Addr) (cdv ct : Value) (osl : Array (Option Value)),
    fd = PySem.W.fnOf x x (defArgs st) (defBody st) (defScope st) dV kV doc pm an cdv ct ∧ K.lookup f = some ⟨oc, od, .func fd, osl⟩ ∧ PySem.W.codeIn K cdv x = true
  bd : Binds K fd ps []
section
variable {P : Program} {w : World} {K : PySem.W.Frag} {mg : Str → Option Value} {base : Heap} {CX : CXT} {cls : String → Value}
theorem Df.ok (hC : CXok P w CX) {x : Str} {st : Stmt} {f : Addr} {fd : FuncData} {N ps : List Str} {k : Nat} {body : SS} (d : Df K mg x st ps f fd) (S : FnScope N ps (defScope st))
    (hbody : ∀ (cdv : Value) (A : Around) (outer : List PySem.Env) (s : Shared) (H : Hp) (E : XK) (hr : Room k (A.deeper (envOfC x (defScope st) s.heap.objs.size f cdv))), SSs (ctxOf hC cls K mg base N x (defScope st) f cdv A outer s H E hr) (defBody st) body) :
    FnOk P w K mg base CX (k + 1) f fd ps (spD K cls (Dv.fn N.length body) ps.length) := by
  obtain ⟨oc, od, dV, kV, doc, pm, an, cdv, ct, osl, rfl, lk, hcd⟩ := d.ex
  exact fn_ok hC cls oc od dV kV doc pm an cdv ct osl lk hcd S (hbody cdv)
theorem df_mk {x : Str} {st : Stmt} {ps : List Str} {f : Addr} {oc : Value} {od an : Option Addr} {osl : Array (Option Value)} {dV kV doc pm cdv ct : Value} (m : mg x = some (.ref f)) (l : K.lookup f = some ⟨oc, od, .func (PySem.W.fnOf x x (defArgs st) (defBody st) (defScope st) dV kV doc pm an cdv ct), osl⟩)
    (c : PySem.W.codeIn K cdv x = true) (k : PySem.W.keepIn K (.ref f) = true)
    (h : ∀ (kV doc pm : Value) (an : Option Addr) (cdv ct : Value) (us : List Value), us.length = ps.length → bindArgs (PySem.W.fnOf x x (defArgs st) (defBody st) (defScope st) dV kV doc pm an cdv ct) ⟨us, []⟩ = pure (ps.zip us)) :
    Df K mg x st ps f (PySem.W.fnOf x x (defArgs st) (defBody st) (defScope st) dV kV doc pm an cdv ct) := ⟨m, k, ⟨oc, od, dV, kV, doc, pm, an, cdv, ct, osl, rfl, l, c⟩, .all (h kV doc pm an cdv ct)⟩
end
theorem se_fn {C : Ctx} {e : Expr} {es : List Expr} {fl : EL} {k j : Nat} {fa : Addr} {fd : FuncData} {st : Stmt} {ps : List Str} {Fm : List D → R} {x : Str} {p pos : Pos} (d : Df C.X.K C.X.mg x st ps fa fd) (Fn : FnOk C.X.prog C.X.w C.X.K C.X.mg C.X.base C.CX j fa fd ps (spD C.X.K C.cls Fm ps.length)) (hr : Room k C.X.A) (hj : j ≤ k)
    (hg : Gl C.X x) (ha : SL C (e :: es) fl) (hlen : (e :: es).length = ps.length := by rfl) (hdb : (x == ("__debug__" : Str)) = false := by decide) (he : starEach (e :: es) C.X.env = (false, eval e C.X.env) :: starEach es C.X.env := by rfl) (hpl : (backTo pos (starEach es C.X.env)).any (·.1) = false := by rfl) :
    SE C (.Call (.Name x p) (e :: es) [] pos) (Dv.eCall Fm fl) := by
  have q := se_call (pos := pos) (p := p) (dds := []) (dvs := []) (dus := []) Fn hr hj hg d.m d.kp d.bd .nil (fun _ _ => .nil) ha (by simpa using hlen) hdb he hpl
  have e1 : (fun ds => Fm (ds ++ [])) = Fm := by funext ds; rw [List.append_nil]
  rw [e1] at q
  exact q
end Sd
set_option Elab.async false
set_option linter.all false
set_option maxRecDepth 100000
namespace Sd
open PySem PySem.Spec PyProof.Rows L2
open Dv (D R RL EE EL EI RI Sl Out SS)
def compOk (fsc : Scope) (N : List Str) (scope : Scope) (x : Str) (fs : List Str) (is : List Nat) : Bool :=
  scope.kind == .function && scope.names.all (fun y => !(y.2 == .cell)) && scope.names.all (fun y => !(y.2 == .local) || scope.names.lookup y.1 == some .local) && scope.names.lookup x == some .local && decide (x :: fs).Nodup &&
  scope.names.all (fun y => !(y.2 == .free) || (fsc.names.lookup y.1 == some .cell || fsc.names.lookup y.1 == some .free)) && fs.all (fun y => scope.names.lookup y == some .free) && is.length == fs.length && (fs.zip is).all (fun p => N[p.2]? == some p.1)
theorem comp_names {X : Cx} {fsc : Scope} {N : List Str} {scope : Scope} {x : Str} {fs : List Str} {is : List Nat} (h1 : X.env.scope = fsc) (h2 : X.N = N) (h : compOk fsc N scope x fs is = true) : CompNames X scope x fs is := by
  subst h1 h2
  unfold compOk at h
  simp only [Bool.and_eq_true] at h
  obtain ⟨⟨⟨⟨⟨⟨⟨⟨a1, a2⟩, a3⟩, a4⟩, a5⟩, a6⟩, a7⟩, a8⟩, a9⟩ := h
  refine ⟨by simpa using a1, fun y hy => ?_, fun y hy hl => ?_, by simpa using a4, by simpa using a5, fun y hy hf => ?_, fun y hy => ?_, by simpa using a8, fun j y hj => ?_⟩
  · have := List.all_eq_true.mp a2 y hy
    simpa using this
  · have := List.all_eq_true.mp a3 y hy
    simpa [hl] using this
  · have := List.all_eq_true.mp a6 y hy
    show X.env.scope.names.lookup y.1 = some .cell ∨ X.env.scope.names.lookup y.1 = some .free
    simpa [hf] using this
  · have := List.all_eq_true.mp a7 y hy
    simpa using this
  · have hl : is.length = fs.length := by simpa using a8
    have hjl : j < fs.length := (List.getElem?_eq_some_iff.mp hj).1
    refine ⟨is[j]'(by omega), by simp, ?_⟩
    have hm : (y, is[j]'(by omega)) ∈ fs.zip is := by
      have e1 : fs[j] = y := (List.getElem?_eq_some_iff.mp hj).2
      have : (fs.zip is)[j]'(by rw [List.length_zip]; omega) = (y, is[j]'(by omega)) := by rw [List.getElem_zip, e1]
      rw [← this]
      exact List.getElem_mem _
    have := List.all_eq_true.mp a9 _ hm
    simpa using this
theorem Df.is {P : Program} {w : World} {K : PySem.W.Frag} {mg : Str → Option Value} {base : Heap} {CX : CXT} {cls : String → Value} (hC : CXok P w CX) {x : Str} {st : Stmt} {f : Addr} {fd : FuncData} {ps : List Str} {F : List D → R} {m j : Nat} (N : List Str) (k : Nat) (body : SS) (d : Df K mg x st ps f fd) (S : FnScope N ps (defScope st))
    (hj : j = k + 1) (hm : m = ps.length) (hF : F = Dv.fn N.length body)
    (hbody : ∀ (cdv : Value) (A : Around) (outer : List PySem.Env) (s : Shared) (H : Hp) (E : XK) (hr : Room k (A.deeper (envOfC x (defScope st) s.heap.objs.size f cdv))), SSs (ctxOf hC cls K mg base N x (defScope st) f cdv A outer s H E hr) (defBody st) body) :
    FnOk P w K mg base CX j f fd ps (spD K cls F m) := by
  subst hj hm hF
  exact d.ok hC S hbody
end Sd
set_option Elab.async false
set_option linter.all false
set_option maxRecDepth 100000
namespace Sd
open PySem PySem.Spec PyProof.Rows L2
open Dv (D R RL EE EL EI RI Sl Out SS)
structure Fly (P : Program) (w : World) (outer : List PySem.Env) (H : Hp) (s : Shared) (a : Addr) (cls : Value) (H' : Hp) (B : Heap) (t : Addr) (s' : Shared) : Prop where
  os : s'.os = s.os
  bare : AllBare s'.gens
  fl : Heap.FlyingW B outer a cls (.ref t) s'.heap
  keepB : ∀ b o, s.heap.get? b = some o → H b = none → b ∉ frs outer → B.get? b = some o
  thereB : ∀ b o, s.heap.get? b = some o → b ∉ frs outer → ∃ o', B.get? b = some o'
  slot : ∀ b o, s.heap.get? b = some o → H b = none → b ∈ frs outer → ∃ sl, s'.heap.get? b = some { o with slots := sl }
  free : ∀ b o, s.heap.get? b = some o → H b = none → H' b = none
  tups : ∀ b xs, H b = some (.tup xs) → H' b = some (.tup xs)
  frzs : ∀ b o u, H b = some (.frz o u) → H' b = some (.frz o u)
  tbls : ∀ b ps, H b = some (.tbl ps) → ∃ more, H' b = some (.tbl (ps ++ more))
  hokB : HOk P w H' B
def CXe (P : Program) (w : World) : CXT := fun outer H s E e s' => ∃ a cls H' B t, e = .ref a ∧ Fly P w outer H s a cls H' B t s' ∧ E cls none H'
theorem hok_sub {P : Program} {w : World} {H : Hp} {h h' : Heap} (x : HOk P w H h) (k : ∀ b u, H b ≠ none → h.get? b = some u → h'.get? b = some u) : HOk P w H h' := fun a o e =>
  (x a o e).stay (fun b u hb q => k b u (by
    rcases hb with rfl | hb
    · rw [e]; exact fun z => nomatch z
    · rw [hb]; exact fun z => nomatch z) q) (fun _ q => q) fun _ _ q => q
theorem frame_data {B h : Heap} {l : List PySem.Env} {b : Addr} {o : Obj} (f : h.FunFrames B l) (hb : b ∈ frs l) (e : h.get? b = some o) : ∀ vs, o.data ≠ .fields vs := by
  obtain ⟨_, o', e', n⟩ := f.mem hb
  rw [e] at e'
  cases e'
  exact n
section
variable {P : Program} {w : World} {K : PySem.W.Frag} {mg : Str → Option Value} {base : Heap} {N : List Str} {qual : Str} {scope : Scope} {f : Addr} {cd : Value} {A : Around} {outer : List PySem.Env} {s : Shared} {H : Hp} {E : XK}
theorem not_in_stack {b : Addr} {o : Obj} (e : s.heap.get? b = some o) (hb : b ∉ frs outer) : b ∉ frs (envOfC qual scope s.heap.objs.size f cd :: outer) := fun m => by
  have m' : b ∈ s.heap.objs.size :: frs outer := m
  rcases List.mem_cons.mp m' with rfl | m'
  · exact absurd (Heap.lt_size e) (Nat.lt_irrefl _)
  · exact hb m'
theorem in_stack {b : Addr} (hb : b ∈ frs outer) : b ∈ frs (envOfC qual scope s.heap.objs.size f cd :: outer) := List.mem_cons_of_mem (s.heap.objs.size) hb
theorem cxe_leave (pins : List (Addr × Obj)) (σ : St) (H1 : Hp) (s1 : Shared) (e : Value) (s' : Shared) (I : Inv (cxOf (CXe P w) P w K mg base N qual scope f cd A outer s H E) pins σ H1 s1)
    (h : CXe P w (cxOf (CXe P w) P w K mg base N qual scope f cd A outer s H E).stack H1 s1 E e s') : (cxOf (CXe P w) P w K mg base N qual scope f cd A outer s H E).xe e s' := by
  obtain ⟨a, cls, H', B, t, rfl, F, q⟩ := h
  have noex : ∀ b : Addr, b ∉ (cxOf (CXe P w) P w K mg base N qual scope f cd A outer s H E).ex := fun b z => absurd (show b ∈ ([] : List Addr) from z) (by simp)
  refine wpAny_leaves_onW (L := s.heap.objs.size) I.ok.frames rfl F.fl fun h' x1 x2 => ?_
  refine ⟨a, cls, H', B, t, rfl, ⟨F.os.trans I.os, F.bare, x1, fun b o e n hb => ?_, fun b o e hb => ?_, fun b o e n hb => ?_, fun b o e n => ?_, fun b xs e => ?_, fun b o u e => ?_, fun b ps e => ?_, F.hokB⟩, q⟩
  · exact F.keepB b o (I.base.keep b o e n hb (noex b)) (I.base.free b o e n (noex b)) (not_in_stack e hb)
  · obtain ⟨o1, e1⟩ := I.base.there b o e (noex b)
    exact F.thereB b o1 e1 (not_in_stack e hb)
  · obtain ⟨sl, e1⟩ := I.base.slot b o e n hb (noex b)
    obtain ⟨sl2, e2⟩ := F.slot b _ e1 (I.base.free b o e n (noex b)) (in_stack hb)
    obtain ⟨sl3, e3⟩ := x2 b _ e2 (frame_data F.fl.2.2.1 (in_stack hb) e2)
    exact ⟨sl3, e3⟩
  · obtain ⟨o1, e1⟩ := I.base.there b o e (noex b)
    exact F.free b o1 e1 (I.base.free b o e n (noex b))
  · exact F.tups b xs (I.base.tups b xs e)
  · exact F.frzs b o u (I.base.frzs b o u e)
  · obtain ⟨m1, e1⟩ := I.base.tbls b ps e
    obtain ⟨m2, e2⟩ := F.tbls b _ e1
    exact ⟨m1 ++ m2, by rw [e2, Array.append_assoc]⟩
theorem cxe_ok {P : Program} {w : World} : CXok P w (CXe P w) := ⟨fun _ _ _ _ _ ⟨_, _, _, _, _, _, _, q⟩ => q, fun _ _ _ _ _ _ _ _ _ _ _ _ _ pins σ H1 s1 e s' I h => cxe_leave pins σ H1 s1 e s' I h⟩
theorem raise_leave {pins : List (Addr × Obj)} {σ : St} {H1 : Hp} {s1 : Shared} {h' : Heap} {e : Addr} {cls : Value} {vs : List Value} (I : Inv (cxOf (CXe P w) P w K mg base N qual scope f cd A outer s H E) pins σ H1 s1)
    (hx : Heap.MadeExcOf s1.heap h' e cls vs) (hE : E cls none H1) : (cxOf (CXe P w) P w K mg base N qual scope f cd A outer s H E).xe (.ref e) { s1 with heap := h' } := by
  have noex : ∀ b : Addr, b ∉ (cxOf (CXe P w) P w K mg base N qual scope f cd A outer s H E).ex := fun b z => absurd (show b ∈ ([] : List Addr) from z) (by simp)
  have hfr : s1.heap.FunFrames (PySem.W.hideAll s1.heap (frs (envOfC qual scope s.heap.objs.size f cd :: outer))) (envOfC qual scope s.heap.objs.size f cd :: outer) :=
    PySem.W.funFrames_hide I.stack fun env he b hb => List.mem_filterMap.mpr ⟨env, he, hb⟩
  refine wpAny_leaves_madeW (L := s.heap.objs.size) (base := PySem.W.hideAll s1.heap (frs (envOfC qual scope s.heap.objs.size f cd :: outer))) I.ok.frames rfl (fun b o q => PySem.W.of_hideAll _ q) hfr hx fun h2 t x1 x2 x3 x4 => ?_
  refine ⟨e, cls, H1, _, t, rfl, ⟨I.os, I.bare, x1, fun b o q n hb => ?_, fun b o q hb => ?_, fun b o q n hb => ?_, fun b o q n => I.base.free b o q n (noex b), fun b xs q => I.base.tups b xs q, fun b o u q => I.base.frzs b o u q, fun b ps q => I.base.tbls b ps q, ?_⟩, hE⟩
  · exact PySem.W.hideAll_get _ (I.base.keep b o q n hb (noex b)) (not_in_stack q hb)
  · obtain ⟨o1, e1⟩ := I.base.there b o q (noex b)
    exact ⟨o1, PySem.W.hideAll_get _ e1 (not_in_stack q hb)⟩
  · obtain ⟨sl, e1⟩ := I.base.slot b o q n hb (noex b)
    obtain ⟨sl2, e2⟩ := x4 b _ (hx.keeps _ _ e1) (frame_data hfr (in_stack hb) e1)
    exact ⟨sl2, e2⟩
  · refine hok_sub I.hok fun b u hb q => PySem.W.hideAll_get _ q fun m => hb ?_
    exact I.stkFree b m
end
structure XCls (K : PySem.W.Frag) (mg : Str → Option Value) (c : String) (C : Addr) : Prop where
  m : mg (Str.ofString c) = some (.ref C)
  ns : PySem.W.nsIn K mainGlobals (Str.ofString c) = some (some (.ref C))
  ex : PySem.W.excIn K C [.type "ValueError", .type "Exception", .type "BaseException", .type "object"] "ValueError.__new__" = true
theorem exc_parts {K : PySem.W.Frag} {C : Addr} {bm0 : List Value} {newId : String} (q : PySem.W.excIn K C bm0 newId = true) :
    ∃ bm N nm qn bs hd sn sub ab col dd k0 k1 k2 k3 k5, K.lookup C = some (excClassObj nm qn C N bs bm hd sn sub ab col dd k0 k1 k2 k3 k5 newId) ∧ PySem.W.nsOkIn K N = true ∧ PySem.W.nsIn K N "__init__" = some none ∧ PySem.W.tailIn K bm0 bm = true := by
  unfold PySem.W.excIn at q
  split at q
  case h_2 => cases q
  case h_1 dd cd sl ho =>
    split at q
    case h_2 => cases q
    case h_1 C1 bm k0 k1 k2 k3 n1 k5 hm hs =>
      simp only [Bool.and_eq_true, beq_iff_eq, Bool.not_eq_true'] at q
      obtain ⟨⟨⟨⟨⟨e1, e2⟩, e3⟩, e4⟩, e5⟩, e6⟩ := q
      subst e1 e2
      cases cd with
      | mk nm bs mro ns qn hd sn sub ab col del =>
        simp only at hm e3 e5 e6
        subst hm e3
        cases sl with
        | mk l =>
          simp only at hs
          subst hs
          exact ⟨bm, ns, nm, qn, bs, hd, sn, sub, ab, col, dd, k0, k1, k2, k3, k5, ho, e5, e6, e4⟩
theorem ns_move {K : PySem.W.Frag} {h h' : Heap} {N : Addr} {m : Str → Option Value} (X : K.In h) (X' : K.In h') (e : PySem.W.nsOkIn K N = true) (n : h.Ns N m) : h'.Ns N m := by
  obtain ⟨o, es, ep, ho, hd, r⟩ := n
  unfold PySem.W.nsOkIn at e
  split at e
  · rename_i a b c d q
    have := X _ _ q
    rw [ho] at this
    cases this
    exact ⟨_, es, ep, X' _ _ q, hd, r⟩
  · cases e
theorem ps_raise {P : Program} {w : World} {K : PySem.W.Frag} {mg : Str → Option Value} {base : Heap} {N : List Str} {qual : Str} {scope : Scope} {f : Addr} {cd : Value} {A : Around} {outer : List PySem.Env} {s : Shared} {H : Hp} {E : XK} {c : String} {Ca : Addr} {tx : Str} {j : Nat} {np p2 cpos pos : Pos}
    (x : XCls K mg c Ca) (hg : Gl (cxOf (CXe P w) P w K mg base N qual scope f cd A outer s H E) (Str.ofString c)) (hd : (Str.ofString c == ("__debug__" : Str)) = false) (hh : (A.deeper (envOfC qual scope s.heap.objs.size f cd)).handled = none) :
    PS (cxOf (CXe P w) P w K mg base N qual scope f cd A outer s H E) (.Raise (some (.Call (.Name (Str.ofString c) np) [.Constant (.str tx) j p2] [] cpos)) none pos) (fun _ _ H1 => E (.ref Ca) none H1) := by
  intro pins s1 σ H1 D I hE
  obtain ⟨bm, Na, nm, qn, bs, hdd, sn, sub, ab, col, dd, k0, k1, k2, k3, k5, hC, hN, hni, hT⟩ := exc_parts x.ex
  have T := PySem.W.tail_of_in I.kIn hT
  refine wpAny_Raise_call_subT (C := Ca) (nm := nm) (q := qn) (N := Na) (bs := bs) (bm := bm) (hdct := hdd) (sn := sn) (sub := sub) (ab := ab) (col := col) (dd := dd) (k0 := k0) (k1 := k1) (k2 := k2) (k3 := k3) (k5 := k5) PySem.F.excBase_ValueError (mN := s1.heap.nsMap Na) (T.hasType (by decide)) hh rfl (PySem.W.nsMap_none_of_in I.kIn hN hni) ?_
  have pn := pe_glob (X := cxOf (CXe P w) P w K mg base N qual scope f cd A outer s H E) (v := .ref Ca) (pos := np) hg x.m rfl hd
  refine thn (pn pins s1 σ H1 (fun v H2 => v = .ref Ca ∧ H2 = H1) I ⟨rfl, rfl⟩) ?_
  rintro u s2 ⟨v, H2, I2, r2, rfl, rfl⟩
  obtain rfl : u = Value.ref Ca := r2
  refine ⟨rfl, Calls.evalArgs_plain ?_⟩
  have pa := pa_cons (X := cxOf (CXe P w) P w K mg base N qual scope f cd A outer s H E) (e := .Constant (.str tx) j p2) pe_str pa_nil
  refine thn (pa cpos pins s2 σ H2 (fun vs H3 => vs = [.str tx] ∧ H3 = H2) I2 ⟨rfl, rfl⟩) ?_
  rintro us s3 ⟨vs, H3, I3, r3, rfl, rfl⟩
  have hl : us.length = 1 := r3.length.symm
  refine ⟨rfl, by rw [hl]; decide, I3.kIn _ _ hC, ns_move I.kIn I3.kIn hN (.of_isNs (PySem.W.isNs_of_in I.kIn hN)), PySem.W.tail_of_in I3.kIn hT, fun h' e hx => ?_⟩
  exact raise_leave I3 hx hE
theorem ss_raise {P : Program} {w : World} {K : PySem.W.Frag} {mg : Str → Option Value} {base : Heap} {cls : String → Value} {N : List Str} {qual : Str} {scope : Scope} {f : Addr} {cd : Value} {A : Around} {outer : List PySem.Env} {s : Shared} {H : Hp} {E : XK} {k : Nat} {hr : Room k (A.deeper (envOfC qual scope s.heap.objs.size f cd))} {c : String} {Ca : Addr} {tx : Str} {j : Nat} {np p2 cpos pos : Pos}
    (x : XCls K mg c Ca) (hcls : cls c = .ref Ca) (hg : Gl (cxOf (CXe P w) P w K mg base N qual scope f cd A outer s H E) (Str.ofString c)) (hd : (Str.ofString c == ("__debug__" : Str)) = false := by decide) :
    SSs (ctxOf (cxe_ok (P := P) (w := w)) cls K mg base N qual scope f cd A outer s H E hr) [.Raise (some (.Call (.Name (Str.ofString c) np) [.Constant (.str tx) j p2] [] cpos)) none pos] (Dv.sRaise c) := by
  refine ⟨_, pss_one (ps_raise x hg hd hr.hd), fun Hv₀ H₀ E' σ H' st r q => ?_⟩
  have q' : E (cls c) none H' := q σ H' r
  rw [hcls] at q'
  exact q'
end Sd
set_option Elab.async false
set_option linter.all false
set_option maxRecDepth 100000
namespace Sd
open PySem PySem.Spec PyProof.Rows L2
open Dv (D R RL EE EL EI RI Sl Out SS)
structure XLook (K : PySem.W.Frag) (C : Addr) : Prop where
  ex : PySem.W.excIn K C [.type "ValueError", .type "Exception", .type "BaseException", .type "object"] "ValueError.__new__" = true
  ga : PySem.W.findIn K (.ref C) "__getattribute__" = some (some (.builtin "BaseException.__getattribute__"))
  gn : PySem.W.findIn K (.ref C) "__getattr__" = some none
  kc : PySem.W.findIn K (.ref C) "__class__" = some (some (.builtin "object.__class__"))
section
variable {prog : Program} {w : World} {A : Around} {E : Value → Shared → Prop} {K : PySem.W.Frag} {h : Heap} {g : Array GenState} {d : Drawn} {t : Nat} {os : OsState} {a C : Addr} {o : Obj}
theorem xc_get {R : Result → Shared → Prop} (X : K.In h) (x : XLook K C) (hx : h.get? a = some o) (hc : o.cls = .ref C) (hq : R (.ok (.ret (.ref C))) ⟨h, g, d, t, os⟩) :
    codeAny (model prog w) A (.call (.builtin "getset_descriptor.__get__") ⟨[.builtin "object.__class__", .ref a, .ref C], []⟩) R ⟨h, g, d, t, os⟩ := by
  obtain ⟨bm, Na, nm, qn, bs, hdd, sn, sub, ab, col, dd, k0, k1, k2, k3, k5, kC, _, _, hT⟩ := exc_parts x.ex
  have hC := X _ _ kC
  have TL := PySem.W.tail_of_in X hT
  have own : (Value.ref C :: bm).contains (.type (".".intercalate ("object.__class__".cutAt '.').dropLast)) = true := by
    rw [F.owner_object_class, List.contains_cons, TL.hasType (show List.contains [Value.type "ValueError", Value.type "Exception", Value.type "BaseException", Value.type "object"] (Value.type "object") = true by decide)]
    rfl
  refine codeAny_call_builtin F.slot_gs_get.plain F.entry_gs_get (F.slot_gs_get.check _ _ _ _ _ _ _ _ (show (⟨h, g, d, t, os⟩ : Shared).TypeIs (.builtin "object.__class__") "getset_descriptor" from F.typeOf_object_class) (F.args_gs_get _ _ _) ?_)
  have ty0 : (⟨h, g, d, t, os⟩ : Shared).TypeIs (.builtin "object.__class__") "getset_descriptor" := F.typeOf_object_class
  repeat (any_goals (first
    | assumption
    | (with_reducible refine wpAny_loadPart_at hx ?_; rw [hc])
    | (with_reducible refine wpAny_isSubtype_exc hC ?_; rw [own])
    | wp_step))
  refine ⟨Code.quiet_builtin _ (by decide +kernel), codeAny_builtin F.entry_object_class ?_⟩
  repeat (any_goals (first
    | assumption
    | (with_reducible refine wpAny_loadPart_at hx ?_; rw [hc])
    | wp_step))
theorem xc_entry {tk : Tok} {Q : Fin → Shared → Prop} (X : K.In h) (x : XLook K C) (hx : h.get? a = some o) (hc : o.cls = .ref C) (hq : Q (.done (.ret (.ref C))) ⟨h, g, d, t, os⟩) :
    wpAny (model prog w) A (Builtin.«object.__getattribute__» ⟨[.ref a, .str "__class__" tk], []⟩) Q E ⟨h, g, d, t, os⟩ := by
  have ty0 : (⟨h, g, d, t, os⟩ : Shared).TypeIs (.builtin "object.__class__") "getset_descriptor" := F.typeOf_object_class
  have ty1 := F.typeOf_object_class
  have lk1 := F.slot_gs_get.lookup
  have lk2 := F.slot_gs_set.lookup
  have L := PySem.W.looks_findIn (M := model prog w) X x.kc
  repeat (any_goals (first
    | assumption
    | (with_reducible refine wpAny_loadPart_at hx ?_; rw [hc])
    | with_reducible refine L.at ?_
    | wp_step))
  refine xc_get X x hx hc ?_
  repeat (any_goals (first
    | assumption
    | wp_step))
theorem xc_check {M : Model} {nameV : Value} {Q : Unit → Shared → Prop} (X : K.In h) (x : XLook K C) (hx : h.get? a = some o) (hc : o.cls = .ref C) (hq : Q () ⟨h, g, d, t, os⟩) :
    wpAny M A (checkBuiltinCall "BaseException.__getattribute__" ⟨[.ref a, nameV], []⟩) Q E ⟨h, g, d, t, os⟩ := by
  obtain ⟨bm, Na, nm, qn, bs, hdd, sn, sub, ab, col, dd, k0, k1, k2, k3, k5, kC, _, _, hT⟩ := exc_parts x.ex
  have hC := X _ _ kC
  have TL := PySem.W.tail_of_in X hT
  have own : (Value.ref C :: bm).contains (.type "BaseException") = true := by
    rw [List.contains_cons, TL.hasType (show List.contains [Value.type "ValueError", Value.type "Exception", Value.type "BaseException", Value.type "object"] (Value.type "BaseException") = true by decide)]
    rfl
  have bk : builtinKind "BaseException.__getattribute__" = some .slot := by decide +kernel
  have bsp : splitId "BaseException.__getattribute__" = some ("BaseException", "__getattribute__") := by decide +kernel
  have ba := F.args_bexc_ga (.ref a) nameV
  simp only [checkBuiltinCall, bk, bsp]
  refine wpAny_bind ?_
  unfold isInstance
  repeat (first
    | (with_reducible refine wpAny_loadPart_at hx ?_; rw [hc])
    | (with_reducible refine wpAny_isSubtype_exc hC ?_; rw [own])
    | wp_step)
  exact hq
theorem xc_call {tk : Tok} {R : Result → Shared → Prop} (X : K.In h) (x : XLook K C) (hx : h.get? a = some o) (hc : o.cls = .ref C) (hq : R (.ok (.ret (.ref C))) ⟨h, g, d, t, os⟩) :
    codeAny (model prog w) A (.call (.builtin "BaseException.__getattribute__") ⟨[.ref a, .str "__class__" tk], []⟩) R ⟨h, g, d, t, os⟩ :=
  codeAny_call_builtin F.attr_ValueError.ga.plain F.entry_bexc_ga (xc_check X x hx hc (xc_entry X x hx hc hq))
theorem xc_by {tk : Tok} {Q : Value → Shared → Prop} (X : K.In h) (x : XLook K C) (hx : h.get? a = some o) (hc : o.cls = .ref C) (hq : Q (.ref C) ⟨h, g, d, t, os⟩) :
    wpAny (model prog w) A (getAttrBy (.ref a) (.str "__class__" tk) false) Q E ⟨h, g, d, t, os⟩ := by
  have bd := F.attr_ValueError.ga.bind (.ref a)
  have n2 : (Value.builtin "BaseException.__getattribute__" == Value.builtin "object.__getattribute__") = false := by decide +kernel
  have n1 : (onTheHeap (Value.ref C) && Value.builtin "BaseException.__getattribute__" == Value.builtin "object.__getattribute__") = false := by rw [n2]; rfl
  have L := PySem.W.looks_findIn (M := model prog w) X x.ga
  have L2 := PySem.W.looks_findIn (M := model prog w) X x.gn
  repeat (any_goals (first
    | assumption
    | (with_reducible refine wpAny_loadPart_at hx ?_; rw [hc])
    | with_reducible refine L.at ?_
    | with_reducible refine L2.at ?_
    | wp_step))
  refine xc_call X x hx hc ?_
  repeat (any_goals (first
    | assumption
    | wp_step))
theorem xc_attr {Q : Option Value → Shared → Prop} (X : K.In h) (x : XLook K C) (hx : h.get? a = some o) (hc : o.cls = .ref C) (hq : Q (some (.ref C)) ⟨h, g, d, t + 1, os⟩) :
    wpAny (model prog w) A (getAttr? (.ref a) "__class__") Q E ⟨h, g, d, t, os⟩ := by
  unfold getAttr? getAttrBy?
  repeat (any_goals (first
    | assumption
    | with_reducible apply xc_by X x hx hc
    | wp_step))
end
theorem kitx_exc {K : PySem.W.Frag} {a C : Addr} (x : XLook K C) : PySem.W.KitX K (.ref a) (.ref C) (ExcOf a C) where
  ty := fun M h _ p => by
    obtain ⟨o, vs, h1, h2, _⟩ := p
    intro A Q E s k q
    unfold typeOf
    exact wpAny_bind (wpAny_loadPart (k _ _ h1) (wpAny_pure (by rw [h2]; exact q)))
  it := fun M h X _ => by
    obtain ⟨bm, Na, nm, qn, bs, hdd, sn, sub, ab, col, dd, k0, k1, k2, k3, k5, kC, _, _, hT⟩ := exc_parts x.ex
    intro A Q E s k q
    unfold isType loadHead
    exact wpAny_bind (wpAny_loadPart (k _ _ (X _ _ kC)) (wpAny_pure q))
  ne := fun h tp dd its n sl X htp => by
    obtain ⟨bm, Na, nm, qn, bs, hdd, sn, sub, ab, col, dd', k0, k1, k2, k3, k5, kC, _, _, hT⟩ := exc_parts x.ex
    refine Bool.eq_false_iff.mpr fun q => ?_
    have e : C = tp := Value.ref.inj (beq_iff_eq.mp q)
    subst e
    have z := congrArg (Option.map Obj.cls) ((X _ _ kC).symm.trans htp)
    simp [excClassObj] at z
  ca := fun {prog w A E Q s} X p k => by
    obtain ⟨o, vs, h1, h2, _⟩ := p
    obtain ⟨h, g, d, t, os⟩ := s
    exact xc_attr X x h1 h2 k
structure XAll (K : PySem.W.Frag) (mg : Str → Option Value) (ad : String → Option Addr) : Prop where
  cl : ∀ c C, ad c = some C → XCls K mg c C ∧ XLook K C
  sub : ∀ c C k C', ad c = some C → ad k = some C' → PySem.W.kitOne K (.ref C) (.ref C') = some (Dv.subX c k)
  val : ∀ c C, ad c = some C → PySem.W.kitOne K (.ref C) (.type "ValueError") = some true
theorem call_isx {X : Cx} {ad : String → Option Addr} (xa : XAll X.K X.mg ad) {k : String} {C' : Addr} (hk : ad k = some C') :
    CallR X (.builtin "isinstance") (fun xs H Q => ∃ x c, xs = [x, .ref C'] ∧ (∃ C, ad c = some C) ∧ Rp X.K H (.exn c) x ∧ Q (.bl (Dv.subX c k)) H) := by
  intro pins s σ H xs us Q I r h
  obtain ⟨x, c, rfl, ⟨C, hc⟩, rp, q⟩ := h
  obtain ⟨u, w', rfl, ru, rw'⟩ := vals2 r
  obtain rfl : w' = Value.ref C' := rw'
  unfold Rp at rp
  obtain ⟨a, C2, rfl, n2, h2⟩ := rp
  obtain ⟨x1, x2⟩ := xa.cl c C hc
  have e : C2 = C := by
    have := n2.symm.trans x1.ns
    simpa using this
  subst e
  cases ru
  obtain ⟨p, _⟩ := I.hok a _ h2
  exact PySem.W.kia_one (kitx_exc x2) I.kIn p (xa.sub c _ k C' hc hk) (fun z => nomatch z) fun tk => ⟨.bl (Dv.subX c k), H, I.tok tk, rfl, q⟩
theorem call_isv {X : Cx} {ad : String → Option Addr} (xa : XAll X.K X.mg ad) :
    CallR X (.builtin "isinstance") (fun xs H Q => ∃ x c, xs = [x, .ty "ValueError"] ∧ (∃ C, ad c = some C) ∧ Rp X.K H (.exn c) x ∧ Q (.bl true) H) := by
  intro pins s σ H xs us Q I r h
  obtain ⟨x, c, rfl, ⟨C, hc⟩, rp, q⟩ := h
  obtain ⟨u, w', rfl, ru, rw'⟩ := vals2 r
  obtain rfl : w' = Value.type "ValueError" := rw'
  unfold Rp at rp
  obtain ⟨a, C2, rfl, n2, h2⟩ := rp
  obtain ⟨x1, x2⟩ := xa.cl c C hc
  have e : C2 = C := by
    have := n2.symm.trans x1.ns
    simpa using this
  subst e
  cases ru
  obtain ⟨p, _⟩ := I.hok a _ h2
  exact PySem.W.kia_one (kitx_exc x2) I.kIn p (xa.val c _ hc) (fun z => nomatch z) fun tk => ⟨.bl true, H, I.tok tk, rfl, q⟩
end Sd
set_option Elab.async false
set_option linter.all false
set_option maxRecDepth 100000
namespace Sd
open PySem PySem.Spec PyProof.Rows L2
open Dv (D R RL EE EL EI RI Sl Out SS)
theorem Fly.un {P : Program} {w : World} {outer : List PySem.Env} {H H' : Hp} {s s' : Shared} {a t : Addr} {cls : Value} {B h : Heap} (F : Fly P w outer H s a cls H' B t s') (sb : B.StaysIn h) (sm : s'.heap.UpToSlots h) (hf : ∀ b ∈ frs outer, H b = none) :
    Un (frs outer) [] H H' s.heap h where
  keep := fun b o e n hb _ => sb b o (F.keepB b o e n hb)
  slot := fun b o e n hb _ => by
    obtain ⟨sl, e1⟩ := F.slot b o e n hb
    obtain ⟨sl2, e2⟩ := sm b _ e1 (frame_data F.fl.2.2.1 hb e1)
    exact ⟨sl2, e2⟩
  free := fun b o e n _ => F.free b o e n
  there := fun b o e _ => by
    by_cases hb : b ∈ frs outer
    · obtain ⟨sl, e1⟩ := F.slot b o e (hf b hb) hb
      obtain ⟨sl2, e2⟩ := sm b _ e1 (frame_data F.fl.2.2.1 hb e1)
      exact ⟨_, e2⟩
    · obtain ⟨o1, e1⟩ := F.thereB b o e hb
      exact ⟨o1, sb b o1 e1⟩
  tups := F.tups
  frzs := F.frzs
  tbls := F.tbls
theorem Fly.none {P : Program} {w : World} {outer : List PySem.Env} {H H' : Hp} {s s' : Shared} {a t : Addr} {cls : Value} {B : Heap} (F : Fly P w outer H s a cls H' B t s') : H' a = Option.none := by
  cases q : H' a with
  | none => rfl
  | some o =>
    have e := F.fl.2.1
    obtain ⟨o', h1⟩ : ∃ o', B.get? a = some o' := by
      have := (F.hokB a o q).lt
      have k := F.hokB a o q
      cases o with
      | lst xs => obtain ⟨_, _, _, _, z⟩ := k; exact ⟨_, z⟩
      | tup xs => obtain ⟨_, _, _, _, z, _⟩ := k; exact ⟨_, z⟩
      | dK kvs => obtain ⟨_, _, _, _, o, _, _, z, _⟩ := k; exact ⟨_, z⟩
      | dT kvs => obtain ⟨_, _, _, _, o, _, _, z, _⟩ := k; exact ⟨_, z⟩
      | set S n => obtain ⟨o, _, _, _, z, _⟩ := k; exact ⟨_, z⟩
      | ins C dx fs => obtain ⟨_, _, _, z, _⟩ := k; exact ⟨_, z⟩
      | own y => obtain ⟨_, z⟩ := k; exact ⟨_, z⟩
      | xd fs => obtain ⟨_, ⟨_, _, _, z, _⟩, _⟩ := k; exact ⟨_, z⟩
      | rng lo hi => obtain ⟨_, _, _, z⟩ := k; exact ⟨_, z⟩
      | frz ob u => obtain ⟨z, _⟩ := k; exact ⟨_, z⟩
      | tbl ps => exact ⟨_, (show B.get? a = some _ from k)⟩
      | met f y => exact ⟨_, (show B.get? a = some _ from k)⟩
      | ext φ => obtain ⟨_, ⟨_, z⟩, _⟩ := k; exact ⟨_, z⟩
    rw [e] at h1
    cases h1
def tryX (X : Cx) (pins : List (Addr × Obj)) (xe : Value → Shared → Prop) : Cx := { X with pn := X.pn ++ pins, xe := xe }
def hdX (X : Cx) (pins : List (Addr × Obj)) (e : Addr) : Cx := { X with A := X.A.mark (some (.ref e)), calm := false, pn := X.pn ++ pins, xe := fun _ _ => False }
section
variable {X : Cx} {pins pins' : List (Addr × Obj)} {σ : St} {H : Hp} {s : Shared} {xe : Value → Shared → Prop} {e : Addr}
theorem Inv.toTry (I : Inv X pins σ H s) : Inv (tryX X pins xe) [] σ H s :=
  ⟨⟨I.ok.mod, I.ok.kind, I.ok.glob, I.ok.blt, I.ok.above, I.ok.inj, I.ok.has, I.ok.cab, I.ok.hd, I.ok.frames, I.ok.stk, I.ok.exf, I.ok.bs, I.ok.bsz, I.ok.noex, I.ok.exfs, I.ok.funs, I.ok.frf⟩, I.os, I.bare, I.base, I.loc, I.cell, I.free, I.freeC, fun p hp => I.pin p (by
    have hp' : p ∈ (X.pn ++ pins) ++ [] := hp
    rwa [List.append_nil] at hp'), I.hok, I.len⟩
theorem Inv.ofTry (I : Inv (tryX X pins xe) pins' σ H s) : Inv X pins σ H s :=
  ⟨⟨I.ok.mod, I.ok.kind, I.ok.glob, I.ok.blt, I.ok.above, I.ok.inj, I.ok.has, I.ok.cab, I.ok.hd, I.ok.frames, I.ok.stk, I.ok.exf, I.ok.bs, I.ok.bsz, I.ok.noex, I.ok.exfs, I.ok.funs, I.ok.frf⟩, I.os, I.bare, I.base, I.loc, I.cell, I.free, I.freeC, fun p hp => I.pin p (List.mem_append_left _ hp), I.hok, I.len⟩
theorem Inv.toHd (I : Inv X pins σ H s) : Inv (hdX X pins e) [] σ H s :=
  ⟨⟨I.ok.mod, I.ok.kind, I.ok.glob, I.ok.blt, I.ok.above, I.ok.inj, I.ok.has, I.ok.cab, (fun z => nomatch z), I.ok.frames, I.ok.stk, I.ok.exf, I.ok.bs, I.ok.bsz, I.ok.noex, I.ok.exfs, I.ok.funs, I.ok.frf⟩, I.os, I.bare, I.base, I.loc, I.cell, I.free, I.freeC, fun p hp => I.pin p (by
    have hp' : p ∈ (X.pn ++ pins) ++ [] := hp
    rwa [List.append_nil] at hp'), I.hok, I.len⟩
theorem Inv.ofHd (hd : X.calm = true → X.A.handled = none) (I : Inv (hdX X pins e) pins' σ H s) : Inv X pins σ H s :=
  ⟨⟨I.ok.mod, I.ok.kind, I.ok.glob, I.ok.blt, I.ok.above, I.ok.inj, I.ok.has, I.ok.cab, hd, I.ok.frames, I.ok.stk, I.ok.exf, I.ok.bs, I.ok.bsz, I.ok.noex, I.ok.exfs, I.ok.funs, I.ok.frf⟩, I.os, I.bare, I.base, I.loc, I.cell, I.free, I.freeC, fun p hp => I.pin p (List.mem_append_left _ hp), I.hok, I.len⟩
theorem SP.ofTry {D : Ends} {f : Flow} (h : SP (tryX X pins xe) pins' D f s) : SP X pins D f s := by
  cases f with
  | next => obtain ⟨σ', H', I, q⟩ := h; exact ⟨σ', H', Inv.ofTry I, q⟩
  | brk => obtain ⟨σ', H', I, q⟩ := h; exact ⟨σ', H', Inv.ofTry I, q⟩
  | cont => obtain ⟨σ', H', I, q⟩ := h; exact ⟨σ', H', Inv.ofTry I, q⟩
  | ret u => obtain ⟨v, σ', H', I, r, q⟩ := h; exact ⟨v, σ', H', Inv.ofTry I, r, q⟩
end
def tryCtx (C : Ctx) (pins : List (Addr × Obj)) (xe : Value → Shared → Prop) (W : St → XK) (own : PassesOwn (model C.X.prog C.X.w) C.X.A C.X.env xe)
    (pass : ∀ (pins' : List (Addr × Obj)) (σ : St) (H : Hp) (s : Shared) (e : Value) (s' : Shared), Inv (tryX C.X pins xe) pins' σ H s → C.CX C.X.stack H s (W σ) e s' → xe e s') : Ctx where
  X := tryX C.X pins xe
  W := W
  cls := C.cls
  CX := C.CX
  un := C.un
  own := own
  pass := pass
  cxF := C.cxF
def hdCtx (C : Ctx) (pins : List (Addr × Obj)) (e : Addr) : Ctx where
  X := hdX C.X pins e
  W := fun _ _ _ _ => False
  cls := C.cls
  CX := C.CX
  un := C.un
  own := PassesOwn.never
  pass := fun _ _ _ _ _ _ _ h => C.cxF _ _ _ _ _ h
  cxF := C.cxF
theorem RelC.unset {K : PySem.W.Frag} {Hv₀ H₀ Hc H : Hp} {O : Nat → Hp} {st : Dv.St} {σ : St} {i : Nat} (r : RelC K Hv₀ H₀ Hc O st σ H) : RelC K Hv₀ H₀ Hc O (st.set i .no) (σ.set i none) H := r.setNo
theorem name_gone {X : Cx} {pins : List (Addr × Obj)} {σ : St} {H : Hp} {s : Shared} {A : Around} {E : Value → Shared → Prop} {i : Nat} {n : Str} {pos : Pos} {Q : Unit → Shared → Prop} {M : Model} (I : Inv X pins σ H s) (hN : X.N.Nodup) (hi : X.N[i]? = some n) (hl : X.env.scope.names.lookup n = some .local)
    (h : ∀ s', Inv X pins (σ.set i none) H s' → Q () s') : wpAny M A (do bindName X.env n .none; unbindBehindTheSuite X.env n pos) Q E s := by
  obtain ⟨m, hn, hm⟩ := id I.loc
  have kf : (X.env.scope.kind == .class || (X.env.scope.kind == .module && X.env.locals != X.env.globals)) = false := by rw [I.ok.kind]; rfl
  refine wpAny_nameGoes_keeps hl hn kf fun h' v hn' hs => h _ ?_
  obtain ⟨oL, _, _, hoL, _⟩ := id hn
  have old : ∀ {b : Addr} {o : Obj}, X.s₀.heap.get? b = some o → b ≠ X.env.locals := fun {b o} e => Nat.ne_of_lt (Nat.lt_of_lt_of_le (Heap.lt_size e) I.ok.above)
  have cne := I.cne
  refine ⟨I.ok, I.os, I.bare, ⟨fun b o e n' hb hx => (hs.2 b (old e)).trans (I.base.keep b o e n' hb hx), fun b o e n' hb hx => ?_, I.base.free, fun b o e hx => ?_, I.base.tups, I.base.frzs, I.base.tbls⟩, ⟨_, hn', fun j y v' e1 e2 e3 => ?_⟩, fun y c e => ?_, I.free, I.freeC, fun p hp => ?_, ?_, by rw [List.length_set]; exact I.len⟩
  · obtain ⟨sl, e1⟩ := I.base.slot b o e n' hb hx
    exact ⟨sl, (hs.2 b (old e)).trans e1⟩
  · obtain ⟨o', e1⟩ := I.base.there b o e hx
    exact ⟨o', (hs.2 b (old e)).trans e1⟩
  · rcases set_get e2 with ⟨_, z, _⟩ | ⟨hj, e2⟩
    · cases z
    · obtain ⟨u, r, q⟩ := hm j y v' e1 e2 e3
      refine ⟨u, r, ?_⟩
      have hyn : y ≠ n := fun z => by
        subst z
        have hjl : j < X.N.length := (List.getElem?_eq_some_iff.mp e1).1
        have hil : i < X.N.length := (List.getElem?_eq_some_iff.mp hi).1
        have e3' : X.N[j] = X.N[i] := by
          have a1 := (List.getElem?_eq_some_iff.mp e1).2
          have a2 := (List.getElem?_eq_some_iff.mp hi).2
          rw [a1, a2]
        exact hj ((List.getElem_inj (h₀ := hjl) (h₁ := hil) hN).mp e3')
      rcases q with ⟨q1, q2⟩ | ⟨q1, c, q2, q3⟩
      · exact .inl ⟨q1, (if_neg hyn).trans q2⟩
      · refine .inr ⟨q1, c, q2, ?_⟩
        exact q3.sameBut hs (cne y c q2)
  · obtain ⟨v, hv⟩ := I.cell y c e
    exact ⟨v, hv.sameBut hs (cne y c e)⟩
  · obtain ⟨p1, p2, p3, p4⟩ := I.pin p hp
    exact ⟨(hs.2 p.1 p3).trans p1, p2, p3, p4⟩
  · exact hok_sub I.hok fun b u hb q => (hs.2 b fun z => hb (by rw [z]; exact I.free)).trans q
theorem xc_match {M : Model} {A : Around} {E : Value → Shared → Prop} {K : PySem.W.Frag} {h : Heap} {g : Array GenState} {d : Drawn} {t : Nat} {os : OsState} {a C Ck : Addr} {o : Obj} {Q : Bool → Shared → Prop} (X : K.In h) (xk : XLook K Ck) (hx : h.get? a = some o) (hc : o.cls = .ref C)
    (sub : PySem.W.Looks M h (isSubtype (.ref C) (.ref Ck)) true) (hq : Q true ⟨h, g, d, t, os⟩) : wpAny M A (excMatches (.ref a) (.ref Ck)) Q E ⟨h, g, d, t, os⟩ := by
  obtain ⟨bm, Na, nm, qn, bs, hdd, sn, su, ab, col, dd, k0, k1, k2, k3, k5, kC, _, _, hT⟩ := exc_parts xk.ex
  have hC := X _ _ kC
  have TL := PySem.W.tail_of_in X hT
  have own : (Value.ref Ck :: bm).contains (.type "BaseException") = true := by
    rw [List.contains_cons, TL.hasType (show List.contains [Value.type "ValueError", Value.type "Exception", Value.type "BaseException", Value.type "object"] (Value.type "BaseException") = true by decide)]
    rfl
  have nt := tc_notTuple
  unfold excMatches
  repeat (first
    | (with_reducible refine wpAny_loadPart_at hx ?_; rw [hc])
    | with_reducible refine wpAny_loadPart_at hC ?_
    | with_reducible refine sub.at ?_
    | (with_reducible refine wpAny_isSubtype_exc hC ?_; rw [own])
    | wp_step)
  exact hq
theorem sub_looks {M : Model} {K : PySem.W.Frag} {h : Heap} {C Ck : Addr} (X : K.In h) (x : XLook K C) (e : PySem.W.kitOne K (.ref C) (.ref Ck) = some true) : PySem.W.Looks M h (isSubtype (.ref C) (.ref Ck)) true := by
  unfold PySem.W.kitOne at e
  split at e
  · rename_i q
    have z : Value.ref C = Value.ref Ck := beq_iff_eq.mp q
    rw [← z]
    obtain ⟨bm, Na, nm, qn, bs, hdd, sn, su, ab, col, dd, k0, k1, k2, k3, k5, kC, _, _, hT⟩ := exc_parts x.ex
    intro A Q E s k hq
    have hC := k _ _ (X _ _ kC)
    obtain ⟨hh, g, d, t, os⟩ := s
    refine wpAny_isSubtype_exc hC ?_
    have own : (Value.ref C :: bm).contains (Value.ref C) = true := by simp
    rw [own]
    exact hq
  · exact (PySem.W.kit_cls X e).2.2
theorem okS_try {C C' : Ctx} {Hv₀ H₀ : Hp} {D : Ends} {o o' : Out} (hK : C'.X.K = C.X.K) (w : OkS C Hv₀ H₀ D o') (hx : ∀ c st2, o = .exc c st2 → ∀ σ H, Rel C.X.K Hv₀ H₀ st2 σ H → C'.W σ (C'.cls c) none H) (ho : (∀ c st2, o ≠ .exc c st2) → o' = o) : OkS C' Hv₀ H₀ D o := by
  have nx : ∀ {st : Dv.St} {σ : St} {H : Hp}, Rel C'.X.K Hv₀ H₀ st σ H → Rel C.X.K Hv₀ H₀ st σ H := fun {st σ H} r => by rw [← hK]; exact r
  cases o with
  | exc c st2 => exact fun σ H r => hx c st2 rfl σ H (nx r)
  | nx st2 => rw [ho (fun _ _ z => nomatch z)] at w; exact fun σ H r => w σ H (nx r)
  | brk st2 => rw [ho (fun _ _ z => nomatch z)] at w; exact fun σ H r => w σ H (nx r)
  | cont st2 => rw [ho (fun _ _ z => nomatch z)] at w; exact fun σ H r => w σ H (nx r)
  | ret d nw =>
    rw [ho (fun _ _ z => nomatch z)] at w
    have e : C'.X.K = C.X.K := hK
    unfold OkS at w ⊢
    rw [e]
    exact w
  | bad => rw [ho (fun _ _ z => nomatch z)] at w; exact w
section
variable {C : Ctx} {ad : String → Option Addr} {kn : List String} {k : String} {Ck : Addr} {body suite : List Stmt} {b₀ : Stmt} {F G : SS} {np hpos pos : Pos}
theorem st_tryAs (xa : XAll C.X.K C.X.mg ad) (hkn : ∀ c ∈ kn, ∃ Ca, ad c = some Ca ∧ C.cls c = .ref Ca) (hk : ad k = some Ck) {i : Nat} {n : Str} (hN : C.X.N.Nodup) (hi : C.X.N[i]? = some n) (hg : Gl C.X (Str.ofString k))
    (hb : ∀ pins xe W own pass, SSs (tryCtx C pins xe W own pass) body F) (hh : ∀ pins e, SSs (hdCtx C pins e) (b₀ :: suite) G)
    (hl : C.X.env.scope.names.lookup n = some .local := by rfl) (hd : (Str.ofString k == ("__debug__" : Str)) = false := by decide) (hCX : C.CX = CXe C.X.prog C.X.w := by rfl) (hstk : C.X.stack = C.X.env :: C.X.outer := by rfl) (hfr : C.X.env.frame = some C.X.env.locals := by rfl) :
    SSt C (.Try body [.ExceptHandler (some (.Name (Str.ofString k) np)) (some n) (b₀ :: suite) hpos] [] [] pos) (Dv.sTryAs kn i k F G) := by
  refine ⟨fun D σ H => ∃ Hv₀ H₀ st, Rel C.X.K Hv₀ H₀ st σ H ∧ OkS C Hv₀ H₀ D (Dv.sTryAs kn i k F G st), ?_, fun Hv₀ H₀ E σ H st r w => ⟨Hv₀, H₀, st, r, w⟩⟩
  rintro pins s σ H D I ⟨Hv₀, H₀, st, r, w⟩
  refine wpAny_Try_except ?_
  have hhd := I.ok.hd
  unfold Dv.sTryAs at w
  have key : ∀ (pins' : List (Addr × Obj)) (σ' : St) (H' : Hp) (s' : Shared) (e : Value) (s'' : Shared), Inv C.X pins σ' H' s' →
      C.CX C.X.stack H' s' (fun cv _ H2 => ∃ c st', F st = .exc c st' ∧ cv = C.cls c ∧ Rel C.X.K Hv₀ H₀ st' σ' H2) e s'' →
      wpAny (model C.X.prog C.X.w) C.X.A (noteFrame e C.X.env) (fun _ s₂ => wpAny (model C.X.prog C.X.w) C.X.A (setFlight e none) (fun _ s₃ => wpAny (model C.X.prog C.X.w) C.X.A (handleBy e C.X.env [.ExceptHandler (some (.Name (Str.ofString k) np)) (some n) (b₀ :: suite) hpos]) (SP C.X pins D) C.X.xe s₃) C.X.xe s₂) C.X.xe s'' := by
    rintro pins' σ' H' s' e s'' I0 hx
    rw [hCX] at hx
    obtain ⟨a, cv, H2, B, t, rfl, Fl, c, st', hF, rfl, Hc, O, rel⟩ := hx
    rw [hF] at w
    by_cases hs : (kn.contains c && Dv.subX c k) = true
    case neg => simp only [hs] at w; exact (show False from w).elim
    simp only [hs, if_true] at w
    rw [Bool.and_eq_true] at hs
    obtain ⟨Ca, hca, hcv⟩ := hkn c (List.contains_iff_mem.mp hs.1)
    obtain ⟨x1, x2⟩ := xa.cl c Ca hca
    obtain ⟨y1, y2⟩ := xa.cl k Ck hk
    have hsub := xa.sub c Ca k Ck hca hk
    rw [hs.2] at hsub
    have hfl := Fl.fl
    rw [hcv, hstk] at hfl
    have frames : C.X.A.frames = some (C.X.env :: C.X.outer) := by rw [← hstk]; exact I0.ok.frames
    refine wpAny_looks_onW frames hfr hfl fun h4 held4 sm4 => ?_
    refine wpAny_landsW held4 fun h5 fl5 sm5 => ?_
    have ff : ∀ b ∈ frs C.X.stack, H' b = none := fun b hb => I0.stkFree b hb
    have inv : ∀ h, B.StaysIn h → s''.heap.UpToSlots h → Inv C.X pins σ' H2 { s'' with heap := h } := fun h sb sm =>
      I0.call' (s' := { s'' with heap := h }) (ch := []) Fl.os (Fl.un sb sm ff) (Fl.hokB.kept fun b u q => sb b u q) Fl.bare fun b hb => absurd hb (by simp)
    have I5 := inv h5 fl5.1 (sm4.trans sm5)
    refine wpAny_handleBy_cons (codeAny_handlers_test ?_) (by intro q; cases q)
    refine ld_glob (X := hdX C.X pins a) (Inv.toHd I5) hg y1.m ?_ hd
    obtain ⟨oe, vs, T, oT, ts, e1, e2, e3, _⟩ := fl5.2.2.2
    refine xc_match (h := h5) I5.kIn y2 e1 e2.1 (sub_looks I5.kIn x2 hsub) ?_
    refine codeAny_handlers_suite_as (lands_againW fl5 fun h6 fl6 sm6 => ?_)
    have I6 := inv h6 fl6.1 ((sm4.trans sm5).trans sm6)
    have hna : H2 a = Option.none := Fl.none
    obtain ⟨oe6, vs6, T6, oT6, ts6, f1, f2, f3, _⟩ := fl6.2.2.2
    have hok6 : HOk C.X.prog C.X.w (upd H2 a (.ext (ExcOf a Ca))) h6 := hok_track I6.hok hna ⟨⟨oe6, vs6, f1, f2.1, f3⟩, ⟨oe6, f1⟩, fun h1 h2 ⟨o, ws, z1, z2, z3⟩ kp => ⟨o, ws, kp o z1, z2, z3⟩⟩
    have na : ∀ {b : Addr} {o : Obj}, s'.heap.get? b = some o → b ≠ a := fun {b o} e z => by
      subst z
      by_cases hb : b ∈ frs C.X.stack
      · obtain ⟨sl, q1⟩ := Fl.slot b o e (ff b hb) hb
        obtain ⟨sl2, q2⟩ := (sm4.trans sm5).trans sm6 b _ q1 (frame_data Fl.fl.2.2.1 hb q1)
        have fr6 := fl6.2.2.1
        rw [← hstk] at fr6
        exact frame_data fr6 hb f1 vs6 f3
      · obtain ⟨o1, q1⟩ := Fl.thereB b o e hb
        rw [Fl.fl.2.1] at q1
        cases q1
    have I7 : Inv C.X pins σ' (upd H2 a (.ext (ExcOf a Ca))) { s'' with heap := h6 } := by
      have u6 := Fl.un fl6.1 ((sm4.trans sm5).trans sm6) ff
      refine I0.call' (s' := { s'' with heap := h6 }) (ch := []) Fl.os ⟨u6.keep, u6.slot, fun b o e q hx => ?_, u6.there, fun b xs e => ?_, fun b o u e => ?_, fun b ps e => ?_⟩ hok6 Fl.bare fun b hb => absurd hb (by simp)
      · rw [upd_ne (na e)]; exact u6.free b o e q hx
      · rw [upd_ne (ne_of_none (u6.tups b xs e) hna)]; exact u6.tups b xs e
      · rw [upd_ne (ne_of_none (u6.frzs b o u e) hna)]; exact u6.frzs b o u e
      · obtain ⟨more, z⟩ := u6.tbls b ps e
        exact ⟨more, by rw [upd_ne (ne_of_none z hna)]; exact z⟩
    refine store_ok (X := hdX C.X pins a) (v := .ref a) (Inv.toHd I7) hN hi (.inl hl) rfl (fun s8 I8 => ?_) (.inr hl)
    obtain ⟨tg, pg, qg⟩ := hh pins a
    have rel8 : Rel C.X.K Hv₀ H₀ (st'.set i (.sh (.exn c))) (σ'.set i (some (.ref a))) (upd H2 a (.ext (ExcOf a Ca))) := by
      have x8 := Ext.new1 rel.ch hna (.ext (ExcOf a Ca))
      refine ⟨_, O, (rel.growC x8).setSh ?_⟩
      unfold Rp
      exact ⟨a, Ca, rfl, x1.ns, upd_same⟩
    have ok8 : OkS (hdCtx C pins a) Hv₀ H₀ { nx := fun σ2 H3 => D.nx (σ2.set i none) H3, rt := D.rt, bk := fun σ2 H3 => D.bk (σ2.set i none) H3, ct := fun σ2 H3 => D.ct (σ2.set i none) H3 } (G (st'.set i (.sh (.exn c)))) := by
      cases hG : G (st'.set i (.sh (.exn c))) with
      | nx st2 => rw [hG] at w; exact fun σ2 H3 ⟨Hc3, O3, r3⟩ => w _ H3 ⟨Hc3, O3, r3.unset⟩
      | brk st2 => rw [hG] at w; exact fun σ2 H3 ⟨Hc3, O3, r3⟩ => w _ H3 ⟨Hc3, O3, r3.unset⟩
      | cont st2 => rw [hG] at w; exact fun σ2 H3 ⟨Hc3, O3, r3⟩ => w _ H3 ⟨Hc3, O3, r3.unset⟩
      | ret d nw => rw [hG] at w; exact w
      | exc c2 st2 => rw [hG] at w; exact (show False from w).elim
      | bad => rw [hG] at w; exact w
    refine wpAny_mono (pg [] s8 _ _ _ I8 (qg Hv₀ H₀ _ _ _ _ rel8 ok8)) (fun fl s9 h9 => ?_) fun _ _ z => z.elim
    cases fl with
    | next =>
      obtain ⟨σ9, H9, I9, q9⟩ := h9
      exact name_gone (Inv.ofHd hhd I9) hN hi hl fun s10 I10 => ⟨_, H9, I10, q9⟩
    | brk =>
      obtain ⟨σ9, H9, I9, q9⟩ := h9
      exact name_gone (Inv.ofHd hhd I9) hN hi hl fun s10 I10 => ⟨_, H9, I10, q9⟩
    | cont =>
      obtain ⟨σ9, H9, I9, q9⟩ := h9
      exact name_gone (Inv.ofHd hhd I9) hN hi hl fun s10 I10 => ⟨_, H9, I10, q9⟩
    | ret u =>
      obtain ⟨v, σ9, H9, I9, r9, q9⟩ := h9
      exact name_gone (Inv.ofHd hhd I9) hN hi hl fun s10 I10 => ⟨v, _, H9, I10, r9, q9⟩
  obtain ⟨tb, pb, qb⟩ := hb pins _ (fun σ' cv _ H2 => ∃ c st', F st = .exc c st' ∧ cv = C.cls c ∧ Rel C.X.K Hv₀ H₀ st' σ' H2) (PassesOwn.looking (K := fun e s₂ => wpAny (model C.X.prog C.X.w) C.X.A (setFlight e none) (fun _ s₃ => wpAny (model C.X.prog C.X.w) C.X.A (handleBy e C.X.env [.ExceptHandler (some (.Name (Str.ofString k) np)) (some n) (b₀ :: suite) hpos]) (SP C.X pins D) C.X.xe s₃) C.X.xe s₂) (E₁ := C.X.xe))
    fun pins' σ' H' s' e s'' I' h' => key pins' σ' H' s' e s'' (Inv.ofTry I') h'
  have okb : OkS (tryCtx C pins _ (fun σ' cv _ H2 => ∃ c st', F st = .exc c st' ∧ cv = C.cls c ∧ Rel C.X.K Hv₀ H₀ st' σ' H2) (PassesOwn.looking (K := fun e s₂ => wpAny (model C.X.prog C.X.w) C.X.A (setFlight e none) (fun _ s₃ => wpAny (model C.X.prog C.X.w) C.X.A (handleBy e C.X.env [.ExceptHandler (some (.Name (Str.ofString k) np)) (some n) (b₀ :: suite) hpos]) (SP C.X pins D) C.X.xe s₃) C.X.xe s₂) (E₁ := C.X.xe))
    fun pins' σ' H' s' e s'' I' h' => key pins' σ' H' s' e s'' (Inv.ofTry I') h') Hv₀ H₀ D (F st) := by
    refine okS_try (C := C) rfl w (fun c st2 h σ2 H2 r2 => ⟨c, st2, h, rfl, r2⟩) fun h => ?_
    generalize F st = o at h
    cases o with
    | exc c st2 => exact absurd rfl (h c st2)
    | _ => rfl
  refine wpAny_mono (pb [] s σ H D (Inv.toTry I) (qb Hv₀ H₀ D σ H st r okb)) (fun fl s1 h1 => ?_) fun e s1 h1 => h1
  have h2 := SP.ofTry h1
  cases fl with
  | next => obtain ⟨σ2, H2, I2, q2⟩ := h2; exact wpAny_execs_nil ⟨σ2, H2, I2, q2⟩
  | brk => exact h2
  | cont => exact h2
  | ret u => exact h2
end
section
variable {C : Ctx} {ad : String → Option Addr} {kn : List String} {a : Expr} {f : EE} {pos : Pos}
theorem se_isX (xa : XAll C.X.K C.X.mg ad) (hkn : ∀ c ∈ kn, ∃ Ca, ad c = some Ca) {k : String} {Ck : Addr} (hk : ad k = some Ck) {p p2 : Pos} (hm : C.X.mg "isinstance" = none) (hg : Gl C.X "isinstance") (hgk : Gl C.X (Str.ofString k)) (ha : SE C a f)
    (hd : (Str.ofString k == ("__debug__" : Str)) = false := by decide) (he : starEach [a, .Name (Str.ofString k) p2] C.X.env = (false, eval a C.X.env) :: starEach [.Name (Str.ofString k) p2] C.X.env := by rfl)
    (he2 : starEach [.Name (Str.ofString k) p2] C.X.env = [(false, eval (.Name (Str.ofString k) p2) C.X.env)] := by rfl) : SE C (.Call (.Name "isinstance" p) [a, .Name (Str.ofString k) p2] [] pos) (Dv.eB1 (Dv.isXD kn [k]) f) := by
  obtain ⟨t, pa, qa⟩ := ha
  obtain ⟨y1, y2⟩ := xa.cl k Ck hk
  refine ⟨_, pe_callB (call_isx xa hk) hg hm (by decide +kernel) (pa_cons pa (pa_cons (pe_glob (v := .ref Ck) hgk y1.m rfl hd) pa_nil he2) he) (by decide) (by decide) he (by rw [he2]; rfl), fun σ H Hv ρ Q e s w => ?_⟩
  refine qa.step e (.refl s) w fun v d fr Hv1 H1 _ x1 _ rp1 _ q1 => ?_
  cases d with
  | exn c =>
    by_cases hc : kn.contains c = true
    · have q2 : Ok C.X.K Hv H (C.W σ) C.cls (.ok (.bl ([k].any (Dv.subX c))) true) Q := by
        have : Dv.isXD kn [k] (.exn c) fr = .ok (.bl ([k].any (Dv.subX c))) true := if_pos hc
        rw [this] at q1
        exact q1
      obtain ⟨Ca, hca⟩ := hkn c (List.contains_iff_mem.mp hc)
      refine ⟨v, c, rfl, ⟨Ca, hca⟩, rp1.same x1.vh, ?_⟩
      have := q2.at (v := .bl ([k].any (Dv.subX c))) x1 rp_bl rfl
      simpa using this
    · have : Dv.isXD kn [k] (.exn c) fr = .bad := if_neg hc
      rw [this] at q1
      exact q1.elim
  | _ => exact (show False from q1).elim
theorem se_isV (xa : XAll C.X.K C.X.mg ad) (hkn : ∀ c ∈ kn, ∃ Ca, ad c = some Ca) {p p2 : Pos} (hm : C.X.mg "isinstance" = none) (hmx : C.X.mg "ValueError" = none) (hg : Gl C.X "isinstance") (hgk : Gl C.X "ValueError") (ha : SE C a f)
    (he : starEach [a, .Name "ValueError" p2] C.X.env = (false, eval a C.X.env) :: starEach [.Name "ValueError" p2] C.X.env := by rfl)
    (he2 : starEach [.Name "ValueError" p2] C.X.env = [(false, eval (.Name "ValueError" p2) C.X.env)] := by rfl) : SE C (.Call (.Name "isinstance" p) [a, .Name "ValueError" p2] [] pos) (Dv.eB1 (Dv.isXD kn ["ValueError"]) f) := by
  obtain ⟨t, pa, qa⟩ := ha
  refine ⟨_, pe_callB (call_isv xa) hg hm (by decide +kernel) (pa_cons pa (pa_cons (pe_bltn (v := .ty "ValueError") hgk hmx (by decide +kernel) rfl (by decide) (by decide)) pa_nil he2) he) (by decide) (by decide) he (by rw [he2]; rfl), fun σ H Hv ρ Q e s w => ?_⟩
  refine qa.step e (.refl s) w fun v d fr Hv1 H1 _ x1 _ rp1 _ q1 => ?_
  cases d with
  | exn c =>
    by_cases hc : kn.contains c = true
    · have q2 : Ok C.X.K Hv H (C.W σ) C.cls (.ok (.bl true) true) Q := by
        have : Dv.isXD kn ["ValueError"] (.exn c) fr = .ok (.bl true) true := (if_pos hc).trans (by simp [Dv.subX])
        rw [this] at q1
        exact q1
      obtain ⟨Ca, hca⟩ := hkn c (List.contains_iff_mem.mp hc)
      exact ⟨v, c, rfl, ⟨Ca, hca⟩, rp1.same x1.vh, q2.at (v := .bl true) x1 rp_bl rfl⟩
    · have : Dv.isXD kn ["ValueError"] (.exn c) fr = .bad := if_neg hc
      rw [this] at q1
      exact q1.elim
  | _ => exact (show False from q1).elim
end
end Sd
set_option Elab.async false
set_option linter.all false
set_option maxRecDepth 100000
namespace Sd
open PySem PySem.W PySem.Calls PyProof.Rows
theorem weight_mem : ∀ {ns : List Int} {x : Int}, x ∈ ns → (WData.int x).weight ≤ WData.weightAll (ns.map WData.int)
  | [], _, h => by simp at h
  | n :: r, x, h => by
    rw [List.map_cons]
    unfold WData.weightAll
    rcases List.mem_cons.mp h with rfl | h
    · omega
    · have := weight_mem h
      omega
theorem bits_of {ns : List Int} (h : WData.layableAll [WData.list (ns.map WData.int)] = true) : ∀ x ∈ ns, Dv.bits x ≤ 1048576 := fun x hx => by
  have h1 := layableW_arg h _ (List.mem_cons_self ..)
  obtain ⟨_, _, h2⟩ := layableW_iff.mp h1
  have h3 : WData.weight (WData.list (ns.map WData.int)) = WData.weightAll (ns.map WData.int) := by unfold WData.weight; rfl
  have h4 := weight_mem hx
  have h5 : (WData.int x).weight = Dv.bits x := by
    unfold WData.weight Dv.bits
    by_cases e : x = 0
    · simp [e]
    · simp [e]
  rw [h3] at h2
  omega
theorem attachB {l : OpenLaw} {n : Nat} {q : Program} {loose : List Str} {XP : (Str → Option Value) → Heap → Prop} {YP : World → Heap → Prop} {d : DefRec} (hn : l.most = some n) (hdf : d.params.defaults = [])
    (run : ∀ (w : World) (s₀ s₁ : Shared) (mg mb : Str → Option Value) (fa : Addr) (a : Addr) (vs : List Value) (ns : List Int), Ground q loose [] XP w s₀ mg mb s₁.heap → YP w s₁.heap → mg d.name = some (.ref fa) →
      s₁.heap.get? a = some { cls := .type "list", data := .seq vs.toArray } → IntsAre vs ns → ns.length ≤ n → (∀ x ∈ ns, Dv.bits x ≤ 1048576) → s₁.gens = #[] →
      codeAny (model l.prog w) callerA (.call (.ref fa) ⟨[.ref a], []⟩) (fun r s' => r = .ok (.ret (.bool true)) ∧ OldK s₁.heap s'.heap ∧ s'.os = s₁.os ∧ AllBare s'.gens) s₁) :
    WalkO q loose XP YP l.row.toRowW d [] (fun f vs => PySem.call f vs) := by
  intro w s₀ s₁ mg mb G Y fa o pm cd doc dV kV ho hd hcd hD hmg hg args vals as hpre hlay hrd hwl hlo
  obtain ⟨a, vs, ns, rfl, rfl, hobj, hints, hlen⟩ := Att.script_of hn hpre hwl
  have hbits := bits_of hlay
  refine enter_call (codeAny_mono (run w s₀ s₁ mg mb fa a vs ns G Y hmg hobj hints hlen hbits hg) ?_)
  rintro r s' ⟨rfl, h2, h3, h4⟩
  exact ⟨.inl ⟨.bool true, .bool true, [], rfl, fun _ => rfl, .bool true, Att.post_true l _, fun _ => ⟨List.Pairwise.nil, fun _ hm => (nomatch hm)⟩⟩, h2, h3, h4⟩
theorem walkD {l : OpenLaw} {k : Nat} {q : Program} {loose : List Str} {XP : (Str → Option Value) → Heap → Prop} {YP : World → Heap → Prop} {d : DefRec} {K : Params → Frag} {CX : World → L2.CXT} {x : Str} {Fl : List Dv.D → Dv.R}
    (hn : l.most = some 63) (hdf : d.params.defaults = []) (hr : L2.Room k callerA) (hY : ∀ (w : World) (h : Heap), YP w h → (K w.params).In h) (hC : ∀ w, CXok l.prog w (CX w))
    (F : ∀ (w : World) (mg : Str → Option Value) (fa : Addr) (h : Heap), (K w.params).In h → h.Ns mainGlobals mg → mg d.name = some (.ref fa) →
      ∃ (fd : FuncData) (cls : String → Value), (∀ (s : Shared) (u : Value), BindsTo s fd ⟨[u], []⟩ [(x, u)]) ∧ ∀ base : Heap, (K w.params).In base → base.Ns mainGlobals mg → L2.FnOk l.prog w (K w.params) mg base (CX w) k fa fd [x] (spD (K w.params) cls Fl 1))
    (hF : ∀ ns : List Int, ns.length ≤ 63 → (∀ x ∈ ns, Dv.bits x ≤ 1048576) → Fl [.lst (ns.map .int)] = .ok (.bl true) true) :
    WalkO q loose XP YP l.row.toRowW d [] (fun f vs => PySem.call f vs) := by
  refine attachB hn hdf fun w s₀ s₁ mg mb fa a vs ns G Y hmg hobj hints hlen hbits hg => ?_
  have KX := hY w _ Y
  obtain ⟨fd, cls, hb, hFn⟩ := F w mg fa _ KX G.T.g hmg
  have hK : ∀ o, (K w.params).lookup a = some o → o = { cls := .type "list", data := .seq vs.toArray } := fun o e => by
    have := KX a o e
    rw [hobj] at this
    exact (Option.some.inj this).symm
  have hl : ns.length ≤ sizeLine := Nat.le_trans hlen (by decide)
  refine L2.law_call KX G.T.g G.T.b G.T.builtins G.T.nolimit hg hobj hints hl hr hFn hb (fun H hO hS => ?_) fun H e s' => (hC w).no [] H s₁ e s'
  refine ⟨[.lst (ns.map .int)], H, rfl, .refl _, ?_, ?_⟩
  · refine .cons ?_ .nil
    unfold Rp
    refine ⟨a, ns.map L2.V.int, rfl, ?_, RpL.ofInts ns⟩
    rcases hS with hS | ⟨o, its, m, e, _, _, e2, z, v⟩
    · exact .inl hS
    · have e3 := hK o e
      subst e3
      cases e2
      exact .inr ⟨vs, _, e, by rw [List.length_map]; exact hl, by simpa using v⟩
  · rw [hF ns hlen hbits]
    intro v Hv' H' _ rp _
    unfold Rp at rp
    exact rp
open Dv in
def clsOf (ad : String → Option Addr) (c : String) : Value := match ad c with
  | some C => .ref C
  | none => .none
theorem clsOf_eq {ad : String → Option Addr} {c : String} {C : Addr} (h : ad c = some C) : clsOf ad c = .ref C := by unfold clsOf; rw [h]
theorem kn2 {ad : String → Option Addr} {kn : List String} (h : ∀ c ∈ kn, ∃ Ca, ad c = some Ca) : ∀ c ∈ kn, ∃ Ca, ad c = some Ca ∧ clsOf ad c = .ref Ca := fun c hc => let ⟨Ca, e⟩ := h c hc; ⟨Ca, e, clsOf_eq e⟩
def adOf (l : List (String × Addr)) (c : String) : Option Addr := l.lookup c
theorem adOf_mem : ∀ {l : List (String × Addr)} {c : String} {C : Addr}, adOf l c = some C → (c, C) ∈ l
  | [], c, C, h => by simp [adOf] at h
  | (k, v) :: r, c, C, h => by
    unfold adOf at h
    rw [List.lookup_cons] at h
    split at h
    · rename_i q
      cases h
      rw [beq_iff_eq.mp q]
      exact List.mem_cons_self ..
    · exact List.mem_cons_of_mem _ (adOf_mem (l := r) h)
theorem xall_mk {K : Frag} {mg : Str → Option Value} (l : List (String × Addr)) (h1 : ∀ p ∈ l, XCls K mg p.1 p.2 ∧ XLook K p.2 ∧ kitOne K (.ref p.2) (.type "ValueError") = some true) (h2 : ∀ p ∈ l, ∀ q ∈ l, kitOne K (.ref p.2) (.ref q.2) = some (Dv.subX p.1 q.1)) : XAll K mg (adOf l) where
  cl := fun c C h => let z := h1 _ (adOf_mem h); ⟨z.1, z.2.1⟩
  sub := fun c C k C' h h' => h2 _ (adOf_mem h) _ (adOf_mem h')
  val := fun c C h => (h1 _ (adOf_mem h)).2.2
theorem fm_nil {α : Type} {p : α → Prop} : ∀ x ∈ ([] : List α), p x := fun x h => absurd h (by simp)
theorem fm_cons {α : Type} {p : α → Prop} {a : α} {l : List α} (h : p a) (r : ∀ x ∈ l, p x) : ∀ x ∈ a :: l, p x := fun x m => by
  rcases List.mem_cons.mp m with rfl | m
  · exact h
  · exact r x m
end Sd
set_option linter.all false
namespace Dv
end Dv
set_option Elab.async false
set_option linter.all false
set_option maxRecDepth 100000
namespace Sd
open PySem PySem.Spec PyProof.Rows L2 HT
open Dv (D R RL EE EL EI RI Sl Out SS)
section
variable {C : Ctx} {a : Expr} {f : EE} {pos : Pos}
end
end Sd
set_option Elab.async false
set_option linter.all false
set_option maxRecDepth 100000
namespace Sd
open PySem PySem.Spec PyProof.Rows L2 HT
open Dv (D R RL EE EL EI RI Sl Out SS)
section
variable {C : Ctx} {a : Expr} {f : EE} {pos : Pos}
end
end Sd
set_option linter.all false
namespace Dv
end Dv
set_option Elab.async false
set_option linter.all false
set_option maxRecDepth 100000
namespace Sd
open PySem PySem.Spec PyProof.Rows L2 HT
open Dv (D R RL EE EL EI RI Sl Out SS)
section
open PySem.SeqAt
open PySem.AutoSeq1 (wpAny_loadPart')
open PySem.MeetsSeq PySem.MeetsSeq2 PySem.MeetsSeq3
end
section
variable {prog : Program} {w : World} {A : Around} {R' : Result → Shared → Prop} {I : Addr} {fp wr : List Addr} {n : Nat} {P : Nat → Value → Prop} {St : Nat → Heap → Prop}
end
end Sd
set_option Elab.async false
set_option linter.all false
set_option maxRecDepth 100000
namespace Sd
open PySem PySem.Spec PyProof.Rows L2 HT
open Dv (D R RL EE EL EI RI Sl Out SS)
section
variable {C : Ctx}
end
end Sd
set_option Elab.async false
set_option linter.all false
set_option maxRecDepth 100000
namespace Sd
open PySem PySem.Spec PyProof.Rows L2 HT
open Dv (D R RL EE EL EI RI Sl Out SS)
section
variable {C : Ctx} {a : Expr} {f : EE} {pos : Pos} {kn : List String} {ad : String → Option Addr}
end
end Sd
set_option linter.all false
namespace Dv
end Dv
set_option Elab.async false
set_option linter.all false
set_option maxRecDepth 100000
namespace Sd
open PySem PySem.Spec PyProof.Rows L2 HT
open Dv (D R RL EE EL EI RI Sl Out SS)
open Classical in
section
variable {C : Ctx} {a b : Expr} {f g : EE} {pos : Pos}
end
end Sd
set_option linter.all false
namespace Dv
def look : List Int → List D → Int → Option D
  | k :: ks, d :: ds, j => if k = j then some d else look ks ds j
  | _, _, _ => none
def lstsFlat : List D → Bool
  | [] => true
  | .lst es :: r => flatL es && lstsFlat r
  | _ :: _ => false
def enumL : Nat → List D → List D
  | _, [] => []
  | i, d :: r => .tup [.int i, d] :: enumL (i + 1) r
def blsOf : List D → Option (List Bool)
  | [] => some []
  | .bl b :: r => (blsOf r).map (b :: ·)
  | _ :: _ => none
def allD : D → Bool → R
  | .lst ds, _ => match blsOf ds with
    | some bs => .ok (.bl (bs.all id)) true
    | none => .bad
  | _, _ => .bad
def isTupD : D → Bool → R
  | .exn _, _ => .bad
  | .raw _, _ => .bad
  | .tab _, _ => .bad
  | .tup _, _ => .ok (.bl true) true
  | _, _ => .ok (.bl false) true
def sSetD (i : Nat) (e : EE) : SS := fun st => match e (all st) with
  | .ok d true => .nx (st.set i (.dp d))
  | .ok _ false => .bad
  | .exc c => .exc c st
  | .bad => .bad
end Dv
set_option Elab.async false
set_option linter.all false
set_option maxRecDepth 100000
namespace Sd
open PySem PySem.Spec PyProof.Rows L2
open Dv (D R RL EE EL EI RI Sl Out SS)
section
variable {C : Ctx} {a b c e k : Expr} {f g h : EE} {F G : SS} {pos pos' : Pos} {E : Ends}
theorem call_allL {X : Cx} (hc : X.calm = true) : CallR X (.builtin "all") (fun xs H Q => ∃ p, ∃ bs : List Bool, xs = [.ref p] ∧ SqX X.K H p (bs.map V.bl) ∧ Q (.bl (bs.all id)) H) := by
  intro pins s σ H xs us Q I r h
  obtain ⟨p, bs, rfl, hq, q⟩ := h
  obtain ⟨u, rfl, rx⟩ := vals1 r
  cases rx
  obtain ⟨its, n, rv, e, z⟩ := Inv.listX I hq
  have hl : s.heap.IsList p its.toArray := ⟨_, e, rfl, n, rfl⟩
  have hlt : p < s.heap.objs.size := Heap.lt_size e
  have hlen : its.length = bs.length := by have := rv.length; rw [List.length_map] at this; exact this.symm
  refine call_all_walk (wpAny_pyIter_list hl ?_)
  refine ⟨s.heap.objs.size, [s.heap.objs.size, p], [s.heap.objs.size], its.toArray.size, _, _, fun i => (bs[i]?).getD true, rfl, Walks.list (A := X.A.in1) (I.ok.hd hc) _ p (Nat.ne_of_lt hlt) its.toArray,
    ⟨⟨_, Heap.get?_push_size _ rfl, rfl, rfl⟩, hl.push _⟩, fun i v s' Q' E' hP hQ => ?_, fun h' tk hk => ?_⟩
  · have hP' : its[i]? = some v := by simpa using hP
    have hi : i < bs.length := by rw [← hlen]; exact (List.getElem?_eq_some_iff.mp hP').1
    obtain ⟨u, e1, e2⟩ := rv.get (show (bs.map V.bl)[i]? = some (V.bl bs[i]) by simp [hi])
    rw [hP'] at e1
    cases e1
    have e3 : v = Value.bool bs[i] := e2
    subst e3
    have e4 : (bs[i]?).getD true = bs[i] := by simp [hi]
    have hQ' : Q' bs[i] s' := by rw [← e4]; exact hQ
    exact wpAny_truthy_bool hQ'
  · have e5 : ((List.range its.toArray.size).all fun i => (bs[i]?).getD true) = bs.all id := by
      rw [List.size_toArray, hlen, Bool.eq_iff_iff, List.all_eq_true, List.all_eq_true]
      constructor
      · intro hh b hb
        obtain ⟨i, hi, e⟩ := List.getElem_of_mem hb
        have := hh i (List.mem_range.mpr hi)
        simp only [List.getElem?_eq_getElem hi, Option.getD_some, e] at this
        exact this
      · intro hh i hi
        have hi' := List.mem_range.mp hi
        simp only [List.getElem?_eq_getElem hi', Option.getD_some]
        exact hh _ (List.getElem_mem hi')
    rw [e5]
    exact ⟨.bl _, H, I.kept (t' := tk) fun b x e => hk b x (fun hm => by rw [List.mem_singleton.mp hm] at e; exact Nat.lt_irrefl _ (Heap.lt_size e)) (Heap.get?_push_of_some _ e), rfl, q⟩
theorem RpL.bls {K : PySem.W.Frag} {H : Hp} : ∀ {ds : List D} {vs : List V} {bs : List Bool}, Dv.blsOf ds = some bs → RpL K H ds vs → vs = bs.map V.bl
  | [], vs, bs, e, h => by
    simp [Dv.blsOf] at e; subst e
    unfold RpL at h; exact h
  | d :: r, vs, bs, e, h => by
    unfold RpL at h
    obtain ⟨v, ws, rfl, h2, h3⟩ := h
    cases d with
    | bl i =>
      simp only [Dv.blsOf, Option.map_eq_some_iff] at e
      obtain ⟨ms, e1, rfl⟩ := e
      unfold Rp at h2
      subst h2
      rw [RpL.bls e1 h3, List.map_cons]
    | _ => simp [Dv.blsOf] at e
theorem c1_all (hc : C.X.calm = true) : C1S C (.builtin "all") Dv.allD := by
  refine ⟨_, call_allL hc, fun x d fr H Hv H1 Hv1 W Q e rx n q => ?_⟩
  cases d with
  | lst ds =>
    simp only [Dv.allD] at q
    cases hi : Dv.blsOf ds with
    | none => rw [hi] at q; exact (show False from q).elim
    | some bs =>
      rw [hi] at q
      unfold Rp at rx
      obtain ⟨l, vs, rfl, h1, h2⟩ := rx
      have e1 := RpL.bls hi h2
      subst e1
      exact ⟨l, bs, rfl, h1.same e.vh, Ok.at (d := .bl (bs.all id)) (fr := true) q e rp_bl rfl⟩
  | _ => exact (show False from q).elim
theorem se_all {p : Pos} (hm : C.X.mg "all" = none) (hg : Gl C.X "all") (ha : SE C a f) (he : starEach [a] C.X.env = [(false, eval a C.X.env)] := by rfl) (hcl : C.X.calm = true := by rfl) : SE C (.Call (.Name "all" p) [a] [] pos) (Dv.eB1 Dv.allD f) :=
  se_b1 (c1_all hcl) hg hm (by decide +kernel) ha (by decide) (by decide) he
def bTup : D → Bool
  | .tup _ => true
  | _ => false
theorem kit_tup (K : PySem.W.Frag) (d : D) : PySem.W.kitOne K (.type (tyD d)) (.type "tuple") = some (bTup d) := by cases d <;> rfl
theorem isTupD_eq (d : D) (fr : Bool) (h : Dv.noTy d = false) : Dv.isTupD d fr = .ok (.bl (bTup d)) true := by cases d <;> first | rfl | exact absurd h (by simp [Dv.noTy])
theorem se_isTup {p p2 : Pos} (hm : C.X.mg "isinstance" = none) (hmx : C.X.mg "tuple" = none) (hg : Gl C.X "isinstance") (hgx : Gl C.X "tuple") (ha : SE C a f) (he : starEach [a, .Name "tuple" p2] C.X.env = (false, eval a C.X.env) :: starEach [.Name "tuple" p2] C.X.env := by rfl)
    (he2 : starEach [.Name "tuple" p2] C.X.env = [(false, eval (.Name "tuple" p2) C.X.env)] := by rfl) : SE C (.Call (.Name "isinstance" p) [a, .Name "tuple" p2] [] pos) (Dv.eB1 Dv.isTupD f) := se_isi _ isTupD_eq (fun d fr h => by cases d <;> first | rfl | exact absurd h (by simp [Dv.noTy])) kit_tup hg hm hgx hmx (by decide +kernel) ha (by decide) (by decide) he he2
end
section
variable {C : Ctx} {a b c e : Expr} {f g h : EE} {pos : Pos}
end
section
variable {C : Ctx} {a b c e : Expr} {f g h : EE} {F : SS} {pos pos' : Pos}
end
theorem enum_get : ∀ {xs : List D} {k i : Nat} {d : D}, (Dv.enumL k xs)[i]? = some d → ∃ x, xs[i]? = some x ∧ d = .tup [.int ((k + i : Nat) : Int), x]
  | [], k, i, d, h => by simp [Dv.enumL] at h
  | x :: r, k, 0, d, h => by simp [Dv.enumL] at h; subst h; exact ⟨x, rfl, by simp⟩
  | x :: r, k, i + 1, d, h => by
    obtain ⟨y, h1, h2⟩ := enum_get (k := k + 1) (i := i) (d := d) (xs := r) (by simpa [Dv.enumL] using h)
    refine ⟨y, by simpa using h1, ?_⟩
    rw [h2]
    have : k + 1 + i = k + (i + 1) := by omega
    rw [this]
theorem enum_len : ∀ (xs : List D) (k : Nat), (Dv.enumL k xs).length = xs.length
  | [], k => rfl
  | x :: r, k => by unfold Dv.enumL; rw [List.length_cons, List.length_cons, enum_len r]
end Sd
set_option Elab.async false
set_option linter.all false
set_option maxRecDepth 100000
namespace Sd
open PySem PySem.Spec PyProof.Rows L2
open Dv (D R RL EE EL EI RI Sl Out SS)
section
variable {C : Ctx} {a b c e k : Expr} {f g h : EE} {F G : SS} {pos pos' : Pos} {E : Ends}
theorem Hnew_of {H H' : Hp} {b : Addr} {o : HO} (h : Hnew H H' b = some o) : H b = none := by
  unfold Hnew at h
  cases q : H b with
  | none => rfl
  | some u => rw [q] at h; cases h
theorem st_setD {i : Nat} {x : Str} (he : SE C e f) (hN : C.X.N.Nodup) (hi : C.X.N[i]? = some x) (hx : Loc C.X.env.scope x) (hs : swapsWith e (some (.Name x pos')) pos.line C.X.env = pure false := by rfl)
    (hf : C.X.fn x = true ∨ C.X.env.scope.names.lookup x = some .local := by first | exact .inl rfl | exact .inr rfl | assumption) : SSt C (.Assign [.Name x pos'] e pos) (Dv.sSetD i f) := by
  obtain ⟨t, p, q⟩ := he
  refine ⟨_, ps_set hN hi hx p hs hf, fun Hv₀ H₀ E σ H st ⟨Hc, O, r⟩ w => ?_⟩
  unfold Dv.sSetD at w
  refine q.all r (fun c hf H' r' => ?_) (fun hf => ?_) fun d fr v Hv' H' hf x r' rp n => ?_
  · rw [hf] at w; exact w σ H' ⟨Hc, O, r'⟩
  · rw [hf] at w; exact w
  · rw [hf] at w
    cases fr with
    | false => exact (show False from w).elim
    | true =>
      refine w _ H' ⟨Hc, _, r'.setDp (R := Hnew H H') (fun b o h => ⟨Hnew.sub b o h, r.ch.free (Hnew_of h), r.h0.free (Hnew_of h), fun j _ => ?_⟩) (n rfl)⟩
      cases z : O j b with
      | none => rfl
      | some u => have := (r.oh j b u z).1; rw [Hnew_of h] at this; cases this
end
end Sd
set_option Elab.async false
set_option linter.all false
set_option maxRecDepth 100000
namespace Sd
open PySem PySem.Spec PyProof.Rows L2
open Dv (D R RL EE EL EI RI Sl Out SS)
structure RoomH (k : Nat) (A : Around) : Prop where
  dp : A.depth + 3 * k + 5 < recursionLimit
  un : A.units + 16 * k + 200 < cLine
theorem RoomH.deeper {k : Nat} {A : Around} (r : RoomH (k + 1) A) (env : PySem.Env) : RoomH k (A.deeper env) :=
  ⟨by have := r.dp; show A.depth + 1 + 3 * k + 5 < _; omega, by have := r.un; show A.units + 3 + 16 * k + 200 < _; omega⟩
theorem RoomH.depth {k : Nat} {A : Around} (r : RoomH k A) : A.depth < recursionLimit := by have := r.dp; omega
theorem RoomH.units {k : Nat} {A : Around} (r : RoomH k A) : A.units + 64 < cLine := by have := r.un; omega
structure FnOkH (P : Program) (w : World) (K : PySem.W.Frag) (mg : Str → Option Value) (base : Heap) (k : Nat) (f : Addr) (fd : FuncData) (ps : List Str) (sp : Sp) : Prop where
  len : ∀ vs H Q E, sp vs H Q E → vs.length = ps.length
  run : ∀ (A : Around) (outer : List PySem.Env) (s : Shared) (H : Hp) (args : Args) (us : List Value) (vs : List V) (Q : VK), RoomH k A → Env0 P w K mg base A outer s H → BindsTo s fd args (ps.zip us) → Vals vs us → sp vs H Q E0 →
    codeAny (model P w) A (.call (.ref f) args) (CR CX0 outer P w H s Q E0) s
section
variable {P : Program} {w : World} {K : PySem.W.Frag} {mg : Str → Option Value} {base : Heap} {CX : CXT}
end
section
variable {C : Ctx} {e : Expr} {es : List Expr} {fl : EL} {pos : Pos}
end
end Sd
set_option linter.all false
namespace Dv
def compGoT (m : Nat) (elt : EE) (cond : EE) (free : Env) : List D → RL
  | [] => .ok [] true
  | d :: r => match d with
    | .tup es => if es.length = m then match cond (es.map some ++ free) with
      | .ok (.bl true) _ => match elt (es.map some ++ free) with
        | .ok x f => match compGoT m elt cond free r with
          | .ok xs g => .ok (x :: xs) (f && g)
          | _ => .bad
        | _ => .bad
      | .ok (.bl false) _ => compGoT m elt cond free r
      | _ => .bad
      else .bad
    | _ => .bad
def eCompT (m : Nat) (elt cond : EE) (is : List Nat) (it : EI) : EE := fun ρ => match it ρ with
  | .ok ds _ => if ds.length ≤ mx then match compGoT m elt cond (pick ρ is) ds with
      | .ok xs f => .ok (.lst xs) f
      | _ => .bad
    else .bad
  | .exc c => .exc c
  | .bad => .bad
end Dv
set_option Elab.async false
set_option linter.all false
set_option maxRecDepth 100000
namespace Sd
open PySem PySem.Spec PyProof.Rows L2
open Dv (D R RL EE EL EI RI Sl Out SS)
inductive NamesAre : List Expr → List Str → Prop
  | nil : NamesAre [] []
  | cons {x : Str} {p : Pos} {es : List Expr} {ts : List Str} : NamesAre es ts → NamesAre (.Name x p :: es) (x :: ts)
theorem NamesAre.length {es : List Expr} {ts : List Str} (h : NamesAre es ts) : es.length = ts.length := by
  induction h with
  | nil => rfl
  | cons _ ih => rw [List.length_cons, List.length_cons, ih]
def tgN : Nat → Nat → TGs
  | _, 0 => gNil
  | k, n + 1 => gCons (gName k) (tgN (k + 1) n)
theorem tgN_ok : ∀ (n k : Nat) (vs : List V) (pre os fr : St) (H : Hp) (Q : St → Hp → Prop), vs.length = n → os.length = n → pre.length = k → Q (pre ++ vs.map some ++ fr) H → tgN k n vs (pre ++ os ++ fr) H Q
  | 0, k, vs, pre, os, fr, H, Q, h1, h2, h3, q => by
    have e1 := List.eq_nil_of_length_eq_zero h1
    have e2 := List.eq_nil_of_length_eq_zero h2
    subst e1 e2
    exact ⟨rfl, q⟩
  | n + 1, k, v :: vs, pre, o :: os, fr, H, Q, h1, h2, h3, q => by
    refine ⟨v, vs, rfl, ?_⟩
    show tgN (k + 1) n vs ((pre ++ (o :: os) ++ fr).set k (some v)) H Q
    have e : (pre ++ (o :: os) ++ fr).set k (some v) = (pre ++ [some v]) ++ os ++ fr := by
      subst h3
      simp [List.set_append]
    rw [e]
    exact tgN_ok n (k + 1) vs (pre ++ [some v]) os fr H Q (by simpa using h1) (by simpa using h2) (by simp [h3]) (by simpa using q)
  | n + 1, k, [], pre, os, fr, H, Q, h1, h2, h3, q => by cases h1
  | n + 1, k, v :: vs, pre, [], fr, H, Q, h1, h2, h3, q => by cases h2
theorem pgs_names {X : Cx} (hN : X.N.Nodup) {es : List Expr} {ts : List Str} (na : NamesAre es ts) : ∀ k : Nat, (∀ (j : Nat) (t : Str), ts[j]? = some t → X.N[k + j]? = some t ∧ X.env.scope.names.lookup t = some .local) → PGs X es (tgN k es.length) := by
  induction na with
  | nil => intro k _; exact pgs_nil
  | @cons x p es ts na ih =>
    intro k h
    obtain ⟨h1, h2⟩ := h 0 x rfl
    exact pgs_cons (pg_name hN h1 (.inl h2) (.inr h2)) (ih (k + 1) fun j t ht => by
      have := h (j + 1) t (by simpa using ht)
      have e : k + 1 + j = k + (j + 1) := by omega
      rw [e]; exact this) rfl
structure CompNamesT (X : Cx) (scope : Scope) (ts : List Str) (fs : List Str) (is : List Nat) : Prop where
  kind : scope.kind = .function
  cell : ∀ y ∈ scope.names, y.2 ≠ .cell
  names : ∀ y ∈ scope.names, y.2 = .local → scope.names.lookup y.1 = some .local
  tgt : ∀ t ∈ ts, scope.names.lookup t = some .local
  nd : (ts ++ fs).Nodup
  free : ∀ y ∈ scope.names, y.2 = .free → X.env.kindOf y.1 = some .cell ∨ X.env.kindOf y.1 = some .free
  fsf : ∀ y ∈ fs, scope.names.lookup y = some .free
  len : is.length = fs.length
  at' : ∀ (j : Nat) (y : Str), fs[j]? = some y → ∃ i, is[j]? = some i ∧ X.N[i]? = some y
theorem env_compT {K : PySem.W.Frag} {Hv : Hp} {ρ : Dv.Env} {σ : St} {is : List Nat} {ds : List D} {vs : List V} (e : EnvR K Hv ρ σ) (r : RpL K Hv ds vs) : EnvR K Hv (ds.map some ++ Dv.pick ρ is) (vs.map some ++ freeV σ is) := fun j x h => by
  have hl := r.length
  by_cases hj : j < ds.length
  · rw [List.getElem?_append_left (by simpa using hj), List.getElem?_map] at h
    cases q : ds[j]? with
    | none => rw [q] at h; cases h
    | some d =>
      rw [q] at h
      cases h
      obtain ⟨v, h1, h2⟩ := r.get q
      exact ⟨v, by rw [List.getElem?_append_left (by simp; omega), List.getElem?_map, h1]; rfl, h2⟩
  · rw [List.getElem?_append_right (by simp; omega), List.length_map] at h
    obtain ⟨i, h1, h2⟩ := pick_get h
    obtain ⟨u, h3, h4⟩ := e i x h2
    exact ⟨u, by rw [List.getElem?_append_right (by simp; omega), List.length_map, hl]; exact freeV_get h1 h3, h4⟩
theorem comp_cxokT {X : Cx} {pins : List (Addr × Obj)} {σ : St} {H1 : Hp} {s2 : Shared} {scope : Scope} {ts : List Str} {fs : List Str} {is : List Nat} {cl : List (Str × Addr)} {fp : List Addr} {L : Addr} (I : Inv X pins σ H1 s2) (S : CompNamesT X scope ts fs is)
    (clsub : ∀ x c, cl.lookup x = some c → X.env.cells.lookup x = some c) (clhas : ∀ y ∈ scope.names, y.2 = .free → ∃ c, cl.lookup y.1 = some c) (f2 : ∀ b ∈ fp, FpOk X pins H1 b) (fin : ∀ b ∈ fp, b < s2.heap.objs.size) (hL : s2.heap.objs.size ≤ L) :
    (compCx X (ts ++ fs) scope cl L s2 H1 fp).Ok := by
  refine ⟨I.ok.mod, S.kind, I.ok.glob, I.ok.blt, hL, fun y z c h1 h2 => I.ok.inj y z c (clsub y c h1) (clsub z c h2), fun y hy => ?_, fun y c h => (by cases h), I.ok.hd, I.ok.frames, .inl rfl, fun b hb => ⟨?_, fun y c h => ?_⟩, I.bs, Nat.le_trans I.ok.bsz I.sz, fun b o e hb => ?_, fun b hb hf => ?_, I.stack, I.stkFree⟩
  · have : (y, NameKind.free) ∈ scope.names := by
      rcases hy with hy | hy
      · exact of_relabel (env := X.env) S.cell (.inl rfl) hy
      · exact of_relabel (env := X.env) S.cell (.inr rfl) hy
    exact clhas _ this rfl
  · exact Nat.ne_of_lt (Nat.lt_of_lt_of_le (fin b hb) hL)
  · exact (f2 b hb).2.2.2.2.1 y c (clsub y c h)
  · obtain ⟨_, _, _, h4, _⟩ := f2 b hb
    rcases h4 with h4 | h4
    · exact I.ok.noex b o e h4
    · exact absurd (Heap.lt_size (I.ok.bs b o e).1) (Nat.not_lt.mpr h4)
  · obtain ⟨_, h2, h3, _⟩ := f2 b hb
    rcases List.mem_cons.mp (I.stkSub b hf) with e | e
    · exact h2 e
    · exact h3 e
theorem comp_invT {X : Cx} {pins : List (Addr × Obj)} {σ : St} {H1 : Hp} {s2 : Shared} {scope : Scope} {ts : List Str} {fs : List Str} {is : List Nat} {cl : List (Str × Addr)} {fp : List Addr} {L : Addr} {h1 : Heap} {t1 : Nat} {m : Str → Option Value} (I : Inv X pins σ H1 s2) (S : CompNamesT X scope ts fs is)
    (clsub : ∀ x c, cl.lookup x = some c → X.env.cells.lookup x = some c) (clhas : ∀ y ∈ scope.names, y.2 = .free → ∃ c, cl.lookup y.1 = some c) (f2 : ∀ b ∈ fp, FpOk X pins H1 b) (fin : ∀ b ∈ fp, b < s2.heap.objs.size) (hL : s2.heap.objs.size ≤ L)
    (old : ∀ b o, s2.heap.get? b = some o → h1.get? b = some o) (hn : h1.Ns L m) : Inv (compCx X (ts ++ fs) scope cl L s2 H1 fp) [] (List.replicate ts.length none ++ freeV σ is) H1 { s2 with heap := h1, toks := t1 } := by
  refine ⟨comp_cxokT I S clsub clhas f2 fin hL, rfl, I.bare, Un.kept old, ⟨m, hn, fun i y v e1 e2 e3 => ?_⟩, fun y c e => ?_, I.hok.fresh hL, fun y c e => I.freeC y c (clsub y c e), fun p hp => absurd (show p ∈ ([] : List (Addr × Obj)) from hp) (by simp), I.hok.kept old, ?_⟩
  · by_cases hi : i < ts.length
    · have e2' : (List.replicate ts.length none ++ freeV σ is)[i]? = some (some v) := e2
      rw [List.getElem?_append_left (by simpa using hi), List.getElem?_replicate, if_pos hi] at e2'
      cases e2'
    · have e1' : fs[i - ts.length]? = some y := by
        have e1'' : (ts ++ fs)[i]? = some y := e1
        rw [List.getElem?_append_right (by omega)] at e1''
        exact e1''
      have e2' : (List.replicate ts.length none ++ freeV σ is)[i]? = some (some v) := e2
      rw [List.getElem?_append_right (by simp; omega), List.length_replicate] at e2'
      generalize i - ts.length = j at e1' e2'
      obtain ⟨i, h1', h2'⟩ := of_freeV e2'
      obtain ⟨i', h3, h4⟩ := S.at' j y e1'
      rw [h1'] at h3
      cases h3
      have hfr := S.fsf y (List.mem_of_getElem? e1')
      have hk := S.free (y, .free) (mem_lookup hfr) rfl
      obtain ⟨mm, hm, hl⟩ := I.loc
      have vis : Vis X.env.scope y := by
        rcases hk with k | k
        · exact .inr (.inl k)
        · exact .inr (.inr k)
      obtain ⟨u, r, l⟩ := hl i y v h4 h2' vis
      refine ⟨u, r, ?_⟩
      rcases l with ⟨k, _⟩ | ⟨_, c, hc, hcell⟩
      · have k : X.env.kindOf y = some .local := k
        rcases hk with k' | k' <;> rw [k] at k' <;> cases k'
      · obtain ⟨c', hc'⟩ := clhas (y, .free) (mem_lookup hfr) rfl
        have := clsub y c' hc'
        rw [hc] at this
        cases this
        obtain ⟨oc, hoc, hod⟩ := hcell
        refine .inr ⟨?_, c, hc', oc, old c oc hoc, hod⟩
        exact relabel_free (env := X.env) hfr
  · obtain ⟨v, oc, hoc, hod⟩ := I.cell y c (clsub y c e)
    exact ⟨v, oc, old c oc hoc, hod⟩
  · show (List.replicate ts.length none ++ freeV σ is).length = (ts ++ fs).length
    rw [List.length_append, List.length_append, List.length_replicate]
    unfold freeV
    rw [List.length_map, S.len]
section
variable {C : Ctx} {elt iter : Expr} {es : List Expr} {ts : List Str} {kt : Nat} {px pos : Pos} {ifs : List Expr} {scope : Scope} {fs : List Str} {is : List Nat} {fi : EI} {fe fc : EE}
structure CompAtT (C : Ctx) (ts : List Str) (fs : List Str) (is : List Nat) (scope : Scope) (cl : List (Str × Addr)) (L Da : Addr) (s2 : Shared) (H1 Hv1 : Hp) (fp : List Addr) (tn : Nat → Heap → Prop) (σ : St) (ds : List D) (i : Nat) (os : St) (vs : List V) (xs : List D) (f1 : Bool) (Hn Hvn : Hp) (s : Shared) : Prop where
  le : i ≤ ds.length
  ol : os.length = ts.length
  inv : Inv (compCx C.X (ts ++ fs) scope cl L s2 H1 fp) [] (os ++ freeV σ is) Hn s
  at_ : tn i s.heap
  fpn : ∀ b ∈ fp, Hn b = none
  obj : ∃ (its : List Value) (ne : Nat), s.heap.get? Da = some { cls := .type "list", data := .seq its.toArray ne } ∧ Vals vs its
  dn : Hn Da = none
  few : vs.length ≤ i
  ext : Ext Hv1 H1 Hvn Hn
  rp : RpL C.X.K Hvn xs vs
  fr : f1 = true → RpL [] (Hnew H1 Hn) xs vs
theorem comp_endT {cl : List (Str × Addr)} {L Da : Addr} {s2 : Shared} {H1 : Hp} {fp : List Addr} {σ : St} {pins : List (Addr × Obj)} {its : List Value} {ne : Nat} {vs : List V} {Hn : Hp} {s1 : Shared} {os : St} {h' : Heap}
    (I2 : Inv C.X pins σ H1 s2) (f2 : ∀ b ∈ fp, FpOk C.X pins H1 b) (eD : Da = s2.heap.objs.size) (eL : L = s2.heap.objs.size + 1)
    (I : Inv (compCx C.X (ts ++ fs) scope cl L s2 H1 fp) [] (os ++ freeV σ is) Hn s1) (obj : s1.heap.get? Da = some { cls := .type "list", data := .seq its.toArray ne }) (rv : Vals vs its) (dn : Hn Da = none) (few : vs.length ≤ sizeLine)
    (sb : ∀ b, b ≠ L → h'.get? b = s1.heap.get? b) : Inv C.X pins σ (upd Hn Da (.lst vs)) { s1 with heap := h' } := by
  have lt : ∀ b o, s2.heap.get? b = some o → b ≠ Da ∧ b ≠ L := fun b o e => by
    have hlt := Heap.lt_size e
    rw [eD, eL]
    exact ⟨Nat.ne_of_lt hlt, Nat.ne_of_lt (Nat.lt_succ_of_lt hlt)⟩
  have hDL : Da ≠ L := by rw [eD, eL]; exact Nat.ne_of_lt (Nat.lt_succ_self _)
  have kp : ∀ b o, b ≠ L → s1.heap.get? b = some o → h'.get? b = some o := fun b o hb e => (sb b hb).trans e
  refine I2.call' (s' := { s1 with heap := h' }) (ch := fp) I.os ⟨fun b ob e n hb hx => ?_, fun b ob e n hb hx => ?_, fun b ob e n hx => ?_, fun b ob e hx => ?_, fun b us e => ?_, fun b ob u e => ?_, fun b ps e => ?_⟩ ?_ I.bare fun b hb => ⟨(f2 b hb).2.2.2.1, (f2 b hb).2.1, (f2 b hb).2.2.2.2.1, (f2 b hb).2.2.2.2.2⟩
  · exact kp b ob (lt b ob e).2 (I.base.keep b ob e n hb hx)
  · obtain ⟨sl, h1⟩ := I.base.slot b ob e n hb hx
    exact ⟨sl, kp b _ (lt b ob e).2 h1⟩
  · rw [upd_ne (lt b ob e).1]; exact I.base.free b ob e n hx
  · obtain ⟨o', h1⟩ := I.base.there b ob e hx
    exact ⟨o', kp b _ (lt b ob e).2 h1⟩
  · have h1 := I.base.tups b us e
    rw [upd_ne (ne_of_none h1 dn)]; exact h1
  · have h1 := I.base.frzs b ob u e
    rw [upd_ne (ne_of_none h1 dn)]; exact h1
  · obtain ⟨more, h1⟩ := I.base.tbls b ps e
    exact ⟨more, by rw [upd_ne (ne_of_none h1 dn)]; exact h1⟩
  · exact hok_track (hok_but I.hok I.free kp) dn ⟨few, its, ne, rv, kp Da _ hDL obj⟩
theorem compGoT_cons {m : Nat} {elt cond : EE} {free : Dv.Env} {d : D} {r : List D} {xs : List D} {f : Bool} (h : Dv.compGoT m elt cond free (d :: r) = .ok xs f) :
    ∃ es, d = .tup es ∧ es.length = m ∧ ((∃ g x fx xs' f', cond (es.map some ++ free) = .ok (.bl true) g ∧ elt (es.map some ++ free) = .ok x fx ∧ Dv.compGoT m elt cond free r = .ok xs' f' ∧ xs = x :: xs' ∧ f = (fx && f')) ∨
    (∃ g, cond (es.map some ++ free) = .ok (.bl false) g ∧ Dv.compGoT m elt cond free r = .ok xs f)) := by
  unfold Dv.compGoT at h
  cases d with
  | tup es =>
    by_cases hm : es.length = m
    · refine ⟨es, rfl, hm, ?_⟩
      simp only [hm, if_true] at h
      cases hc : cond (es.map some ++ free) with
      | bad => simp only [hc] at h; cases h
      | exc c => simp only [hc] at h; cases h
      | ok b g =>
        cases b with
        | bl b =>
          cases b with
          | true =>
            simp only [hc] at h
            cases he : elt (es.map some ++ free) with
            | bad => simp only [he] at h; cases h
            | exc c => simp only [he] at h; cases h
            | ok x fx =>
              simp only [he] at h
              cases hr : Dv.compGoT m elt cond free r with
              | bad => simp only [hr] at h; cases h
              | exc c => simp only [hr] at h; cases h
              | ok xs' f' =>
                simp only [hr] at h
                cases h
                exact .inl ⟨g, x, fx, xs', f', rfl, rfl, rfl, rfl, rfl⟩
          | false => simp only [hc] at h; exact .inr ⟨g, rfl, h⟩
        | _ => simp only [hc] at h; cases h
    · simp only [hm, if_false] at h; cases h
  | _ => cases h
theorem comp_coreT {pins : List (Addr × Obj)} {s : Shared} {σ : St} {H Hv : Hp} {ρ : Dv.Env} {Q : VK} {use : Option (Value → Sem Unit)} {Q' : Value → Shared → Prop} {pos' : Pos} (hclm : C.X.calm = true) (S : CompNamesT C.X scope ts fs is) (na : NamesAre es ts) (hn : ∀ env, (assignEach es env).length = es.length) (hst : ∀ env, (assignEach es env).findIdx? (·.1) = none) (hi : SI C (.Tuple es kt px) iter fi) (he : ∀ cl L s₀ H₀ ex, SE (compCtx C (ts ++ fs) scope cl L s₀ H₀ ex) elt fe) (hc : ∀ cl L s₀ H₀ ex, STs (compCtx C (ts ++ fs) scope cl L s₀ H₀ ex) ifs fc)
    (hs : ∀ v, foldedSetIterable iter C.X.env v = pure v) (I : Inv C.X pins σ H s) (er : EnvR C.X.K Hv ρ σ) (sv : Same Hv H) (ok : Ok C.X.K Hv H (C.W σ) C.cls (Dv.eCompT ts.length fe fc is fi ρ) Q)
    (hfin : ∀ Da L s5, CompFin C pins σ Q Da L s5 → compPost (model C.X.prog C.X.w) C.X.A C.X.xe use Q' (.ref Da) L (.ok .next) s5) :
    wpAny (model C.X.prog C.X.w) C.X.A (comprehension (.ListComp elt [⟨.Tuple es kt px, iter, ifs, 0⟩] scope pos) scope C.X.env pos' (newList []) false (eval iter C.X.env) use) Q' C.X.xe s := by
  obtain ⟨wi, pi, qi⟩ := hi
  obtain ⟨cl, hcl, clsub, clhas⟩ := closure_of (env := C.X.env) (scope := scope) fun y hy hf => I.ok.has y.1 (S.free y hy hf)
  have h0 : wi σ H (fun J H1 => ∃ Hv1 ds xs fr, Ext Hv H Hv1 H1 ∧ Wlk C.X.K J Hv1 ds ∧ ds.length ≤ Dv.mx ∧ Dv.compGoT ts.length fe fc (Dv.pick ρ is) ds = .ok xs fr ∧ Ok C.X.K Hv H (C.W σ) C.cls (.ok (.lst xs) fr) Q) := by
    refine qi σ H Hv ρ _ er sv ?_
    unfold Dv.eCompT at ok
    cases hf : fi ρ with
    | bad => simp only [hf] at ok; exact ok
    | exc c => simp only [hf] at ok; exact ok
    | ok ds g =>
      simp only [hf] at ok
      by_cases hz : ds.length ≤ Dv.mx
      · simp only [hz, if_true] at ok
        cases hgo : Dv.compGoT ts.length fe fc (Dv.pick ρ is) ds with
        | bad => simp only [hgo] at ok; exact (show False from ok).elim
        | exc c => simp only [hgo] at ok; exact (show False from ok).elim
        | ok xs fr =>
          simp only [hgo] at ok
          exact fun J Hv1 H1 x1 wl => ⟨Hv1, ds, xs, fr, x1, wl, hz, hgo, ok⟩
      · simp only [hz, if_false] at ok
        exact (show False from ok).elim
  refine wpAny_comprehension_free (use := use) rfl hs hcl S.kind S.names (wpAny_mono (pi pins s σ H _ I h0) (fun v s1 h1 => wpAny_mono h1 (fun itv s2 h2 => ?_) fun _ _ z => z) fun _ _ z => z)
  obtain ⟨it, fp, tn, J, H1, rfl, I2, T, st2, f2, Hv1, ds, xs, fr, x1, wl, hz, hgo, okE⟩ := h2
  clear ok
  have fin : ∀ b ∈ fp, b < s2.heap.objs.size := fun b hb => by
    obtain ⟨o, e, _⟩ := T.obj 0 _ st2 b hb
    exact Heap.lt_size e
  refine wpAny_newObj_type (wpAny_newFunctionEnv S.cell (by intro y hy; simp at hy) (fun h1 hns hsb => ?_) S.kind)
  dsimp only at hns hsb ⊢
  generalize hH2 : s2.heap.push { cls := .type "list", dict := none, data := .seq ([] : List Value).toArray } = G2 at hns hsb ⊢
  have hL : G2.objs.size = s2.heap.objs.size + 1 := by rw [← hH2, Heap.size_push]
  generalize eL : G2.objs.size = L at hns hsb ⊢
  rw [eL] at hL
  have old : ∀ b o, s2.heap.get? b = some o → h1.get? b = some o := fun b o e => by
    have hlt := Heap.lt_size e
    exact hsb.extBut b o (by rw [hL]; exact Nat.ne_of_lt (Nat.lt_succ_of_lt hlt)) (Heap.get?_push_of_some _ (hH2 ▸ Heap.get?_push_of_some _ e))
  have hacc : h1.get? s2.heap.objs.size = some { cls := .type "list", data := .seq ([] : List Value).toArray 0 } := hsb.extBut _ _ (by rw [hL]; exact Nat.ne_of_lt (Nat.lt_succ_self _)) (Heap.get?_push_of_some _ (hH2 ▸ Heap.get?_push_size _ rfl))
  generalize eD : s2.heap.objs.size = Da at hacc hL ⊢
  have hDfp : Da ∉ fp := fun hb => by
    have := fin Da hb
    rw [eD] at this
    exact Nat.lt_irrefl _ this
  have hDL : Da ≠ L := by rw [hL]; exact Nat.ne_of_lt (Nat.lt_succ_self _)
  have hsL : s2.heap.objs.size ≤ L := by rw [hL, eD]; exact Nat.le_succ _
  have hsD : s2.heap.objs.size ≤ Da := Nat.le_of_eq eD
  obtain ⟨te, pe, qe⟩ := he cl L s2 H1 fp
  obtain ⟨tt, pt, qt⟩ := hc cl L s2 H1 fp
  have hDfs : Da ∉ frs C.X.stack := fun hb => by
    obtain ⟨_, ob, hob, _⟩ := I2.stack.mem hb
    have := Heap.lt_size hob
    rw [eD] at this
    exact Nat.lt_irrefl _ this
  have hcalm : (compCx C.X (ts ++ fs) scope cl L s2 H1 fp).calm = true := hclm
  have start : CompAtT C ts fs is scope cl L Da s2 H1 Hv1 fp tn σ ds 0 (List.replicate ts.length none) [] [] true H1 Hv1 { s2 with heap := h1, toks := s2.toks + ([] : List (Str × Value)).length } :=
    ⟨Nat.zero_le _, by simp, comp_invT I2 S clsub clhas f2 fin hsL old hns, T.keep 0 _ _ st2 fun b hb o e => old b o e, fun b hb => (f2 b hb).1, ⟨[], 0, hacc, .nil⟩, I2.hok.fresh hsD, Nat.le_refl _, .refl x1.vh, .nil, fun _ => .nil⟩
  have loop : ∀ (T0 : Result → Shared → Prop) (s4 : Shared), (∀ s', CompFin C pins σ Q Da L s' → T0 (.ok .next) s') → CompAtT C ts fs is scope cl L Da s2 H1 Hv1 fp tn σ ds 0 (List.replicate ts.length none) [] [] true H1 Hv1 s4 →
      codeAny (model C.X.prog C.X.w) C.X.A (.compLoop (.ListComp elt [⟨.Tuple es kt px, iter, ifs, 0⟩] scope pos) 0 (.ref it) (.ref Da) (compEnvC scope cl L C.X.env)) T0 s4 := by
    intro T0 s4 hT hst'
    refine comp_turns (fun n s => ∃ i os vs xs1 f1 xs2 fr2 Hn Hvn, n = ds.length - i ∧ CompAtT C ts fs is scope cl L Da s2 H1 Hv1 fp tn σ ds i os vs xs1 f1 Hn Hvn s ∧ Dv.compGoT ts.length fe fc (Dv.pick ρ is) (ds.drop i) = .ok xs2 fr2 ∧ xs = xs1 ++ xs2 ∧ fr = (f1 && fr2)) ?_ ds.length ⟨0, List.replicate ts.length none, [], [], true, xs, fr, H1, Hv1, rfl, hst', hgo, rfl, by simp⟩
    rintro n s ⟨i, os, vs, xs1, f1, xs2, fr2, Hn, Hvn, rfl, A, hg2, hxs, hfr⟩
    obtain ⟨its, ne, hob, rv⟩ := A.obj
    have I1 : Inv (compCx C.X (ts ++ fs) scope cl L s2 H1 fp) [(Da, { cls := .type "list", data := .seq its.toArray ne })] (os ++ freeV σ is) Hn s := A.inv.pins_of fun p hp => by
      have e : p = (Da, ({ cls := .type "list", data := .seq its.toArray ne } : Obj)) := by simpa using hp
      subst e
      exact ⟨hob, A.dn, hDL, hDfs, fun v z => by cases z⟩
    have hfp : ∀ Hx : Hp, (∀ b ∈ fp, Hx b = none) → ∀ b ∈ fp, FpOk (compCx C.X (ts ++ fs) scope cl L s2 H1 fp) [(Da, { cls := .type "list", data := .seq its.toArray ne })] Hx b := fun Hx hx b hb => by
      refine ⟨hx b hb, ?_, fun hf => ?_, .inl hb, fun y c e => (f2 b hb).2.2.2.2.1 y c (clsub y c e), fun p hp => ?_⟩
      · have := fin b hb
        exact fun z => by
          have z' : b = L := z
          rw [z'] at this
          exact absurd this (Nat.not_lt.mpr hsL)
      · obtain ⟨_, ob, hob', _⟩ := I2.stack.mem hf
        rcases List.mem_cons.mp (I2.stkSub b hf) with e | e
        · exact (f2 b hb).2.1 e
        · exact (f2 b hb).2.2.1 e
      · have e : p = (Da, ({ cls := .type "list", data := .seq its.toArray ne } : Obj)) := by simpa using (show p ∈ [] ++ [(Da, ({ cls := .type "list", data := .seq its.toArray ne } : Obj))] from hp)
        subst e
        exact fun z => hDfp (by rw [show Da = b from z]; exact hb)
    obtain ⟨w1, w2⟩ := wl i Hn (A.ext.vv.trans A.ext.vh)
    by_cases hlt : i < ds.length
    · have hd : ds[i]? = some ds[i] := by simp [hlt]
      have e1 : ds.drop i = ds[i] :: ds.drop (i + 1) := List.drop_eq_getElem_cons hlt
      rw [e1] at hg2
      generalize ds[i] = d at hd e1 hg2
      obtain ⟨go, yl⟩ := w1 d hd
      refine wpAny_mono (T.item (compCx C.X (ts ++ fs) scope cl L s2 H1 fp) rfl rfl rfl hcalm i _ s _ Hn (fun _ _ => False) I1 (hfp Hn A.fpn) A.at_ go) (fun r s5 h5 => ?_) fun _ _ z => z
      obtain ⟨u, rfl, h5⟩ := h5
      refine wpAny_mono h5 (fun _ s6 h6 => ?_) fun _ _ z => z
      obtain ⟨xv, H6, I6, ru, y6, tn6, fr6⟩ := h6
      obtain ⟨Hv6, x6, rp6⟩ := yl xv H6 y6
      obtain ⟨Hvm, xm, sm⟩ := ext_merge A.ext x6
      have I6p := I6.pinned (fp := fp) (hfp H6 fr6) (T.obj _ _ tn6)
      have dn6 : H6 Da = none := (I6.pin (Da, { cls := .type "list", data := .seq its.toArray ne }) (List.mem_append_right _ (by simp))).2.1
      obtain ⟨des, ed, hdl, hgo3⟩ := compGoT_cons hg2
      subst ed
      have rp6' := rp6
      unfold Rp at rp6'
      obtain ⟨ta, ws, rfl, hta, hws⟩ := rp6'
      have hwl : ws.length = ts.length := by rw [hws.length, hdl]
      have hesl : es.length = ts.length := na.length
      have hg := pg_tup (X := compCx C.X (ts ++ fs) scope cl L s2 H1 fp) (pos := px) (k := kt) hcalm (pgs_names (X := compCx C.X (ts ++ fs) scope cl L s2 H1 fp) S.nd na 0 (fun j t ht => ⟨by
        show (ts ++ fs)[0 + j]? = some t
        rw [Nat.zero_add, List.getElem?_append_left (List.getElem?_eq_some_iff.mp ht).1]; exact ht, lookup_relabel_local (S.tgt t (List.mem_of_getElem? ht))⟩)) (hn _) (hst _)
      refine wpAny_mono (hg _ s6 _ H6 (.ref ta) u (fun σ' H' => σ' = ws.map some ++ freeV σ is ∧ H' = H6) I6p ru ⟨ta, ws, rfl, .inl (Rd.same x6.vh hta), by rw [hwl, hesl], ?_⟩) (fun _ s7 h7 => ?_) fun _ _ z => z
      · rw [hesl]
        have := tgN_ok ts.length 0 ws [] os (freeV σ is) H6 (fun σ' H' => σ' = ws.map some ++ freeV σ is ∧ H' = H6) hwl A.ol rfl ⟨by simp, rfl⟩
        simpa using this
      obtain ⟨σ7, H7, I7, e7, e7'⟩ := h7
      subst e7 e7'
      have er7 : EnvR C.X.K Hvm (des.map some ++ Dv.pick ρ is) (ws.map some ++ freeV σ is) := env_compT (er.same ((x1.vv.trans A.ext.vv).trans xm.vv)) ((hws.same sm))
      have back : ∀ {s' : Shared} {H' : Hp} {σ' : St}, Inv (compCx C.X (ts ++ fs) scope cl L s2 H1 fp) ([(Da, { cls := .type "list", data := .seq its.toArray ne })] ++ pinsAt fp s6.heap) σ' H' s' → tn (i + 1) s'.heap ∧ (∀ b ∈ fp, H' b = none) ∧ s'.heap.get? Da = some { cls := .type "list", data := .seq its.toArray ne } ∧ H' Da = none := fun {s' H' σ'} I' => by
        refine ⟨T.keep _ _ _ tn6 fun b hb o e => (I'.pin (b, o) (List.mem_append_right _ (List.mem_append_right _ (mem_pinsAt hb e)))).1, fun b hb => ?_, ?_, ?_⟩
        · obtain ⟨o, e, _⟩ := T.obj _ _ tn6 b hb
          exact (I'.pin (b, o) (List.mem_append_right _ (List.mem_append_right _ (mem_pinsAt hb e)))).2.1
        · exact (I'.pin (Da, { cls := .type "list", data := .seq its.toArray ne }) (List.mem_append_right _ (List.mem_append_left _ (by simp)))).1
        · exact (I'.pin (Da, { cls := .type "list", data := .seq its.toArray ne }) (List.mem_append_right _ (List.mem_append_left _ (by simp)))).2.1
      rcases hgo3 with ⟨g, xd, fx, xs', f', hcond, helt, hrest, exs, ef⟩ | ⟨g, hcond, hrest⟩
      · -- the item is taken
        refine wpAny_mono (pt _ s7 _ H7 (fun b H' => b = true ∧ ∃ Hvq, Ext Hvm H7 Hvq H') I7 (qt _ H7 Hvm (des.map some ++ Dv.pick ρ is) _ er7 xm.vh ?_)) (fun okb s8 h8 => ?_) fun _ _ z => z
        · rw [hcond]
          intro v Hv' H' xx rpb _
          unfold Rp at rpb
          exact ⟨true, rpb, rfl, Hv', xx⟩
        obtain ⟨H8, I8, rfl, Hv8, x8⟩ := h8
        rw [if_pos rfl]
        refine wpAny_mono (pe _ s8 _ H8 (fun v H' => ∃ Hv', Ext Hv8 H8 Hv' H' ∧ Rp C.X.K Hv' xd v ∧ (fx = true → Rp [] (Hnew H8 H') xd v)) I8 (qe _ H8 Hv8 (des.map some ++ Dv.pick ρ is) _ (er7.same x8.vv) x8.vh ?_)) (fun uv s9 h9 => ?_) fun _ _ z => z
        · show Ok C.X.K Hv8 H8 _ C.cls (fe (des.map some ++ Dv.pick ρ is)) _
          rw [helt]
          exact fun v Hv' H' xx rpb nn => ⟨Hv', xx, rpb, nn⟩
        obtain ⟨v9, H9, I9, r9, Hv9, x9, rp9, n9⟩ := h9
        obtain ⟨tn9, fpn9, ob9, dn9⟩ := back I9
        have hlen := rv.length
        refine call_meets F.slot_list_append ⟨_, ob9, rfl⟩ F.entry_list_append (F.args_list_append_2 _ _) (PySem.list_append Da its.toArray ne uv (by rw [List.size_toArray]; have := A.few; have := mx_line hz; omega)) ⟨ob9, ?_⟩
        refine ⟨ds.length - (i + 1), by omega, i + 1, ws.map some, vs ++ [v9], xs1 ++ [xd], f1 && fx, xs', f', H9, Hv9, rfl, ⟨hlt, by simp [hwl], ?_, ?_, fpn9, ?_, dn9, ?_, ?_, ?_, ?_⟩, hrest, by rw [hxs, exs]; simp, by rw [hfr, ef, Bool.and_assoc]⟩
        · have I9' : Inv (compCx C.X (ts ++ fs) scope cl L s2 H1 fp) [] (ws.map some ++ freeV σ is) H9 s9 := I9.pins_of fun p hp => absurd hp (by simp)
          exact I9'.turned (it := Da) (fun b ob hb e => (Heap.get?_update_other _ _ (Ne.symm hb)).trans e) dn9 hDL (.inr hsD) (fun y c e z => by
            obtain ⟨w', oc, hoc, _⟩ := I2.cell y c (clsub y c e)
            have := Heap.lt_size hoc
            rw [z] at this
            exact absurd this (Nat.not_lt.mpr hsD)) (fun p hp => absurd (show p ∈ ([] : List (Addr × Obj)) from hp) (by simp))
        · exact T.keep _ _ _ tn9 fun b hb ob e => (Heap.get?_update_other _ _ (fun z => hDfp (by rw [z]; exact hb))).trans e
        · have q := PySem.IsL.update ob9 (fun a => a.push uv)
          exact ⟨its ++ [uv], _, by simpa using q, rv.append (.cons r9 .nil)⟩
        · rw [List.length_append, List.length_singleton]; have := A.few; omega
        · exact A.ext.trans (xm.trans (x8.trans x9))
        · exact (A.rp.same ((xm.vv.trans x8.vv).trans x9.vv)).append (.cons rp9 .nil)
        · intro z
          rw [Bool.and_eq_true] at z
          refine ((A.fr z.1).same (Hnew.mono (.refl _) ((xm.hh.trans x8.hh).trans x9.hh))).append (.cons ((n9 z.2).same (Hnew.mono ((A.ext.hh.trans xm.hh).trans x8.hh) (.refl _))) .nil)
      · -- the item is left out
        refine wpAny_mono (pt _ s7 _ H7 (fun b H' => b = false ∧ ∃ Hvq, Ext Hvm H7 Hvq H') I7 (qt _ H7 Hvm (des.map some ++ Dv.pick ρ is) _ er7 xm.vh ?_)) (fun okb s8 h8 => ?_) fun _ _ z => z
        · rw [hcond]
          intro v Hv' H' xx rpb _
          unfold Rp at rpb
          exact ⟨false, rpb, rfl, Hv', xx⟩
        obtain ⟨H8, I8, rfl, Hv8, x8⟩ := h8
        rw [if_neg Bool.false_ne_true]
        obtain ⟨tn8, fpn8, ob8, dn8⟩ := back I8
        refine ⟨ds.length - (i + 1), by omega, i + 1, ws.map some, vs, xs1, f1, xs2, fr2, H8, Hv8, rfl, ⟨hlt, by simp [hwl], I8.pins_of fun p hp => absurd hp (by simp), tn8, fpn8, ⟨its, ne, ob8, rv⟩, dn8, Nat.le_succ_of_le A.few, A.ext.trans (xm.trans x8), A.rp.same (xm.vv.trans x8.vv), fun z => (A.fr z).same (Hnew.mono (.refl _) (xm.hh.trans x8.hh))⟩, hrest, hxs, hfr⟩
    · have ei : i = ds.length := Nat.le_antisymm A.le (by omega)
      refine wpAny_mono (T.done (compCx C.X (ts ++ fs) scope cl L s2 H1 fp) rfl rfl rfl hcalm i _ s _ Hn (fun _ _ => False) I1 (hfp Hn A.fpn) A.at_ (w2 ei)) (fun r s5 h5 => ?_) fun _ _ z => z
      obtain ⟨rfl, I5⟩ := h5
      refine hT s5 ?_
      obtain ⟨m5, hn5, _⟩ := I5.loc
      rw [ei, List.drop_length] at hg2
      cases hg2
      rw [List.append_nil] at hxs
      rw [Bool.and_true] at hfr
      subst hxs hfr
      have ob5 := (I5.pin (Da, { cls := .type "list", data := .seq its.toArray ne }) (List.mem_append_right _ (by simp))).1
      refine ⟨⟨m5, hn5⟩, fun z => absurd I2.lt (by rw [← z]; exact Nat.not_lt.mpr hsL), fun y c e z => ?_, Nat.le_trans I2.sz hsL, fun p hp z => ?_, upd Hn Da (.lst vs), ?_, ?_, fun h' sb => ?_⟩
      · obtain ⟨w', oc, hoc, _⟩ := I2.cell y c e
        exact absurd (Heap.lt_size hoc) (by rw [z]; exact Nat.not_lt.mpr hsL)
      · exact absurd (Heap.lt_size (I2.pin p hp).1) (by rw [z]; exact Nat.not_lt.mpr hsL)
      · rw [upd_ne (Ne.symm hDL)]; exact A.inv.free
      · exact Ok.newL okE (x1.trans A.ext) A.rp (fun z => (A.fr z).same (Hnew.mono x1.hh (.refl _))) Da A.dn
      · exact comp_endT I2 f2 eD.symm (by rw [hL, eD]) (I5.pins_of fun p hp => absurd hp (by simp)) ob5 rv A.dn (by have := A.few; have := A.le; have := mx_line hz; omega) sb
  refine codeAny_compStart_list (loop _ _ (fun s' h => hfin Da L s' h) start) ?_
  exact T.self _ 0 _ _ _ start.at_ (loop _ _ (fun s' h => hfin Da L s' h) start)
theorem se_compT (S : CompNamesT C.X scope ts fs is) (na : NamesAre es ts) (hn : ∀ env, (assignEach es env).length = es.length) (hst : ∀ env, (assignEach es env).findIdx? (·.1) = none) (hi : SI C (.Tuple es kt px) iter fi) (he : ∀ cl L s₀ H₀ ex, SE (compCtx C (ts ++ fs) scope cl L s₀ H₀ ex) elt fe) (hc : ∀ cl L s₀ H₀ ex, STs (compCtx C (ts ++ fs) scope cl L s₀ H₀ ex) ifs fc)
    (hs : ∀ v, foldedSetIterable iter C.X.env v = pure v := by intro _; rfl) (hclm : C.X.calm = true := by rfl) : SE C (.ListComp elt [⟨.Tuple es kt px, iter, ifs, 0⟩] scope pos) (Dv.eCompT ts.length fe fc is fi) := by
  refine ⟨fun σ H Q => ∃ Hv ρ, EnvR C.X.K Hv ρ σ ∧ Same Hv H ∧ Ok C.X.K Hv H (C.W σ) C.cls (Dv.eCompT ts.length fe fc is fi ρ) Q, ?_, fun σ H Hv ρ Q e s q => ⟨Hv, ρ, e, s, q⟩⟩
  intro pins s σ H Q I ⟨Hv, ρ, er, sv, ok⟩
  rw [eval_ListComp]
  refine comp_coreT (use := none) hclm S na hn hst hi he hc hs I er sv ok fun Da L s5 h => ?_
  obtain ⟨⟨m, hn⟩, _, _, _, _, H', hL, q, iv⟩ := h
  exact ⟨m, hn, fun h' sb => ⟨.ref Da, H', iv h' fun b hb => sb.2 b hb, rfl, q⟩⟩
end
def compOkT (fsc : Scope) (N : List Str) (scope : Scope) (ts : List Str) (fs : List Str) (is : List Nat) : Bool :=
  scope.kind == .function && scope.names.all (fun y => !(y.2 == .cell)) && scope.names.all (fun y => !(y.2 == .local) || scope.names.lookup y.1 == some .local) && ts.all (fun x => scope.names.lookup x == some .local) && decide (ts ++ fs).Nodup &&
  scope.names.all (fun y => !(y.2 == .free) || (fsc.names.lookup y.1 == some .cell || fsc.names.lookup y.1 == some .free)) && fs.all (fun y => scope.names.lookup y == some .free) && is.length == fs.length && (fs.zip is).all (fun p => N[p.2]? == some p.1)
theorem comp_namesT {X : Cx} {fsc : Scope} {N : List Str} {scope : Scope} {ts : List Str} {fs : List Str} {is : List Nat} (h1 : X.env.scope = fsc) (h2 : X.N = N) (h : compOkT fsc N scope ts fs is = true) : CompNamesT X scope ts fs is := by
  subst h1 h2
  unfold compOkT at h
  simp only [Bool.and_eq_true] at h
  obtain ⟨⟨⟨⟨⟨⟨⟨⟨a1, a2⟩, a3⟩, a4⟩, a5⟩, a6⟩, a7⟩, a8⟩, a9⟩ := h
  refine ⟨by simpa using a1, fun y hy => ?_, fun y hy hl => ?_, fun t ht => (by simpa using List.all_eq_true.mp a4 t ht), by simpa using a5, fun y hy hf => ?_, fun y hy => ?_, by simpa using a8, fun j y hj => ?_⟩
  · have := List.all_eq_true.mp a2 y hy
    simpa using this
  · have := List.all_eq_true.mp a3 y hy
    simpa [hl] using this
  · have := List.all_eq_true.mp a6 y hy
    show X.env.scope.names.lookup y.1 = some .cell ∨ X.env.scope.names.lookup y.1 = some .free
    simpa [hf] using this
  · have := List.all_eq_true.mp a7 y hy
    simpa using this
  · have hl : is.length = fs.length := by simpa using a8
    have hjl : j < fs.length := (List.getElem?_eq_some_iff.mp hj).1
    refine ⟨is[j]'(by omega), by simp, ?_⟩
    have hm : (y, is[j]'(by omega)) ∈ fs.zip is := by
      have e1 : fs[j] = y := (List.getElem?_eq_some_iff.mp hj).2
      have : (fs.zip is)[j]'(by rw [List.length_zip]; omega) = (y, is[j]'(by omega)) := by rw [List.getElem_zip, e1]
      rw [← this]
      exact List.getElem_mem _
    have := List.all_eq_true.mp a9 _ hm
    simpa using this
end Sd
set_option Elab.async false
set_option linter.all false
set_option maxRecDepth 100000
namespace Sd
open PySem PySem.Spec PyProof.Rows L2
open Dv (D R RL EE EL EI RI Sl Out SS)
section
variable {C : Ctx} {a b c e k : Expr} {f g h : EE} {F G : SS} {pos pos' : Pos} {E : Ends}
end
end Sd
set_option linter.all false
namespace Dv
end Dv
set_option Elab.async false
set_option linter.all false
set_option maxRecDepth 100000
namespace Sd
open PySem PySem.Spec PyProof.Rows L2
open Dv (D R RL EE EL EI RI Sl Out SS)
section
variable {C : Ctx} {a b c e k : Expr} {f g h : EE} {F G : SS} {pos pos' : Pos} {E : Ends}
end
end Sd
set_option linter.all false
namespace Dv
end Dv
set_option Elab.async false
set_option linter.all false
set_option maxRecDepth 100000
namespace Sd
open PySem PySem.Spec PyProof.Rows L2
open Dv (D R RL EE EL EI RI Sl Out SS)
section
variable {C : Ctx} {a b c e : Expr} {f g h : EE} {pos : Pos}
end
end Sd
set_option Elab.async false
set_option linter.all false
set_option maxRecDepth 100000
namespace Sd
open PySem PySem.Spec PyProof.Rows L2
open Dv (D R RL EE EL EI RI Sl Out SS)
section
variable {C : Ctx} {a b c e : Expr} {f g h : EE} {F : SS} {pos pos' : Pos}
end
section
variable {prog : Program} {w : World} {A : Around} {E : Value → Shared → Prop}
end
section
variable {C : Ctx} {e : Expr} {f : EE} {pos : Pos}
end
end Sd
set_option Elab.async false
set_option linter.all false
set_option maxRecDepth 100000
namespace Sd
open PySem PySem.Spec PyProof.Rows L2
open Dv (D R RL EE EL EI RI Sl Out SS)
section
variable {C : Ctx} {a b c e : Expr} {f g h : EE} {F G : SS} {pos pos' : Pos}
end
inductive RawL (K : PySem.W.Frag) (Hc : Hp) : List D → List D → Prop
  | nil : RawL K Hc [] []
  | scal {d : D} {r r' : List D} : Dv.scal d = true → RawL K Hc r r' → RawL K Hc (d :: r) (d :: r')
  | tup {es : List D} {a : Addr} {us : List V} {r r' : List D} : Dv.flatL es = true → Hc a = some (.tup us) → RpL K Hc es us → RawL K Hc r r' → RawL K Hc (.tup es :: r) (.raw a :: r')
inductive RawLL (K : PySem.W.Frag) (Hc : Hp) : List D → List D → Prop
  | nil : RawLL K Hc [] []
  | cons {es es' r r' : List D} : RawL K Hc es es' → RawLL K Hc r r' → RawLL K Hc (.lst es :: r) (.lst es' :: r')
end Sd
set_option Elab.async false
set_option linter.all false
set_option maxRecDepth 100000
namespace Sd
open PySem PySem.Spec PyProof.Rows L2
open Dv (D R RL EE EL EI RI Sl Out SS)
section
variable {K : PySem.W.Frag} {Hv₀ H₀ Hc : Hp} {O : Nat → Hp} {st : Dv.St} {σ : St} {H : Hp}
end
section
variable {C : Ctx} {f : EE} {E : Ends}
end
section
variable {C : Ctx} {elt iter : Expr} {ifs : List Expr} {fe fc : EE} {fi : EI} {x : Str} {fs : List Str} {is : List Nat} {scope : Scope} {px pos : Pos}
end
end Sd
set_option Elab.async false
set_option linter.all false
set_option maxRecDepth 100000
namespace Sd
open PySem PySem.Spec PyProof.Rows L2
open Dv (D R RL EE EL EI RI Sl Out SS)
def rowsI (xs : List D) : Prop := ∀ x ∈ xs, ∃ r : List Int, x = .lst (r.map .int)
section
variable {C : Ctx} {elt iter : Expr} {x : Str} {px pos : Pos} {ifs : List Expr} {scope : Scope} {fs : List Str} {is : List Nat} {fi : EI} {fe fc : EE}
structure CompAtN (C : Ctx) (x : Str) (fs : List Str) (is : List Nat) (scope : Scope) (cl : List (Str × Addr)) (L Da : Addr) (s2 : Shared) (H1 Hv1 : Hp) (fp : List Addr) (tn : Nat → Heap → Prop) (σ : St) (ds : List D) (i : Nat) (o : Option V) (vs : List V) (xs : List D) (f1 : Bool) (Hn Hvn : Hp) (s : Shared) : Prop where
  le : i ≤ ds.length
  inv : Inv (compCx C.X (x :: fs) scope cl L s2 H1 fp) [] (o :: freeV σ is) Hn s
  at_ : tn i s.heap
  fpn : ∀ b ∈ fp, Hn b = none
  obj : ∃ (its : List Value) (ne : Nat), s.heap.get? Da = some { cls := .type "list", data := .seq its.toArray ne } ∧ Vals vs its
  dn : Hn Da = none
  few : vs.length ≤ i
  ext : Ext Hv1 H1 Hvn Hn
  rp : RpL C.X.K Hvn xs vs
  fr : f1 = true → RpL [] (Hnew H1 Hn) xs vs
  nd : f1 = true → rowsI xs → vs.Nodup
end
end Sd
set_option Elab.async false
set_option linter.all false
set_option maxRecDepth 100000
namespace Sd
open PySem PySem.Spec PyProof.Rows L2
open Dv (D R RL EE EL EI RI Sl Out SS)
section
variable {K : PySem.W.Frag} {Hv₀ H₀ Hc : Hp} {O : Nat → Hp} {st : Dv.St} {σ : St} {H : Hp}
end
section
variable {C : Ctx} {a b c e k : Expr} {f g h : EE} {F G : SS} {pos pos' : Pos} {E : Ends}
end
end Sd
set_option Elab.async false
set_option linter.all false
set_option maxRecDepth 100000
namespace Sd
open PySem PySem.Spec PyProof.Rows L2
open Dv (D R RL EE EL EI RI Sl Out SS)
section
variable {C : Ctx} {a b c e k : Expr} {f g h : EE} {F G : SS} {pos pos' : Pos} {E : Ends}
end
end Sd
set_option linter.all false
namespace Dv
def addSD : D → D → R
  | .str a, .str b => if a.length + b.length ≤ mx then .ok (.str (a ++ b)) true else .bad
  | _, _ => .bad
def optS : Option Nat → R
  | some c => .ok (.str [c]) true
  | none => .bad
def ixSD : D → D → R
  | .str z, .int i => if decide (0 ≤ i) && decide (z.length ≤ mx) then optS z[i.toNat]? else .bad
  | _, _ => .bad
def lenSD : D → Bool → R
  | .str z, _ => if z.length ≤ mx then .ok (.int z.length) true else .bad
  | _, _ => .bad
def isStrD : D → Bool → R
  | .exn _, _ => .bad
  | .raw _, _ => .bad
  | .tab _, _ => .bad
  | .str _, _ => .ok (.bl true) true
  | _, _ => .ok (.bl false) true
def inSD (neg : Bool) : D → D → R
  | .str [c], .str z => .ok (.bl (if neg then !(decide (c % 1114112 ∈ clipS z)) else decide (c % 1114112 ∈ clipS z))) true
  | _, _ => .bad
def signsD (z : List Nat) : List D := z.map fun c => .str [c]
def iStr (a : EE) : EI := fun ρ => match a ρ with
  | .ok (.str z) _ => .ok (signsD z) true
  | .exc c => .exc c
  | _ => .bad
def iEnumS (a : EE) : EI := fun ρ => match a ρ with
  | .ok (.str z) _ => .ok (enumL 0 (signsD z)) true
  | .exc c => .exc c
  | _ => .bad
def strsOf : List D → Option (List (List Nat))
  | [] => some []
  | .str z :: r => (strsOf r).map (z :: ·)
  | _ :: _ => none
def glue (sep : List Nat) : List (List Nat) → List Nat
  | [] => []
  | [x] => x
  | x :: y :: r => x ++ sep ++ glue sep (y :: r)
def joinD (sep : List Nat) : D → R
  | .lst ds => match strsOf ds with
    | some zs => if (zs.map List.length).sum + zs.length * sep.length ≤ mx then .ok (.str (glue sep zs)) true else .bad
    | none => .bad
  | _ => .bad
def eJoin (a b : EE) : EE := fun ρ => (a ρ).bind fun x _ => match x with
  | .str sep => (b ρ).bind fun y _ => joinD sep y
  | _ => .bad
def sKill1 (i : Nat) (e : EE) : SS := fun st => match st[i]? with
  | some (.dp (.tup [.int _, .lst ds])) => match e (all st) with
    | .ok d _ => if scal d && decide (ds.length < mx) then .nx (st.set i .no) else .bad
    | _ => .bad
  | _ => .bad
end Dv
set_option Elab.async false
set_option linter.all false
set_option maxRecDepth 100000
namespace Sd
open PySem PySem.Spec PyProof.Rows L2
open Dv (D R RL EE EL EI RI Sl Out SS)
section
variable {C : Ctx} {a b c e o k : Expr} {es : List Expr} {f g h : EE} {fl : EL} {F G : SS} {pos pos' : Pos} {E : Ends}
theorem rp_str {K : PySem.W.Frag} {H : Hp} {x : List Nat} : Rp K H (.str x) (.str ⟨(Dv.clipS x).toArray⟩) := by unfold Rp; rfl
theorem clip_len (x : List Nat) : (Dv.clipS x).length = x.length := by simp [Dv.clipS]
theorem str_len (x : List Nat) : Str.length ⟨(Dv.clipS x).toArray⟩ = x.length := by simp [Str.length, clip_len]
theorem str_cat (x y : List Nat) : ((⟨(Dv.clipS x).toArray⟩ : Str) ++ (⟨(Dv.clipS y).toArray⟩ : Str)) = ⟨(Dv.clipS (x ++ y)).toArray⟩ := by
  show (⟨(Dv.clipS x).toArray ++ (Dv.clipS y).toArray⟩ : Str) = _
  simp [Dv.clipS]
theorem os_addS : OpS C (binaryOp .Add) Dv.addSD := by
  refine ⟨_, op_add_str, fun x y d d' H Hv H1 Hv1 W Q e rx ry q => ?_⟩
  cases d with
  | str i =>
    cases d' with
    | str j =>
      unfold Rp at rx ry
      by_cases hz : i.length + j.length ≤ Dv.mx
      · have q' : Ok C.X.K Hv H W C.cls (.ok (.str (i ++ j)) true) Q := by simpa [Dv.addSD, hz] using q
        refine ⟨_, _, rx, ry, by rw [str_len, str_len]; exact mx_line hz, ?_⟩
        rw [str_cat]
        exact q'.at e rp_str rfl
      · have q' : False := by simpa [Dv.addSD, hz, Ok] using q
        exact q'.elim
    | _ => exact (show False from q).elim
  | _ => exact (show False from q).elim
theorem se_addS (ha : SE C a f) (hb : SE C b g) : SE C (.BinOp a .Add b pos) (Dv.eB2 Dv.addSD f g) := se_op2 os_addS ha hb
theorem os_inS : OpS C (compareOp .In) (Dv.inSD false) := by
  refine ⟨_, op_in_str, fun x y d d' H Hv H1 Hv1 W Q e rx ry q => ?_⟩
  match d, d', q with
  | .str [c], .str z, q =>
    unfold Rp at rx ry
    refine ⟨_, _, rx, ry, ?_⟩
    have := StrLaws.found_one ⟨(Dv.clipS z).toArray⟩ (c % 1114112)
    have e2 : (⟨(Dv.clipS [c]).toArray⟩ : Str) = ⟨#[c % 1114112]⟩ := rfl
    rw [e2, this]
    exact (show Ok C.X.K Hv H W C.cls (.ok (.bl (decide (c % 1114112 ∈ Dv.clipS z))) true) Q from q).at e rp_bl rfl
theorem os_notinS : OpS C (compareOp .NotIn) (Dv.inSD true) := by
  refine ⟨_, op_notin_str, fun x y d d' H Hv H1 Hv1 W Q e rx ry q => ?_⟩
  match d, d', q with
  | .str [c], .str z, q =>
    unfold Rp at rx ry
    refine ⟨_, _, rx, ry, ?_⟩
    have := StrLaws.found_one ⟨(Dv.clipS z).toArray⟩ (c % 1114112)
    have e2 : (⟨(Dv.clipS [c]).toArray⟩ : Str) = ⟨#[c % 1114112]⟩ := rfl
    rw [e2, this]
    exact (show Ok C.X.K Hv H W C.cls (.ok (.bl (!(decide (c % 1114112 ∈ Dv.clipS z)))) true) Q from q).at e rp_bl rfl
theorem sc_notinS (ha : SE C a f) (hb : SE C b g) (hm : behindInMarks .NotIn b = false := by with_unfolding_all rfl) : SC C (.Compare a [.NotIn] [b] pos) (Dv.eB2 (Dv.inSD true) f g) := sc_cm2 os_notinS ha hb hm
theorem se_inS (ha : SE C a f) (hb : SE C b g) (hm : behindInMarks .In b = false := by with_unfolding_all rfl) : SE C (.Compare a [.In] [b] pos) (Dv.eB2 (Dv.inSD false) f g) := se_cm2 os_inS ha hb hm
theorem se_ixS (ha : SE C a f) (hb : SE C b g) (hs : PlainIx b := by intro _ _; rfl) : SE C (.Subscript a b pos) (Dv.eB2 Dv.ixSD f g) := by
  obtain ⟨ta, pa, qa⟩ := ha
  obtain ⟨tb, pb, qb⟩ := hb
  refine ⟨_, pe_ix ix_str pa pb hs, fun σ H Hv ρ Q e s w => ?_⟩
  refine qa.step e (.refl s) w fun v d fr Hv1 H1 _ x1 _ rp1 n1 q1 => qb.step e x1 q1 fun v2 d2 fr2 Hv2 H2 _ x2 y2 rp2 _ q2 => ?_
  have rp := rp1.same y2.vv
  cases d with
  | str z =>
    cases d2 with
    | int i =>
      unfold Rp at rp rp2
      by_cases h0 : 0 ≤ i
      · by_cases hz : z.length ≤ Dv.mx
        · have q3 : Ok C.X.K Hv H (C.W σ) C.cls (Dv.optS z[i.toNat]?) Q := by simpa [Dv.ixSD, h0, hz] using q2
          cases hk : z[i.toNat]? with
          | none => rw [hk] at q3; exact (show False from q3).elim
          | some c =>
            rw [hk] at q3
            obtain ⟨n, rfl⟩ : ∃ n : Nat, i = n := ⟨i.toNat, by omega⟩
            refine ⟨_, n, c % 1114112, rp, rp2, by rw [str_len]; exact mx_line hz, atI_nat ?_, q3.at x2 rp_str rfl⟩
            have hk' : z[n]? = some c := by simpa using hk
            show (Dv.clipS z).toArray.toList[n]? = _
            simp [Dv.clipS, hk']
        · have q' : False := by simpa [Dv.ixSD, hz, Ok] using q2
          exact q'.elim
      · have q' : False := by simpa [Dv.ixSD, h0, Ok] using q2
        exact q'.elim
    | _ => exact (show False from q2).elim
  | _ => exact (show False from q2).elim
theorem c1_lenS : C1S C (.builtin "len") Dv.lenSD := by
  refine ⟨_, call_len_str, fun x d fr H Hv H1 Hv1 W Q e rx n q => ?_⟩
  cases d with
  | str z =>
    unfold Rp at rx
    subst rx
    by_cases hz : z.length ≤ Dv.mx
    · have q' : Ok C.X.K Hv H W C.cls (.ok (.int z.length) true) Q := by simpa [Dv.lenSD, hz] using q
      refine ⟨_, rfl, by rw [str_len]; exact mx_line hz, ?_⟩
      rw [str_len]
      exact q'.at e rp_int rfl
    · have q' : False := by simpa [Dv.lenSD, hz, Ok] using q
      exact q'.elim
  | _ => exact (show False from q).elim
theorem se_lenS {p : Pos} (hm : C.X.mg "len" = none) (hg : Gl C.X "len") (ha : SE C a f) (he : starEach [a] C.X.env = [(false, eval a C.X.env)] := by rfl) : SE C (.Call (.Name "len" p) [a] [] pos) (Dv.eB1 Dv.lenSD f) := se_b1 c1_lenS hg hm PySem.boot_len ha (by decide) (by decide) he
def bStr : D → Bool
  | .str _ => true
  | _ => false
theorem kit_str (K : PySem.W.Frag) (d : D) : PySem.W.kitOne K (.type (tyD d)) (.type "str") = some (bStr d) := by cases d <;> rfl
theorem isStrD_eq (d : D) (fr : Bool) (h : Dv.noTy d = false) : Dv.isStrD d fr = .ok (.bl (bStr d)) true := by cases d <;> first | rfl | exact absurd h (by simp [Dv.noTy])
theorem se_isStr {p p2 : Pos} (hm : C.X.mg "isinstance" = none) (hmx : C.X.mg "str" = none) (hg : Gl C.X "isinstance") (hgx : Gl C.X "str") (ha : SE C a f) (he : starEach [a, .Name "str" p2] C.X.env = (false, eval a C.X.env) :: starEach [.Name "str" p2] C.X.env := by rfl)
    (he2 : starEach [.Name "str" p2] C.X.env = [(false, eval (.Name "str" p2) C.X.env)] := by rfl) : SE C (.Call (.Name "isinstance" p) [a, .Name "str" p2] [] pos) (Dv.eB1 Dv.isStrD f) := se_isi _ isStrD_eq (fun d fr h => by cases d <;> first | rfl | exact absurd h (by simp [Dv.noTy])) kit_str hg hm hgx hmx (by decide +kernel) ha (by decide) (by decide) he he2
end
section
variable {C : Ctx} {a b c e o k : Expr} {es : List Expr} {f g h : EE} {fl : EL} {F G : SS} {pos pos' : Pos} {E : Ends}
end
def Its (x : Str) : It := ⟨fun i _ => i < x.cps.size, fun i H v H' => H' = H ∧ ∃ c, x.cps[i]? = some c ∧ v = .str ⟨#[c]⟩, fun i _ => i = x.cps.size⟩
theorem turn_str {P : Program} {w : World} {K : PySem.W.Frag} {tg : Expr} {x : Str} {t : Tok} {it : Addr} {ty : String} (hty : ["enumerate", "zip", "dict_itemiterator", "dict_reverseitemiterator", "odict_iterator", "itertools.zip_longest", "itertools.pairwise"].contains ty = false)
    (W : ∀ A : Around, A.handled = none → Walks P w A it [it] [it] x.cps.size (SignAt x) (fun i h => h.IsStrIter it ty x t i))
    (Z : ∀ (A : Around) (i : Nat) (s : Shared) (Q : Value → Shared → Prop) (E : Value → Shared → Prop), s.heap.IsStrIter it ty x t i → Q (.ref it) s → wpAny (model P w) A (pyIter (.ref it)) Q E s) :
    Turn P w K tg (Its x) [it] it (fun i h => h.IsStrIter it ty x t i) where
  mem := by simp
  obj := fun i h st b hb => by
    have e : b = it := by simpa using hb
    subst e
    obtain ⟨o, e, c, d⟩ := st
    exact ⟨o, e, fun v z => by rw [d] at z; cases z⟩
  keep := fun i h h' ⟨o, e, r⟩ k => ⟨o, k it (by simp) o e, r⟩
  item := by
    intro X hP hw hK hc i pins s σ H E I hf st hg
    subst hP hw hK
    obtain ⟨f0, f1, f2, f3, f4, f5⟩ := hf it (by simp)
    refine (W _ (I.ok.hd hc)).item i s _ _ hg st fun v h' tk hv st' kk => ?_
    obtain ⟨c, u, hc', rfl⟩ := hv
    have I1 : Inv X pins σ H { s with heap := h', toks := tk } := I.turned (fun b o hb e => kk b o (by simpa using hb) e) f0 f1 f3 f4 f5
    obtain ⟨o, e, c1, d⟩ := id st'
    exact ⟨_, rfl, go_of (s := { s with heap := h', toks := tk }) e c1 d hty ⟨.str ⟨#[c]⟩, H, I1, ⟨u, rfl⟩, ⟨rfl, c, hc', rfl⟩, st', fun b hb => (hf b hb).1⟩⟩
  done := by
    intro X hP hw hK hc i pins s σ H E I hf st hg
    subst hP hw hK
    have hg : i = x.cps.size := hg
    subst hg
    obtain ⟨f0, f1, f2, f3, f4, f5⟩ := hf it (by simp)
    exact (W _ (I.ok.hd hc)).done s _ _ st fun h' tk kk => ⟨rfl, I.turned (fun b o hb e => kk b o (by simpa using hb) e) f0 f1 f3 f4 f5⟩
  self := fun A i s Q E st h => Z A i s Q E st h
def iStrR (tl : TE) : TI := fun σ H R => tl σ H fun x H1 => ∃ z, x = .str z ∧ R (Its z) H1
theorem pi_str {X : Cx} {tg l : Expr} {tl : TE} (hl : PE X l tl) : PI X tg l (iStrR tl) := by
  intro pins s σ H R I h
  refine thn (hl pins s σ H _ I h) fun v s1 ⟨x, H1, I1, r1, q1⟩ => ?_
  obtain ⟨z, rfl, q⟩ := q1
  obtain ⟨t, rfl⟩ := r1
  have fin : ∀ b ∈ [s1.heap.objs.size], FpOk X pins H1 b := fun b hb => by
    have e : b = s1.heap.objs.size := by simpa using hb
    subst e
    exact I1.fpOk (Nat.le_refl _) (I1.hok.fresh (Nat.le_refl _))
  cases ha : z.cps.all (· < 128)
  · exact wpAny_pyIter_wide ha ⟨s1.heap.objs.size, [s1.heap.objs.size], _, _, H1, rfl, I1.kept (t' := s1.toks) fun b o e => Heap.get?_push_of_some _ e, turn_str (by decide) (fun A hA => Walks.strWide hA _ z t) (fun A i s Q E st h => wpAny_pyIter_striter_wide st h), ⟨_, Heap.get?_push_size _ rfl, rfl, rfl⟩, fin, q⟩
  · exact wpAny_pyIter_ascii ha ⟨s1.heap.objs.size, [s1.heap.objs.size], _, _, H1, rfl, I1.kept (t' := s1.toks) fun b o e => Heap.get?_push_of_some _ e, turn_str (by decide) (fun A hA => Walks.strAscii hA _ z t) (fun A i s Q E st h => wpAny_pyIter_striter_ascii st h), ⟨_, Heap.get?_push_size _ rfl, rfl, rfl⟩, fin, q⟩
theorem signs_at {z : List Nat} {i : Nat} {d : D} (h : (Dv.signsD z)[i]? = some d) : ∃ c, z[i]? = some c ∧ d = .str [c] := by
  unfold Dv.signsD at h
  rw [List.getElem?_map] at h
  cases hz : z[i]? with
  | none => rw [hz] at h; cases h
  | some c => rw [hz] at h; exact ⟨c, rfl, (Option.some.inj h).symm⟩
theorem cps_at {z : List Nat} {i c : Nat} (h : z[i]? = some c) : (⟨(Dv.clipS z).toArray⟩ : Str).cps[i]? = some (c % 1114112) := by
  show (Dv.clipS z).toArray[i]? = _
  simp [Dv.clipS, h]
theorem cps_size (z : List Nat) : (⟨(Dv.clipS z).toArray⟩ : Str).cps.size = z.length := by simp [clip_len]
theorem si_str {C : Ctx} {tg e : Expr} {f : EE} (he : SE C e f) : SI C tg e (Dv.iStr f) := by
  obtain ⟨t, p, q⟩ := he
  refine ⟨_, pi_str p, fun σ H Hv ρ T er s w => ?_⟩
  refine q σ H Hv ρ _ er s ?_
  unfold Dv.iStr at w
  cases hf : f ρ with
  | bad => rw [hf] at w; exact w
  | exc c => rw [hf] at w; exact w
  | ok d fr =>
    rw [hf] at w
    intro v Hv' H' x rp n
    cases d with
    | str z =>
      unfold Rp at rp
      refine ⟨_, rp, w _ Hv' H' x fun i H2 s2 => ⟨fun d hd => ?_, fun hi => ?_⟩⟩
      · obtain ⟨c, hz, rfl⟩ := signs_at hd
        refine ⟨?_, fun x H3 ⟨e1, c', hy, e2⟩ => ?_⟩
        · show i < _
          rw [cps_size]
          exact (List.getElem?_eq_some_iff.mp hz).1
        · subst e1
          rw [cps_at hz] at hy
          cases hy
          subst e2
          exact ⟨Hv', .refl s2, rp_str⟩
      · show i = _
        rw [cps_size, hi]
        simp [Dv.signsD]
    | _ => exact (show False from w).elim
def ItES (x : Str) : It :=
  ⟨fun i _ => i < x.cps.size,
   fun i H v H' => ∃ p, H p = none ∧ v = .ref p ∧ ∃ c, x.cps[i]? = some c ∧ H' = upd H p (.tup [.int i, .str ⟨#[c]⟩]),
   fun i _ => i = x.cps.size⟩
theorem turn_enumS {P : Program} {w : World} {K : PySem.W.Frag} {es : List Expr} {kt : Nat} {tpos : Pos} {x : Str} {t : Tok} {ty : String} {z i1 : Addr} (hne : z ≠ i1)
    (D : ∀ A : Around, A.handled = none → Draws P w A i1 [i1] x.cps.size (fun i v => ∃ c u, x.cps[i]? = some c ∧ v = .str ⟨#[c]⟩ u) (fun i h => h.IsStrIter i1 ty x t i)) :
    Turn P w K (.Tuple es kt tpos) (ItES x) [z, i1] z (fun i h => (∃ old, IsEnum h z i1 i old) ∧ h.IsStrIter i1 ty x t i) where
  mem := by simp
  obj := fun i h ⟨⟨old, a1⟩, ⟨o4, e4, _, d4⟩⟩ b hb => by
    simp only [List.mem_cons, List.not_mem_nil, or_false] at hb
    rcases hb with rfl | rfl
    · exact ⟨_, a1, fun v q => by cases q⟩
    · exact ⟨_, e4, fun v q => by rw [d4] at q; cases q⟩
  keep := fun i h h' ⟨⟨old, a1⟩, ⟨o, e, r⟩⟩ k => ⟨⟨old, k z (by simp) _ a1⟩, ⟨o, k i1 (by simp) o e, r⟩⟩
  item := by
    intro X hP hw hK hc i pins s σ H E I hf ⟨⟨old, a1⟩, a4⟩ hg
    subst hP hw hK
    refine wpAny_pyNext_enum_itemD (D X.A.in1 (I.ok.hd hc)) a1 a4 hg hne (by simp [hne]) fun u1 h' tk hu b1 b3 b5 b6 kk => ?_
    obtain ⟨c, tu, hx, rfl⟩ := hu
    refine ⟨_, rfl, wpAny_letOwnedTupleGo_enum b1 fun h2 hz sb => ?_⟩
    have hf0 : H s.heap.objs.size = none := I.hok.fresh (Nat.le_refl _)
    have ltz : s.heap.objs.size ≠ z := Nat.ne_of_gt (Heap.lt_size a1)
    have kept : ∀ b o, b ∉ [z, i1] → s.heap.get? b = some o → h2.get? b = some o := fun b o hb e => by
      simp only [List.mem_cons, List.not_mem_nil, or_false, not_or] at hb
      exact (sb.2 b hb.1).trans (kk b o hb.1 hb.2 e)
    have I0 : Inv X pins σ H { s with toks := tk + 1 } := I.tok _
    have I2 : Inv X pins σ H { s with heap := h2, toks := tk + 1 } := Inv.but I0 hf kept
    have tp : IsTup h2 s.heap.objs.size #[.int i tk, .str ⟨#[c]⟩ tu] := ⟨_, (sb.2 _ ltz).trans b5, rfl, _, rfl⟩
    have I3 : Inv X pins σ (upd H s.heap.objs.size (.tup [.int i, .str ⟨#[c]⟩])) { s with heap := h2, toks := tk + 1 } := by
      have hk2 : HOk X.prog X.w (upd H s.heap.objs.size (.tup [.int i, .str ⟨#[c]⟩])) h2 := hok_track I2.hok hf0 ⟨by show 2 ≤ sizeLine; decide, [.int i tk, .str ⟨#[c]⟩ tu], .cons ⟨_, rfl⟩ (.cons ⟨_, rfl⟩ .nil), tp⟩
      have nsz : ∀ b o, s.heap.get? b = some o → b ≠ s.heap.objs.size := fun b o e => Nat.ne_of_lt (Heap.lt_size e)
      refine I.step (g' := s.gens) (d' := s.drawn) (t' := tk + 1) (ch := [z, i1]) (fun b hb => ⟨(hf b hb).2.2.2.1, (hf b hb).2.1, (hf b hb).2.2.2.2.1, (hf b hb).2.2.2.2.2⟩) (fun b o _ _ hc e _ => kept b o hc e) (fun b o _ _ hc e _ => ⟨o.slots, kept b o hc e⟩) (fun b o _ e n => by rw [upd_ne (nsz b o e)]; exact n)
        (fun b o hc e => ⟨o, kept b o hc e⟩) (fun b us e => by rw [upd_ne (ne_of_none e hf0)]; exact e) (fun b ob us e => by rw [upd_ne (ne_of_none e hf0)]; exact e) (fun b ps e => ⟨#[], by rw [upd_ne (ne_of_none e hf0), e]; simp⟩) (fun m hm => ?_) hk2 I.bare
      obtain ⟨o, es, ep, ho, r⟩ := hm
      exact ⟨o, es, ep, kept _ _ (fun hb => (hf _ hb).2.1 rfl) ho, r⟩
    have c4 : h2.IsStrIter i1 ty x t (i + 1) := b3.extBut sb.extBut (Ne.symm hne)
    refine ⟨.ref s.heap.objs.size, _, I3, rfl, ⟨s.heap.objs.size, hf0, rfl, c, hx, rfl⟩, ⟨⟨.str ⟨#[c]⟩ tu, by exact_mod_cast hz⟩, c4⟩, fun b hb => ?_⟩
    have hbs : b ≠ s.heap.objs.size := by
      simp only [List.mem_cons, List.not_mem_nil, or_false] at hb
      rcases hb with rfl | rfl
      · exact Nat.ne_of_lt (Heap.lt_size a1)
      · obtain ⟨o, e, _⟩ := a4; exact Nat.ne_of_lt (Heap.lt_size e)
    rw [upd_ne hbs]
    exact (hf b hb).1
  done := by
    intro X hP hw hK hc i pins s σ H E I hf ⟨⟨old, a1⟩, a4⟩ hg
    subst hP hw hK
    have hg : i = x.cps.size := hg
    subst hg
    refine wpAny_pyNext_enum_endD (D X.A.in1 (I.ok.hd hc)) a1 a4 fun h' kk => ⟨rfl, Inv.but I hf fun b o hb e => ?_⟩
    simp only [List.mem_cons, List.not_mem_nil, or_false, not_or] at hb
    exact kk b o hb.2 e
  self := fun _ _ _ _ _ st h => wpAny_pyIter_enum st.1.choose_spec h
def iEnumSR (ta : TA) : TI := fun σ H T => ta σ H fun vs H1 => ∃ z, vs = [.str z] ∧ T (ItES z) H1
theorem pi_enumS {X : Cx} {a : Expr} {ta : TA} {es : List Expr} {kt : Nat} {tpos p pos : Pos} (hg : Gl X "enumerate") (hm : X.mg "enumerate" = none) (ha : PA X [a] ta) (hs : starEach [a] X.env = [(false, eval a X.env)]) :
    PI X (.Tuple es kt tpos) (.Call (.Name "enumerate" p) [a] [] pos) (iEnumSR ta) := by
  intro pins s σ H R I h
  refine Call_ (ld_blt I hg hm (by decide +kernel : bootBuiltins "enumerate" = some (.type "enumerate")) (PyProof.Rows.callWith_type1 (thn (ha pos pins s σ H _ I h) fun us s1 ⟨vs, H1, I1, r1, q1⟩ => ?_) hs rfl))
  obtain ⟨z, rfl, q⟩ := q1
  obtain ⟨u1, rfl, t, rfl⟩ := vals1 r1
  refine call_enumerate_str fun h' c1 c4 c6 kk => ?_
  have I2 : Inv X pins σ H1 { s1 with heap := h' } := I1.kept (t' := s1.toks) kk
  have fin : ∀ b ∈ [s1.heap.objs.size + 1, s1.heap.objs.size], FpOk X pins H1 b := fun b hb => by
    have hb' : s1.heap.objs.size ≤ b := by
      simp only [List.mem_cons, List.not_mem_nil, or_false] at hb
      rcases hb with rfl | rfl
      · exact Nat.le_add_right _ _
      · exact Nat.le_refl _
    exact I1.fpOk hb' (I1.hok.fresh hb')
  cases ha : z.cps.all (· < 128)
  · have hit' : h'.IsStrIter s1.heap.objs.size "str_iterator" z t 0 := by simpa [strIterType, ha] using c4
    exact wpAny_pyIter_enum c1 ⟨s1.heap.objs.size + 1, [s1.heap.objs.size + 1, s1.heap.objs.size], _, _, H1, rfl, I2, turn_enumS (Nat.succ_ne_self _) (fun A hA => Draws.strWide hA _ z t), ⟨⟨.none, c1⟩, hit'⟩, fin, q⟩
  · have hit' : h'.IsStrIter s1.heap.objs.size "str_ascii_iterator" z t 0 := by simpa [strIterType, ha] using c4
    exact wpAny_pyIter_enum c1 ⟨s1.heap.objs.size + 1, [s1.heap.objs.size + 1, s1.heap.objs.size], _, _, H1, rfl, I2, turn_enumS (Nat.succ_ne_self _) (fun A hA => Draws.strAscii hA _ z t), ⟨⟨.none, c1⟩, hit'⟩, fin, q⟩
theorem si_enumS {C : Ctx} {a : Expr} {f : EE} {es : List Expr} {kt : Nat} {tpos p pos : Pos} (hg : Gl C.X "enumerate") (hm : C.X.mg "enumerate" = none) (ha : SE C a f) (hs : starEach [a] C.X.env = [(false, eval a C.X.env)] := by rfl) :
    SI C (.Tuple es kt tpos) (.Call (.Name "enumerate" p) [a] [] pos) (Dv.iEnumS f) := by
  obtain ⟨t, pe, q⟩ := ha
  refine ⟨_, pi_enumS hg hm (pa_cons pe pa_nil hs) hs, fun σ H Hv ρ T er s w => ?_⟩
  refine q σ H Hv ρ _ er s ?_
  unfold Dv.iEnumS at w
  cases hf : f ρ with
  | bad => rw [hf] at w; exact w
  | exc c => rw [hf] at w; exact w
  | ok d fr =>
    rw [hf] at w
    intro v Hv' H' x rp n
    cases d with
    | str z =>
      unfold Rp at rp
      subst rp
      refine ⟨_, rfl, w _ Hv' H' x fun i H3 s3 => ⟨fun d hd => ?_, fun hi => ?_⟩⟩
      · obtain ⟨dx, g1, rfl⟩ := enum_get hd
        obtain ⟨c, hz, rfl⟩ := signs_at g1
        refine ⟨?_, fun u H4 ⟨p, hp, e1, c', hc, hh⟩ => ?_⟩
        · show i < _
          rw [cps_size]
          exact (List.getElem?_eq_some_iff.mp hz).1
        rw [cps_at hz] at hc
        cases hc
        subst e1 hh
        have nx := Ext.new1 s3 hp (.tup [.int i, .str ⟨#[c % 1114112]⟩])
        refine ⟨_, nx, ?_⟩
        unfold Rp
        refine ⟨p, _, rfl, .inl upd_same, .cons ?_ (.cons rp_str .nil)⟩
        unfold Rp
        simp
      · show i = _
        rw [enum_len] at hi
        rw [cps_size, hi]
        simp [Dv.signsD]
    | _ => exact (show False from w).elim
theorem strs_are : ∀ {ys : List Str} {us : List Value}, Vals (ys.map V.str) us → StrsAre us ys
  | [], _, .nil => .nil
  | y :: r, _, .cons ⟨t, e⟩ q => by subst e; exact .cons y t (strs_are q)
theorem mt_join {X : Cx} : MtR X "str.join" (fun x xs H Q => ∃ sep l ys, x = .str sep ∧ xs = [.ref l] ∧ SqL X.K H l (ys.map V.str) ∧ (ys.map (·.length)).sum + ys.length * sep.length ≤ 16777216 ∧ Q (.str (Txt.join sep ys)) H) := by
  intro pins s σ H x vs v us Q I rx rv h
  obtain ⟨sep, l, ys, rfl, rfl, hq, hz, q⟩ := h
  obtain ⟨t, rfl⟩ := rx
  obtain ⟨u, rfl, ru⟩ := rv.one
  cases ru
  obtain ⟨its, r, p, _⟩ := I.list hq
  exact join_list p.isList (by simpa using strs_are r) hz fun t' k => ⟨.str (Txt.join sep ys), H, I.tok _, ⟨_, rfl⟩, q⟩
def strOf (z : List Nat) : Str := ⟨(Dv.clipS z).toArray⟩
theorem strs_of {K : PySem.W.Frag} {H : Hp} : ∀ {ds : List D} {vs : List V} {zs : List (List Nat)}, Dv.strsOf ds = some zs → RpL K H ds vs → vs = (zs.map strOf).map V.str
  | [], vs, zs, e, h => by
    unfold RpL at h
    cases e
    exact h
  | .str z :: r, vs, zs, e, h => by
    unfold Dv.strsOf at e
    cases hr : Dv.strsOf r with
    | none => rw [hr] at e; cases e
    | some ws =>
      rw [hr] at e
      cases e
      unfold RpL at h
      obtain ⟨v, us, rfl, h1, h2⟩ := h
      unfold Rp at h1
      rw [strs_of hr h2, h1]
      rfl
  | .non :: r, vs, zs, e, h => by cases e
  | .bl _ :: r, vs, zs, e, h => by cases e
  | .int _ :: r, vs, zs, e, h => by cases e
  | .lst _ :: r, vs, zs, e, h => by cases e
  | .tup _ :: r, vs, zs, e, h => by cases e
  | .exn _ :: r, vs, zs, e, h => by cases e
  | .raw _ :: r, vs, zs, e, h => by cases e
  | .tab _ :: r, vs, zs, e, h => by cases e
  | .dct _ _ :: r, vs, zs, e, h => by cases e
theorem glue_str (sep : List Nat) : ∀ zs : List (List Nat), Str.join (strOf sep) (zs.map strOf) = strOf (Dv.glue sep zs)
  | [] => rfl
  | [x] => rfl
  | x :: y :: r => by
    have ih := glue_str sep (y :: r)
    show strOf x ++ strOf sep ++ Str.join (strOf sep) ((y :: r).map strOf) = strOf (x ++ sep ++ Dv.glue sep (y :: r))
    rw [ih]
    show (⟨(Dv.clipS x).toArray⟩ : Str) ++ ⟨(Dv.clipS sep).toArray⟩ ++ ⟨(Dv.clipS (Dv.glue sep (y :: r))).toArray⟩ = _
    rw [str_cat, str_cat]
    rfl
theorem join_eq (sep : List Nat) (zs : List (List Nat)) : Txt.join (strOf sep) (zs.map strOf) = strOf (Dv.glue sep zs) := by
  show Builtin.Str.glued _ _ = _
  rw [StrLaws.glued_eq_join, glue_str]
section
variable {C : Ctx} {a b c e o k : Expr} {es : List Expr} {f g h : EE} {fl : EL} {F G : SS} {pos pos' : Pos} {E : Ends}
theorem se_join {apos cpos : Pos} (ha : SE C a f) (hb : SE C b g) (hst : starEach [b] C.X.env = [(false, eval b C.X.env)] := by rfl)
    (hbase : attributeBase a "join" C.X.env (eval a C.X.env) = eval a C.X.env := by rfl)
    (hfew : ((backTo cpos (starEach [b] C.X.env)).all (fun x => !x.1) && (backToKw cpos (keywordEach [] C.X.env)).all (fun x => x.1.isSome)
      && decide ([b].length + ([] : List Keyword).length + (if ([] : List Keyword).isEmpty then 0 else 1) < 30)) = true := by rfl)
    (hline : (apos.endLine == cpos.line) = true := by rfl) : SE C (.Call (.Attribute a "join" apos) [b] [] cpos) (Dv.eJoin f g) := by
  obtain ⟨t, pa, qa⟩ := ha
  obtain ⟨u, pb, qb⟩ := hb
  refine ⟨_, pe_bm PySem.F.plainAttrs_str PySem.F.slot_str_join PySem.F.type_str_join mt_join pa (pa_cons pb pa_nil hst) hbase hfew hline hst rfl, fun σ H Hv ρ Q e s w => ?_⟩
  refine qa.step e (.refl s) w fun v d fr Hv1 H1 _ x1 _ rp1 _ q1 => ?_
  cases d with
  | str sep =>
    unfold Rp at rp1
    subst rp1
    refine ⟨rfl, ?_⟩
    refine qb.step e x1 q1 fun v2 d2 fr2 Hv2 H2 _ x2 y2 rp2 _ q2 => ?_
    cases d2 with
    | lst ds =>
      simp only [Dv.joinD] at q2
      cases hz : Dv.strsOf ds with
      | none => simp only [hz] at q2; exact (show False from q2).elim
      | some zs =>
        simp only [hz] at q2
        by_cases hm : (zs.map List.length).sum + zs.length * sep.length ≤ Dv.mx
        · simp only [hm, if_true] at q2
          unfold Rp at rp2
          obtain ⟨l, vs, rfl, h1, h2⟩ := rp2
          have e1 := strs_of hz h2
          subst e1
          have e2 : ((zs.map strOf).map (·.length)) = zs.map List.length := by
            rw [List.map_map]
            exact List.map_congr_left fun z _ => str_len z
          refine ⟨strOf sep, l, zs.map strOf, rfl, rfl, (h1.same x2.vh).seq, ?_, ?_⟩
          · rw [e2, List.length_map]
            have := str_len sep
            have hl : (strOf sep).length = sep.length := this
            rw [hl]
            have := mx_line hm
            rw [sizeLine_eq] at this
            exact this
          · rw [join_eq]
            exact q2.at x2 rp_str rfl
        · simp only [hm] at q2; exact (show False from q2).elim
    | _ => exact (show False from q2).elim
  | _ => exact (show False from q1).elim
theorem st_kill1 {i : Nat} {j : Nat} {x : Str} {apos cpos : Pos} {px kpos ipos : Pos} (he : SE C e f) (hN : C.X.N[i]? = some x := by rfl) (hv : Vis C.X.env.scope x := by first | exact Or.inl rfl | exact Or.inr (Or.inl rfl) | exact Or.inr (Or.inr rfl))
    (hd : (x == ("__debug__" : Str)) = false := by decide) (hcd : (x == ("__classdict__" : Str)) = false := by decide) (hst : starEach [e] C.X.env = [(false, eval e C.X.env)] := by rfl)
    (hix : PlainIx (.Constant (.int 1) j kpos) := by intro _ _; rfl)
    (hbase : attributeBase (.Subscript (.Name x px) (.Constant (.int 1) j kpos) ipos) "append" C.X.env (eval (.Subscript (.Name x px) (.Constant (.int 1) j kpos) ipos) C.X.env) = eval (.Subscript (.Name x px) (.Constant (.int 1) j kpos) ipos) C.X.env := by rfl)
    (hfew : ((backTo cpos (starEach [e] C.X.env)).all (fun x => !x.1) && (backToKw cpos (keywordEach [] C.X.env)).all (fun x => x.1.isSome)
      && decide ([e].length + ([] : List Keyword).length + (if ([] : List Keyword).isEmpty then 0 else 1) < 30)) = true := by rfl)
    (hline : (apos.endLine == cpos.line) = true := by rfl)
    (hs : swapsWith (.Call (.Attribute (.Subscript (.Name x px) (.Constant (.int 1) j kpos) ipos) "append" apos) [e] [] cpos) none pos.line C.X.env = pure false := by rfl) :
    SSt C (.Expr (.Call (.Attribute (.Subscript (.Name x px) (.Constant (.int 1) j kpos) ipos) "append" apos) [e] [] cpos) pos) (Dv.sKill1 i f) := by
  obtain ⟨t, p, q⟩ := he
  refine ⟨_, ps_expr (pe_bm PySem.F.plainAttrs_list PySem.F.slot_list_append PySem.F.type_list_append mt_append (pe_ix (ix_list.or ix_tup) (pe_var hN hv hd hcd) pe_int hix) (pa_cons p pa_nil hst) hbase hfew hline hst rfl) hs, fun Hv₀ H₀ E σ H st ⟨Hc, O, r⟩ w => ?_⟩
  unfold Dv.sKill1 at w
  split at w
  · rename_i k0 ds hi
    obtain ⟨v, h1, h2⟩ := r.dp i _ hi
    have rd : ∀ {b : Addr} {o : HO}, Rd (O i) b o → O i b = some o := fun {b o} h => by
      rcases h with h | ⟨u, h⟩
      · exact h
      · exact absurd (r.oh i b _ h).1 (r.nf b _ _ (r.oh i b _ h).2.2)
    unfold Rp at h2
    obtain ⟨tt, vs, rfl, h3, h4⟩ := h2
    unfold RpL at h4
    obtain ⟨v0, ws0, rfl, _, h5⟩ := h4
    unfold RpL at h5
    obtain ⟨v1, ws1, rfl, h6, h7⟩ := h5
    unfold Rp at h6
    obtain ⟨b, ws, rfl, h8, h9⟩ := h6
    have hb : O i b = some (.lst ws) := by
      rcases h8 with h8 | ⟨its, n, e, _⟩
      · exact rd h8
      · simp at e
    have hbl := (r.oh i b _ hb).1
    have hat : atI (v0 :: .ref b :: ws1) (1 : Int) = some (.ref b) := atI_nat (j := 1) rfl
    have hl := h9.length
    split at w
    · rename_i d fr hf
      by_cases z : (Dv.scal d && decide (ds.length < Dv.mx)) = true
      · simp only [z, if_true] at w
        simp only [Bool.and_eq_true, decide_eq_true_eq] at z
        have go : tyV C.X.K "list" (.ref b) H ∧ (tCons t tNil) σ H fun xs H2 => rAppend (.ref b) xs H2 fun _ H3 => E.nx σ H3 := by
          refine ⟨.inl ⟨rfl, ws, SqL.of hbl⟩, ?_⟩
          refine q.all r (fun c hf' H' r' => ?_) (fun hf' => ?_) fun d' fr' v Hv' H' hf' x r' rp nn => ?_
          · rw [hf] at hf'; cases hf'
          · rw [hf] at hf'; cases hf'
          · rw [hf] at hf'
            cases hf'
            have z5 : ds.length < 100000 := z.2
            have e1 : (100000 : Nat) < sizeLine := by rw [sizeLine_eq]; decide
            exact ⟨b, ws, v, rfl, rfl, x.hh _ _ hbl, by omega, w σ _ ⟨Hc, _, r'.putAny (s := .no) h1 hb (by intro _ _ z; cases z) (fun d e => nomatch e) (fun n' m' e => nomatch e) fun d => ⟨nofun, nofun⟩⟩⟩
        exact ⟨_, h1, .inr ⟨tt, _, 1, .ref b, rfl, rfl, .inl (.inl (r.oh i tt _ (rd h3)).1), hat, go⟩⟩
      · simp only [z] at w; exact (show False from w).elim
    · exact (show False from w).elim
  · exact (show False from w).elim
end
end Sd
set_option linter.all false
namespace Cw
open Dv (D R)
def b_check_wheel : Dv.SS :=
  (Dv.sIf (Dv.eOr (Dv.eCm .lt (Dv.eVar 0) (Dv.eInt 1)) (Dv.eCm .gt (Dv.eVar 0) (Dv.eInt 60))) (Dv.sRaise "NoWheel") Dv.sNil)
def F_check_wheel : List D → R := Dv.fn 1 b_check_wheel
def b_check_rising_l1 : Dv.SS :=
  (Dv.sCons (Dv.sIf (Dv.eOr (Dv.eCm .le (Dv.eVar 3) (Dv.eVar 2)) (Dv.eCm .ge (Dv.eVar 3) (Dv.eVar 1))) (Dv.sRaise "NoBeat") Dv.sNil) (Dv.sSetG [3] 2 (Dv.eVar 3)))
def b_check_rising_t2 : Dv.SS :=
  (Dv.sFor [0] 3 (Dv.iSeq (Dv.eVar 0)) b_check_rising_l1)
def b_check_rising_t1 : Dv.SS :=
  (Dv.sCons (Dv.sSet 2 (Dv.eNeg (Dv.eInt 1))) b_check_rising_t2)
def b_check_rising : Dv.SS :=
  (Dv.sCons (Dv.sIf (Dv.eCm .eq (Dv.eB1 Dv.lenD (Dv.eVar 0)) (Dv.eInt 0)) (Dv.sRaise "NoBeat") Dv.sNil) b_check_rising_t1)
def F_check_rising : List D → R := Dv.fn 4 b_check_rising
def b_check_beat_t1 : Dv.SS :=
  (Dv.sExpr (Dv.eCall F_check_rising (Dv.lCons (Dv.eVar 1) (Dv.lCons (Dv.eVar 0) Dv.lNil))))
def b_check_beat : Dv.SS :=
  (Dv.sCons (Dv.sExpr (Dv.eCall F_check_wheel (Dv.lCons (Dv.eVar 0) Dv.lNil))) b_check_beat_t1)
def F_check_beat : List D → R := Dv.fn 2 b_check_beat
def b_law_cell_t3 : Dv.SS :=
  (Dv.sRet (Dv.eOp .mod (Dv.eOp .mul (Dv.eVar 2) (Dv.eVar 2)) (Dv.eInt 2147483629)))
def b_law_cell_t2 : Dv.SS :=
  (Dv.sCons (Dv.sIf (Dv.eCm .gt (Dv.eB1 Dv.lenD (Dv.eVar 0)) (Dv.eInt 0)) (Dv.sSet 2 (Dv.eOp .mod (Dv.eOp .add (Dv.eOp .mul (Dv.eIx (Dv.eVar 0) (Dv.eOp .mod (Dv.eVar 1) (Dv.eB1 Dv.lenD (Dv.eVar 0)))) (Dv.eInt 48271)) (Dv.eOp .mul (Dv.eVar 1) (Dv.eInt 7919))) (Dv.eInt 2147483647))) Dv.sNil) b_law_cell_t3)
def b_law_cell_t1 : Dv.SS :=
  (Dv.sCons (Dv.sSet 2 (Dv.eOp .add (Dv.eOp .mul (Dv.eInt 7919) (Dv.eVar 1)) (Dv.eInt 5))) b_law_cell_t2)
def b_law_cell : Dv.SS :=
  (Dv.sCons (Dv.sIf (Dv.eCm .lt (Dv.eVar 1) (Dv.eB1 Dv.lenD (Dv.eVar 0))) (Dv.sRet (Dv.eIx (Dv.eVar 0) (Dv.eVar 1))) Dv.sNil) b_law_cell_t1)
def F_law_cell : List D → R := Dv.fn 3 b_law_cell
def b_law_whole : Dv.SS :=
  (Dv.sRet (Dv.eAnd (Dv.eB1 Dv.isIntD (Dv.eVar 0)) (Dv.eNot (Dv.eB1 Dv.isBoolD (Dv.eVar 0)))))
def F_law_whole : List D → R := Dv.fn 1 b_law_whole
def b_law_beat_is_l1 : Dv.SS :=
  (Dv.sIf (Dv.eOr (Dv.eNot (Dv.eCall F_law_whole (Dv.lCons (Dv.eVar 2) Dv.lNil))) (Dv.eCm .ne (Dv.eVar 2) (Dv.eVar 3))) (Dv.sRet (Dv.eBl false)) Dv.sNil)
def b_law_beat_is_t2 : Dv.SS :=
  (Dv.sRet (Dv.eBl true))
def b_law_beat_is_t1 : Dv.SS :=
  (Dv.sCons (Dv.sForT [0, 1] (Dv.tupTo [2, 3]) (Dv.iZip (Dv.eVar 0) (Dv.eVar 1)) b_law_beat_is_l1) b_law_beat_is_t2)
def b_law_beat_is : Dv.SS :=
  (Dv.sCons (Dv.sIf (Dv.eOr (Dv.eNot (Dv.eB1 Dv.isListD (Dv.eVar 0))) (Dv.eCm .ne (Dv.eB1 Dv.lenD (Dv.eVar 0)) (Dv.eB1 Dv.lenD (Dv.eVar 1)))) (Dv.sRet (Dv.eBl false)) Dv.sNil) b_law_beat_is_t1)
def F_law_beat_is : List D → R := Dv.fn 4 b_law_beat_is
def b_law_some_l1 : Dv.SS :=
  (Dv.sCons (Dv.sSet 7 (Dv.eOp .mod (Dv.eOp .shr (Dv.eVar 3) (Dv.eVar 6)) (Dv.eInt 2))) (Dv.sCons (Dv.sIf (Dv.eCm .eq (Dv.eVar 4) (Dv.eInt 3)) (Dv.sSet 7 (Dv.eOp .mul (Dv.eVar 7) (Dv.eOp .mod (Dv.eOp .shr (Dv.eVar 3) (Dv.eOp .mod (Dv.eOp .add (Dv.eVar 6) (Dv.eInt 7)) (Dv.eInt 61))) (Dv.eInt 2)))) Dv.sNil) (Dv.sCons (Dv.sIf (Dv.eCm .eq (Dv.eVar 4) (Dv.eInt 4)) (Dv.sSet 7 (Dv.eB2 Dv.max2D (Dv.eVar 7) (Dv.eOp .mod (Dv.eOp .shr (Dv.eVar 3) (Dv.eOp .mod (Dv.eOp .add (Dv.eVar 6) (Dv.eInt 7)) (Dv.eInt 61))) (Dv.eInt 2)))) Dv.sNil) (Dv.sIf (Dv.eCm .eq (Dv.eVar 7) (Dv.eInt 1)) (Dv.sApp 5 (Dv.eVar 6)) Dv.sNil))))
def b_law_some_t5 : Dv.SS :=
  (Dv.sRetO 5)
def b_law_some_t4 : Dv.SS :=
  (Dv.sCons (Dv.sIf (Dv.eCm .eq (Dv.eVar 5) (Dv.eLst Dv.lNil)) (Dv.sApp 5 (Dv.eOp .mod (Dv.eOp .fdiv (Dv.eCall F_law_cell (Dv.lCons (Dv.eVar 0) (Dv.lCons (Dv.eOp .add (Dv.eVar 1) (Dv.eInt 1)) Dv.lNil))) (Dv.eInt 5)) (Dv.eVar 2))) Dv.sNil) b_law_some_t5)
def b_law_some_t3 : Dv.SS :=
  (Dv.sCons (Dv.sFor [] 6 (Dv.iRange (Dv.eVar 2)) b_law_some_l1) b_law_some_t4)
def b_law_some_t2 : Dv.SS :=
  (Dv.sCons (Dv.sSet 5 (Dv.eLst Dv.lNil)) b_law_some_t3)
def b_law_some_t1 : Dv.SS :=
  (Dv.sCons (Dv.sSet 4 (Dv.eOp .mod (Dv.eCall F_law_cell (Dv.lCons (Dv.eVar 0) (Dv.lCons (Dv.eOp .add (Dv.eVar 1) (Dv.eInt 1)) Dv.lNil))) (Dv.eInt 5))) b_law_some_t2)
def b_law_some : Dv.SS :=
  (Dv.sCons (Dv.sSet 3 (Dv.eOp .mod (Dv.eOp .mul (Dv.eCall F_law_cell (Dv.lCons (Dv.eVar 0) (Dv.lCons (Dv.eVar 1) Dv.lNil))) (Dv.eInt 618970019642690137449562111)) (Dv.eInt 2305843009213693951))) b_law_some_t1)
def F_law_some : List D → R := Dv.fn 8 b_law_some
def b_law_spoiled_t7 : Dv.SS :=
  (Dv.sRet (Dv.eOp .add (Dv.eVar 1) (Dv.eLst (Dv.lCons (Dv.eIx (Dv.eVar 1) (Dv.eVar 4)) Dv.lNil))))
def b_law_spoiled_t6 : Dv.SS :=
  (Dv.sCons (Dv.sIf (Dv.eCm .eq (Dv.eVar 3) (Dv.eInt 3)) (Dv.sRet (Dv.eOp .add (Dv.eOp .add (Dv.eSlice (Dv.eVar 1) none (some (Dv.eVar 4))) (Dv.eLst (Dv.lCons (Dv.eOp .sub (Dv.eNeg (Dv.eInt 1)) (Dv.eVar 5)) Dv.lNil))) (Dv.eSlice (Dv.eVar 1) (some (Dv.eVar 4)) none))) Dv.sNil) b_law_spoiled_t7)
def b_law_spoiled_t5 : Dv.SS :=
  (Dv.sCons (Dv.sIf (Dv.eCm .eq (Dv.eVar 3) (Dv.eInt 2)) (Dv.sRet (Dv.eOp .add (Dv.eOp .add (Dv.eSlice (Dv.eVar 1) none (some (Dv.eVar 4))) (Dv.eLst (Dv.lCons (Dv.eOp .add (Dv.eVar 0) (Dv.eVar 5)) Dv.lNil))) (Dv.eSlice (Dv.eVar 1) (some (Dv.eVar 4)) none))) Dv.sNil) b_law_spoiled_t6)
def b_law_spoiled_t4 : Dv.SS :=
  (Dv.sCons (Dv.sIf (Dv.eCm .eq (Dv.eVar 3) (Dv.eInt 1)) (Dv.sRet (Dv.eOp .add (Dv.eOp .add (Dv.eSlice (Dv.eVar 1) none (some (Dv.eVar 4))) (Dv.eLst (Dv.lCons (Dv.eIx (Dv.eVar 1) (Dv.eVar 4)) Dv.lNil))) (Dv.eSlice (Dv.eVar 1) (some (Dv.eVar 4)) none))) Dv.sNil) b_law_spoiled_t5)
def b_law_spoiled_t3 : Dv.SS :=
  (Dv.sCons (Dv.sIf (Dv.eCm .eq (Dv.eVar 3) (Dv.eInt 0)) (Dv.sRet (Dv.eLst Dv.lNil)) Dv.sNil) b_law_spoiled_t4)
def b_law_spoiled_t2 : Dv.SS :=
  (Dv.sCons (Dv.sSet 5 (Dv.eOp .mod (Dv.eOp .fdiv (Dv.eVar 2) (Dv.eInt 300)) (Dv.eOp .pow (Dv.eInt 10) (Dv.eInt 9)))) b_law_spoiled_t3)
def b_law_spoiled_t1 : Dv.SS :=
  (Dv.sCons (Dv.sSet 4 (Dv.eOp .mod (Dv.eOp .fdiv (Dv.eVar 2) (Dv.eInt 5)) (Dv.eB1 Dv.lenD (Dv.eVar 1)))) b_law_spoiled_t2)
def b_law_spoiled : Dv.SS :=
  (Dv.sCons (Dv.sSet 3 (Dv.eOp .mod (Dv.eVar 2) (Dv.eInt 5))) b_law_spoiled_t1)
def F_law_spoiled : List D → R := Dv.fn 6 b_law_spoiled
def c_has_only_1 : Dv.EE := (Dv.eComp (Dv.eB2 (Dv.inSD false) (Dv.eVar 0) (Dv.eVar 1)) (Dv.eBl true) [1] (Dv.iStr (Dv.eVar 0)))
def b_has_only : Dv.SS :=
  (Dv.sRet (Dv.eB1 Dv.allD c_has_only_1))
def F_has_only : List D → R := Dv.fn 2 b_has_only
def c_read_beat_1 : Dv.EE := (Dv.eCompT 2 (Dv.eVar 0) (Dv.eCm .eq (Dv.eVar 1) (Dv.eStr [120])) [] (Dv.iEnumS (Dv.eVar 0)))
def b_read_beat_t2 : Dv.SS :=
  (Dv.sRet (Dv.eTup (Dv.lCons (Dv.eB1 Dv.lenSD (Dv.eVar 0)) (Dv.lCons c_read_beat_1 Dv.lNil))))
def b_read_beat_t1 : Dv.SS :=
  (Dv.sCons (Dv.sIf (Dv.eOr (Dv.eB2 (Dv.inSD true) (Dv.eStr [120]) (Dv.eVar 0)) (Dv.eNot (Dv.eCall F_has_only (Dv.lCons (Dv.eVar 0) (Dv.lCons (Dv.eStr [120, 46]) Dv.lNil))))) (Dv.sRaise "NoText") Dv.sNil) b_read_beat_t2)
def b_read_beat : Dv.SS :=
  (Dv.sCons (Dv.sIf (Dv.eOr (Dv.eNot (Dv.eB1 Dv.isStrD (Dv.eVar 0))) (Dv.eCm .gt (Dv.eB1 Dv.lenSD (Dv.eVar 0)) (Dv.eInt 60))) (Dv.sRaise "NoText") Dv.sNil) b_read_beat_t1)
def F_read_beat : List D → R := Dv.fn 1 b_read_beat
def c_beat_text_1 : Dv.EE := (Dv.eComp (Dv.eIf (Dv.eCm .isin (Dv.eVar 0) (Dv.eVar 1)) (Dv.eStr [120]) (Dv.eStr [46])) (Dv.eBl true) [1] (Dv.iRange (Dv.eVar 0)))
def b_beat_text_t1 : Dv.SS :=
  (Dv.sRet (Dv.eJoin (Dv.eStr []) c_beat_text_1))
def b_beat_text : Dv.SS :=
  (Dv.sCons (Dv.sExpr (Dv.eCall F_check_beat (Dv.lCons (Dv.eVar 0) (Dv.lCons (Dv.eVar 1) Dv.lNil)))) b_beat_text_t1)
def F_beat_text : List D → R := Dv.fn 2 b_beat_text
def b_law_refused_v7_t1 : Dv.SS :=
  (Dv.sRet (Dv.eLst Dv.lNil))
def b_law_refused_v7 : Dv.SS :=
  (Dv.sCons (Dv.sTryAs ["WheelError", "NoWheel", "NoBeat", "NoText"] 2 "WheelError" (Dv.sExpr (Dv.eCall F_beat_text (Dv.lCons (Dv.eVar 0) (Dv.lCons (Dv.eVar 1) Dv.lNil)))) (Dv.sRet (Dv.eLst (Dv.lCons (Dv.eB1 (Dv.isXD ["WheelError", "NoWheel", "NoBeat", "NoText"] ["ValueError"]) (Dv.eVar 2)) (Dv.lCons (Dv.eB1 (Dv.isXD ["WheelError", "NoWheel", "NoBeat", "NoText"] ["NoWheel"]) (Dv.eVar 2)) (Dv.lCons (Dv.eB1 (Dv.isXD ["WheelError", "NoWheel", "NoBeat", "NoText"] ["NoBeat"]) (Dv.eVar 2)) (Dv.lCons (Dv.eB1 (Dv.isXD ["WheelError", "NoWheel", "NoBeat", "NoText"] ["NoText"]) (Dv.eVar 2)) Dv.lNil))))))) b_law_refused_v7_t1)
def F_law_refused_v7 : List D → R := Dv.fn 3 b_law_refused_v7
def b_law_read_is_t1 : Dv.SS :=
  (Dv.sRet (Dv.eCall F_law_beat_is (Dv.lCons (Dv.eIx (Dv.eVar 0) (Dv.eInt 1)) (Dv.lCons (Dv.eVar 2) Dv.lNil))))
def b_law_read_is : Dv.SS :=
  (Dv.sCons (Dv.sIf (Dv.eOr (Dv.eNot (Dv.eB1 Dv.isTupD (Dv.eVar 0))) (Dv.eOr (Dv.eCm .ne (Dv.eB1 Dv.lenD (Dv.eVar 0)) (Dv.eInt 2)) (Dv.eOr (Dv.eNot (Dv.eCall F_law_whole (Dv.lCons (Dv.eIx (Dv.eVar 0) (Dv.eInt 0)) Dv.lNil))) (Dv.eCm .ne (Dv.eIx (Dv.eVar 0) (Dv.eInt 0)) (Dv.eVar 1))))) (Dv.sRet (Dv.eBl false)) Dv.sNil) b_law_read_is_t1)
def F_law_read_is : List D → R := Dv.fn 3 b_law_read_is
def b_law_k71_l1 : Dv.SS :=
  (Dv.sCons (Dv.sSet 5 (Dv.eCall F_law_spoiled (Dv.lCons (Dv.eVar 1) (Dv.lCons (Dv.eVar 2) (Dv.lCons (Dv.eOp .add (Dv.eVar 4) (Dv.eOp .mul (Dv.eInt 5) (Dv.eOp .mod (Dv.eOp .fdiv (Dv.eCall F_law_cell (Dv.lCons (Dv.eVar 0) (Dv.lCons (Dv.eInt 3) Dv.lNil))) (Dv.eInt 2)) (Dv.eOp .pow (Dv.eInt 10) (Dv.eInt 12))))) Dv.lNil))))) (Dv.sIf (Dv.eCm .ne (Dv.eCall F_law_refused_v7 (Dv.lCons (Dv.eVar 1) (Dv.lCons (Dv.eVar 5) Dv.lNil))) (Dv.eLst (Dv.lCons (Dv.eBl true) (Dv.lCons (Dv.eBl false) (Dv.lCons (Dv.eBl true) (Dv.lCons (Dv.eBl false) Dv.lNil)))))) (Dv.sRet (Dv.eBl false)) Dv.sNil))
def b_law_k71_l2 : Dv.SS :=
  (Dv.sSet 7 (Dv.eB2 Dv.addSD (Dv.eVar 7) (Dv.eB2 Dv.ixSD (Dv.eStr [46, 120]) (Dv.eB1 Dv.intD (Dv.eCm .isin (Dv.eVar 8) (Dv.eVar 2))))))
def b_law_k71_t13 : Dv.SS :=
  (Dv.sRet (Dv.eCall F_law_read_is (Dv.lCons (Dv.eCall F_read_beat (Dv.lCons (Dv.eVar 7) Dv.lNil)) (Dv.lCons (Dv.eVar 1) (Dv.lCons (Dv.eVar 2) Dv.lNil)))))
def b_law_k71_t12 : Dv.SS :=
  (Dv.sCons (Dv.sKill1 10 (Dv.eInt 61)) b_law_k71_t13)
def b_law_k71_t11 : Dv.SS :=
  (Dv.sCons (Dv.sIf (Dv.eNot (Dv.eCall F_law_read_is (Dv.lCons (Dv.eVar 10) (Dv.lCons (Dv.eVar 1) (Dv.lCons (Dv.eVar 2) Dv.lNil))))) (Dv.sRet (Dv.eBl false)) Dv.sNil) b_law_k71_t12)
def b_law_k71_t10 : Dv.SS :=
  (Dv.sCons (Dv.sSetD 10 (Dv.eCall F_read_beat (Dv.lCons (Dv.eVar 7) Dv.lNil))) b_law_k71_t11)
def b_law_k71_t9 : Dv.SS :=
  (Dv.sCons (Dv.sIf (Dv.eOr (Dv.eNot (Dv.eB1 Dv.isStrD (Dv.eVar 9))) (Dv.eOr (Dv.eCm .ne (Dv.eVar 9) (Dv.eVar 7)) (Dv.eCm .ne (Dv.eVar 6) (Dv.eVar 2)))) (Dv.sRet (Dv.eBl false)) Dv.sNil) b_law_k71_t10)
def b_law_k71_t8 : Dv.SS :=
  (Dv.sCons (Dv.sSet 9 (Dv.eCall F_beat_text (Dv.lCons (Dv.eVar 1) (Dv.lCons (Dv.eVar 6) Dv.lNil)))) b_law_k71_t9)
def b_law_k71_t7 : Dv.SS :=
  (Dv.sCons (Dv.sFor [] 8 (Dv.iRange (Dv.eVar 1)) b_law_k71_l2) b_law_k71_t8)
def b_law_k71_t6 : Dv.SS :=
  (Dv.sCons (Dv.sSet 7 (Dv.eStr [])) b_law_k71_t7)
def b_law_k71_t5 : Dv.SS :=
  (Dv.sCons (Dv.sSet 6 (Dv.eB1 Dv.listD (Dv.eVar 2))) b_law_k71_t6)
def b_law_k71_t4 : Dv.SS :=
  (Dv.sCons (Dv.sFor [] 4 (Dv.iRange (Dv.eInt 5)) b_law_k71_l1) b_law_k71_t5)
def b_law_k71_t3 : Dv.SS :=
  (Dv.sCons (Dv.sIf (Dv.eCm .ne (Dv.eCall F_law_refused_v7 (Dv.lCons (Dv.eIx (Dv.eLst (Dv.lCons (Dv.eOp .sub (Dv.eInt 0) (Dv.eVar 3)) (Dv.lCons (Dv.eOp .add (Dv.eInt 61) (Dv.eVar 3)) Dv.lNil))) (Dv.eOp .mod (Dv.eCall F_law_cell (Dv.lCons (Dv.eVar 0) (Dv.lCons (Dv.eInt 3) Dv.lNil))) (Dv.eInt 2))) (Dv.lCons (Dv.eVar 2) Dv.lNil))) (Dv.eLst (Dv.lCons (Dv.eBl true) (Dv.lCons (Dv.eBl true) (Dv.lCons (Dv.eBl false) (Dv.lCons (Dv.eBl false) Dv.lNil)))))) (Dv.sRet (Dv.eBl false)) Dv.sNil) b_law_k71_t4)
def b_law_k71_t2 : Dv.SS :=
  (Dv.sCons (Dv.sSet 3 (Dv.eOp .mod (Dv.eOp .fdiv (Dv.eCall F_law_cell (Dv.lCons (Dv.eVar 0) (Dv.lCons (Dv.eInt 3) Dv.lNil))) (Dv.eInt 2)) (Dv.eOp .pow (Dv.eInt 10) (Dv.eInt 9)))) b_law_k71_t3)
def b_law_k71_t1 : Dv.SS :=
  (Dv.sCons (Dv.sSet 2 (Dv.eCall F_law_some (Dv.lCons (Dv.eVar 0) (Dv.lCons (Dv.eInt 1) (Dv.lCons (Dv.eVar 1) Dv.lNil))))) b_law_k71_t2)
def b_law_k71 : Dv.SS :=
  (Dv.sCons (Dv.sSet 1 (Dv.eOp .add (Dv.eInt 1) (Dv.eOp .mod (Dv.eCall F_law_cell (Dv.lCons (Dv.eVar 0) (Dv.lCons (Dv.eInt 0) Dv.lNil))) (Dv.eInt 60)))) b_law_k71_t1)
def F_law_k71 : List D → R := Dv.fn 11 b_law_k71
end Cw
set_option Elab.async false
set_option linter.all false
set_option maxRecDepth 100000
set_option maxHeartbeats 4000000
namespace Lk71
open PySem PySem.Spec PyProof.Rows L2 Sd Cw
open Dv (D R RL EE EL EI RI Sl Out SS)
def top (i : Nat) : Stmt := PySem.Challenge.pw_canonwheel_k71_beat_texts.main.body.getD i (.Pass ⟨0, 0, 0, 0⟩)
section
variable {P : Program} {w : World} {K : PySem.W.Frag} {mg : Str → Option Value} {base : Heap} {ad : String → Option Addr}
abbrev s_check_wheel : Stmt := top 7
theorem sc_check_wheel : FnScope ["length"] ["length"] (defScope s_check_wheel) := ⟨rfl, rfl, rfl, by decide +kernel, rfl, by decide +kernel, by decide +kernel⟩
theorem ok_check_wheel {f : Addr} {fd : FuncData} (d : Df K mg "check_wheel" s_check_wheel ["length"] f fd) (xa : XAll K mg ad) {C_NoWheel : Addr} (h_NoWheel : ad "NoWheel" = some C_NoWheel) {t_LONGEST : Tok} (n_LONGEST : mg "LONGEST" = some (.int 60 t_LONGEST)) :
    FnOk P w K mg base (CXe P w) 1 f fd ["length"] (spD K (clsOf ad) F_check_wheel 1) := by
  have nd := sc_check_wheel.nd
  refine Df.is cxe_ok ["length"] 0 b_check_wheel d sc_check_wheel rfl rfl rfl fun cdv A outer s H E hr => ?_
  exact (ss_one (st_if (sc_w (sw_or (sc_lt (se_var 0) se_int) (sw_one _ (sc_gt (se_var 0) (se_num rfl n_LONGEST))))) (ss_raise (xa.cl _ _ h_NoWheel).1 (clsOf_eq h_NoWheel) rfl) ss_nil))
abbrev s_check_rising : Stmt := top 8
theorem sc_check_rising : FnScope ["numbers", "end", "before", "number"] ["numbers", "end"] (defScope s_check_rising) := ⟨rfl, rfl, rfl, by decide +kernel, rfl, by decide +kernel, by decide +kernel⟩
theorem ok_check_rising {f : Addr} {fd : FuncData} (d : Df K mg "check_rising" s_check_rising ["numbers", "end"] f fd) (xa : XAll K mg ad) {C_NoBeat : Addr} (h_NoBeat : ad "NoBeat" = some C_NoBeat) (z_len : mg "len" = none) :
    FnOk P w K mg base (CXe P w) 1 f fd ["numbers", "end"] (spD K (clsOf ad) F_check_rising 2) := by
  have nd := sc_check_rising.nd
  refine Df.is cxe_ok ["numbers", "end", "before", "number"] 0 b_check_rising d sc_check_rising rfl rfl rfl fun cdv A outer s H E hr => ?_
  exact (ss_cons (st_if (sc_eq (se_len z_len rfl (se_var 0)) se_int) (ss_raise (xa.cl _ _ h_NoBeat).1 (clsOf_eq h_NoBeat) rfl) ss_nil) (ss_cons (st_set (i := 2) (se_neg se_int) nd rfl (Or.inl rfl)) (ss_one (st_for [0] (i := 3) (si_list (se_var 0)) (ss_cons (st_if (sc_w (sw_or (sc_le (se_var 3) (se_var 2)) (sw_one _ (sc_ge (se_var 3) (se_var 1))))) (ss_raise (xa.cl _ _ h_NoBeat).1 (clsOf_eq h_NoBeat) rfl) ss_nil) (ss_one (st_setG [3] (i := 2) (se_var 3) nd rfl (Or.inl rfl)))) nd rfl (Or.inl rfl)))))
abbrev s_check_beat : Stmt := top 9
theorem sc_check_beat : FnScope ["length", "beat"] ["length", "beat"] (defScope s_check_beat) := ⟨rfl, rfl, rfl, by decide +kernel, rfl, by decide +kernel, by decide +kernel⟩
theorem ok_check_beat {f : Addr} {fd : FuncData} (d : Df K mg "check_beat" s_check_beat ["length", "beat"] f fd) {f_check_wheel : Addr} {fd_check_wheel : FuncData} (d_check_wheel : Df K mg "check_wheel" s_check_wheel ["length"] f_check_wheel fd_check_wheel) (o_check_wheel : FnOk P w K mg base (CXe P w) 1 f_check_wheel fd_check_wheel ["length"] (spD K (clsOf ad) F_check_wheel 1)) {f_check_rising : Addr} {fd_check_rising : FuncData} (d_check_rising : Df K mg "check_rising" s_check_rising ["numbers", "end"] f_check_rising fd_check_rising) (o_check_rising : FnOk P w K mg base (CXe P w) 1 f_check_rising fd_check_rising ["numbers", "end"] (spD K (clsOf ad) F_check_rising 2)) :
    FnOk P w K mg base (CXe P w) 2 f fd ["length", "beat"] (spD K (clsOf ad) F_check_beat 2) := by
  have nd := sc_check_beat.nd
  refine Df.is cxe_ok ["length", "beat"] 1 b_check_beat d sc_check_beat rfl rfl rfl fun cdv A outer s H E hr => ?_
  exact (ss_cons (st_expr (se_fn d_check_wheel o_check_wheel hr (by decide) rfl (sl_cons (se_var 0) sl_nil))) (ss_one (st_expr (se_fn d_check_rising o_check_rising hr (by decide) rfl (sl_cons (se_var 1) (sl_cons (se_var 0) sl_nil))))))
abbrev s_has_only : Stmt := top 11
theorem sc_has_only : FnScope ["text", "signs"] ["text", "signs"] (defScope s_has_only) := ⟨rfl, rfl, rfl, by decide +kernel, rfl, by decide +kernel, by decide +kernel⟩
theorem ok_has_only {f : Addr} {fd : FuncData} (d : Df K mg "has_only" s_has_only ["text", "signs"] f fd) (z_all : mg "all" = none) :
    FnOk P w K mg base (CXe P w) 1 f fd ["text", "signs"] (spD K (clsOf ad) F_has_only 2) := by
  have nd := sc_has_only.nd
  refine Df.is cxe_ok ["text", "signs"] 0 b_has_only d sc_has_only rfl rfl rfl fun cdv A outer s H E hr => ?_
  exact (ss_one (st_ret (se_all z_all rfl (se_comp (fs := ["signs"]) (is := [1]) (fe := (Dv.eB2 (Dv.inSD false) (Dv.eVar 0) (Dv.eVar 1))) (fc := (Dv.eBl true)) (comp_names (fsc := defScope s_has_only) (N := ["text", "signs"]) rfl rfl (by decide +kernel)) (si_str (se_var 0)) (fun cl L s₀ H₀ ex => (se_inS (se_var 0) (se_var 1))) (fun cl L s₀ H₀ ex => ts_nil)))))
abbrev s_read_beat : Stmt := top 12
theorem sc_read_beat : FnScope ["text"] ["text"] (defScope s_read_beat) := ⟨rfl, rfl, rfl, by decide +kernel, rfl, by decide +kernel, by decide +kernel⟩
theorem ok_read_beat {f : Addr} {fd : FuncData} (d : Df K mg "read_beat" s_read_beat ["text"] f fd) {f_has_only : Addr} {fd_has_only : FuncData} (d_has_only : Df K mg "has_only" s_has_only ["text", "signs"] f_has_only fd_has_only) (o_has_only : FnOk P w K mg base (CXe P w) 1 f_has_only fd_has_only ["text", "signs"] (spD K (clsOf ad) F_has_only 2)) (xa : XAll K mg ad) {C_NoText : Addr} (h_NoText : ad "NoText" = some C_NoText) (z_isinstance : mg "isinstance" = none) (z_str : mg "str" = none) (z_len : mg "len" = none) (z_enumerate : mg "enumerate" = none) {t_LONGEST : Tok} (n_LONGEST : mg "LONGEST" = some (.int 60 t_LONGEST)) :
    FnOk P w K mg base (CXe P w) 2 f fd ["text"] (spD K (clsOf ad) F_read_beat 1) := by
  have nd := sc_read_beat.nd
  refine Df.is cxe_ok ["text"] 1 b_read_beat d sc_read_beat rfl rfl rfl fun cdv A outer s H E hr => ?_
  exact (ss_cons (st_if (sc_w (sw_or (sc_not (sc_val (se_isStr z_isinstance z_str rfl rfl (se_var 0)))) (sw_one _ (sc_gt (se_lenS z_len rfl (se_var 0)) (se_num rfl n_LONGEST))))) (ss_raise (xa.cl _ _ h_NoText).1 (clsOf_eq h_NoText) rfl) ss_nil) (ss_cons (st_if (sc_w (sw_or (sc_notinS se_str (se_var 0)) (sw_one _ (sc_not (sc_val (se_fn d_has_only o_has_only hr (by decide) rfl (sl_cons (se_var 0) (sl_cons se_str sl_nil)))))))) (ss_raise (xa.cl _ _ h_NoText).1 (clsOf_eq h_NoText) rfl) ss_nil) (ss_one (st_ret (se_tup (sl_cons (se_lenS z_len rfl (se_var 0)) (sl_cons (se_compT (ts := ["place", "sign"]) (fs := []) (is := []) (fe := (Dv.eVar 0)) (fc := (Dv.eCm .eq (Dv.eVar 1) (Dv.eStr [120]))) (comp_namesT (fsc := defScope s_read_beat) (N := ["text"]) rfl rfl (by decide +kernel)) (.cons (.cons .nil)) (fun _ => rfl) (fun _ => rfl) (si_enumS rfl z_enumerate (se_var 0)) (fun cl L s₀ H₀ ex => (se_var 0)) (fun cl L s₀ H₀ ex => (ts_one (sc_eq (se_var 1) se_str)))) sl_nil)))))))
abbrev s_beat_text : Stmt := top 13
theorem sc_beat_text : FnScope ["length", "beat"] ["length", "beat"] (defScope s_beat_text) := ⟨rfl, rfl, rfl, by decide +kernel, rfl, by decide +kernel, by decide +kernel⟩
theorem ok_beat_text {f : Addr} {fd : FuncData} (d : Df K mg "beat_text" s_beat_text ["length", "beat"] f fd) {f_check_beat : Addr} {fd_check_beat : FuncData} (d_check_beat : Df K mg "check_beat" s_check_beat ["length", "beat"] f_check_beat fd_check_beat) (o_check_beat : FnOk P w K mg base (CXe P w) 2 f_check_beat fd_check_beat ["length", "beat"] (spD K (clsOf ad) F_check_beat 2)) (z_range : mg "range" = none) :
    FnOk P w K mg base (CXe P w) 3 f fd ["length", "beat"] (spD K (clsOf ad) F_beat_text 2) := by
  have nd := sc_beat_text.nd
  refine Df.is cxe_ok ["length", "beat"] 2 b_beat_text d sc_beat_text rfl rfl rfl fun cdv A outer s H E hr => ?_
  exact (ss_cons (st_expr (se_fn d_check_beat o_check_beat hr (by decide) rfl (sl_cons (se_var 0) (sl_cons (se_var 1) sl_nil)))) (ss_one (st_ret (se_join se_str (se_comp (fs := ["beat"]) (is := [1]) (fe := (Dv.eIf (Dv.eCm .isin (Dv.eVar 0) (Dv.eVar 1)) (Dv.eStr [120]) (Dv.eStr [46]))) (fc := (Dv.eBl true)) (comp_names (fsc := defScope s_beat_text) (N := ["length", "beat"]) rfl rfl (by decide +kernel)) (si_range rfl z_range (se_var 0)) (fun cl L s₀ H₀ ex => (se_ifx (sc_in (se_var 0) (se_var 1)) se_str se_str)) (fun cl L s₀ H₀ ex => ts_nil))))))
abbrev s_law_cell : Stmt := top 15
theorem sc_law_cell : FnScope ["_law_script", "_law_k", "_law_number"] ["_law_script", "_law_k"] (defScope s_law_cell) := ⟨rfl, rfl, rfl, by decide +kernel, rfl, by decide +kernel, by decide +kernel⟩
theorem ok_law_cell {f : Addr} {fd : FuncData} (d : Df K mg "_law_cell" s_law_cell ["_law_script", "_law_k"] f fd) (z_len : mg "len" = none) :
    FnOk P w K mg base (CXe P w) 1 f fd ["_law_script", "_law_k"] (spD K (clsOf ad) F_law_cell 2) := by
  have nd := sc_law_cell.nd
  refine Df.is cxe_ok ["_law_script", "_law_k", "_law_number"] 0 b_law_cell d sc_law_cell rfl rfl rfl fun cdv A outer s H E hr => ?_
  exact (ss_cons (st_if (sc_lt (se_var 1) (se_len z_len rfl (se_var 0))) (ss_one (st_ret (se_ix (se_var 0) (se_var 1)))) ss_nil) (ss_cons (st_set (i := 2) (se_add (se_mul se_int (se_var 1)) se_int) nd rfl (Or.inl rfl)) (ss_cons (st_if (sc_gt (se_len z_len rfl (se_var 0)) se_int) (ss_one (st_set (i := 2) (se_mod (se_add (se_mul (se_ix (se_var 0) (se_mod (se_var 1) (se_len z_len rfl (se_var 0)))) se_int) (se_mul (se_var 1) se_int)) se_int) nd rfl (Or.inl rfl))) ss_nil) (ss_one (st_ret (se_mod (se_mul (se_var 2) (se_var 2)) se_int))))))
abbrev s_law_whole : Stmt := top 16
theorem sc_law_whole : FnScope ["_law_found"] ["_law_found"] (defScope s_law_whole) := ⟨rfl, rfl, rfl, by decide +kernel, rfl, by decide +kernel, by decide +kernel⟩
theorem ok_law_whole {f : Addr} {fd : FuncData} (d : Df K mg "_law_whole" s_law_whole ["_law_found"] f fd) (z_isinstance : mg "isinstance" = none) (z_int : mg "int" = none) (z_bool : mg "bool" = none) :
    FnOk P w K mg base (CXe P w) 1 f fd ["_law_found"] (spD K (clsOf ad) F_law_whole 1) := by
  have nd := sc_law_whole.nd
  refine Df.is cxe_ok ["_law_found"] 0 b_law_whole d sc_law_whole rfl rfl rfl fun cdv A outer s H E hr => ?_
  exact (ss_one (st_ret (se_and (se_isInt z_isinstance z_int rfl rfl (se_var 0)) (se_one (se_not (se_isBool z_isinstance z_bool rfl rfl (se_var 0)))))))
abbrev s_law_beat_is : Stmt := top 17
theorem sc_law_beat_is : FnScope ["_law_found", "_law_due", "_law_one", "_law_other"] ["_law_found", "_law_due"] (defScope s_law_beat_is) := ⟨rfl, rfl, rfl, by decide +kernel, rfl, by decide +kernel, by decide +kernel⟩
theorem ok_law_beat_is {f : Addr} {fd : FuncData} (d : Df K mg "_law_beat_is" s_law_beat_is ["_law_found", "_law_due"] f fd) {f_law_whole : Addr} {fd_law_whole : FuncData} (d_law_whole : Df K mg "_law_whole" s_law_whole ["_law_found"] f_law_whole fd_law_whole) (o_law_whole : FnOk P w K mg base (CXe P w) 1 f_law_whole fd_law_whole ["_law_found"] (spD K (clsOf ad) F_law_whole 1)) (z_isinstance : mg "isinstance" = none) (z_list : mg "list" = none) (z_len : mg "len" = none) (z_zip : mg "zip" = none) :
    FnOk P w K mg base (CXe P w) 2 f fd ["_law_found", "_law_due"] (spD K (clsOf ad) F_law_beat_is 2) := by
  have nd := sc_law_beat_is.nd
  refine Df.is cxe_ok ["_law_found", "_law_due", "_law_one", "_law_other"] 1 b_law_beat_is d sc_law_beat_is rfl rfl rfl fun cdv A outer s H E hr => ?_
  exact (ss_cons (st_if (sc_w (sw_or (sc_not (sc_val (se_isList z_isinstance z_list rfl rfl (se_var 0)))) (sw_one _ (sc_ne (se_len z_len rfl (se_var 0)) (se_len z_len rfl (se_var 1)))))) (ss_one (st_ret se_bl)) ss_nil) (ss_cons (st_forT [0, 1] (si_zip rfl z_zip (se_var 0) (se_var 1)) (sg_tup (xs := [2, 3]) (gs_cons (i := 2) (gs_cons (i := 3) gs_nil nd rfl (Or.inl rfl)) nd rfl (Or.inl rfl)) rfl) (ss_one (st_if (sc_w (sw_or (sc_not (sc_val (se_fn d_law_whole o_law_whole hr (by decide) rfl (sl_cons (se_var 2) sl_nil)))) (sw_one _ (sc_ne (se_var 2) (se_var 3))))) (ss_one (st_ret se_bl)) ss_nil))) (ss_one (st_ret se_bl))))
abbrev s_law_some : Stmt := top 18
theorem sc_law_some : FnScope ["_law_script", "_law_start", "_law_length", "_law_bits", "_law_share", "_law_found", "_law_place", "_law_bit"] ["_law_script", "_law_start", "_law_length"] (defScope s_law_some) := ⟨rfl, rfl, rfl, by decide +kernel, rfl, by decide +kernel, by decide +kernel⟩
theorem ok_law_some {f : Addr} {fd : FuncData} (d : Df K mg "_law_some" s_law_some ["_law_script", "_law_start", "_law_length"] f fd) {f_law_cell : Addr} {fd_law_cell : FuncData} (d_law_cell : Df K mg "_law_cell" s_law_cell ["_law_script", "_law_k"] f_law_cell fd_law_cell) (o_law_cell : FnOk P w K mg base (CXe P w) 1 f_law_cell fd_law_cell ["_law_script", "_law_k"] (spD K (clsOf ad) F_law_cell 2)) (z_range : mg "range" = none) (z_max : mg "max" = none) :
    FnOk P w K mg base (CXe P w) 2 f fd ["_law_script", "_law_start", "_law_length"] (spD K (clsOf ad) F_law_some 3) := by
  have nd := sc_law_some.nd
  refine Df.is cxe_ok ["_law_script", "_law_start", "_law_length", "_law_bits", "_law_share", "_law_found", "_law_place", "_law_bit"] 1 b_law_some d sc_law_some rfl rfl rfl fun cdv A outer s H E hr => ?_
  exact (ss_cons (st_set (i := 3) (se_mod (se_mul (se_fn d_law_cell o_law_cell hr (by decide) rfl (sl_cons (se_var 0) (sl_cons (se_var 1) sl_nil))) se_int) se_int) nd rfl (Or.inl rfl)) (ss_cons (st_set (i := 4) (se_mod (se_fn d_law_cell o_law_cell hr (by decide) rfl (sl_cons (se_var 0) (sl_cons (se_add (se_var 1) se_int) sl_nil))) se_int) nd rfl (Or.inl rfl)) (ss_cons (st_set (i := 5) (se_lst sl_nil) nd rfl (Or.inl rfl)) (ss_cons (st_for [] (i := 6) (si_range rfl z_range (se_var 2)) (ss_cons (st_set (i := 7) (se_mod (se_shr (se_var 3) (se_var 6)) se_int) nd rfl (Or.inl rfl)) (ss_cons (st_if (sc_eq (se_var 4) se_int) (ss_one (st_set (i := 7) (se_mul (se_var 7) (se_mod (se_shr (se_var 3) (se_mod (se_add (se_var 6) se_int) se_int)) se_int)) nd rfl (Or.inl rfl))) ss_nil) (ss_cons (st_if (sc_eq (se_var 4) se_int) (ss_one (st_set (i := 7) (se_max2 z_max rfl (se_var 7) (se_mod (se_shr (se_var 3) (se_mod (se_add (se_var 6) se_int) se_int)) se_int)) nd rfl (Or.inl rfl))) ss_nil) (ss_one (st_if (sc_eq (se_var 7) se_int) (ss_one (st_app (i := 5) (se_var 6))) ss_nil))))) nd rfl (Or.inl rfl)) (ss_cons (st_if (sc_eq (se_var 5) (se_lst sl_nil)) (ss_one (st_app (i := 5) (se_mod (se_fdiv (se_fn d_law_cell o_law_cell hr (by decide) rfl (sl_cons (se_var 0) (sl_cons (se_add (se_var 1) se_int) sl_nil))) se_int) (se_var 2)))) ss_nil) (ss_one (st_retO 5)))))))
abbrev s_law_refused : Stmt := top 19
theorem sc_law_refused : FnScope ["_law_length", "_law_beat", "e"] ["_law_length", "_law_beat"] (defScope s_law_refused) := ⟨rfl, rfl, rfl, by decide +kernel, rfl, by decide +kernel, by decide +kernel⟩
theorem ok_law_refused {f : Addr} {fd : FuncData} (d : Df K mg "_law_refused" s_law_refused ["_law_length", "_law_beat"] f fd) {f_beat_text : Addr} {fd_beat_text : FuncData} (d_beat_text : Df K mg "beat_text" s_beat_text ["length", "beat"] f_beat_text fd_beat_text) (o_beat_text : FnOk P w K mg base (CXe P w) 3 f_beat_text fd_beat_text ["length", "beat"] (spD K (clsOf ad) F_beat_text 2)) (xa : XAll K mg ad) {C_WheelError : Addr} (h_WheelError : ad "WheelError" = some C_WheelError) {C_NoText : Addr} (h_NoText : ad "NoText" = some C_NoText) {C_NoBeat : Addr} (h_NoBeat : ad "NoBeat" = some C_NoBeat) {C_NoWheel : Addr} (h_NoWheel : ad "NoWheel" = some C_NoWheel) (hkn : ∀ c ∈ (["WheelError", "NoWheel", "NoBeat", "NoText"] : List String), ∃ Ca, ad c = some Ca) (z_isinstance : mg "isinstance" = none) (z_ValueError : mg "ValueError" = none) :
    FnOk P w K mg base (CXe P w) 4 f fd ["_law_length", "_law_beat"] (spD K (clsOf ad) F_law_refused_v7 2) := by
  have nd := sc_law_refused.nd
  refine Df.is cxe_ok ["_law_length", "_law_beat", "e"] 3 b_law_refused_v7 d sc_law_refused rfl rfl rfl fun cdv A outer s H E hr => ?_
  exact (ss_cons (st_tryAs xa (kn2 hkn) h_WheelError (i := 2) nd rfl rfl (fun pins xe W own pass => (ss_one (st_expr (se_fn d_beat_text o_beat_text hr (by decide) rfl (sl_cons (se_var 0) (sl_cons (se_var 1) sl_nil)))))) (fun pins e => (ss_one (st_ret (se_lst (sl_cons (se_isV xa hkn z_isinstance z_ValueError rfl rfl (se_var 2)) (sl_cons (se_isX xa hkn h_NoWheel z_isinstance rfl rfl (se_var 2)) (sl_cons (se_isX xa hkn h_NoBeat z_isinstance rfl rfl (se_var 2)) (sl_cons (se_isX xa hkn h_NoText z_isinstance rfl rfl (se_var 2)) sl_nil))))))))) (ss_one (st_ret (se_lst sl_nil))))
abbrev s_law_spoiled : Stmt := top 20
theorem sc_law_spoiled : FnScope ["_law_length", "_law_beat", "_law_cell_here", "_law_kind", "_law_at", "_law_far"] ["_law_length", "_law_beat", "_law_cell_here"] (defScope s_law_spoiled) := ⟨rfl, rfl, rfl, by decide +kernel, rfl, by decide +kernel, by decide +kernel⟩
theorem ok_law_spoiled {f : Addr} {fd : FuncData} (d : Df K mg "_law_spoiled" s_law_spoiled ["_law_length", "_law_beat", "_law_cell_here"] f fd) (z_len : mg "len" = none) :
    FnOk P w K mg base (CXe P w) 1 f fd ["_law_length", "_law_beat", "_law_cell_here"] (spD K (clsOf ad) F_law_spoiled 3) := by
  have nd := sc_law_spoiled.nd
  refine Df.is cxe_ok ["_law_length", "_law_beat", "_law_cell_here", "_law_kind", "_law_at", "_law_far"] 0 b_law_spoiled d sc_law_spoiled rfl rfl rfl fun cdv A outer s H E hr => ?_
  exact (ss_cons (st_set (i := 3) (se_mod (se_var 2) se_int) nd rfl (Or.inl rfl)) (ss_cons (st_set (i := 4) (se_mod (se_fdiv (se_var 2) se_int) (se_len z_len rfl (se_var 1))) nd rfl (Or.inl rfl)) (ss_cons (st_set (i := 5) (se_mod (se_fdiv (se_var 2) se_int) (se_pow se_int se_int)) nd rfl (Or.inl rfl)) (ss_cons (st_if (sc_eq (se_var 3) se_int) (ss_one (st_ret (se_lst sl_nil))) ss_nil) (ss_cons (st_if (sc_eq (se_var 3) se_int) (ss_one (st_ret (se_add (se_add (se_slice (se_var 1) so_none (so_some (se_var 4))) (se_lst (sl_cons (se_ix (se_var 1) (se_var 4)) sl_nil))) (se_slice (se_var 1) (so_some (se_var 4)) so_none)))) ss_nil) (ss_cons (st_if (sc_eq (se_var 3) se_int) (ss_one (st_ret (se_add (se_add (se_slice (se_var 1) so_none (so_some (se_var 4))) (se_lst (sl_cons (se_add (se_var 0) (se_var 5)) sl_nil))) (se_slice (se_var 1) (so_some (se_var 4)) so_none)))) ss_nil) (ss_cons (st_if (sc_eq (se_var 3) se_int) (ss_one (st_ret (se_add (se_add (se_slice (se_var 1) so_none (so_some (se_var 4))) (se_lst (sl_cons (se_sub (se_neg se_int) (se_var 5)) sl_nil))) (se_slice (se_var 1) (so_some (se_var 4)) so_none)))) ss_nil) (ss_one (st_ret (se_add (se_var 1) (se_lst (sl_cons (se_ix (se_var 1) (se_var 4)) sl_nil))))))))))))
abbrev s_law_read_is : Stmt := top 21
theorem sc_law_read_is : FnScope ["_law_found", "_law_length", "_law_beat"] ["_law_found", "_law_length", "_law_beat"] (defScope s_law_read_is) := ⟨rfl, rfl, rfl, by decide +kernel, rfl, by decide +kernel, by decide +kernel⟩
theorem ok_law_read_is {f : Addr} {fd : FuncData} (d : Df K mg "_law_read_is" s_law_read_is ["_law_found", "_law_length", "_law_beat"] f fd) {f_law_whole : Addr} {fd_law_whole : FuncData} (d_law_whole : Df K mg "_law_whole" s_law_whole ["_law_found"] f_law_whole fd_law_whole) (o_law_whole : FnOk P w K mg base (CXe P w) 1 f_law_whole fd_law_whole ["_law_found"] (spD K (clsOf ad) F_law_whole 1)) {f_law_beat_is : Addr} {fd_law_beat_is : FuncData} (d_law_beat_is : Df K mg "_law_beat_is" s_law_beat_is ["_law_found", "_law_due"] f_law_beat_is fd_law_beat_is) (o_law_beat_is : FnOk P w K mg base (CXe P w) 2 f_law_beat_is fd_law_beat_is ["_law_found", "_law_due"] (spD K (clsOf ad) F_law_beat_is 2)) (z_isinstance : mg "isinstance" = none) (z_tuple : mg "tuple" = none) (z_len : mg "len" = none) :
    FnOk P w K mg base (CXe P w) 3 f fd ["_law_found", "_law_length", "_law_beat"] (spD K (clsOf ad) F_law_read_is 3) := by
  have nd := sc_law_read_is.nd
  refine Df.is cxe_ok ["_law_found", "_law_length", "_law_beat"] 2 b_law_read_is d sc_law_read_is rfl rfl rfl fun cdv A outer s H E hr => ?_
  exact (ss_cons (st_if (sc_w (sw_or (sc_not (sc_val (se_isTup z_isinstance z_tuple rfl rfl (se_var 0)))) (sw_or (sc_ne (se_len z_len rfl (se_var 0)) se_int) (sw_or (sc_not (sc_val (se_fn d_law_whole o_law_whole hr (by decide) rfl (sl_cons (se_ix (se_var 0) se_int) sl_nil)))) (sw_one _ (sc_ne (se_ix (se_var 0) se_int) (se_var 1))))))) (ss_one (st_ret se_bl)) ss_nil) (ss_one (st_ret (se_fn d_law_beat_is o_law_beat_is hr (by decide) rfl (sl_cons (se_ix (se_var 0) se_int) (sl_cons (se_var 2) sl_nil))))))
abbrev s_law : Stmt := top 22
theorem sc_law : FnScope ["_law_script", "_law_length", "_law_beat", "_law_far", "_law_kind", "_law_wrong", "_law_handed", "_law_due", "_law_place", "_law_text", "_law_found"] ["_law_script"] (defScope s_law) := ⟨rfl, rfl, rfl, by decide +kernel, rfl, by decide +kernel, by decide +kernel⟩
theorem ok_law {f : Addr} {fd : FuncData} (d : Df K mg "law" s_law ["_law_script"] f fd) {f_law_cell : Addr} {fd_law_cell : FuncData} (d_law_cell : Df K mg "_law_cell" s_law_cell ["_law_script", "_law_k"] f_law_cell fd_law_cell) (o_law_cell : FnOk P w K mg base (CXe P w) 1 f_law_cell fd_law_cell ["_law_script", "_law_k"] (spD K (clsOf ad) F_law_cell 2)) {f_law_some : Addr} {fd_law_some : FuncData} (d_law_some : Df K mg "_law_some" s_law_some ["_law_script", "_law_start", "_law_length"] f_law_some fd_law_some) (o_law_some : FnOk P w K mg base (CXe P w) 2 f_law_some fd_law_some ["_law_script", "_law_start", "_law_length"] (spD K (clsOf ad) F_law_some 3)) {f_law_refused : Addr} {fd_law_refused : FuncData} (d_law_refused : Df K mg "_law_refused" s_law_refused ["_law_length", "_law_beat"] f_law_refused fd_law_refused) (o_law_refused : FnOk P w K mg base (CXe P w) 4 f_law_refused fd_law_refused ["_law_length", "_law_beat"] (spD K (clsOf ad) F_law_refused_v7 2)) {f_law_spoiled : Addr} {fd_law_spoiled : FuncData} (d_law_spoiled : Df K mg "_law_spoiled" s_law_spoiled ["_law_length", "_law_beat", "_law_cell_here"] f_law_spoiled fd_law_spoiled) (o_law_spoiled : FnOk P w K mg base (CXe P w) 1 f_law_spoiled fd_law_spoiled ["_law_length", "_law_beat", "_law_cell_here"] (spD K (clsOf ad) F_law_spoiled 3)) {f_beat_text : Addr} {fd_beat_text : FuncData} (d_beat_text : Df K mg "beat_text" s_beat_text ["length", "beat"] f_beat_text fd_beat_text) (o_beat_text : FnOk P w K mg base (CXe P w) 3 f_beat_text fd_beat_text ["length", "beat"] (spD K (clsOf ad) F_beat_text 2)) {f_read_beat : Addr} {fd_read_beat : FuncData} (d_read_beat : Df K mg "read_beat" s_read_beat ["text"] f_read_beat fd_read_beat) (o_read_beat : FnOk P w K mg base (CXe P w) 2 f_read_beat fd_read_beat ["text"] (spD K (clsOf ad) F_read_beat 1)) {f_law_read_is : Addr} {fd_law_read_is : FuncData} (d_law_read_is : Df K mg "_law_read_is" s_law_read_is ["_law_found", "_law_length", "_law_beat"] f_law_read_is fd_law_read_is) (o_law_read_is : FnOk P w K mg base (CXe P w) 3 f_law_read_is fd_law_read_is ["_law_found", "_law_length", "_law_beat"] (spD K (clsOf ad) F_law_read_is 3)) (z_range : mg "range" = none) (z_list : mg "list" = none) (z_int : mg "int" = none) (z_isinstance : mg "isinstance" = none) (z_str : mg "str" = none) :
    FnOk P w K mg base (CXe P w) 5 f fd ["_law_script"] (spD K (clsOf ad) F_law_k71 1) := by
  have nd := sc_law.nd
  refine Df.is cxe_ok ["_law_script", "_law_length", "_law_beat", "_law_far", "_law_kind", "_law_wrong", "_law_handed", "_law_due", "_law_place", "_law_text", "_law_found"] 4 b_law_k71 d sc_law rfl rfl rfl fun cdv A outer s H E hr => ?_
  exact (ss_cons (st_set (i := 1) (se_add se_int (se_mod (se_fn d_law_cell o_law_cell hr (by decide) rfl (sl_cons (se_var 0) (sl_cons se_int sl_nil))) se_int)) nd rfl (Or.inl rfl)) (ss_cons (st_set (i := 2) (se_fn d_law_some o_law_some hr (by decide) rfl (sl_cons (se_var 0) (sl_cons se_int (sl_cons (se_var 1) sl_nil)))) nd rfl (Or.inl rfl)) (ss_cons (st_set (i := 3) (se_mod (se_fdiv (se_fn d_law_cell o_law_cell hr (by decide) rfl (sl_cons (se_var 0) (sl_cons se_int sl_nil))) se_int) (se_pow se_int se_int)) nd rfl (Or.inl rfl)) (ss_cons (st_if (sc_ne (se_fn d_law_refused o_law_refused hr (by decide) rfl (sl_cons (se_ix (se_lst (sl_cons (se_sub se_int (se_var 3)) (sl_cons (se_add se_int (se_var 3)) sl_nil))) (se_mod (se_fn d_law_cell o_law_cell hr (by decide) rfl (sl_cons (se_var 0) (sl_cons se_int sl_nil))) se_int)) (sl_cons (se_var 2) sl_nil))) (se_lst (sl_cons se_bl (sl_cons se_bl (sl_cons se_bl (sl_cons se_bl sl_nil)))))) (ss_one (st_ret se_bl)) ss_nil) (ss_cons (st_for [] (i := 4) (si_range rfl z_range se_int) (ss_cons (st_set (i := 5) (se_fn d_law_spoiled o_law_spoiled hr (by decide) rfl (sl_cons (se_var 1) (sl_cons (se_var 2) (sl_cons (se_add (se_var 4) (se_mul se_int (se_mod (se_fdiv (se_fn d_law_cell o_law_cell hr (by decide) rfl (sl_cons (se_var 0) (sl_cons se_int sl_nil))) se_int) (se_pow se_int se_int)))) sl_nil)))) nd rfl (Or.inl rfl)) (ss_one (st_if (sc_ne (se_fn d_law_refused o_law_refused hr (by decide) rfl (sl_cons (se_var 1) (sl_cons (se_var 5) sl_nil))) (se_lst (sl_cons se_bl (sl_cons se_bl (sl_cons se_bl (sl_cons se_bl sl_nil)))))) (ss_one (st_ret se_bl)) ss_nil))) nd rfl (Or.inl rfl)) (ss_cons (st_set (i := 6) (se_list z_list rfl (se_var 2)) nd rfl (Or.inl rfl)) (ss_cons (st_set (i := 7) se_str nd rfl (Or.inl rfl)) (ss_cons (st_for [] (i := 8) (si_range rfl z_range (se_var 1)) (ss_one (st_set (i := 7) (se_addS (se_var 7) (se_ixS se_str (se_int1 z_int rfl (se_in (se_var 8) (se_var 2))))) nd rfl (Or.inl rfl))) nd rfl (Or.inl rfl)) (ss_cons (st_set (i := 9) (se_fn d_beat_text o_beat_text hr (by decide) rfl (sl_cons (se_var 1) (sl_cons (se_var 6) sl_nil))) nd rfl (Or.inl rfl)) (ss_cons (st_if (sc_w (sw_or (sc_not (sc_val (se_isStr z_isinstance z_str rfl rfl (se_var 9)))) (sw_or (sc_ne (se_var 9) (se_var 7)) (sw_one _ (sc_ne (se_var 6) (se_var 2)))))) (ss_one (st_ret se_bl)) ss_nil) (ss_cons (st_setD (i := 10) (se_fn d_read_beat o_read_beat hr (by decide) rfl (sl_cons (se_var 7) sl_nil)) nd rfl (Or.inl rfl)) (ss_cons (st_if (sc_not (sc_val (se_fn d_law_read_is o_law_read_is hr (by decide) rfl (sl_cons (se_var 10) (sl_cons (se_var 1) (sl_cons (se_var 2) sl_nil)))))) (ss_one (st_ret se_bl)) ss_nil) (ss_cons (st_kill1 (i := 10) se_int) (ss_one (st_ret (se_fn d_law_read_is o_law_read_is hr (by decide) rfl (sl_cons (se_fn d_read_beat o_read_beat hr (by decide) rfl (sl_cons (se_var 7) sl_nil)) (sl_cons (se_var 1) (sl_cons (se_var 2) sl_nil)))))))))))))))))))
end
theorem all_mk {l : PySem.W.OpenLaw} {w : World} {K : PySem.W.Frag} {h : Heap} {mg : Str → Option Value} {fa : Addr} (X : K.In h) (G : h.Ns mainGlobals mg) (hfa : mg "law" = some (.ref fa))
    {f_check_wheel : Addr} {od_check_wheel an_check_wheel : Option Addr} {sl_check_wheel : Array (Option Value)} {oc_check_wheel kV_check_wheel dc_check_wheel pm_check_wheel cd_check_wheel ct_check_wheel : Value} {f_check_rising : Addr} {od_check_rising an_check_rising : Option Addr} {sl_check_rising : Array (Option Value)} {oc_check_rising kV_check_rising dc_check_rising pm_check_rising cd_check_rising ct_check_rising : Value} {f_check_beat : Addr} {od_check_beat an_check_beat : Option Addr} {sl_check_beat : Array (Option Value)} {oc_check_beat kV_check_beat dc_check_beat pm_check_beat cd_check_beat ct_check_beat : Value} {f_has_only : Addr} {od_has_only an_has_only : Option Addr} {sl_has_only : Array (Option Value)} {oc_has_only kV_has_only dc_has_only pm_has_only cd_has_only ct_has_only : Value} {f_read_beat : Addr} {od_read_beat an_read_beat : Option Addr} {sl_read_beat : Array (Option Value)} {oc_read_beat kV_read_beat dc_read_beat pm_read_beat cd_read_beat ct_read_beat : Value} {f_beat_text : Addr} {od_beat_text an_beat_text : Option Addr} {sl_beat_text : Array (Option Value)} {oc_beat_text kV_beat_text dc_beat_text pm_beat_text cd_beat_text ct_beat_text : Value} {f_law_cell : Addr} {od_law_cell an_law_cell : Option Addr} {sl_law_cell : Array (Option Value)} {oc_law_cell kV_law_cell dc_law_cell pm_law_cell cd_law_cell ct_law_cell : Value} {f_law_whole : Addr} {od_law_whole an_law_whole : Option Addr} {sl_law_whole : Array (Option Value)} {oc_law_whole kV_law_whole dc_law_whole pm_law_whole cd_law_whole ct_law_whole : Value} {f_law_beat_is : Addr} {od_law_beat_is an_law_beat_is : Option Addr} {sl_law_beat_is : Array (Option Value)} {oc_law_beat_is kV_law_beat_is dc_law_beat_is pm_law_beat_is cd_law_beat_is ct_law_beat_is : Value} {f_law_some : Addr} {od_law_some an_law_some : Option Addr} {sl_law_some : Array (Option Value)} {oc_law_some kV_law_some dc_law_some pm_law_some cd_law_some ct_law_some : Value} {f_law_refused : Addr} {od_law_refused an_law_refused : Option Addr} {sl_law_refused : Array (Option Value)} {oc_law_refused kV_law_refused dc_law_refused pm_law_refused cd_law_refused ct_law_refused : Value} {f_law_spoiled : Addr} {od_law_spoiled an_law_spoiled : Option Addr} {sl_law_spoiled : Array (Option Value)} {oc_law_spoiled kV_law_spoiled dc_law_spoiled pm_law_spoiled cd_law_spoiled ct_law_spoiled : Value} {f_law_read_is : Addr} {od_law_read_is an_law_read_is : Option Addr} {sl_law_read_is : Array (Option Value)} {oc_law_read_is kV_law_read_is dc_law_read_is pm_law_read_is cd_law_read_is ct_law_read_is : Value} {f_law : Addr} {od_law an_law : Option Addr} {sl_law : Array (Option Value)} {oc_law kV_law dc_law pm_law cd_law ct_law : Value} {t_LONGEST : Tok} {C_WheelError : Addr} {C_NoWheel : Addr} {C_NoBeat : Addr} {C_NoText : Addr}
    (a_check_wheel : PySem.W.nsIn K mainGlobals "check_wheel" = some (some (.ref f_check_wheel))) (l_check_wheel : K.lookup f_check_wheel = some ⟨oc_check_wheel, od_check_wheel, .func (PySem.W.fnOf "check_wheel" "check_wheel" (defArgs s_check_wheel) (defBody s_check_wheel) (defScope s_check_wheel) .none kV_check_wheel dc_check_wheel pm_check_wheel an_check_wheel cd_check_wheel ct_check_wheel), sl_check_wheel⟩) (c_check_wheel : PySem.W.codeIn K cd_check_wheel "check_wheel" = true) (k_check_wheel : PySem.W.keepIn K (.ref f_check_wheel) = true)
    (a_check_rising : PySem.W.nsIn K mainGlobals "check_rising" = some (some (.ref f_check_rising))) (l_check_rising : K.lookup f_check_rising = some ⟨oc_check_rising, od_check_rising, .func (PySem.W.fnOf "check_rising" "check_rising" (defArgs s_check_rising) (defBody s_check_rising) (defScope s_check_rising) .none kV_check_rising dc_check_rising pm_check_rising an_check_rising cd_check_rising ct_check_rising), sl_check_rising⟩) (c_check_rising : PySem.W.codeIn K cd_check_rising "check_rising" = true) (k_check_rising : PySem.W.keepIn K (.ref f_check_rising) = true)
    (a_check_beat : PySem.W.nsIn K mainGlobals "check_beat" = some (some (.ref f_check_beat))) (l_check_beat : K.lookup f_check_beat = some ⟨oc_check_beat, od_check_beat, .func (PySem.W.fnOf "check_beat" "check_beat" (defArgs s_check_beat) (defBody s_check_beat) (defScope s_check_beat) .none kV_check_beat dc_check_beat pm_check_beat an_check_beat cd_check_beat ct_check_beat), sl_check_beat⟩) (c_check_beat : PySem.W.codeIn K cd_check_beat "check_beat" = true) (k_check_beat : PySem.W.keepIn K (.ref f_check_beat) = true)
    (a_has_only : PySem.W.nsIn K mainGlobals "has_only" = some (some (.ref f_has_only))) (l_has_only : K.lookup f_has_only = some ⟨oc_has_only, od_has_only, .func (PySem.W.fnOf "has_only" "has_only" (defArgs s_has_only) (defBody s_has_only) (defScope s_has_only) .none kV_has_only dc_has_only pm_has_only an_has_only cd_has_only ct_has_only), sl_has_only⟩) (c_has_only : PySem.W.codeIn K cd_has_only "has_only" = true) (k_has_only : PySem.W.keepIn K (.ref f_has_only) = true)
    (a_read_beat : PySem.W.nsIn K mainGlobals "read_beat" = some (some (.ref f_read_beat))) (l_read_beat : K.lookup f_read_beat = some ⟨oc_read_beat, od_read_beat, .func (PySem.W.fnOf "read_beat" "read_beat" (defArgs s_read_beat) (defBody s_read_beat) (defScope s_read_beat) .none kV_read_beat dc_read_beat pm_read_beat an_read_beat cd_read_beat ct_read_beat), sl_read_beat⟩) (c_read_beat : PySem.W.codeIn K cd_read_beat "read_beat" = true) (k_read_beat : PySem.W.keepIn K (.ref f_read_beat) = true)
    (a_beat_text : PySem.W.nsIn K mainGlobals "beat_text" = some (some (.ref f_beat_text))) (l_beat_text : K.lookup f_beat_text = some ⟨oc_beat_text, od_beat_text, .func (PySem.W.fnOf "beat_text" "beat_text" (defArgs s_beat_text) (defBody s_beat_text) (defScope s_beat_text) .none kV_beat_text dc_beat_text pm_beat_text an_beat_text cd_beat_text ct_beat_text), sl_beat_text⟩) (c_beat_text : PySem.W.codeIn K cd_beat_text "beat_text" = true) (k_beat_text : PySem.W.keepIn K (.ref f_beat_text) = true)
    (a_law_cell : PySem.W.nsIn K mainGlobals "_law_cell" = some (some (.ref f_law_cell))) (l_law_cell : K.lookup f_law_cell = some ⟨oc_law_cell, od_law_cell, .func (PySem.W.fnOf "_law_cell" "_law_cell" (defArgs s_law_cell) (defBody s_law_cell) (defScope s_law_cell) .none kV_law_cell dc_law_cell pm_law_cell an_law_cell cd_law_cell ct_law_cell), sl_law_cell⟩) (c_law_cell : PySem.W.codeIn K cd_law_cell "_law_cell" = true) (k_law_cell : PySem.W.keepIn K (.ref f_law_cell) = true)
    (a_law_whole : PySem.W.nsIn K mainGlobals "_law_whole" = some (some (.ref f_law_whole))) (l_law_whole : K.lookup f_law_whole = some ⟨oc_law_whole, od_law_whole, .func (PySem.W.fnOf "_law_whole" "_law_whole" (defArgs s_law_whole) (defBody s_law_whole) (defScope s_law_whole) .none kV_law_whole dc_law_whole pm_law_whole an_law_whole cd_law_whole ct_law_whole), sl_law_whole⟩) (c_law_whole : PySem.W.codeIn K cd_law_whole "_law_whole" = true) (k_law_whole : PySem.W.keepIn K (.ref f_law_whole) = true)
    (a_law_beat_is : PySem.W.nsIn K mainGlobals "_law_beat_is" = some (some (.ref f_law_beat_is))) (l_law_beat_is : K.lookup f_law_beat_is = some ⟨oc_law_beat_is, od_law_beat_is, .func (PySem.W.fnOf "_law_beat_is" "_law_beat_is" (defArgs s_law_beat_is) (defBody s_law_beat_is) (defScope s_law_beat_is) .none kV_law_beat_is dc_law_beat_is pm_law_beat_is an_law_beat_is cd_law_beat_is ct_law_beat_is), sl_law_beat_is⟩) (c_law_beat_is : PySem.W.codeIn K cd_law_beat_is "_law_beat_is" = true) (k_law_beat_is : PySem.W.keepIn K (.ref f_law_beat_is) = true)
    (a_law_some : PySem.W.nsIn K mainGlobals "_law_some" = some (some (.ref f_law_some))) (l_law_some : K.lookup f_law_some = some ⟨oc_law_some, od_law_some, .func (PySem.W.fnOf "_law_some" "_law_some" (defArgs s_law_some) (defBody s_law_some) (defScope s_law_some) .none kV_law_some dc_law_some pm_law_some an_law_some cd_law_some ct_law_some), sl_law_some⟩) (c_law_some : PySem.W.codeIn K cd_law_some "_law_some" = true) (k_law_some : PySem.W.keepIn K (.ref f_law_some) = true)
    (a_law_refused : PySem.W.nsIn K mainGlobals "_law_refused" = some (some (.ref f_law_refused))) (l_law_refused : K.lookup f_law_refused = some ⟨oc_law_refused, od_law_refused, .func (PySem.W.fnOf "_law_refused" "_law_refused" (defArgs s_law_refused) (defBody s_law_refused) (defScope s_law_refused) .none kV_law_refused dc_law_refused pm_law_refused an_law_refused cd_law_refused ct_law_refused), sl_law_refused⟩) (c_law_refused : PySem.W.codeIn K cd_law_refused "_law_refused" = true) (k_law_refused : PySem.W.keepIn K (.ref f_law_refused) = true)
    (a_law_spoiled : PySem.W.nsIn K mainGlobals "_law_spoiled" = some (some (.ref f_law_spoiled))) (l_law_spoiled : K.lookup f_law_spoiled = some ⟨oc_law_spoiled, od_law_spoiled, .func (PySem.W.fnOf "_law_spoiled" "_law_spoiled" (defArgs s_law_spoiled) (defBody s_law_spoiled) (defScope s_law_spoiled) .none kV_law_spoiled dc_law_spoiled pm_law_spoiled an_law_spoiled cd_law_spoiled ct_law_spoiled), sl_law_spoiled⟩) (c_law_spoiled : PySem.W.codeIn K cd_law_spoiled "_law_spoiled" = true) (k_law_spoiled : PySem.W.keepIn K (.ref f_law_spoiled) = true)
    (a_law_read_is : PySem.W.nsIn K mainGlobals "_law_read_is" = some (some (.ref f_law_read_is))) (l_law_read_is : K.lookup f_law_read_is = some ⟨oc_law_read_is, od_law_read_is, .func (PySem.W.fnOf "_law_read_is" "_law_read_is" (defArgs s_law_read_is) (defBody s_law_read_is) (defScope s_law_read_is) .none kV_law_read_is dc_law_read_is pm_law_read_is an_law_read_is cd_law_read_is ct_law_read_is), sl_law_read_is⟩) (c_law_read_is : PySem.W.codeIn K cd_law_read_is "_law_read_is" = true) (k_law_read_is : PySem.W.keepIn K (.ref f_law_read_is) = true)
    (a_law : PySem.W.nsIn K mainGlobals "law" = some (some (.ref f_law))) (l_law : K.lookup f_law = some ⟨oc_law, od_law, .func (PySem.W.fnOf "law" "law" (defArgs s_law) (defBody s_law) (defScope s_law) .none kV_law dc_law pm_law an_law cd_law ct_law), sl_law⟩) (c_law : PySem.W.codeIn K cd_law "law" = true) (k_law : PySem.W.keepIn K (.ref f_law) = true)
    (z_len : PySem.W.nsIn K mainGlobals "len" = some none) (z_all : PySem.W.nsIn K mainGlobals "all" = some none) (z_isinstance : PySem.W.nsIn K mainGlobals "isinstance" = some none) (z_str : PySem.W.nsIn K mainGlobals "str" = some none) (z_enumerate : PySem.W.nsIn K mainGlobals "enumerate" = some none) (z_range : PySem.W.nsIn K mainGlobals "range" = some none) (z_int : PySem.W.nsIn K mainGlobals "int" = some none) (z_bool : PySem.W.nsIn K mainGlobals "bool" = some none) (z_list : PySem.W.nsIn K mainGlobals "list" = some none) (z_zip : PySem.W.nsIn K mainGlobals "zip" = some none) (z_max : PySem.W.nsIn K mainGlobals "max" = some none) (z_ValueError : PySem.W.nsIn K mainGlobals "ValueError" = some none) (z_tuple : PySem.W.nsIn K mainGlobals "tuple" = some none) (n_LONGEST : PySem.W.nsIn K mainGlobals "LONGEST" = some (some (.int 60 t_LONGEST)))
   (a_WheelError : PySem.W.nsIn K mainGlobals "WheelError" = some (some (.ref C_WheelError))) (x_WheelError : PySem.W.excIn K C_WheelError [.type "ValueError", .type "Exception", .type "BaseException", .type "object"] "ValueError.__new__" = true) (g1_WheelError : PySem.W.findIn K (.ref C_WheelError) "__getattribute__" = some (some (.builtin "BaseException.__getattribute__"))) (g2_WheelError : PySem.W.findIn K (.ref C_WheelError) "__getattr__" = some none) (g3_WheelError : PySem.W.findIn K (.ref C_WheelError) "__class__" = some (some (.builtin "object.__class__"))) (v_WheelError : PySem.W.kitOne K (.ref C_WheelError) (.type "ValueError") = some true)
   (a_NoWheel : PySem.W.nsIn K mainGlobals "NoWheel" = some (some (.ref C_NoWheel))) (x_NoWheel : PySem.W.excIn K C_NoWheel [.type "ValueError", .type "Exception", .type "BaseException", .type "object"] "ValueError.__new__" = true) (g1_NoWheel : PySem.W.findIn K (.ref C_NoWheel) "__getattribute__" = some (some (.builtin "BaseException.__getattribute__"))) (g2_NoWheel : PySem.W.findIn K (.ref C_NoWheel) "__getattr__" = some none) (g3_NoWheel : PySem.W.findIn K (.ref C_NoWheel) "__class__" = some (some (.builtin "object.__class__"))) (v_NoWheel : PySem.W.kitOne K (.ref C_NoWheel) (.type "ValueError") = some true)
   (a_NoBeat : PySem.W.nsIn K mainGlobals "NoBeat" = some (some (.ref C_NoBeat))) (x_NoBeat : PySem.W.excIn K C_NoBeat [.type "ValueError", .type "Exception", .type "BaseException", .type "object"] "ValueError.__new__" = true) (g1_NoBeat : PySem.W.findIn K (.ref C_NoBeat) "__getattribute__" = some (some (.builtin "BaseException.__getattribute__"))) (g2_NoBeat : PySem.W.findIn K (.ref C_NoBeat) "__getattr__" = some none) (g3_NoBeat : PySem.W.findIn K (.ref C_NoBeat) "__class__" = some (some (.builtin "object.__class__"))) (v_NoBeat : PySem.W.kitOne K (.ref C_NoBeat) (.type "ValueError") = some true)
   (a_NoText : PySem.W.nsIn K mainGlobals "NoText" = some (some (.ref C_NoText))) (x_NoText : PySem.W.excIn K C_NoText [.type "ValueError", .type "Exception", .type "BaseException", .type "object"] "ValueError.__new__" = true) (g1_NoText : PySem.W.findIn K (.ref C_NoText) "__getattribute__" = some (some (.builtin "BaseException.__getattribute__"))) (g2_NoText : PySem.W.findIn K (.ref C_NoText) "__getattr__" = some none) (g3_NoText : PySem.W.findIn K (.ref C_NoText) "__class__" = some (some (.builtin "object.__class__"))) (v_NoText : PySem.W.kitOne K (.ref C_NoText) (.type "ValueError") = some true)
   (s_WheelError_WheelError : PySem.W.kitOne K (.ref C_WheelError) (.ref C_WheelError) = some true)
   (s_WheelError_NoWheel : PySem.W.kitOne K (.ref C_WheelError) (.ref C_NoWheel) = some false)
   (s_WheelError_NoBeat : PySem.W.kitOne K (.ref C_WheelError) (.ref C_NoBeat) = some false)
   (s_WheelError_NoText : PySem.W.kitOne K (.ref C_WheelError) (.ref C_NoText) = some false)
   (s_NoWheel_WheelError : PySem.W.kitOne K (.ref C_NoWheel) (.ref C_WheelError) = some true)
   (s_NoWheel_NoWheel : PySem.W.kitOne K (.ref C_NoWheel) (.ref C_NoWheel) = some true)
   (s_NoWheel_NoBeat : PySem.W.kitOne K (.ref C_NoWheel) (.ref C_NoBeat) = some false)
   (s_NoWheel_NoText : PySem.W.kitOne K (.ref C_NoWheel) (.ref C_NoText) = some false)
   (s_NoBeat_WheelError : PySem.W.kitOne K (.ref C_NoBeat) (.ref C_WheelError) = some true)
   (s_NoBeat_NoWheel : PySem.W.kitOne K (.ref C_NoBeat) (.ref C_NoWheel) = some false)
   (s_NoBeat_NoBeat : PySem.W.kitOne K (.ref C_NoBeat) (.ref C_NoBeat) = some true)
   (s_NoBeat_NoText : PySem.W.kitOne K (.ref C_NoBeat) (.ref C_NoText) = some false)
   (s_NoText_WheelError : PySem.W.kitOne K (.ref C_NoText) (.ref C_WheelError) = some true)
   (s_NoText_NoWheel : PySem.W.kitOne K (.ref C_NoText) (.ref C_NoWheel) = some false)
   (s_NoText_NoBeat : PySem.W.kitOne K (.ref C_NoText) (.ref C_NoBeat) = some false)
   (s_NoText_NoText : PySem.W.kitOne K (.ref C_NoText) (.ref C_NoText) = some true) : ∃ (fd : FuncData) (cls : String → Value), (∀ (s : Shared) (v : Value), BindsTo s fd ⟨[v], []⟩ [("_law_script", v)]) ∧ ∀ base : Heap, K.In base → base.Ns mainGlobals mg → FnOk l.prog w K mg base (CXe l.prog w) 5 fa fd ["_law_script"] (spD K cls F_law_k71 1) := by
  have e := hfa.symm.trans (PySem.W.mg_of X G a_law)
  cases e
  have d_check_wheel := df_mk (st := s_check_wheel) (ps := ["length"]) (PySem.W.mg_of X G a_check_wheel) l_check_wheel c_check_wheel k_check_wheel fun _ _ _ _ _ _ us hl => match us, hl with | [_], _ => rfl
  have d_check_rising := df_mk (st := s_check_rising) (ps := ["numbers", "end"]) (PySem.W.mg_of X G a_check_rising) l_check_rising c_check_rising k_check_rising fun _ _ _ _ _ _ us hl => match us, hl with | [_, _], _ => rfl
  have d_check_beat := df_mk (st := s_check_beat) (ps := ["length", "beat"]) (PySem.W.mg_of X G a_check_beat) l_check_beat c_check_beat k_check_beat fun _ _ _ _ _ _ us hl => match us, hl with | [_, _], _ => rfl
  have d_has_only := df_mk (st := s_has_only) (ps := ["text", "signs"]) (PySem.W.mg_of X G a_has_only) l_has_only c_has_only k_has_only fun _ _ _ _ _ _ us hl => match us, hl with | [_, _], _ => rfl
  have d_read_beat := df_mk (st := s_read_beat) (ps := ["text"]) (PySem.W.mg_of X G a_read_beat) l_read_beat c_read_beat k_read_beat fun _ _ _ _ _ _ us hl => match us, hl with | [_], _ => rfl
  have d_beat_text := df_mk (st := s_beat_text) (ps := ["length", "beat"]) (PySem.W.mg_of X G a_beat_text) l_beat_text c_beat_text k_beat_text fun _ _ _ _ _ _ us hl => match us, hl with | [_, _], _ => rfl
  have d_law_cell := df_mk (st := s_law_cell) (ps := ["_law_script", "_law_k"]) (PySem.W.mg_of X G a_law_cell) l_law_cell c_law_cell k_law_cell fun _ _ _ _ _ _ us hl => match us, hl with | [_, _], _ => rfl
  have d_law_whole := df_mk (st := s_law_whole) (ps := ["_law_found"]) (PySem.W.mg_of X G a_law_whole) l_law_whole c_law_whole k_law_whole fun _ _ _ _ _ _ us hl => match us, hl with | [_], _ => rfl
  have d_law_beat_is := df_mk (st := s_law_beat_is) (ps := ["_law_found", "_law_due"]) (PySem.W.mg_of X G a_law_beat_is) l_law_beat_is c_law_beat_is k_law_beat_is fun _ _ _ _ _ _ us hl => match us, hl with | [_, _], _ => rfl
  have d_law_some := df_mk (st := s_law_some) (ps := ["_law_script", "_law_start", "_law_length"]) (PySem.W.mg_of X G a_law_some) l_law_some c_law_some k_law_some fun _ _ _ _ _ _ us hl => match us, hl with | [_, _, _], _ => rfl
  have d_law_refused := df_mk (st := s_law_refused) (ps := ["_law_length", "_law_beat"]) (PySem.W.mg_of X G a_law_refused) l_law_refused c_law_refused k_law_refused fun _ _ _ _ _ _ us hl => match us, hl with | [_, _], _ => rfl
  have d_law_spoiled := df_mk (st := s_law_spoiled) (ps := ["_law_length", "_law_beat", "_law_cell_here"]) (PySem.W.mg_of X G a_law_spoiled) l_law_spoiled c_law_spoiled k_law_spoiled fun _ _ _ _ _ _ us hl => match us, hl with | [_, _, _], _ => rfl
  have d_law_read_is := df_mk (st := s_law_read_is) (ps := ["_law_found", "_law_length", "_law_beat"]) (PySem.W.mg_of X G a_law_read_is) l_law_read_is c_law_read_is k_law_read_is fun _ _ _ _ _ _ us hl => match us, hl with | [_, _, _], _ => rfl
  have d_law := df_mk (st := s_law) (ps := ["_law_script"]) (PySem.W.mg_of X G a_law) l_law c_law k_law fun _ _ _ _ _ _ us hl => match us, hl with | [_], _ => rfl
  have xa : XAll K mg (adOf [("WheelError", C_WheelError), ("NoWheel", C_NoWheel), ("NoBeat", C_NoBeat), ("NoText", C_NoText)]) := xall_mk _ (fm_cons ⟨⟨PySem.W.mg_of X G a_WheelError, a_WheelError, x_WheelError⟩, ⟨x_WheelError, g1_WheelError, g2_WheelError, g3_WheelError⟩, v_WheelError⟩ (fm_cons ⟨⟨PySem.W.mg_of X G a_NoWheel, a_NoWheel, x_NoWheel⟩, ⟨x_NoWheel, g1_NoWheel, g2_NoWheel, g3_NoWheel⟩, v_NoWheel⟩ (fm_cons ⟨⟨PySem.W.mg_of X G a_NoBeat, a_NoBeat, x_NoBeat⟩, ⟨x_NoBeat, g1_NoBeat, g2_NoBeat, g3_NoBeat⟩, v_NoBeat⟩ (fm_cons ⟨⟨PySem.W.mg_of X G a_NoText, a_NoText, x_NoText⟩, ⟨x_NoText, g1_NoText, g2_NoText, g3_NoText⟩, v_NoText⟩ (fm_nil))))) (fm_cons (fm_cons s_WheelError_WheelError (fm_cons s_WheelError_NoWheel (fm_cons s_WheelError_NoBeat (fm_cons s_WheelError_NoText (fm_nil))))) (fm_cons (fm_cons s_NoWheel_WheelError (fm_cons s_NoWheel_NoWheel (fm_cons s_NoWheel_NoBeat (fm_cons s_NoWheel_NoText (fm_nil))))) (fm_cons (fm_cons s_NoBeat_WheelError (fm_cons s_NoBeat_NoWheel (fm_cons s_NoBeat_NoBeat (fm_cons s_NoBeat_NoText (fm_nil))))) (fm_cons (fm_cons s_NoText_WheelError (fm_cons s_NoText_NoWheel (fm_cons s_NoText_NoBeat (fm_cons s_NoText_NoText (fm_nil))))) (fm_nil)))))
  have h_WheelError : adOf [("WheelError", C_WheelError), ("NoWheel", C_NoWheel), ("NoBeat", C_NoBeat), ("NoText", C_NoText)] "WheelError" = some C_WheelError := rfl
  have h_NoWheel : adOf [("WheelError", C_WheelError), ("NoWheel", C_NoWheel), ("NoBeat", C_NoBeat), ("NoText", C_NoText)] "NoWheel" = some C_NoWheel := rfl
  have h_NoBeat : adOf [("WheelError", C_WheelError), ("NoWheel", C_NoWheel), ("NoBeat", C_NoBeat), ("NoText", C_NoText)] "NoBeat" = some C_NoBeat := rfl
  have h_NoText : adOf [("WheelError", C_WheelError), ("NoWheel", C_NoWheel), ("NoBeat", C_NoBeat), ("NoText", C_NoText)] "NoText" = some C_NoText := rfl
  have hkn : ∀ c ∈ (["WheelError", "NoWheel", "NoBeat", "NoText"] : List String), ∃ Ca, adOf [("WheelError", C_WheelError), ("NoWheel", C_NoWheel), ("NoBeat", C_NoBeat), ("NoText", C_NoText)] c = some Ca := fm_cons ⟨C_WheelError, rfl⟩ (fm_cons ⟨C_NoWheel, rfl⟩ (fm_cons ⟨C_NoBeat, rfl⟩ (fm_cons ⟨C_NoText, rfl⟩ (fm_nil))))
  refine ⟨PySem.W.fnOf "law" "law" (defArgs s_law) (defBody s_law) (defScope s_law) .none kV_law dc_law pm_law an_law cd_law ct_law, clsOf (adOf [("WheelError", C_WheelError), ("NoWheel", C_NoWheel), ("NoBeat", C_NoBeat), ("NoText", C_NoText)]), fun s v => .of_eq rfl, fun base _ _ => ?_⟩
  have o_check_wheel : FnOk l.prog w K mg base (CXe l.prog w) 1 f_check_wheel _ ["length"] (spD K (clsOf (adOf [("WheelError", C_WheelError), ("NoWheel", C_NoWheel), ("NoBeat", C_NoBeat), ("NoText", C_NoText)])) F_check_wheel 1) := ok_check_wheel d_check_wheel  xa h_NoWheel  (PySem.W.mg_of X G n_LONGEST)
  have o_check_rising : FnOk l.prog w K mg base (CXe l.prog w) 1 f_check_rising _ ["numbers", "end"] (spD K (clsOf (adOf [("WheelError", C_WheelError), ("NoWheel", C_NoWheel), ("NoBeat", C_NoBeat), ("NoText", C_NoText)])) F_check_rising 2) := ok_check_rising d_check_rising  xa h_NoBeat (PySem.W.mg_none_of X G z_len) 
  have o_check_beat : FnOk l.prog w K mg base (CXe l.prog w) 2 f_check_beat _ ["length", "beat"] (spD K (clsOf (adOf [("WheelError", C_WheelError), ("NoWheel", C_NoWheel), ("NoBeat", C_NoBeat), ("NoText", C_NoText)])) F_check_beat 2) := ok_check_beat d_check_beat d_check_wheel o_check_wheel d_check_rising o_check_rising  
  have o_has_only : FnOk l.prog w K mg base (CXe l.prog w) 1 f_has_only _ ["text", "signs"] (spD K (clsOf (adOf [("WheelError", C_WheelError), ("NoWheel", C_NoWheel), ("NoBeat", C_NoBeat), ("NoText", C_NoText)])) F_has_only 2) := ok_has_only d_has_only  (PySem.W.mg_none_of X G z_all) 
  have o_read_beat : FnOk l.prog w K mg base (CXe l.prog w) 2 f_read_beat _ ["text"] (spD K (clsOf (adOf [("WheelError", C_WheelError), ("NoWheel", C_NoWheel), ("NoBeat", C_NoBeat), ("NoText", C_NoText)])) F_read_beat 1) := ok_read_beat d_read_beat d_has_only o_has_only xa h_NoText (PySem.W.mg_none_of X G z_isinstance) (PySem.W.mg_none_of X G z_str) (PySem.W.mg_none_of X G z_len) (PySem.W.mg_none_of X G z_enumerate) (PySem.W.mg_of X G n_LONGEST)
  have o_beat_text : FnOk l.prog w K mg base (CXe l.prog w) 3 f_beat_text _ ["length", "beat"] (spD K (clsOf (adOf [("WheelError", C_WheelError), ("NoWheel", C_NoWheel), ("NoBeat", C_NoBeat), ("NoText", C_NoText)])) F_beat_text 2) := ok_beat_text d_beat_text d_check_beat o_check_beat (PySem.W.mg_none_of X G z_range) 
  have o_law_cell : FnOk l.prog w K mg base (CXe l.prog w) 1 f_law_cell _ ["_law_script", "_law_k"] (spD K (clsOf (adOf [("WheelError", C_WheelError), ("NoWheel", C_NoWheel), ("NoBeat", C_NoBeat), ("NoText", C_NoText)])) F_law_cell 2) := ok_law_cell d_law_cell  (PySem.W.mg_none_of X G z_len) 
  have o_law_whole : FnOk l.prog w K mg base (CXe l.prog w) 1 f_law_whole _ ["_law_found"] (spD K (clsOf (adOf [("WheelError", C_WheelError), ("NoWheel", C_NoWheel), ("NoBeat", C_NoBeat), ("NoText", C_NoText)])) F_law_whole 1) := ok_law_whole d_law_whole  (PySem.W.mg_none_of X G z_isinstance) (PySem.W.mg_none_of X G z_int) (PySem.W.mg_none_of X G z_bool) 
  have o_law_beat_is : FnOk l.prog w K mg base (CXe l.prog w) 2 f_law_beat_is _ ["_law_found", "_law_due"] (spD K (clsOf (adOf [("WheelError", C_WheelError), ("NoWheel", C_NoWheel), ("NoBeat", C_NoBeat), ("NoText", C_NoText)])) F_law_beat_is 2) := ok_law_beat_is d_law_beat_is d_law_whole o_law_whole (PySem.W.mg_none_of X G z_isinstance) (PySem.W.mg_none_of X G z_list) (PySem.W.mg_none_of X G z_len) (PySem.W.mg_none_of X G z_zip) 
  have o_law_some : FnOk l.prog w K mg base (CXe l.prog w) 2 f_law_some _ ["_law_script", "_law_start", "_law_length"] (spD K (clsOf (adOf [("WheelError", C_WheelError), ("NoWheel", C_NoWheel), ("NoBeat", C_NoBeat), ("NoText", C_NoText)])) F_law_some 3) := ok_law_some d_law_some d_law_cell o_law_cell (PySem.W.mg_none_of X G z_range) (PySem.W.mg_none_of X G z_max) 
  have o_law_refused : FnOk l.prog w K mg base (CXe l.prog w) 4 f_law_refused _ ["_law_length", "_law_beat"] (spD K (clsOf (adOf [("WheelError", C_WheelError), ("NoWheel", C_NoWheel), ("NoBeat", C_NoBeat), ("NoText", C_NoText)])) F_law_refused_v7 2) := ok_law_refused d_law_refused d_beat_text o_beat_text xa h_WheelError h_NoText h_NoBeat h_NoWheel hkn (PySem.W.mg_none_of X G z_isinstance) (PySem.W.mg_none_of X G z_ValueError) 
  have o_law_spoiled : FnOk l.prog w K mg base (CXe l.prog w) 1 f_law_spoiled _ ["_law_length", "_law_beat", "_law_cell_here"] (spD K (clsOf (adOf [("WheelError", C_WheelError), ("NoWheel", C_NoWheel), ("NoBeat", C_NoBeat), ("NoText", C_NoText)])) F_law_spoiled 3) := ok_law_spoiled d_law_spoiled  (PySem.W.mg_none_of X G z_len) 
  have o_law_read_is : FnOk l.prog w K mg base (CXe l.prog w) 3 f_law_read_is _ ["_law_found", "_law_length", "_law_beat"] (spD K (clsOf (adOf [("WheelError", C_WheelError), ("NoWheel", C_NoWheel), ("NoBeat", C_NoBeat), ("NoText", C_NoText)])) F_law_read_is 3) := ok_law_read_is d_law_read_is d_law_whole o_law_whole d_law_beat_is o_law_beat_is (PySem.W.mg_none_of X G z_isinstance) (PySem.W.mg_none_of X G z_tuple) (PySem.W.mg_none_of X G z_len) 
  exact ok_law d_law d_law_cell o_law_cell d_law_some o_law_some d_law_refused o_law_refused d_law_spoiled o_law_spoiled d_beat_text o_beat_text d_read_beat o_read_beat d_law_read_is o_law_read_is (PySem.W.mg_none_of X G z_range) (PySem.W.mg_none_of X G z_list) (PySem.W.mg_none_of X G z_int) (PySem.W.mg_none_of X G z_isinstance) (PySem.W.mg_none_of X G z_str) 
end Lk71
set_option linter.all false
namespace Bt
open Dv (ins isort)
theorem sorted_uniq : ∀ {a b : List Int}, a.Perm b → a.Pairwise (· ≤ ·) → b.Pairwise (· ≤ ·) → a = b
  | [], b, p, _, _ => (List.Perm.nil_eq p)
  | x :: a, [], p, _, _ => (nomatch p.length_eq)
  | x :: a, y :: b, p, ha, hb => by
    obtain ⟨a1, a2⟩ := List.pairwise_cons.mp ha
    obtain ⟨b1, b2⟩ := List.pairwise_cons.mp hb
    have hx : x ∈ y :: b := p.mem_iff.mp (List.mem_cons_self ..)
    have hy : y ∈ x :: a := p.mem_iff.mpr (List.mem_cons_self ..)
    have e : x = y := by
      rcases List.mem_cons.mp hx with e | hx
      · exact e
      · rcases List.mem_cons.mp hy with e | hy
        · exact e.symm
        · have := a1 y hy; have := b1 x hx; omega
    subst e
    rw [sorted_uniq (List.Perm.cons_inv p) a2 b2]
structure Beat (n : Int) (xs : List Int) : Prop where
  ne : xs ≠ []
  up : xs.Pairwise (· < ·)
  rg : ∀ x ∈ xs, 0 ≤ x ∧ x < n
theorem Beat.nd {n : Int} {xs : List Int} (h : Beat n xs) : xs.Nodup := h.up.imp fun {a b} h e => by omega
theorem up_len : ∀ {xs : List Int} {lo hi : Int}, xs.Pairwise (· < ·) → (∀ x ∈ xs, lo ≤ x ∧ x < hi) → (xs.length : Int) ≤ max 0 (hi - lo)
  | [], lo, hi, _, _ => by simp; omega
  | x :: r, lo, hi, h, g => by
    obtain ⟨h1, h2⟩ := List.pairwise_cons.mp h
    have gx := g x (List.mem_cons_self ..)
    have := up_len (lo := x + 1) (hi := hi) h2 fun y hy => ⟨h1 y hy, (g y (List.mem_cons_of_mem _ hy)).2⟩
    rw [List.length_cons]
    omega
theorem Beat.len {n : Int} {xs : List Int} (h : Beat n xs) : (xs.length : Int) ≤ n := by
  have := up_len h.up h.rg
  obtain ⟨x, hx⟩ := List.exists_mem_of_ne_nil xs h.ne
  have := h.rg x hx
  omega
theorem Beat.pos {n : Int} {xs : List Int} (h : Beat n xs) : 1 ≤ n := by
  obtain ⟨x, hx⟩ := List.exists_mem_of_ne_nil xs h.ne
  have := h.rg x hx
  omega
theorem Beat.len1 {n : Int} {xs : List Int} (h : Beat n xs) : 1 ≤ xs.length := by
  cases xs with
  | nil => exact absurd rfl h.ne
  | cons a r => simp
theorem mod_rg {n a : Int} (hn : 0 < n) : 0 ≤ a % n ∧ a % n < n := ⟨Int.emod_nonneg _ (by omega), Int.emod_lt_of_pos _ hn⟩
def again (n : Int) (xs : List Int) : Nat → List Int
  | 0 => []
  | t + 1 => again n xs t ++ xs.map (· + t * n)
def mix (xs : List Int) (t : Int) : Nat → List Int
  | 0 => []
  | j + 1 => mix xs t j ++ xs.map (· * t + j)
end Bt
set_option linter.all false
namespace Cw
open Dv (D R RL EE EL EI RI Sl Out SS St)
open Bt
abbrev L (xs : List Int) : D := .lst (xs.map .int)
theorem flat_L : ∀ xs : List Int, Dv.flatL (xs.map .int) = true
  | [] => rfl
  | x :: r => by simp [Dv.flatL, Dv.scal, flat_L r]
theorem in_L (i : Int) : ∀ xs : List Int, Dv.inD i (xs.map .int) = some (decide (i ∈ xs))
  | [] => by simp [Dv.inD]
  | x :: r => by
    rw [List.map_cons]
    unfold Dv.inD
    rw [in_L i r]
    by_cases h : x = i
    · subst h; simp
    · have h2 : ¬ i = x := fun e => h e.symm
      simp [h, h2]
theorem eq_LL : ∀ a b : List Int, Dv.eqDL (a.map .int) (b.map .int) = some (decide (a = b))
  | [], [] => by simp [Dv.eqDL]
  | [], _ :: _ => by simp [Dv.eqDL]
  | _ :: _, [] => by simp [Dv.eqDL]
  | x :: a, y :: b => by
    rw [List.map_cons, List.map_cons]
    unfold Dv.eqDL
    rw [eq_LL a b]
    simp only [Dv.eqD]
    by_cases h : x = y <;> by_cases h2 : a = b <;> simp [h, h2]
theorem eq_L (a b : List Int) : Dv.eqD (L a) (L b) = some (decide (a = b)) := by unfold Dv.eqD; exact eq_LL a b
theorem eq_int (a b : Int) : Dv.eqD (.int a) (.int b) = some (decide (a = b)) := by unfold Dv.eqD; rfl
theorem dep_L : ∀ xs : List Int, Dv.depthL (xs.map .int) = 0
  | [] => by simp [Dv.depthL]
  | x :: r => by rw [List.map_cons]; unfold Dv.depthL; rw [dep_L r]; simp [Dv.depthD]
theorem dep_LL (xs : List Int) : Dv.depthD (L xs) = 1 := by unfold Dv.depthD; rw [dep_L]
theorem dep_int (i : Int) : Dv.depthD (.int i) = 0 := by unfold Dv.depthD; rfl
theorem at_L {s : List Int} {k : Int} (h : 0 ≤ k) (h2 : k < s.length) : Dv.at? (s.map .int) k = some (.int (s.getD k.toNat 0)) := by
  unfold Dv.at?
  rw [if_pos h]
  have : k.toNat < s.length := by omega
  simp [List.getElem?_map, List.getD_eq_getElem?_getD, List.getElem?_eq_getElem this]
theorem cm_eqL (a b : List Int) : Dv.cmD .eq (L a) (L b) = .ok (.bl (decide (a = b))) true := by
  simp only [Dv.cmD, dep_LL, dep_LL, eq_L, Dv.optB, Option.map_some]; rfl
theorem cm_neL (a b : List Int) : Dv.cmD .ne (L a) (L b) = .ok (.bl (!decide (a = b))) true := by
  simp only [Dv.cmD, dep_LL, dep_LL, eq_L, Dv.optB, Option.map_some]; rfl
theorem cm_eqI (a b : Int) : Dv.cmD .eq (.int a) (.int b) = .ok (.bl (decide (a = b))) true := by
  simp only [Dv.cmD, dep_int, dep_int, eq_int, Dv.optB, Option.map_some]; rfl
theorem cm_neI (a b : Int) : Dv.cmD .ne (.int a) (.int b) = .ok (.bl (!decide (a = b))) true := by
  simp only [Dv.cmD, dep_int, dep_int, eq_int, Dv.optB, Option.map_some]; rfl
theorem cm_eqN (a : List Int) : Dv.cmD .eq (L a) (.lst []) = .ok (.bl (decide (a = []))) true := cm_eqL a []
theorem cm_in (i : Int) (b : List Int) : Dv.cmD .isin (.int i) (L b) = .ok (.bl (decide (i ∈ b))) true := by
  simp only [Dv.cmD, in_L, Dv.optB, Option.map_some]
theorem cm_eqS (a b : List Nat) : Dv.cmD .eq (.str a) (.str b) = .ok (.bl (decide (Dv.clipS a = Dv.clipS b))) true := by
  simp [Dv.cmD, Dv.eqD, Dv.depthD, Dv.optB]
theorem cm_neS (a b : List Nat) : Dv.cmD .ne (.str a) (.str b) = .ok (.bl (!decide (Dv.clipS a = Dv.clipS b))) true := by
  simp [Dv.cmD, Dv.eqD, Dv.depthD, Dv.optB]
theorem scal_str (x : List Nat) : Dv.scal (.str x) = true := rfl
theorem cm_lt (a b : Int) : Dv.cmD .lt (.int a) (.int b) = .ok (.bl (decide (a < b))) true := rfl
theorem cm_le (a b : Int) : Dv.cmD .le (.int a) (.int b) = .ok (.bl (decide (a ≤ b))) true := rfl
theorem cm_gt (a b : Int) : Dv.cmD .gt (.int a) (.int b) = .ok (.bl (decide (b < a))) true := rfl
theorem cm_ge (a b : Int) : Dv.cmD .ge (.int a) (.int b) = .ok (.bl (decide (b ≤ a))) true := rfl
theorem mulOk_l {i j : Int} (h : -(2 ^ 64) < i) (h2 : i < 2 ^ 64) : Dv.mulOk i j = true := by
  have : Dv.bits i ≤ 64 := by
    unfold Dv.bits
    split
    · omega
    · have h3 : i.natAbs < 2 ^ 64 := by omega
      have := (Nat.log2_lt (by omega)).mpr h3
      omega
  simp [Dv.mulOk, this]
theorem mulOk_r {i j : Int} (h : -(2 ^ 64) < j) (h2 : j < 2 ^ 64) : Dv.mulOk i j = true := by
  have : Dv.bits j ≤ 64 := by
    unfold Dv.bits
    split
    · omega
    · have h3 : j.natAbs < 2 ^ 64 := by omega
      have := (Nat.log2_lt (by omega)).mpr h3
      omega
  simp [Dv.mulOk, this]
theorem mulOk_b {i j : Int} (h : Dv.bits i ≤ 1048576) (h2 : Dv.bits j ≤ 1048576) : Dv.mulOk i j = true := by
  simp [Dv.mulOk, h, h2]
theorem bits_lt {i : Int} {k : Nat} (hk : 0 < k) (h : -(2 ^ k) < i) (h2 : i < 2 ^ k) : Dv.bits i ≤ k := by
  unfold Dv.bits
  split
  · omega
  · have h3 : i.natAbs < 2 ^ k := by
      have e : ((2 ^ k : Nat) : Int) = 2 ^ k := by norm_cast
      omega
    have := (Nat.log2_lt (by omega)).mpr h3
    omega
theorem mul_ok {i j : Int} (h : Dv.mulOk i j = true) : Dv.opD .mul (.int i) (.int j) = .ok (.int (i * j)) true := by
  simp [Dv.opD, h]
theorem mod_ok {i j : Int} (h : 0 < j) : Dv.opD .mod (.int i) (.int j) = .ok (.int (i % j)) true := by
  simp [Dv.opD, h]
theorem shr_ok {i j : Int} (h : 0 ≤ j) : Dv.opD .shr (.int i) (.int j) = .ok (.int (i / 2 ^ j.toNat)) true := by
  simp [Dv.opD, h]
theorem divOk_of {j : Int} (h : 0 < j) (h2 : j < 2 ^ 200) : Dv.divOk j = true := by
  have h3 : j.natAbs < 2 ^ 200 := by omega
  have := (Nat.log2_lt (by omega)).mpr h3
  simp only [Dv.divOk, Bool.and_eq_true, decide_eq_true_eq]
  omega
theorem fdiv_ok {i j : Int} (h : 0 < j) (h2 : j < 2 ^ 200) : Dv.opD .fdiv (.int i) (.int j) = .ok (.int (i / j)) true := by
  simp [Dv.opD, divOk_of h h2]
theorem add_ok (i j : Int) : Dv.opD .add (.int i) (.int j) = .ok (.int (i + j)) true := rfl
theorem sub_ok (i j : Int) : Dv.opD .sub (.int i) (.int j) = .ok (.int (i - j)) true := rfl
theorem cat_ok {a b : List Int} (h : a.length + b.length ≤ 100000) : Dv.opD .add (L a) (L b) = .ok (L (a ++ b)) true := by
  simp [Dv.opD, Dv.mx, h, flat_L]
theorem get_no : Sl.get .no = none := rfl
theorem get_dp (d : D) : Sl.get (.dp d) = some d := rfl
theorem get_sh (d : D) : Sl.get (.sh d) = some d := rfl
theorem get_ow (d : D) : Sl.get (.ow d) = some d := rfl
theorem give_sh (d : D) : Sl.give (.sh d) = .sh d := rfl
theorem shared_no : Sl.shared .no = none := rfl
theorem shared_sh (d : D) : Sl.shared (.sh d) = some d := rfl
theorem shared_ow (d : D) : Sl.shared (.ow d) = none := rfl
theorem scal_int (i : Int) : Dv.scal (.int i) = true := rfl
theorem scal_lst (i : List D) : Dv.scal (.lst i) = false := rfl
theorem scal_tup (i : List D) : Dv.scal (.tup i) = false := rfl
theorem keep_int (i : Int) (f : Bool) : Dv.keepD (.int i) f = some (.sh (.int i)) := rfl
theorem keep_nil : Dv.keepD (.lst []) true = some (.ow (.lst [])) := rfl
theorem keep_L (xs : List Int) : Dv.keepD (L xs) true = some (.ow (L xs)) := by simp [Dv.keepD, flat_L]
def upto (n : Nat) : List Int := (List.range n).map fun (i : Nat) => (i : Int)
theorem rangeL_eq (lo : Int) : ∀ n : Nat, Dv.rangeL lo n = ((List.range n).map fun (i : Nat) => lo + (i : Int)).map D.int
  | 0 => rfl
  | n + 1 => by
    unfold Dv.rangeL
    rw [rangeL_eq (lo + 1) n, List.range_succ_eq_map, List.map_cons, List.map_cons, List.map_map, List.map_map, List.map_map]
    simp only [Int.natCast_zero, Int.add_zero, List.cons.injEq, true_and]
    apply List.map_congr_left
    intro i _
    simp only [Function.comp, Int.natCast_succ]
    congr 1
    omega
theorem range_upto (n : Nat) : Dv.rangeL 0 n = (upto n).map .int := by rw [rangeL_eq]; simp [upto]
theorem upto_len (n : Nat) : (upto n).length = n := by simp [upto]
theorem mem_upto {n : Nat} {x : Int} : x ∈ upto n ↔ 0 ≤ x ∧ x < n := by
  unfold upto
  rw [List.mem_map]
  constructor
  · rintro ⟨i, hi, rfl⟩; have := List.mem_range.mp hi; omega
  · intro h; exact ⟨x.toNat, List.mem_range.mpr (by omega), by omega⟩
theorem forGo_nx {x : Nat} {body : SS} {d : D} {r : List D} {st st' : St} (h : body (st.set x (.sh d)) = .nx st') : Dv.forGo x body (d :: r) st = Dv.forGo x body r st' := by
  conv => lhs; unfold Dv.forGo
  rw [h]
theorem forGo_exc {x : Nat} {body : SS} {d : D} {r : List D} {st st' : St} {c : String} (h : body (st.set x (.sh d)) = .exc c st') : Dv.forGo x body (d :: r) st = .exc c st' := by
  conv => lhs; unfold Dv.forGo
  rw [h]
theorem forGoT_nx {tgt : D → St → Option St} {body : SS} {d : D} {r : List D} {st st1 st' : St} (h0 : tgt d st = some st1) (h : body st1 = .nx st') : Dv.forGoT tgt body (d :: r) st = Dv.forGoT tgt body r st' := by
  conv => lhs; unfold Dv.forGoT
  rw [h0]; simp only [h]
theorem forGoT_ret {tgt : D → St → Option St} {body : SS} {d : D} {r : List D} {st st1 : St} {v : D} {f : Bool} (h0 : tgt d st = some st1) (h : body st1 = .ret v f) : Dv.forGoT tgt body (d :: r) st = .ret v f := by
  conv => lhs; unfold Dv.forGoT
  rw [h0]; simp only [h]
end Cw
set_option linter.all false
set_option maxRecDepth 10000
set_option maxHeartbeats 1000000
namespace Cw
open Dv (D R RL EE EL EI RI Sl Out SS St)
open Bt
theorem check_wheel_ok {n : Int} (h : 1 ≤ n) (h2 : n ≤ 60) : F_check_wheel [.int n] = .ok .non true := by
  simp only [F_check_wheel, b_check_wheel, Dv.fn, Dv.sNil, Dv.sIf, Dv.eOr, Dv.eCm, Dv.eVar, Dv.eInt, Dv.all, Dv.R.bind, Dv.RL.bind, Dv.Out.bind, get_sh, scal_int, List.map_cons, List.map_nil, List.length_cons, List.length_nil, List.replicate, List.cons_append, List.nil_append, List.getElem?_cons_zero, Nat.reduceAdd, Nat.reduceSub, cm_lt, cm_gt, decide_eq_false (show ¬ n < 1 by omega), decide_eq_false (show ¬ 60 < n by omega)]
def upFrom (b n : Int) : List Int → Bool
  | [] => true
  | x :: r => decide (b < x) && decide (x < n) && upFrom x n r
theorem upFrom_iff : ∀ {xs : List Int} {b n : Int}, upFrom b n xs = true ↔ xs.Pairwise (· < ·) ∧ ∀ x ∈ xs, b < x ∧ x < n
  | [], b, n => by simp [upFrom]
  | x :: r, b, n => by
    unfold upFrom
    rw [Bool.and_eq_true, Bool.and_eq_true, decide_eq_true_eq, decide_eq_true_eq, upFrom_iff, List.pairwise_cons]
    constructor
    · rintro ⟨⟨h1, h2⟩, h3, h4⟩
      refine ⟨⟨fun y hy => (h4 y hy).1, h3⟩, fun y hy => ?_⟩
      rcases List.mem_cons.mp hy with rfl | hy
      · exact ⟨h1, h2⟩
      · have := h4 y hy; omega
    · rintro ⟨⟨h1, h2⟩, h3⟩
      have := h3 x (List.mem_cons_self ..)
      exact ⟨this, h2, fun y hy => ⟨h1 y hy, (h3 y (List.mem_cons_of_mem _ hy)).2⟩⟩
theorem beat_iff {n : Int} {xs : List Int} : Beat n xs ↔ xs ≠ [] ∧ upFrom (-1) n xs = true := by
  rw [upFrom_iff]
  constructor
  · intro h; exact ⟨h.ne, h.up, fun x hx => by have := h.rg x hx; omega⟩
  · rintro ⟨h1, h2, h3⟩; exact ⟨h1, h2, fun x hx => by have := h3 x hx; omega⟩
theorem check_beat_loop (n : Int) (A : D) : ∀ (xs : List Int) (b : Int) (z : Sl), upFrom b n xs = true → ∃ st', Dv.forGo 3 b_check_rising_l1 (xs.map .int) [.sh A, .sh (.int n), .sh (.int b), z] = .nx st'
  | [], b, z, _ => ⟨_, rfl⟩
  | x :: r, b, z, hu => by
    unfold upFrom at hu
    rw [Bool.and_eq_true, Bool.and_eq_true, decide_eq_true_eq, decide_eq_true_eq] at hu
    obtain ⟨⟨h1, h2⟩, h3⟩ := hu
    obtain ⟨st', h⟩ := check_beat_loop n A r x (.sh (.int x)) h3
    refine ⟨st', ?_⟩
    rw [List.map_cons, forGo_nx (st' := [.sh A, .sh (.int n), .sh (.int x), .sh (.int x)]), h]
    simp only [b_check_rising_l1, Dv.sCons, Dv.sNil, Dv.sSetG, Dv.give, Dv.open_, give_sh, shared_sh, Dv.sIf, Dv.eOr, Dv.eCm, Dv.eVar, Dv.all, Dv.R.bind, Dv.RL.bind, Dv.Out.bind, get_sh, scal_int, List.map_cons, List.map_nil, List.getElem?_cons_zero, List.getElem?_cons_succ, List.set_cons_zero, List.set_cons_succ, List.foldl_cons, List.foldl_nil, Option.getD_some, cm_le, cm_ge, decide_eq_false (show ¬ x ≤ b by omega), decide_eq_false (show ¬ n ≤ x by omega)]
theorem check_rising_ok {n : Int} {xs : List Int} (h1 : xs ≠ []) (h : upFrom (-1) n xs = true) : F_check_rising [L xs, .int n] = .ok .non true := by
  obtain ⟨st', e⟩ := check_beat_loop n (L xs) xs (-1) .no h
  have h1 : ¬ ((xs.length : Int) = 0) := by
    have := List.length_pos_iff.mpr h1
    omega
  simp only [F_check_rising, b_check_rising, b_check_rising_t2, b_check_rising_t1, Dv.fn, Dv.sCons, Dv.sNil, Dv.sSet, keep_int, Dv.give, Dv.open_, give_sh, shared_no, shared_sh, Dv.sIf, Dv.sFor, Dv.iSeq, Dv.eB1, Dv.lenD, Dv.eNeg, Dv.eCm, Dv.eVar, Dv.eInt, Dv.all, Dv.R.bind, Dv.RL.bind, Dv.Out.bind, get_no, get_sh, scal_lst, List.map_cons, List.map_nil, List.length_cons, List.length_nil, List.replicate, List.cons_append, List.nil_append, List.getElem?_cons_zero, List.set_cons_zero, List.set_cons_succ, List.foldl_cons, List.foldl_nil, Option.getD_some, Nat.reduceAdd, Nat.reduceSub, cm_eqI, List.length_map, decide_eq_false h1, e]
theorem check_beat_ok {n : Int} {xs : List Int} (hn : n ≤ 60) (h : Beat n xs) : F_check_beat [.int n, L xs] = .ok .non true := by
  have e := check_rising_ok h.ne (beat_iff.mp h).2
  simp only [F_check_beat, b_check_beat, b_check_beat_t1, Dv.fn, Dv.sCons, Dv.sExpr, Dv.eVar, Dv.lNil, Dv.lCons, Dv.eCall, Dv.all, Dv.R.bind, Dv.RL.bind, Dv.R.bindL, Dv.RL.bindL, Dv.Out.bind, get_sh, scal_int, scal_lst, List.map_cons, List.map_nil, List.length_cons, List.length_nil, List.replicate, List.cons_append, List.nil_append, List.getElem?_cons_zero, List.getElem?_cons_succ, Bool.and_true, Nat.reduceAdd, Nat.reduceSub, check_wheel_ok h.pos hn, e]
def cell (s : List Int) (k : Int) : Int :=
  if k < s.length then s.getD k.toNat 0 else
  if 0 < s.length then
    (s.getD (k % s.length).toNat 0 * 48271 + k * 7919) % 2147483647 * ((s.getD (k % s.length).toNat 0 * 48271 + k * 7919) % 2147483647) % 2147483629
  else (7919 * k + 5) * (7919 * k + 5) % 2147483629
theorem cell_ok {s : List Int} {k : Int} (h : 0 ≤ k) (h2 : k ≤ 1000000) : F_law_cell [L s, .int k] = .ok (.int (cell s k)) true := by
  by_cases hk : k < (s.length : Int)
  · simp only [F_law_cell, b_law_cell, b_law_cell_t3, b_law_cell_t2, b_law_cell_t1, Dv.fn, Dv.sCons, Dv.sIf, Dv.sRet, Dv.eB1, Dv.lenD, Dv.eIx, Dv.ixD, Dv.eCm, Dv.eVar, Dv.all, Dv.R.bind, Dv.RL.bind, Dv.Out.bind, get_no, get_sh, scal_int, scal_lst, List.map_cons, List.map_nil, List.length_cons, List.length_nil, List.replicate, List.cons_append, List.nil_append, List.getElem?_cons_zero, List.getElem?_cons_succ, Bool.or_true, Nat.reduceAdd, Nat.reduceSub, cm_lt, List.length_map, at_L h hk, decide_eq_true hk, cell, if_pos hk]
  · by_cases hs : 0 < s.length
    · have hs' : (0 : Int) < (s.length : Int) := by omega
      have hm := mod_rg (n := (s.length : Int)) (a := k) hs'
      have hz := mod_rg (n := 2147483647) (a := s.getD (k % (s.length : Int)).toNat 0 * 48271 + k * 7919) (by omega)
      simp only [F_law_cell, b_law_cell, b_law_cell_t3, b_law_cell_t2, b_law_cell_t1, Dv.fn, Dv.sCons, Dv.sNil, Dv.sSet, keep_int, Dv.sIf, Dv.sRet, Dv.eB1, Dv.lenD, Dv.eIx, Dv.ixD, Dv.eCm, Dv.eOp, Dv.eVar, Dv.eInt, Dv.all, Dv.R.bind, Dv.RL.bind, Dv.Out.bind, get_no, get_sh, scal_int, scal_lst, List.map_cons, List.map_nil, List.length_cons, List.length_nil, List.replicate, List.cons_append, List.nil_append, List.getElem?_cons_zero, List.getElem?_cons_succ, List.set_cons_zero, List.set_cons_succ, Bool.or_true, Nat.reduceAdd, Nat.reduceSub, add_ok, cm_lt, cm_gt, List.length_map, decide_eq_false hk, cell, if_neg hk, if_pos hs, decide_eq_true hs', mod_ok hs', at_L hm.1 hm.2, mul_ok (mulOk_r (j := 48271) (by decide) (by decide)), mul_ok (mulOk_r (j := 7919) (by decide) (by decide)), mul_ok (mulOk_l (i := 7919) (by decide) (by decide)), mod_ok (j := 2147483647) (by decide), mod_ok (j := 2147483629) (by decide)]
      simp only [mul_ok (mulOk_l (i := (s.getD (k % (s.length : Int)).toNat 0 * 48271 + k * 7919) % 2147483647) (by omega) (by omega)), mod_ok (j := 2147483629) (by decide)]
    · have hs' : ¬ (0 : Int) < (s.length : Int) := by omega
      simp only [F_law_cell, b_law_cell, b_law_cell_t3, b_law_cell_t2, b_law_cell_t1, Dv.fn, Dv.sCons, Dv.sNil, Dv.sSet, keep_int, Dv.sIf, Dv.sRet, Dv.eB1, Dv.lenD, Dv.eCm, Dv.eOp, Dv.eVar, Dv.eInt, Dv.all, Dv.R.bind, Dv.RL.bind, Dv.Out.bind, get_no, get_sh, scal_int, scal_lst, List.map_cons, List.map_nil, List.length_cons, List.length_nil, List.replicate, List.cons_append, List.nil_append, List.getElem?_cons_zero, List.getElem?_cons_succ, List.set_cons_zero, List.set_cons_succ, Nat.reduceAdd, Nat.reduceSub, add_ok, cm_lt, cm_gt, List.length_map, decide_eq_false hk, cell, if_neg hk, if_neg hs, decide_eq_false hs', mul_ok (mulOk_l (i := 7919) (by decide) (by decide)), mul_ok (mulOk_l (i := 7919 * k + 5) (by omega) (by omega)), mod_ok (j := 2147483629) (by decide)]
def Sm (s : List Int) : Prop := ∀ x ∈ s, Dv.bits x ≤ 1048576
theorem getD_mem {s : List Int} {i : Nat} (h : i < s.length) : s.getD i 0 ∈ s := by
  rw [List.getD_eq_getElem?_getD, List.getElem?_eq_getElem h]; exact List.getElem_mem h
theorem cell_bits {s : List Int} (hs : Sm s) {k : Int} (h : 0 ≤ k) : Dv.bits (cell s k) ≤ 1048576 := by
  have small : ∀ a : Int, Dv.bits (a % 2147483629) ≤ 1048576 := fun a => by
    have := mod_rg (n := 2147483629) (a := a) (by omega)
    have := bits_lt (i := a % 2147483629) (k := 32) (by omega) (by omega) (by omega)
    omega
  unfold cell
  split
  · exact hs _ (getD_mem (by omega))
  · split
    · exact small _
    · exact small _
theorem mul_cell {s : List Int} (hs : Sm s) {k j : Int} (h : 0 ≤ k) (hj : -(2 ^ 200) < j) (hj2 : j < 2 ^ 200) : Dv.opD .mul (.int (cell s k)) (.int j) = .ok (.int (cell s k * j)) true :=
  mul_ok (mulOk_b (cell_bits hs h) (by have := bits_lt (i := j) (k := 200) (by omega) hj hj2; omega))
theorem whole_ok (x : Int) : F_law_whole [.int x] = .ok (.bl true) true := by
  simp only [F_law_whole, b_law_whole, Dv.fn, Dv.sRet, Dv.eB1, Dv.isIntD, Dv.isBoolD, Dv.eAnd, Dv.eNot, Dv.eVar, Dv.all, Dv.R.bind, Dv.RL.bind, Dv.Out.bind, get_sh, scal_int, List.map_cons, List.map_nil, List.length_cons, List.length_nil, List.replicate, List.cons_append, List.nil_append, List.getElem?_cons_zero, Bool.not_false, Nat.reduceAdd, Nat.reduceSub]
theorem beat_is_loop : ∀ (xs ys : List Int) (A B : D) (y z : Sl), xs.length = ys.length → ∃ st', Dv.forGoT (Dv.tupTo [2, 3]) b_law_beat_is_l1 (List.zipWith (fun x y => D.tup [x, y]) (xs.map .int) (ys.map .int)) [.sh A, .sh B, y, z] = if xs = ys then .nx st' else .ret (.bl false) true
  | [], [], A, B, y, z, _ => ⟨_, rfl⟩
  | [], _ :: _, A, B, y, z, h => by simp at h
  | _ :: _, [], A, B, y, z, h => by simp at h
  | x :: xs, w :: ys, A, B, y, z, h => by
    obtain ⟨st', e⟩ := beat_is_loop xs ys A B (.sh (.int x)) (.sh (.int w)) (by simpa using h)
    refine ⟨st', ?_⟩
    have h0 : Dv.tupTo [2, 3] (.tup [.int x, .int w]) [.sh A, .sh B, y, z] = some [.sh A, .sh B, .sh (.int x), .sh (.int w)] := rfl
    rw [List.map_cons, List.map_cons, List.zipWith_cons_cons]
    by_cases hxw : x = w
    · rw [forGoT_nx h0 (st' := [.sh A, .sh B, .sh (.int x), .sh (.int w)]), e]
      · simp [hxw]
      · simp only [b_law_beat_is_l1, Dv.sNil, Dv.sIf, Dv.eOr, Dv.eNot, Dv.eCm, Dv.eVar, Dv.lNil, Dv.lCons, Dv.eCall, Dv.all, Dv.R.bind, Dv.RL.bind, Dv.R.bindL, Dv.RL.bindL, Dv.Out.bind, get_sh, scal_int, List.map_cons, List.map_nil, List.getElem?_cons_zero, List.getElem?_cons_succ, Bool.and_true, Bool.not_true, cm_neI, whole_ok, decide_eq_true hxw]
    · rw [forGoT_ret h0 (v := .bl false) (f := true)]
      · simp [hxw]
      · simp only [b_law_beat_is_l1, Dv.sIf, Dv.sRet, Dv.eOr, Dv.eNot, Dv.eCm, Dv.eVar, Dv.eBl, Dv.lNil, Dv.lCons, Dv.eCall, Dv.all, Dv.R.bind, Dv.RL.bind, Dv.R.bindL, Dv.RL.bindL, Dv.Out.bind, get_sh, scal_int, List.map_cons, List.map_nil, List.getElem?_cons_zero, List.getElem?_cons_succ, Bool.and_true, Bool.not_true, Bool.not_false, cm_neI, whole_ok, decide_eq_false hxw]
theorem beat_is_ok (xs ys : List Int) : F_law_beat_is [L xs, L ys] = .ok (.bl (decide (xs = ys))) true := by
  by_cases h : xs.length = ys.length
  · obtain ⟨st', e⟩ := beat_is_loop xs ys (L xs) (L ys) .no .no h
    have h1 : (xs.length : Int) = ys.length := by omega
    simp only [F_law_beat_is, b_law_beat_is, b_law_beat_is_t2, b_law_beat_is_t1, Dv.fn, Dv.sCons, Dv.sNil, Dv.give, Dv.open_, give_sh, shared_no, shared_sh, Dv.sIf, Dv.sRet, Dv.sForT, Dv.iZip, Dv.eB1, Dv.lenD, Dv.isListD, Dv.eOr, Dv.eNot, Dv.eCm, Dv.eVar, Dv.eBl, Dv.all, Dv.R.bind, Dv.RL.bind, Dv.Out.bind, get_no, get_sh, scal_lst, List.map_cons, List.map_nil, List.length_cons, List.length_nil, List.replicate, List.cons_append, List.nil_append, List.getElem?_cons_zero, List.getElem?_cons_succ, List.set_cons_zero, List.set_cons_succ, List.foldl_cons, List.foldl_nil, Option.getD_some, Bool.not_true, Nat.reduceAdd, Nat.reduceSub, decide_true, cm_neI, List.length_map, h1, e]
    by_cases h2 : xs = ys
    · simp [h2]
    · simp [h2]
  · have h1 : ¬ (xs.length : Int) = ys.length := by omega
    have h2 : ¬ xs = ys := fun z => h (by rw [z])
    simp only [F_law_beat_is, b_law_beat_is, b_law_beat_is_t2, b_law_beat_is_t1, Dv.fn, Dv.sCons, Dv.sIf, Dv.sRet, Dv.eB1, Dv.lenD, Dv.isListD, Dv.eOr, Dv.eNot, Dv.eCm, Dv.eVar, Dv.eBl, Dv.all, Dv.R.bind, Dv.RL.bind, Dv.Out.bind, get_no, get_sh, scal_lst, List.map_cons, List.map_nil, List.length_cons, List.length_nil, List.replicate, List.cons_append, List.nil_append, List.getElem?_cons_zero, List.getElem?_cons_succ, Bool.not_true, Bool.not_false, Nat.reduceAdd, Nat.reduceSub, cm_neI, List.length_map, decide_eq_false h1, decide_eq_false h2]
end Cw
set_option linter.all false
set_option maxRecDepth 10000
set_option maxHeartbeats 1000000
namespace Cw
open Dv (D R RL EE EL EI RI Sl Out SS St)
open Bt
theorem app_L (xs : List Int) (p : Int) : xs.map D.int ++ [.int p] = (xs ++ [p]).map D.int := by simp
def bitOf (bits share p : Int) : Int :=
  if share = 4 then (if bits / 2 ^ ((p + 7) % 61).toNat % 2 > bits / 2 ^ p.toNat % 2 then bits / 2 ^ ((p + 7) % 61).toNat % 2 else bits / 2 ^ p.toNat % 2)
  else if share = 3 then bits / 2 ^ p.toNat % 2 * (bits / 2 ^ ((p + 7) % 61).toNat % 2) else bits / 2 ^ p.toNat % 2
theorem some_body {bits share p : Int} (hp : 0 ≤ p) {found : List Int} (hl : found.length ≤ 1000) (A B C : D) (z : Sl) :
    ∃ z', b_law_some_l1 [.sh A, .sh B, .sh C, .sh (.int bits), .sh (.int share), .ow (L found), .sh (.int p), z] = .nx [.sh A, .sh B, .sh C, .sh (.int bits), .sh (.int share), .ow (L (if bitOf bits share p = 1 then found ++ [p] else found)), .sh (.int p), z'] := by
  have hm := mod_rg (n := 61) (a := p + 7) (by omega)
  have hx : found.length < Dv.mx := by unfold Dv.mx; omega
  have h2 : (0 : Int) < 2 := by omega
  have hb := mod_rg (n := 2) (a := bits / 2 ^ p.toNat) (by omega)
  have go : ∀ b : Int, bitOf bits share p = b → (∃ z', Dv.sIf (Dv.eCm .eq (Dv.eVar 7) (Dv.eInt 1)) (Dv.sApp 5 (Dv.eVar 6)) Dv.sNil [.sh A, .sh B, .sh C, .sh (.int bits), .sh (.int share), .ow (L found), .sh (.int p), .sh (.int b)] = .nx [.sh A, .sh B, .sh C, .sh (.int bits), .sh (.int share), .ow (L (if bitOf bits share p = 1 then found ++ [p] else found)), .sh (.int p), z']) := by
    intro b e
    refine ⟨.sh (.int b), ?_⟩
    rw [e]
    by_cases h1 : b = 1
    · simp only [Dv.sIf, Dv.sApp, Dv.eCm, Dv.eVar, Dv.eInt, Dv.all, Dv.R.bind, Dv.RL.bind, Dv.Out.bind, get_sh, get_ow, scal_int, List.map_cons, List.map_nil, List.getElem?_cons_zero, List.getElem?_cons_succ, List.set_cons_zero, List.set_cons_succ, Bool.and_true, if_true, cm_eqI, List.length_map, decide_eq_true h1, decide_eq_true hx, if_pos h1, app_L, L]
    · simp only [Dv.sNil, Dv.sIf, Dv.eCm, Dv.eVar, Dv.eInt, Dv.all, Dv.R.bind, Dv.RL.bind, Dv.Out.bind, get_sh, get_ow, scal_int, List.map_cons, List.map_nil, List.getElem?_cons_zero, List.getElem?_cons_succ, cm_eqI, decide_eq_false h1, if_neg h1, L]
  by_cases h3 : share = 3
  · have h4 : ¬ share = 4 := by omega
    obtain ⟨z', e⟩ := go (bits / 2 ^ p.toNat % 2 * (bits / 2 ^ ((p + 7) % 61).toNat % 2)) (by simp [bitOf, h3])
    refine ⟨z', e ▸ ?_⟩
    simp only [b_law_some_l1, Dv.sCons, Dv.sNil, Dv.sSet, keep_int, Dv.sIf, Dv.sApp, Dv.eCm, Dv.eOp, Dv.eVar, Dv.eInt, Dv.all, Dv.R.bind, Dv.RL.bind, Dv.Out.bind, get_sh, get_ow, scal_int, List.map_cons, List.map_nil, List.getElem?_cons_zero, List.getElem?_cons_succ, List.set_cons_zero, List.set_cons_succ, Bool.true_and, add_ok, cm_eqI, List.length_map, shr_ok hp, shr_ok hm.1, mod_ok h2, mod_ok (j := 61) (by decide), decide_eq_true h3, decide_eq_false h4, mul_ok (mulOk_l (i := bits / 2 ^ p.toNat % 2) (by omega) (by omega))]
  · by_cases h4 : share = 4
    · obtain ⟨z', e⟩ := go (if bits / 2 ^ ((p + 7) % 61).toNat % 2 > bits / 2 ^ p.toNat % 2 then bits / 2 ^ ((p + 7) % 61).toNat % 2 else bits / 2 ^ p.toNat % 2) (by simp [bitOf, h4])
      refine ⟨z', e ▸ ?_⟩
      simp only [b_law_some_l1, Dv.sCons, Dv.sNil, Dv.sSet, keep_int, Dv.sIf, Dv.sApp, Dv.eB2, Dv.max2D, Dv.eCm, Dv.eOp, Dv.eVar, Dv.eInt, Dv.all, Dv.R.bind, Dv.RL.bind, Dv.Out.bind, get_sh, get_ow, scal_int, List.map_cons, List.map_nil, List.getElem?_cons_zero, List.getElem?_cons_succ, List.set_cons_zero, List.set_cons_succ, Bool.true_and, add_ok, cm_eqI, List.length_map, shr_ok hp, shr_ok hm.1, mod_ok h2, mod_ok (j := 61) (by decide), decide_eq_false h3, decide_eq_true h4]
    · obtain ⟨z', e⟩ := go (bits / 2 ^ p.toNat % 2) (by simp [bitOf, h3, h4])
      refine ⟨z', e ▸ ?_⟩
      simp only [b_law_some_l1, Dv.sCons, Dv.sNil, Dv.sSet, keep_int, Dv.sIf, Dv.sApp, Dv.eCm, Dv.eOp, Dv.eVar, Dv.eInt, Dv.all, Dv.R.bind, Dv.RL.bind, Dv.Out.bind, get_sh, get_ow, scal_int, List.map_cons, List.map_nil, List.getElem?_cons_zero, List.getElem?_cons_succ, List.set_cons_zero, List.set_cons_succ, Bool.true_and, cm_eqI, List.length_map, shr_ok hp, shr_ok hm.1, mod_ok h2, mod_ok (j := 61) (by decide), decide_eq_false h3, decide_eq_false h4]
theorem some_loop {bits share : Int} (A B C : D) : ∀ (xs found : List Int) (y z : Sl), (∀ x ∈ xs, 0 ≤ x) → xs.length + found.length ≤ 1000 →
    ∃ y' z', Dv.forGo 6 b_law_some_l1 (xs.map .int) [.sh A, .sh B, .sh C, .sh (.int bits), .sh (.int share), .ow (L found), y, z] = .nx [.sh A, .sh B, .sh C, .sh (.int bits), .sh (.int share), .ow (L (found ++ xs.filter fun p => decide (bitOf bits share p = 1))), y', z']
  | [], found, y, z, _, _ => ⟨y, z, by simp [Dv.forGo]⟩
  | p :: r, found, y, z, h, hl => by
    rw [List.length_cons] at hl
    obtain ⟨z1, e⟩ := some_body (bits := bits) (share := share) (h p (List.mem_cons_self ..)) (found := found) (by omega) A B C z
    have hlen : (if bitOf bits share p = 1 then found ++ [p] else found).length ≤ found.length + 1 := by split <;> simp
    obtain ⟨y', z', e2⟩ := some_loop A B C r (if bitOf bits share p = 1 then found ++ [p] else found) (.sh (.int p)) z1 (fun x hx => h x (List.mem_cons_of_mem _ hx)) (by omega)
    refine ⟨y', z', ?_⟩
    rw [List.map_cons, forGo_nx (st' := [.sh A, .sh B, .sh C, .sh (.int bits), .sh (.int share), .ow (L (if bitOf bits share p = 1 then found ++ [p] else found)), .sh (.int p), z1]), e2]
    · by_cases hb : bitOf bits share p = 1
      · simp [hb, List.filter_cons]
      · simp [hb, List.filter_cons]
    · simp only [List.set_cons_succ, List.set_cons_zero]; exact e
theorem upto_up (n : Nat) : (upto n).Pairwise (· < ·) := by
  unfold upto
  exact List.pairwise_map.mpr (List.pairwise_lt_range.imp fun {a b} h => by omega)
theorem upto_nonneg {n : Nat} : ∀ x ∈ upto n, (0 : Int) ≤ x := fun x hx => (mem_upto.mp hx).1
def someOf (s : List Int) (k n : Int) : List Int :=
  if ((upto n.toNat).filter fun p => decide (bitOf (cell s k * 618970019642690137449562111 % 2305843009213693951) (cell s (k + 1) % 5) p = 1)) = [] then [cell s (k + 1) / 5 % n]
  else (upto n.toNat).filter fun p => decide (bitOf (cell s k * 618970019642690137449562111 % 2305843009213693951) (cell s (k + 1) % 5) p = 1)
theorem rng_ok {n : Int} (h : 0 ≤ n) (h2 : n ≤ 1000) : Dv.rngOk n = true := by
  simp only [Dv.rngOk, Bool.and_eq_true, decide_eq_true_eq]; omega
theorem some_okW {s : List Int} (hs : Sm s) {k n : Int} (hk : 0 ≤ k) (hk2 : k ≤ 1000) (hn : 1 ≤ n) (hn2 : n ≤ 61) : F_law_some [L s, .int k, .int n] = .ok (L (someOf s k n)) true := by
  obtain ⟨y, z, e⟩ := some_loop (bits := cell s k * 618970019642690137449562111 % 2305843009213693951) (share := cell s (k + 1) % 5) (L s) (.int k) (.int n) (upto n.toNat) [] .no .no upto_nonneg (by rw [upto_len]; simp; omega)
  have hx : (0 : Nat) < Dv.mx := by decide
  by_cases hf : ((upto n.toNat).filter fun p => decide (bitOf (cell s k * 618970019642690137449562111 % 2305843009213693951) (cell s (k + 1) % 5) p = 1)) = []
  · rw [hf] at e
    unfold someOf
    rw [if_pos hf]
    simp only [List.map_nil, L, List.append_nil] at e
    simp only [F_law_some, b_law_some, b_law_some_t5, b_law_some_t4, b_law_some_t3, b_law_some_t2, b_law_some_t1, Dv.fn, Dv.sCons, Dv.sNil, Dv.sSet, keep_int, keep_nil, Dv.give, Dv.open_, shared_no, shared_sh, shared_ow, Dv.sIf, Dv.sRetO, Dv.sApp, Dv.sFor, Dv.iRange, Dv.eCm, Dv.eOp, Dv.eVar, Dv.eInt, Dv.eLst, Dv.lNil, Dv.lCons, Dv.eCall, Dv.all, Dv.R.bind, Dv.RL.bind, Dv.R.bindL, Dv.RL.bindL, Dv.Out.bind, get_no, get_sh, get_ow, scal_int, scal_lst, List.map_cons, List.map_nil, List.length_cons, List.length_nil, List.replicate, List.cons_append, List.nil_append, List.getElem?_cons_zero, List.getElem?_cons_succ, List.set_cons_zero, List.set_cons_succ, List.foldl_nil, Bool.and_true, if_true, Nat.reduceAdd, Nat.reduceSub, add_ok, cell_ok hk (show k ≤ 1000000 by omega), cell_ok (s := s) (k := k + 1) (by omega) (by omega), mul_cell hs hk (j := 618970019642690137449562111) (by decide) (by decide), mod_ok (j := 2305843009213693951) (by decide), mod_ok (j := 5) (by decide), rng_ok (n := n) (by omega) (by omega), range_upto, Dv.flatL, e, fdiv_ok (j := 5) (by decide) (by decide), mod_ok (show (0 : Int) < n by omega), decide_eq_true hx]
    have q : Dv.cmD .eq (.lst []) (.lst []) = .ok (.bl true) true := cm_eqL [] []
    simp only [q, scal_int, List.getElem?_cons_zero, List.getElem?_cons_succ, Bool.and_true, decide_eq_true hx, Dv.flatL]
    all_goals rfl
  · unfold someOf
    rw [if_neg hf]
    simp only [List.nil_append, List.map_nil, L] at e
    simp only [F_law_some, b_law_some, b_law_some_t5, b_law_some_t4, b_law_some_t3, b_law_some_t2, b_law_some_t1, Dv.fn, Dv.sCons, Dv.sNil, Dv.sSet, keep_int, keep_nil, Dv.give, Dv.open_, shared_no, shared_sh, shared_ow, Dv.sIf, Dv.sRetO, Dv.sApp, Dv.sFor, Dv.iRange, Dv.eCm, Dv.eOp, Dv.eVar, Dv.eInt, Dv.eLst, Dv.lNil, Dv.lCons, Dv.eCall, Dv.all, Dv.R.bind, Dv.RL.bind, Dv.R.bindL, Dv.RL.bindL, Dv.Out.bind, get_no, get_sh, get_ow, scal_int, scal_lst, List.map_cons, List.map_nil, List.length_cons, List.length_nil, List.replicate, List.cons_append, List.nil_append, List.getElem?_cons_zero, List.getElem?_cons_succ, List.set_cons_zero, List.set_cons_succ, List.foldl_nil, Bool.and_true, if_true, Nat.reduceAdd, Nat.reduceSub, add_ok, cm_eqN, List.length_map, cell_ok hk (show k ≤ 1000000 by omega), cell_ok (s := s) (k := k + 1) (by omega) (by omega), mul_cell hs hk (j := 618970019642690137449562111) (by decide) (by decide), mod_ok (j := 2305843009213693951) (by decide), mod_ok (j := 5) (by decide), rng_ok (n := n) (by omega) (by omega), range_upto, Dv.flatL, e]
    have q := cm_eqN ((upto n.toNat).filter fun p => decide (bitOf (cell s k * 618970019642690137449562111 % 2305843009213693951) (cell s (k + 1) % 5) p = 1))
    simp only [L] at q
    simp only [q, List.getElem?_cons_zero, List.getElem?_cons_succ, flat_L, decide_eq_false hf]
theorem some_ok {s : List Int} (hs : Sm s) {k n : Int} (hk : 0 ≤ k) (hk2 : k ≤ 1000) (hn : 1 ≤ n) (hn2 : n ≤ 60) : F_law_some [L s, .int k, .int n] = .ok (L (someOf s k n)) true := some_okW hs hk hk2 hn (by omega)
theorem some_beat (s : List Int) (k : Int) {n : Int} (hn : 1 ≤ n) : Beat n (someOf s k n) := by
  unfold someOf
  split
  · exact ⟨by simp, by simp, fun x hx => by rw [List.mem_singleton] at hx; subst hx; exact mod_rg (by omega)⟩
  · rename_i h
    exact ⟨h, (upto_up _).filter _, fun x hx => by have := mem_upto.mp (List.mem_filter.mp hx).1; omega⟩
end Cw
set_option linter.all false
set_option maxRecDepth 10000
set_option maxHeartbeats 1000000
namespace Cw
open Dv (D R RL EE EL EI RI Sl Out SS St)
open Bt
def Hs (s : Sl) (a : List Int) : Prop := s = .sh (L a) ∨ s = .ow (L a)
theorem Hs.get {s : Sl} {a : List Int} (h : Hs s a) : s.get = some (L a) := by rcases h with h | h <;> (subst h; rfl)
theorem Hs.give {s : Sl} {a : List Int} (h : Hs s a) : s.give = .sh (L a) := by rcases h with h | h <;> (subst h; rfl)
structure PairP (P : Int → List Int → List Int → Prop) : Prop where
  one : P 1 [0] [0]
  beat : ∀ {n a b}, P n a b → Beat n a ∧ Beat n b
  again : ∀ {n a b} {t : Nat}, 1 ≤ t → P n a b → P (n * t) (again n a t) b
  mix : ∀ {n a b} {t : Nat}, 1 ≤ t → P n a b → P (n * t) (Dv.isort (mix a t t)) (b.map (· * (t : Int)))
  swap : ∀ {n a b}, P n a b → P n b a
  turn : ∀ {n a b} (c : Int), P n a b → P n (Dv.isort (a.map fun x => (x + c) % n)) b
section
variable {s : List Int} {k0 n t : Int} {a b : List Int} {sa sb z5 z6 z8 : Sl}
end
end Cw
set_option linter.all false
namespace Bt
open Dv (ins isort)
structure Fill (n : Int) (a b : List Int) : Prop where
  one : Beat n a
  oth : Beat n b
  len : ((a.length * b.length : Nat) : Int) = n
  inj : ∀ x ∈ a, ∀ y ∈ a, ∀ s ∈ b, ∀ t ∈ b, (x + s) % n = (y + t) % n → x = y ∧ s = t
end Bt
set_option linter.all false
set_option maxRecDepth 10000
set_option maxHeartbeats 1000000
namespace Cw
open Dv (D R RL EE EL EI RI Sl Out SS St)
open Bt
end Cw
set_option linter.all false
set_option maxRecDepth 10000
set_option maxHeartbeats 1000000
namespace Cw
open Dv (D R RL EE EL EI RI Sl Out SS St)
open Bt
theorem check_wheel_eq (n : Int) : F_check_wheel [.int n] = if 1 ≤ n ∧ n ≤ 60 then .ok .non true else .exc "NoWheel" := by
  by_cases h1 : n < 1
  · have h3 : ¬ (1 ≤ n ∧ n ≤ 60) := by omega
    simp only [F_check_wheel, b_check_wheel, Dv.fn, Dv.sIf, Dv.eOr, Dv.eCm, Dv.eVar, Dv.eInt, Dv.all, Dv.R.bind, Dv.RL.bind, Dv.Out.bind, get_sh, scal_int, List.map_cons, List.map_nil, List.length_cons, List.length_nil, List.replicate, List.cons_append, List.nil_append, List.getElem?_cons_zero, Nat.reduceAdd, Nat.reduceSub, cm_lt, decide_eq_true h1, if_neg h3, Dv.sRaise]
  · by_cases h2 : 60 < n
    · have h3 : ¬ (1 ≤ n ∧ n ≤ 60) := by omega
      simp only [F_check_wheel, b_check_wheel, Dv.fn, Dv.sIf, Dv.eOr, Dv.eCm, Dv.eVar, Dv.eInt, Dv.all, Dv.R.bind, Dv.RL.bind, Dv.Out.bind, get_sh, scal_int, List.map_cons, List.map_nil, List.length_cons, List.length_nil, List.replicate, List.cons_append, List.nil_append, List.getElem?_cons_zero, Nat.reduceAdd, Nat.reduceSub, cm_lt, cm_gt, decide_eq_true h2, decide_eq_false h1, if_neg h3, Dv.sRaise]
    · have h3 : 1 ≤ n ∧ n ≤ 60 := by omega
      simp only [F_check_wheel, b_check_wheel, Dv.fn, Dv.sNil, Dv.sIf, Dv.eOr, Dv.eCm, Dv.eVar, Dv.eInt, Dv.all, Dv.R.bind, Dv.RL.bind, Dv.Out.bind, get_sh, scal_int, List.map_cons, List.map_nil, List.length_cons, List.length_nil, List.replicate, List.cons_append, List.nil_append, List.getElem?_cons_zero, Nat.reduceAdd, Nat.reduceSub, cm_lt, cm_gt, decide_eq_false h2, decide_eq_false h1, if_pos h3, Dv.sRaise]
def upFromX (b n : Int) : List Int → Bool
  | [] => true
  | x :: r => decide (b < x) && decide (x < n) && upFromX x n r
theorem upFromX_iff : ∀ {xs : List Int} {b n : Int}, upFromX b n xs = true ↔ xs.Pairwise (· < ·) ∧ ∀ x ∈ xs, b < x ∧ x < n
  | [], b, n => by simp [upFromX]
  | x :: r, b, n => by
    unfold upFromX
    rw [Bool.and_eq_true, Bool.and_eq_true, decide_eq_true_eq, decide_eq_true_eq, upFromX_iff, List.pairwise_cons]
    constructor
    · rintro ⟨⟨h1, h2⟩, h3, h4⟩
      refine ⟨⟨fun y hy => (h4 y hy).1, h3⟩, fun y hy => ?_⟩
      rcases List.mem_cons.mp hy with rfl | hy
      · exact ⟨h1, h2⟩
      · have := h4 y hy; omega
    · rintro ⟨⟨h1, h2⟩, h3⟩
      have := h3 x (List.mem_cons_self ..)
      exact ⟨this, h2, fun y hy => ⟨h1 y hy, (h3 y (List.mem_cons_of_mem _ hy)).2⟩⟩
theorem beat_iffX {n : Int} {xs : List Int} : Beat n xs ↔ xs ≠ [] ∧ upFromX (-1) n xs = true := by
  rw [upFromX_iff]
  constructor
  · intro h; exact ⟨h.ne, h.up, fun x hx => by have := h.rg x hx; omega⟩
  · rintro ⟨h1, h2, h3⟩; exact ⟨h1, h2, fun x hx => by have := h3 x hx; omega⟩
theorem check_beat_loopX (n : Int) (A : D) : ∀ (xs : List Int) (b : Int) (z : Sl), ∃ st', Dv.forGo 3 b_check_rising_l1 (xs.map .int) [.sh A, .sh (.int n), .sh (.int b), z] = if upFromX b n xs then .nx st' else .exc "NoBeat" st'
  | [], b, z => ⟨_, rfl⟩
  | x :: r, b, z => by
    obtain ⟨st', h⟩ := check_beat_loopX n A r x (.sh (.int x))
    by_cases h1 : b < x
    · by_cases h2 : x < n
      · refine ⟨st', ?_⟩
        rw [List.map_cons, forGo_nx (st' := [.sh A, .sh (.int n), .sh (.int x), .sh (.int x)]), h]
        · simp only [upFromX, decide_eq_true h1, decide_eq_true h2, Bool.true_and]
        · simp only [b_check_rising_l1, Dv.sCons, Dv.sNil, Dv.sSetG, Dv.give, Dv.open_, give_sh, shared_sh, Dv.sIf, Dv.eOr, Dv.eCm, Dv.eVar, Dv.all, Dv.R.bind, Dv.RL.bind, Dv.Out.bind, get_sh, scal_int, List.map_cons, List.map_nil, List.getElem?_cons_zero, List.getElem?_cons_succ, List.set_cons_zero, List.set_cons_succ, List.foldl_cons, List.foldl_nil, Option.getD_some, cm_le, cm_ge, decide_eq_false (show ¬ x ≤ b by omega), decide_eq_false (show ¬ n ≤ x by omega)]
      · refine ⟨[.sh A, .sh (.int n), .sh (.int b), .sh (.int x)], ?_⟩
        rw [List.map_cons, forGo_exc (c := "NoBeat") (st' := [.sh A, .sh (.int n), .sh (.int b), .sh (.int x)])]
        · simp only [upFromX, decide_eq_true h1, decide_eq_false h2, Bool.true_and, Bool.false_and, Bool.false_eq_true, if_false]
        · simp only [b_check_rising_l1, Dv.sCons, Dv.sIf, Dv.eOr, Dv.eCm, Dv.eVar, Dv.all, Dv.R.bind, Dv.RL.bind, Dv.Out.bind, get_sh, scal_int, List.map_cons, List.map_nil, List.getElem?_cons_zero, List.getElem?_cons_succ, List.set_cons_zero, List.set_cons_succ, cm_le, cm_ge, Dv.sRaise, decide_eq_false (show ¬ x ≤ b by omega), decide_eq_true (show n ≤ x by omega)]
    · refine ⟨[.sh A, .sh (.int n), .sh (.int b), .sh (.int x)], ?_⟩
      rw [List.map_cons, forGo_exc (c := "NoBeat") (st' := [.sh A, .sh (.int n), .sh (.int b), .sh (.int x)])]
      · simp only [upFromX, decide_eq_false h1, Bool.false_and, Bool.false_eq_true, if_false]
      · simp only [b_check_rising_l1, Dv.sCons, Dv.sIf, Dv.eOr, Dv.eCm, Dv.eVar, Dv.all, Dv.R.bind, Dv.RL.bind, Dv.Out.bind, get_sh, scal_int, List.map_cons, List.map_nil, List.getElem?_cons_zero, List.getElem?_cons_succ, List.set_cons_zero, List.set_cons_succ, cm_le, Dv.sRaise, decide_eq_true (show x ≤ b by omega)]
theorem check_rising_eq (n : Int) (xs : List Int) : F_check_rising [L xs, .int n] = if xs ≠ [] ∧ upFromX (-1) n xs = true then .ok .non true else .exc "NoBeat" := by
  obtain ⟨st', e⟩ := check_beat_loopX n (L xs) xs (-1) .no
  by_cases hx : xs = []
  · subst hx
    simp only [F_check_rising, b_check_rising, b_check_rising_t2, b_check_rising_t1, Dv.fn, Dv.sCons, Dv.sIf, Dv.eB1, Dv.lenD, Dv.eCm, Dv.eVar, Dv.eInt, Dv.all, Dv.R.bind, Dv.RL.bind, Dv.Out.bind, get_no, get_sh, scal_lst, List.map_cons, List.map_nil, List.length_cons, List.length_nil, List.replicate, List.cons_append, List.nil_append, List.getElem?_cons_zero, Nat.reduceAdd, Nat.reduceSub, decide_true, cm_eqI, Dv.sRaise, Int.natCast_zero]
    simp
  · have h1 : ¬ ((xs.length : Int) = 0) := by
      have := List.length_pos_iff.mpr hx
      omega
    simp only [F_check_rising, b_check_rising, b_check_rising_t2, b_check_rising_t1, Dv.fn, Dv.sCons, Dv.sNil, Dv.sSet, keep_int, Dv.give, Dv.open_, give_sh, shared_no, shared_sh, Dv.sIf, Dv.sFor, Dv.iSeq, Dv.eB1, Dv.lenD, Dv.eNeg, Dv.eCm, Dv.eVar, Dv.eInt, Dv.all, Dv.R.bind, Dv.RL.bind, Dv.Out.bind, get_no, get_sh, scal_lst, List.map_cons, List.map_nil, List.length_cons, List.length_nil, List.replicate, List.cons_append, List.nil_append, List.getElem?_cons_zero, List.set_cons_zero, List.set_cons_succ, List.foldl_cons, List.foldl_nil, Option.getD_some, Nat.reduceAdd, Nat.reduceSub, cm_eqI, List.length_map, decide_eq_false h1, e]
    cases hu : upFromX (-1) n xs with
    | true => simp [hx]
    | false => simp
theorem check_beat_eq (n : Int) (xs : List Int) : F_check_beat [.int n, L xs] = if 1 ≤ n ∧ n ≤ 60 then (if xs ≠ [] ∧ upFromX (-1) n xs = true then .ok .non true else .exc "NoBeat") else .exc "NoWheel" := by
  by_cases h : 1 ≤ n ∧ n ≤ 60
  · by_cases h2 : xs ≠ [] ∧ upFromX (-1) n xs = true
    · have e := check_rising_eq n xs
      rw [if_pos h2] at e
      rw [if_pos h, if_pos h2]
      simp only [F_check_beat, b_check_beat, b_check_beat_t1, Dv.fn, Dv.sCons, Dv.sExpr, Dv.eVar, Dv.lNil, Dv.lCons, Dv.eCall, Dv.all, Dv.R.bind, Dv.RL.bind, Dv.R.bindL, Dv.RL.bindL, Dv.Out.bind, get_sh, scal_int, scal_lst, List.map_cons, List.map_nil, List.length_cons, List.length_nil, List.replicate, List.cons_append, List.nil_append, List.getElem?_cons_zero, List.getElem?_cons_succ, Bool.and_true, Nat.reduceAdd, Nat.reduceSub, check_wheel_eq, if_pos h, e]
    · have e := check_rising_eq n xs
      rw [if_neg h2] at e
      rw [if_pos h, if_neg h2]
      simp only [F_check_beat, b_check_beat, b_check_beat_t1, Dv.fn, Dv.sCons, Dv.sExpr, Dv.eVar, Dv.lNil, Dv.lCons, Dv.eCall, Dv.all, Dv.R.bind, Dv.RL.bind, Dv.R.bindL, Dv.RL.bindL, Dv.Out.bind, get_sh, scal_int, scal_lst, List.map_cons, List.map_nil, List.length_cons, List.length_nil, List.replicate, List.cons_append, List.nil_append, List.getElem?_cons_zero, List.getElem?_cons_succ, Bool.and_true, Nat.reduceAdd, Nat.reduceSub, check_wheel_eq, if_pos h, e]
  · simp only [F_check_beat, b_check_beat, b_check_beat_t1, Dv.fn, Dv.sCons, Dv.sExpr, Dv.eVar, Dv.lNil, Dv.lCons, Dv.eCall, Dv.all, Dv.R.bind, Dv.RL.bind, Dv.R.bindL, Dv.RL.bindL, Dv.Out.bind, get_sh, scal_int, List.map_cons, List.map_nil, List.length_cons, List.length_nil, List.replicate, List.cons_append, List.nil_append, List.getElem?_cons_zero, Bool.and_true, Nat.reduceAdd, Nat.reduceSub, check_wheel_eq, if_neg h]
theorem check_beat_no {n : Int} {xs : List Int} (h1 : 1 ≤ n) (h2 : n ≤ 60) (h : ¬ Beat n xs) : F_check_beat [.int n, L xs] = .exc "NoBeat" := by
  rw [check_beat_eq, if_pos ⟨h1, h2⟩, if_neg fun h3 => h (beat_iffX.mpr h3)]
end Cw
set_option linter.all false
set_option maxRecDepth 10000
set_option maxHeartbeats 1000000
namespace Cw
open Dv (D R RL EE EL EI RI Sl Out SS St)
open Bt
end Cw
set_option linter.all false
set_option maxRecDepth 10000
set_option maxHeartbeats 1000000
namespace Cw
open Dv (D R RL EE EL EI RI Sl Out SS St)
open Bt
def turn (n : Int) (xs : List Int) (c : Int) : List Int := Dv.isort (xs.map fun x => (x + c) % n)
def from1 (n : Int) : List Int := (List.range (n - 1).toNat).map fun (i : Nat) => 1 + (i : Int)
def own (n : Int) (xs : List Int) : Int := ((from1 n).find? fun c => decide (turn n xs c = xs)).getD n
theorem rng2_ok {n : Int} (h : -1000000 ≤ n) (h2 : n ≤ 1000000) : Dv.rngOk n = true := by
  unfold Dv.rngOk; simp [h, h2]
end Cw
set_option linter.all false
set_option maxRecDepth 10000
set_option maxHeartbeats 1000000
namespace Cw
open Dv (D R RL EE EL EI RI Sl Out SS St)
open Bt
end Cw
set_option linter.all false
set_option maxRecDepth 10000
set_option maxHeartbeats 1000000
namespace Cw
open Dv (D R RL EE EL EI RI Sl Out SS St)
open Bt
theorem cut_L (xs : List Int) (lo hi : Option Int) : Dv.cutL (xs.map D.int) lo hi = (Dv.cutL xs lo hi).map D.int := by
  unfold Dv.cutL; rw [List.length_map, List.map_take, List.map_drop]
theorem slice_L (xs : List Int) (f : Bool) (lo hi : Option Int) : Dv.sliceD (L xs) f lo hi = .ok (L (Dv.cutL xs lo hi)) true := by
  unfold Dv.sliceD; simp only [cut_L, flat_L, Bool.or_true]
theorem cut_to {xs : List Int} {k : Int} (h : 0 ≤ k) (h2 : k ≤ xs.length) : Dv.cutL xs none (some k) = xs.take k.toNat := by
  unfold Dv.cutL Dv.cutI; simp only [List.drop_zero, Nat.sub_zero, if_neg (show ¬ k < 0 by omega)]; congr 1; omega
theorem cut_from {xs : List Int} {k : Int} (h : 0 ≤ k) (h2 : k ≤ xs.length) : Dv.cutL xs (some k) none = xs.drop k.toNat := by
  unfold Dv.cutL Dv.cutI
  simp only [if_neg (show ¬ k < 0 by omega)]
  rw [show min k.toNat xs.length = k.toNat by omega]
  exact List.take_of_length_le (by rw [List.length_drop]; omega)
end Cw
set_option linter.all false
set_option maxRecDepth 10000
set_option maxHeartbeats 2000000
namespace Cw
open Dv (D R RL EE EL EI RI Sl Out SS St)
open Bt
section
variable {n : Int} {xs ys : List Int} {c : String}
theorem cat1_ok (a : List Int) (v : Int) (b : List Int) (h : a.length + 1 + b.length ≤ 100000) : Dv.opD .add (L a) (.lst [.int v]) = .ok (L (a ++ [v])) true ∧ Dv.opD .add (L (a ++ [v])) (L b) = .ok (L (a ++ [v] ++ b)) true :=
  ⟨cat_ok (b := [v]) (by simp; omega), cat_ok (by simp; omega)⟩
theorem spoiled_ok {v : Int} (hn : n ≤ 60) (h : Beat n xs) : ∃ zs, F_law_spoiled [.int n, L xs, .int v] = .ok (L zs) true ∧ ¬ Beat n zs := by
  have hp := h.pos
  have hl := h.len
  have hl1 := h.len1
  have hat := mod_rg (n := (xs.length : Int)) (a := v / 5) (by omega)
  have hp9 : Dv.opD .pow (.int 10) (.int 9) = .ok (.int 1000000000) true := rfl
  have hmf := mod_rg (n := 1000000000) (a := v / 300) (by omega)
  have hk := mod_rg (n := 5) (a := v) (by omega)
  generalize hf : v / 300 % 1000000000 = far at *
  generalize ha : v / 5 % (xs.length : Int) = at_ at *
  have hatn : at_.toNat < xs.length := by omega
  have hc := cat1_ok (xs.take at_.toNat) (xs.getD at_.toNat 0) (xs.drop at_.toNat) (by rw [List.length_take, List.length_drop]; omega)
  have hc2 := cat1_ok (xs.take at_.toNat) (n + far) (xs.drop at_.toNat) (by rw [List.length_take, List.length_drop]; omega)
  have hc3 := cat1_ok (xs.take at_.toNat) (-1 - far) (xs.drop at_.toNat) (by rw [List.length_take, List.length_drop]; omega)
  have hmem : xs.getD at_.toNat 0 ∈ xs := getD_mem hatn
  have hmd : xs.getD at_.toNat 0 ∈ xs.drop at_.toNat := by
    have g : xs.getD at_.toNat 0 = xs[at_.toNat] := by rw [List.getD_eq_getElem?_getD, List.getElem?_eq_getElem hatn]; rfl
    rw [g, List.drop_eq_getElem_cons hatn]; exact List.mem_cons_self ..
  have hct := cut_to (xs := xs) (k := at_) (by omega) (by omega)
  have hcf := cut_from (xs := xs) (k := at_) (by omega) (by omega)
  generalize hkk : v % 5 = k at *
  rcases (show k = 0 ∨ k = 1 ∨ k = 2 ∨ k = 3 ∨ k = 4 by omega) with rfl | rfl | rfl | rfl | rfl
  · refine ⟨[], ?_, fun hb => hb.ne rfl⟩
    simp only [F_law_spoiled, b_law_spoiled, b_law_spoiled_t7, b_law_spoiled_t6, b_law_spoiled_t5, b_law_spoiled_t4, b_law_spoiled_t3, b_law_spoiled_t2, b_law_spoiled_t1, Dv.fn, Dv.sCons, Dv.sSet, keep_int, Dv.sIf, Dv.sRet, Dv.eB1, Dv.lenD, Dv.eCm, Dv.eOp, Dv.eVar, Dv.eInt, Dv.eLst, Dv.lNil, Dv.all, Dv.R.bind, Dv.RL.bind, Dv.Out.bind, get_no, get_sh, scal_int, scal_lst, List.map_cons, List.map_nil, List.length_cons, List.length_nil, List.replicate, List.cons_append, List.nil_append, List.getElem?_cons_zero, List.getElem?_cons_succ, List.set_cons_zero, List.set_cons_succ, Nat.reduceAdd, Nat.reduceSub, decide_true, cm_eqI, List.length_map, mod_ok (j := 5) (by omega), fdiv_ok (j := 5) (by omega) (by omega), mod_ok (i := v / 5) (j := (xs.length : Int)) (by omega), fdiv_ok (j := 300) (by omega) (by omega), hp9, mod_ok (j := 1000000000) (by omega), hf, ha, hkk, Int.reduceEq, Dv.flatL, L]
  · refine ⟨xs.take at_.toNat ++ [xs.getD at_.toNat 0] ++ xs.drop at_.toNat, ?_, fun hb => ?_⟩
    · simp only [F_law_spoiled, b_law_spoiled, b_law_spoiled_t7, b_law_spoiled_t6, b_law_spoiled_t5, b_law_spoiled_t4, b_law_spoiled_t3, b_law_spoiled_t2, b_law_spoiled_t1, Dv.fn, Dv.sCons, Dv.sNil, Dv.sSet, keep_int, Dv.sIf, Dv.sRet, Dv.eB1, Dv.lenD, Dv.eIx, Dv.ixD, Dv.eCm, Dv.eOp, Dv.eVar, Dv.eInt, Dv.eLst, Dv.lNil, Dv.lCons, Dv.eSlice, Dv.ePart, Dv.all, Dv.R.bind, Dv.RL.bind, Dv.R.bindL, Dv.RL.bindL, Dv.Out.bind, get_no, get_sh, scal_int, scal_lst, List.map_cons, List.map_nil, List.length_cons, List.length_nil, List.replicate, List.cons_append, List.nil_append, List.getElem?_cons_zero, List.getElem?_cons_succ, List.set_cons_zero, List.set_cons_succ, Bool.or_true, Bool.and_true, Nat.reduceAdd, Nat.reduceSub, decide_true, decide_false, cm_eqI, List.length_map, mod_ok (j := 5) (by omega), fdiv_ok (j := 5) (by omega) (by omega), mod_ok (i := v / 5) (j := (xs.length : Int)) (by omega), fdiv_ok (j := 300) (by omega) (by omega), hp9, mod_ok (j := 1000000000) (by omega), hf, ha, hkk, Int.reduceEq, slice_L, hct, hcf, at_L hat.1 hat.2, hc.1, hc.2]
    · have := (List.nodup_append.mp hb.nd).2.2 (xs.getD at_.toNat 0) (by simp) (xs.getD at_.toNat 0) hmd
      exact this rfl
  · refine ⟨xs.take at_.toNat ++ [n + far] ++ xs.drop at_.toNat, ?_, fun hb => ?_⟩
    · simp only [F_law_spoiled, b_law_spoiled, b_law_spoiled_t7, b_law_spoiled_t6, b_law_spoiled_t5, b_law_spoiled_t4, b_law_spoiled_t3, b_law_spoiled_t2, b_law_spoiled_t1, Dv.fn, Dv.sCons, Dv.sNil, Dv.sSet, keep_int, Dv.sIf, Dv.sRet, Dv.eB1, Dv.lenD, Dv.eCm, Dv.eOp, Dv.eVar, Dv.eInt, Dv.eLst, Dv.lNil, Dv.lCons, Dv.eSlice, Dv.ePart, Dv.all, Dv.R.bind, Dv.RL.bind, Dv.R.bindL, Dv.RL.bindL, Dv.Out.bind, get_no, get_sh, scal_int, scal_lst, List.map_cons, List.map_nil, List.length_cons, List.length_nil, List.replicate, List.cons_append, List.nil_append, List.getElem?_cons_zero, List.getElem?_cons_succ, List.set_cons_zero, List.set_cons_succ, Bool.and_true, Nat.reduceAdd, Nat.reduceSub, decide_true, decide_false, add_ok, cm_eqI, List.length_map, mod_ok (j := 5) (by omega), fdiv_ok (j := 5) (by omega) (by omega), mod_ok (i := v / 5) (j := (xs.length : Int)) (by omega), fdiv_ok (j := 300) (by omega) (by omega), hp9, mod_ok (j := 1000000000) (by omega), hf, ha, hkk, Int.reduceEq, slice_L, hct, hcf, hc2.1, hc2.2]
    · have := hb.rg (n + far) (by simp); omega
  · refine ⟨xs.take at_.toNat ++ [-1 - far] ++ xs.drop at_.toNat, ?_, fun hb => ?_⟩
    · simp only [F_law_spoiled, b_law_spoiled, b_law_spoiled_t7, b_law_spoiled_t6, b_law_spoiled_t5, b_law_spoiled_t4, b_law_spoiled_t3, b_law_spoiled_t2, b_law_spoiled_t1, Dv.fn, Dv.sCons, Dv.sNil, Dv.sSet, keep_int, Dv.sIf, Dv.sRet, Dv.eB1, Dv.lenD, Dv.eNeg, Dv.eCm, Dv.eOp, Dv.eVar, Dv.eInt, Dv.eLst, Dv.lNil, Dv.lCons, Dv.eSlice, Dv.ePart, Dv.all, Dv.R.bind, Dv.RL.bind, Dv.R.bindL, Dv.RL.bindL, Dv.Out.bind, get_no, get_sh, scal_int, scal_lst, List.map_cons, List.map_nil, List.length_cons, List.length_nil, List.replicate, List.cons_append, List.nil_append, List.getElem?_cons_zero, List.getElem?_cons_succ, List.set_cons_zero, List.set_cons_succ, Bool.and_true, Nat.reduceAdd, Nat.reduceSub, decide_true, decide_false, sub_ok, cm_eqI, List.length_map, mod_ok (j := 5) (by omega), fdiv_ok (j := 5) (by omega) (by omega), mod_ok (i := v / 5) (j := (xs.length : Int)) (by omega), fdiv_ok (j := 300) (by omega) (by omega), hp9, mod_ok (j := 1000000000) (by omega), hf, ha, hkk, Int.reduceEq, slice_L, hct, hcf, hc3.1, hc3.2]
    · have := hb.rg (-1 - far) (by simp); omega
  · refine ⟨xs ++ [xs.getD at_.toNat 0], ?_, fun hb => ?_⟩
    · have hc4 := (cat1_ok xs (xs.getD at_.toNat 0) [] (by simp; omega)).1
      simp only [F_law_spoiled, b_law_spoiled, b_law_spoiled_t7, b_law_spoiled_t6, b_law_spoiled_t5, b_law_spoiled_t4, b_law_spoiled_t3, b_law_spoiled_t2, b_law_spoiled_t1, Dv.fn, Dv.sCons, Dv.sNil, Dv.sSet, keep_int, Dv.sIf, Dv.sRet, Dv.eB1, Dv.lenD, Dv.eIx, Dv.ixD, Dv.eCm, Dv.eOp, Dv.eVar, Dv.eInt, Dv.eLst, Dv.lNil, Dv.lCons, Dv.all, Dv.R.bind, Dv.RL.bind, Dv.R.bindL, Dv.RL.bindL, Dv.Out.bind, get_no, get_sh, scal_int, scal_lst, List.map_cons, List.map_nil, List.length_cons, List.length_nil, List.replicate, List.cons_append, List.nil_append, List.getElem?_cons_zero, List.getElem?_cons_succ, List.set_cons_zero, List.set_cons_succ, Bool.or_true, Bool.and_true, Nat.reduceAdd, Nat.reduceSub, decide_false, cm_eqI, List.length_map, mod_ok (j := 5) (by omega), fdiv_ok (j := 5) (by omega) (by omega), mod_ok (i := v / 5) (j := (xs.length : Int)) (by omega), fdiv_ok (j := 300) (by omega) (by omega), hp9, mod_ok (j := 1000000000) (by omega), hf, ha, hkk, Int.reduceEq, at_L hat.1 hat.2, hc4]
    · have := (List.nodup_append.mp hb.nd).2.2 (xs.getD at_.toNat 0) hmem (xs.getD at_.toNat 0) (by simp)
      exact this rfl
end
end Cw
set_option linter.all false
set_option maxRecDepth 10000
set_option maxHeartbeats 2000000
namespace Cw
open Dv (D R RL EE EL EI RI Sl Out SS St)
open Bt
def Tx (t : List Nat) : Prop := ∀ c ∈ t, c < 1114112
theorem Tx.clip {t : List Nat} (h : Tx t) : Dv.clipS t = t := by
  unfold Dv.clipS
  have : t.map (· % 1114112) = t.map id := List.map_congr_left fun c hc => Nat.mod_eq_of_lt (h c hc)
  rw [this, List.map_id]
theorem keep_str (x : List Nat) (f : Bool) : Dv.keepD (.str x) f = some (.sh (.str x)) := rfl
theorem compGo_of {α : Type} {mk : α → D} {o : α → D} {p : α → Bool} {elt cond : EE} {free : Dv.Env} : ∀ {xs : List α}, (∀ x ∈ xs, cond (some (mk x) :: free) = .ok (.bl (p x)) true) → (∀ x ∈ xs, p x = true → elt (some (mk x) :: free) = .ok (o x) true) →
    Dv.compGo elt cond free (xs.map mk) = .ok ((xs.filter p).map o) true
  | [], _, _ => rfl
  | x :: r, h, k => by
    have ih := compGo_of (fun y hy => h y (List.mem_cons_of_mem _ hy)) (fun y hy => k y (List.mem_cons_of_mem _ hy))
    have hx := h x (List.mem_cons_self ..)
    rw [List.map_cons]
    unfold Dv.compGo
    rw [hx]
    cases hp : p x with
    | true => simp only [k x (List.mem_cons_self ..) hp, ih, List.filter_cons, hp, if_true, List.map_cons, Bool.and_self]
    | false => simp only [ih, List.filter_cons, hp, Bool.false_eq_true, if_false]
theorem bls_map {α : Type} (g : α → Bool) : ∀ xs : List α, Dv.blsOf (xs.map fun x => .bl (g x)) = some (xs.map g)
  | [] => rfl
  | x :: r => by
    rw [List.map_cons, List.map_cons]
    unfold Dv.blsOf
    rw [bls_map g r]
    rfl
theorem has_only_ok {t sg : List Nat} (ht : Tx t) (hg : Tx sg) (hl : t.length ≤ 1000) : F_has_only [.str t, .str sg] = .ok (.bl (t.all fun c => decide (c ∈ sg))) true := by
  have hc : c_has_only_1 [some (.str t), some (.str sg)] = .ok (.lst (t.map fun c => .bl (decide (c ∈ sg)))) true := by
    have e := compGo_of (xs := t) (mk := fun c => .str [c]) (o := fun c => .bl (decide (c ∈ sg))) (p := fun _ => true) (elt := Dv.eB2 (Dv.inSD false) (Dv.eVar 0) (Dv.eVar 1)) (cond := Dv.eBl true) (free := [some (.str sg)]) (fun _ _ => rfl) (fun c hc _ => by
      have : c % 1114112 = c := Nat.mod_eq_of_lt (ht c hc)
      simp only [Dv.eB2, Dv.eVar, Dv.R.bind, Dv.RL.bind, Dv.Out.bind, List.getElem?_cons_zero, List.getElem?_cons_succ, if_false, Bool.false_eq_true, scal_str, Dv.inSD, hg.clip, this])
    have hx : (t.map fun c => D.str [c]).length ≤ Dv.mx := by rw [List.length_map]; unfold Dv.mx; omega
    rw [show t.filter (fun _ => true) = t from List.filter_eq_self.mpr fun _ _ => rfl] at e
    unfold c_has_only_1 Dv.eComp
    simp only [Dv.iStr, Dv.eVar, Dv.pick, List.map_cons, List.map_nil, List.getElem?_cons_zero, List.getElem?_cons_succ, Option.getD_some, scal_str, List.length_map, Dv.signsD] at hx ⊢
    simp only [hx, if_true, e]
  simp only [F_has_only, b_has_only, Dv.fn, Dv.sRet, Dv.eB1, Dv.all, Dv.R.bind, Dv.RL.bind, Dv.Out.bind, get_sh, List.map_cons, List.map_nil, List.length_cons, List.length_nil, List.replicate, List.cons_append, List.nil_append, Nat.reduceAdd, Nat.reduceSub, hc, Dv.allD, bls_map, List.all_map]
  rfl
def plX : Nat → List Nat → List Int
  | _, [] => []
  | k, c :: r => if c = 120 then (k : Int) :: plX (k + 1) r else plX (k + 1) r
theorem sign_eq {c : Nat} (h : c < 1114112) (d : Nat) (hd : d < 1114112) : decide (Dv.clipS [c] = Dv.clipS [d]) = decide (c = d) := by
  have h1 : Dv.clipS [c] = [c] := by simp [Dv.clipS, Nat.mod_eq_of_lt h]
  have h2 : Dv.clipS [d] = [d] := by simp [Dv.clipS, Nat.mod_eq_of_lt hd]
  rw [h1, h2]
  simp
theorem enum_comp : ∀ (t : List Nat) (k : Nat), Tx t → Dv.compGoT 2 (Dv.eVar 0) (Dv.eCm .eq (Dv.eVar 1) (Dv.eStr [120])) [] (Dv.enumL k (Dv.signsD t)) = .ok ((plX k t).map .int) true
  | [], k, _ => rfl
  | c :: r, k, h => by
    have ih := enum_comp r (k + 1) fun x hx => h x (List.mem_cons_of_mem _ hx)
    have hc := sign_eq (h c (List.mem_cons_self ..)) 120 (by decide)
    show Dv.compGoT 2 _ _ [] (D.tup [.int (k : Int), .str [c]] :: Dv.enumL (k + 1) (Dv.signsD r)) = _
    unfold Dv.compGoT plX
    by_cases h120 : c = 120
    · rw [decide_eq_true h120] at hc
      simp only [Dv.eCm, Dv.eVar, Dv.eStr, Dv.R.bind, Dv.RL.bind, Dv.Out.bind, scal_int, List.map_cons, List.map_nil, List.length_cons, List.length_nil, List.getElem?_cons_zero, List.getElem?_cons_succ, if_true, Nat.reduceAdd, decide_true, cm_eqS, scal_str, hc, ih, h120, if_true, List.map_cons, List.append_nil, Bool.and_self]
    · rw [decide_eq_false h120] at hc
      simp only [Dv.eCm, Dv.eVar, Dv.eStr, Dv.R.bind, Dv.RL.bind, Dv.Out.bind, List.map_cons, List.map_nil, List.length_cons, List.length_nil, List.getElem?_cons_zero, List.getElem?_cons_succ, if_true, if_false, Nat.reduceAdd, cm_eqS, scal_str, hc, ih, h120, if_false, List.append_nil]
theorem enumL_len : ∀ (xs : List D) (k : Nat), (Dv.enumL k xs).length = xs.length
  | [], k => rfl
  | x :: r, k => by unfold Dv.enumL; rw [List.length_cons, List.length_cons, enumL_len r]
def Good (t : List Nat) : Prop := 120 ∈ t ∧ (∀ c ∈ t, c = 120 ∨ c = 46) ∧ t.length ≤ 60
theorem len_str {t : List Nat} (h : t.length ≤ 1000) (f : Bool) : Dv.lenSD (.str t) f = .ok (.int t.length) true := by
  have : t.length ≤ Dv.mx := by unfold Dv.mx; omega
  simp only [Dv.lenSD, this, if_true]
theorem x_in {t : List Nat} (ht : Tx t) : Dv.inSD true (.str [120]) (.str t) = .ok (.bl (!decide (120 ∈ t))) true := by
  simp only [Dv.inSD, ht.clip, if_true, Nat.reduceMod]
theorem all_good (t : List Nat) : (t.all fun c => decide (c ∈ [120, 46])) = decide (∀ c ∈ t, c = 120 ∨ c = 46) := by
  rw [Bool.eq_iff_iff]
  simp
theorem read_ok {t : List Nat} (ht : Tx t) (h : Good t) : F_read_beat [.str t] = .ok (.tup [.int t.length, L (plX 0 t)]) true := by
  obtain ⟨h1, h2, h3⟩ := h
  have ho := has_only_ok (sg := [120, 46]) ht (by intro c hc; simp at hc; omega) (by omega)
  rw [all_good, decide_eq_true h2] at ho
  have hl : ¬ ((60 : Int) < t.length) := by omega
  have hc : c_read_beat_1 [some (.str t)] = .ok (L (plX 0 t)) true := by
    have e := enum_comp t 0 ht
    have hx : (Dv.enumL 0 (Dv.signsD t)).length ≤ Dv.mx := by rw [enumL_len]; unfold Dv.signsD Dv.mx; rw [List.length_map]; omega
    unfold c_read_beat_1 Dv.eCompT
    simp only [Dv.iEnumS, Dv.eVar, Dv.pick, List.map_nil, List.getElem?_cons_zero, scal_str] at hx ⊢
    simp only [hx, if_true, e]
  simp only [F_read_beat, b_read_beat, b_read_beat_t2, b_read_beat_t1, Dv.fn, Dv.sCons, Dv.sNil, Dv.sIf, Dv.sRet, Dv.eB1, Dv.eB2, Dv.eOr, Dv.eNot, Dv.eCm, Dv.eVar, Dv.eInt, Dv.eStr, Dv.eTup, Dv.lNil, Dv.lCons, Dv.eCall, Dv.all, Dv.R.bind, Dv.RL.bind, Dv.R.bindL, Dv.RL.bindL, Dv.Out.bind, get_sh, List.map_cons, List.map_nil, List.length_cons, List.length_nil, List.replicate, List.cons_append, List.nil_append, List.getElem?_cons_zero, Bool.and_true, Bool.not_true, Nat.reduceAdd, Nat.reduceSub, cm_gt, scal_str, Dv.isStrD, len_str (t := t) (by omega), decide_eq_false hl, x_in ht, decide_eq_true h1, ho, hc, Dv.flatL, Dv.depthD]
end Cw
set_option linter.all false
set_option maxRecDepth 10000
set_option maxHeartbeats 2000000
namespace Cw
open Dv (D R RL EE EL EI RI Sl Out SS St)
open Bt
theorem up_same {a b : List Int} (ha : a.Pairwise (· < ·)) (hb : b.Pairwise (· < ·)) (h : ∀ x, x ∈ a ↔ x ∈ b) : a = b := by
  refine sorted_uniq ?_ (ha.imp fun {x y} h => by omega) (hb.imp fun {x y} h => by omega)
  exact (List.perm_ext_iff_of_nodup (ha.imp fun {x y} h e => by omega) (hb.imp fun {x y} h e => by omega)).mpr h
def sgn (xs : List Int) (p : Int) : Nat := if p ∈ xs then 120 else 46
def txt (n : Int) (xs : List Int) : List Nat := (upto n.toNat).map (sgn xs)
theorem glue_one {α : Type} (f : α → Nat) : ∀ xs : List α, Dv.glue [] (xs.map fun x => [f x]) = xs.map f
  | [] => rfl
  | [x] => rfl
  | x :: y :: r => by
    have ih := glue_one f (y :: r)
    simp only [List.map_cons] at ih ⊢
    show [f x] ++ [] ++ Dv.glue [] ([f y] :: r.map fun x => [f x]) = _
    rw [ih]
    rfl
theorem strs_one {α : Type} (f : α → Nat) : ∀ xs : List α, Dv.strsOf (xs.map fun x => .str [f x]) = some (xs.map fun x => [f x])
  | [] => rfl
  | x :: r => by
    rw [List.map_cons, List.map_cons]
    unfold Dv.strsOf
    rw [strs_one f r]
    rfl
theorem sum_one {α : Type} (f : α → Nat) : ∀ xs : List α, ((xs.map fun x => [f x]).map List.length).sum = xs.length
  | [] => rfl
  | x :: r => by
    have ih := sum_one f r
    simp only [List.map_cons, List.sum_cons, List.length_cons, List.length_nil, ih]
    omega
theorem text_ok {n : Int} {xs : List Int} (hn : n ≤ 60) (h : Beat n xs) : F_beat_text [.int n, L xs] = .ok (.str (txt n xs)) true := by
  have hp := h.pos
  have ck := check_beat_ok hn h
  have hc : c_beat_text_1 [some (.int n), some (L xs)] = .ok (.lst ((upto n.toNat).map fun p => .str [sgn xs p])) true := by
    have e := compGo_of (xs := upto n.toNat) (mk := fun p => .int p) (o := fun p => .str [sgn xs p]) (p := fun _ => true) (elt := Dv.eIf (Dv.eCm .isin (Dv.eVar 0) (Dv.eVar 1)) (Dv.eStr [120]) (Dv.eStr [46])) (cond := Dv.eBl true) (free := [some (L xs)]) (fun _ _ => rfl) (fun p hp _ => by
      by_cases hx : p ∈ xs
      · simp only [Dv.eIf, Dv.eCm, Dv.eVar, Dv.eStr, Dv.R.bind, Dv.RL.bind, Dv.Out.bind, scal_int, scal_lst, List.getElem?_cons_zero, List.getElem?_cons_succ, cm_in, decide_eq_true hx, sgn, if_pos hx]
      · simp only [Dv.eIf, Dv.eCm, Dv.eVar, Dv.eStr, Dv.R.bind, Dv.RL.bind, Dv.Out.bind, scal_int, scal_lst, List.getElem?_cons_zero, List.getElem?_cons_succ, cm_in, decide_eq_false hx, sgn, if_neg hx])
    rw [show (upto n.toNat).filter (fun _ => true) = upto n.toNat from List.filter_eq_self.mpr fun _ _ => rfl] at e
    have hx : ((upto n.toNat).map D.int).length ≤ Dv.mx := by rw [List.length_map, upto_len]; unfold Dv.mx; omega
    unfold c_beat_text_1 Dv.eComp
    simp only [Dv.iRange, Dv.iRange, Dv.eVar, Dv.pick, scal_int, List.map_cons, List.map_nil, List.getElem?_cons_zero, List.getElem?_cons_succ, Option.getD_some, if_true, List.length_map, rng_ok (n := n) (by omega) (by omega), range_upto] at hx ⊢
    simp only [hx, if_true, e]
  have hm : (((upto n.toNat).map fun p => [sgn xs p]).map List.length).sum = n.toNat := by rw [sum_one, upto_len]
  have hz : n.toNat + ((upto n.toNat).map fun p => [sgn xs p]).length * ([] : List Nat).length ≤ Dv.mx := by unfold Dv.mx; simp; omega
  have hj : Dv.joinD [] (.lst ((upto n.toNat).map fun p => .str [sgn xs p])) = .ok (.str (txt n xs)) true := by
    simp only [Dv.joinD, strs_one, hm, hz, if_true, glue_one, txt]
  simp only [F_beat_text, b_beat_text, b_beat_text_t1, Dv.fn, Dv.sCons, Dv.sRet, Dv.sExpr, Dv.eVar, Dv.eStr, Dv.lNil, Dv.lCons, Dv.eCall, Dv.all, Dv.R.bind, Dv.RL.bind, Dv.R.bindL, Dv.RL.bindL, Dv.Out.bind, get_sh, scal_int, scal_lst, List.map_cons, List.map_nil, List.length_cons, List.length_nil, List.replicate, List.cons_append, List.nil_append, List.getElem?_cons_zero, List.getElem?_cons_succ, Bool.and_true, Bool.and_false, Nat.reduceAdd, Nat.reduceSub, ck, Dv.eJoin, hc, hj]
theorem text_x {n : Int} {xs : List Int} {c : String} (h : F_check_beat [.int n, L xs] = .exc c) : F_beat_text [.int n, L xs] = .exc c := by
  simp only [F_beat_text, b_beat_text, b_beat_text_t1, Dv.fn, Dv.sCons, Dv.sExpr, Dv.eVar, Dv.lNil, Dv.lCons, Dv.eCall, Dv.all, Dv.R.bind, Dv.RL.bind, Dv.R.bindL, Dv.RL.bindL, Dv.Out.bind, get_sh, scal_int, scal_lst, List.map_cons, List.map_nil, List.length_cons, List.length_nil, List.replicate, List.cons_append, List.nil_append, List.getElem?_cons_zero, List.getElem?_cons_succ, Bool.and_true, Bool.and_false, Nat.reduceAdd, Nat.reduceSub, h]
theorem txt_len (n : Int) (xs : List Int) : (txt n xs).length = n.toNat := by unfold txt; rw [List.length_map, upto_len]
theorem txt_two (n : Int) (xs : List Int) : ∀ c ∈ txt n xs, c = 120 ∨ c = 46 := fun c hc => by
  obtain ⟨p, _, rfl⟩ := List.mem_map.mp hc
  unfold sgn
  split <;> simp
theorem txt_tx (n : Int) (xs : List Int) : Tx (txt n xs) := fun c hc => by
  rcases txt_two n xs c hc with rfl | rfl <;> decide
theorem txt_good {n : Int} {xs : List Int} (hn : n ≤ 60) (h : Beat n xs) : Good (txt n xs) := by
  refine ⟨?_, txt_two n xs, by rw [txt_len]; omega⟩
  obtain ⟨x, hx⟩ := List.exists_mem_of_ne_nil xs h.ne
  have := h.rg x hx
  exact List.mem_map.mpr ⟨x, mem_upto.mpr ⟨this.1, by omega⟩, by unfold sgn; rw [if_pos hx]⟩
theorem plX_mem : ∀ (f : Nat → Nat) (n k : Nat), plX k ((List.range' k n).map f) = ((List.range' k n).filter fun i => decide (f i = 120)).map fun (i : Nat) => (i : Int)
  | f, 0, k => rfl
  | f, n + 1, k => by
    rw [List.range'_succ, List.map_cons]
    unfold plX
    rw [plX_mem f n (k + 1)]
    by_cases h : f k = 120
    · simp only [h, if_true, List.filter_cons, decide_true, List.map_cons]
    · simp only [h, if_false, List.filter_cons, decide_false, Bool.false_eq_true]
theorem plX_txt {n : Int} {xs : List Int} (h : Beat n xs) : plX 0 (txt n xs) = xs := by
  have e : txt n xs = (List.range' 0 n.toNat).map fun (i : Nat) => sgn xs (i : Int) := by
    unfold txt upto
    rw [List.map_map, List.range_eq_range']
    rfl
  rw [e, plX_mem]
  refine up_same ?_ h.up fun x => ?_
  · refine List.pairwise_map.mpr (List.Pairwise.filter _ ?_)
    rw [← List.range_eq_range']
    exact List.pairwise_lt_range.imp fun {a b} h => by omega
  · rw [List.mem_map]
    constructor
    · rintro ⟨i, hi, rfl⟩
      have := (List.mem_filter.mp hi).2
      unfold sgn at this
      by_cases hx : (i : Int) ∈ xs
      · exact hx
      · rw [if_neg hx] at this; simp at this
    · intro hx
      have hr := h.rg x hx
      refine ⟨x.toNat, List.mem_filter.mpr ⟨?_, ?_⟩, by omega⟩
      · rw [← List.range_eq_range', List.mem_range]; omega
      · have : ((x.toNat : Nat) : Int) = x := by omega
        unfold sgn
        rw [this, if_pos hx]
        rfl
theorem ref71_w {n : Int} {xs : List Int} (h : F_check_beat [.int n, L xs] = .exc "NoWheel") : F_law_refused_v7 [.int n, L xs] = .ok (.lst [.bl true, .bl true, .bl false, .bl false]) true := by
  have a1 : ∀ f, Dv.isXD ["WheelError", "NoWheel", "NoBeat", "NoText"] ["ValueError"] (.exn "NoWheel") f = .ok (.bl true) true := fun f => rfl
  have a2 : ∀ f, Dv.isXD ["WheelError", "NoWheel", "NoBeat", "NoText"] ["NoWheel"] (.exn "NoWheel") f = .ok (.bl true) true := fun f => rfl
  have a3 : ∀ f, Dv.isXD ["WheelError", "NoWheel", "NoBeat", "NoText"] ["NoBeat"] (.exn "NoWheel") f = .ok (.bl false) true := fun f => rfl
  have a5 : ∀ f, Dv.isXD ["WheelError", "NoWheel", "NoBeat", "NoText"] ["NoText"] (.exn "NoWheel") f = .ok (.bl false) true := fun f => rfl
  have a4 : (["WheelError", "NoWheel", "NoBeat", "NoText"].contains "NoWheel" && Dv.subX "NoWheel" "WheelError") = true := by decide
  simp only [F_law_refused_v7, b_law_refused_v7, b_law_refused_v7_t1, Dv.fn, Dv.sCons, Dv.sRet, Dv.sExpr, Dv.eB1, Dv.eVar, Dv.eLst, Dv.lNil, Dv.lCons, Dv.eCall, Dv.all, Dv.R.bind, Dv.RL.bind, Dv.R.bindL, Dv.RL.bindL, Dv.Out.bind, get_no, get_sh, scal_int, scal_lst, List.map_cons, List.map_nil, List.length_cons, List.length_nil, List.replicate, List.cons_append, List.nil_append, List.getElem?_cons_zero, List.getElem?_cons_succ, List.set_cons_zero, List.set_cons_succ, Bool.and_true, Bool.and_false, if_true, Nat.reduceAdd, Nat.reduceSub, text_x h, Dv.sTryAs, a4, a1, a2, a3, a5, Dv.unb, Dv.flatL]
theorem ref71_b {n : Int} {xs : List Int} (h : F_check_beat [.int n, L xs] = .exc "NoBeat") : F_law_refused_v7 [.int n, L xs] = .ok (.lst [.bl true, .bl false, .bl true, .bl false]) true := by
  have a1 : ∀ f, Dv.isXD ["WheelError", "NoWheel", "NoBeat", "NoText"] ["ValueError"] (.exn "NoBeat") f = .ok (.bl true) true := fun f => rfl
  have a2 : ∀ f, Dv.isXD ["WheelError", "NoWheel", "NoBeat", "NoText"] ["NoWheel"] (.exn "NoBeat") f = .ok (.bl false) true := fun f => rfl
  have a3 : ∀ f, Dv.isXD ["WheelError", "NoWheel", "NoBeat", "NoText"] ["NoBeat"] (.exn "NoBeat") f = .ok (.bl true) true := fun f => rfl
  have a5 : ∀ f, Dv.isXD ["WheelError", "NoWheel", "NoBeat", "NoText"] ["NoText"] (.exn "NoBeat") f = .ok (.bl false) true := fun f => rfl
  have a4 : (["WheelError", "NoWheel", "NoBeat", "NoText"].contains "NoBeat" && Dv.subX "NoBeat" "WheelError") = true := by decide
  simp only [F_law_refused_v7, b_law_refused_v7, b_law_refused_v7_t1, Dv.fn, Dv.sCons, Dv.sRet, Dv.sExpr, Dv.eB1, Dv.eVar, Dv.eLst, Dv.lNil, Dv.lCons, Dv.eCall, Dv.all, Dv.R.bind, Dv.RL.bind, Dv.R.bindL, Dv.RL.bindL, Dv.Out.bind, get_no, get_sh, scal_int, scal_lst, List.map_cons, List.map_nil, List.length_cons, List.length_nil, List.replicate, List.cons_append, List.nil_append, List.getElem?_cons_zero, List.getElem?_cons_succ, List.set_cons_zero, List.set_cons_succ, Bool.and_true, Bool.and_false, if_true, Nat.reduceAdd, Nat.reduceSub, text_x h, Dv.sTryAs, a4, a1, a2, a3, a5, Dv.unb, Dv.flatL]
theorem ne4_w : Dv.cmD .ne (.lst [.bl true, .bl true, .bl false, .bl false]) (.lst [.bl true, .bl true, .bl false, .bl false]) = .ok (.bl false) true := rfl
theorem ne4_b : Dv.cmD .ne (.lst [.bl true, .bl false, .bl true, .bl false]) (.lst [.bl true, .bl false, .bl true, .bl false]) = .ok (.bl false) true := rfl
theorem read_is_ok (n : Int) (xs : List Int) : F_law_read_is [.tup [.int n, L xs], .int n, L xs] = .ok (.bl true) true := by
  have k2 : decide (((2 : Nat) : Int) = 2) = true := rfl
  have a0 : Dv.at? [D.int n, L xs] 0 = some (.int n) := rfl
  have a1 : Dv.at? [D.int n, L xs] 1 = some (L xs) := rfl
  simp only [F_law_read_is, b_law_read_is, b_law_read_is_t1, Dv.fn, Dv.sCons, Dv.sNil, Dv.sIf, Dv.sRet, Dv.eB1, Dv.lenD, Dv.eIx, Dv.ixD, Dv.eOr, Dv.eNot, Dv.eCm, Dv.eVar, Dv.eInt, Dv.lNil, Dv.lCons, Dv.eCall, Dv.all, Dv.R.bind, Dv.RL.bind, Dv.R.bindL, Dv.RL.bindL, Dv.Out.bind, get_sh, Dv.isTupD, scal_int, scal_lst, scal_tup, List.map_cons, List.map_nil, List.length_cons, List.length_nil, List.replicate, List.cons_append, List.nil_append, List.getElem?_cons_zero, List.getElem?_cons_succ, Bool.or_true, Bool.and_true, Bool.or_false, Bool.and_false, Bool.not_true, Nat.reduceAdd, Nat.reduceSub, decide_true, cm_neI, k2, a0, a1, whole_ok, beat_is_ok]
theorem law71_loop {s : List Int} {n : Int} {xs : List Int} {A : Sl} (hn : n ≤ 60) (h : Beat n xs) : ∀ (ks : List Int) (y z : Sl), (∀ k ∈ ks, 0 ≤ k ∧ k < 5) →
    ∃ y' z', Dv.forGo 4 b_law_k71_l1 (ks.map .int) [.sh (L s), .sh (.int n), .ow (L xs), A, y, z, .no, .no, .no, .no, .no] = .nx [.sh (L s), .sh (.int n), .ow (L xs), A, y', z', .no, .no, .no, .no, .no]
  | [], y, z, _ => ⟨y, z, rfl⟩
  | k :: r, y, z, hk => by
    have hp := h.pos
    have c3 := cell_ok (s := s) (k := 3) (by omega) (by omega)
    have hp12 : Dv.opD .pow (.int 10) (.int 12) = .ok (.int 1000000000000) true := rfl
    have mu := mul_ok (mulOk_l (i := 5) (j := cell s 3 / 2 % 1000000000000) (by decide) (by decide))
    obtain ⟨zs, sp, hz⟩ := spoiled_ok (v := k + 5 * (cell s 3 / 2 % 1000000000000)) hn h
    have rb := ref71_b (check_beat_no (by omega) hn hz)
    obtain ⟨y', z', e⟩ := law71_loop (s := s) (A := A) hn h r (.sh (.int k)) (.ow (L zs)) fun x hx => hk x (List.mem_cons_of_mem _ hx)
    refine ⟨y', z', ?_⟩
    rw [List.map_cons, forGo_nx (st' := [.sh (L s), .sh (.int n), .ow (L xs), A, .sh (.int k), .ow (L zs), .no, .no, .no, .no, .no]), e]
    simp only [b_law_k71_l1, Dv.sCons, Dv.sNil, Dv.sSet, keep_L, Dv.sIf, Dv.eCm, Dv.eOp, Dv.eVar, Dv.eInt, Dv.eBl, Dv.eLst, Dv.lNil, Dv.lCons, Dv.eCall, Dv.all, Dv.R.bind, Dv.RL.bind, Dv.R.bindL, Dv.RL.bindL, Dv.Out.bind, get_no, get_sh, get_ow, scal_int, scal_lst, List.map_cons, List.map_nil, List.getElem?_cons_zero, List.getElem?_cons_succ, List.set_cons_zero, List.set_cons_succ, Bool.and_true, Bool.and_false, add_ok, c3, fdiv_ok (j := 2) (by decide) (by decide), hp12, mod_ok (j := 1000000000000) (by decide), mu, sp, rb, ne4_b]
theorem law71_due {S A B E F G H I : Sl} {xs : List Int} : ∀ (ps : List Int) (t : List Nat) (z : Sl), t.length + ps.length ≤ 100 →
    ∃ z', Dv.forGo 8 b_law_k71_l2 (ps.map .int) [S, A, .ow (L xs), B, E, F, G, .sh (.str t), z, .no, .no] = .nx [S, A, .ow (L xs), B, E, F, G, .sh (.str (t ++ ps.map (sgn xs))), z', .no, .no]
  | [], t, z, _ => ⟨z, by simp [Dv.forGo]⟩
  | p :: r, t, z, hl => by
    rw [List.length_cons] at hl
    have key : b_law_k71_l2 [S, A, .ow (L xs), B, E, F, G, .sh (.str t), .sh (.int p), .no, .no] = .nx [S, A, .ow (L xs), B, E, F, G, .sh (.str (t ++ [sgn xs p])), .sh (.int p), .no, .no] := by
      have hx : t.length + 1 ≤ Dv.mx := by unfold Dv.mx; omega
      have hcat : ∀ c, Dv.addSD (.str t) (.str [c]) = .ok (.str (t ++ [c])) true := fun c => by simp only [Dv.addSD, List.length_cons, List.length_nil, hx, Nat.zero_add, if_true]
      by_cases hh : p ∈ xs
      · have hix : Dv.ixSD (.str [46, 120]) (.int 1) = .ok (.str [120]) true := rfl
        have e : sgn xs p = 120 := if_pos hh
        simp only [b_law_k71_l2, Dv.sSet, Dv.eB1, Dv.eB2, Dv.intD, Dv.eCm, Dv.eVar, Dv.eStr, Dv.all, Dv.R.bind, Dv.RL.bind, Dv.Out.bind, get_no, get_sh, get_ow, scal_int, scal_lst, List.map_cons, List.map_nil, List.getElem?_cons_zero, List.getElem?_cons_succ, List.set_cons_zero, List.set_cons_succ, if_true, scal_str, cm_in, decide_eq_true hh, hix, hcat, keep_str, e]
      · have hix : Dv.ixSD (.str [46, 120]) (.int 0) = .ok (.str [46]) true := rfl
        have e : sgn xs p = 46 := if_neg hh
        simp only [b_law_k71_l2, Dv.sSet, Dv.eB1, Dv.eB2, Dv.intD, Dv.eCm, Dv.eVar, Dv.eStr, Dv.all, Dv.R.bind, Dv.RL.bind, Dv.Out.bind, get_no, get_sh, get_ow, scal_int, scal_lst, List.map_cons, List.map_nil, List.getElem?_cons_zero, List.getElem?_cons_succ, List.set_cons_zero, List.set_cons_succ, if_false, Bool.false_eq_true, scal_str, cm_in, decide_eq_false hh, hix, hcat, keep_str, e]
    obtain ⟨z', e⟩ := law71_due (S := S) (A := A) (B := B) (E := E) (F := F) (G := G) (H := H) (I := I) (xs := xs) r (t ++ [sgn xs p]) (.sh (.int p)) (by simp; omega)
    refine ⟨z', ?_⟩
    rw [List.map_cons, forGo_nx (st' := [S, A, .ow (L xs), B, E, F, G, .sh (.str (t ++ [sgn xs p])), .sh (.int p), .no, .no]), e]
    · simp
    · simp only [List.set_cons_succ, List.set_cons_zero]; exact key
theorem law71_end {S B E F G z : Sl} {n : Int} {xs : List Int} (hn : n ≤ 60) (h : Beat n xs) :
    b_law_k71_t8 [S, .sh (.int n), .ow (L xs), B, E, F, .ow (L xs), .sh (.str (txt n xs)), z, .no, .no] = .ret (.bl true) true := by
  have tk := text_ok hn h
  have rd := read_ok (txt_tx n xs) (txt_good hn h)
  have e1 : ((txt n xs).length : Int) = n := by rw [txt_len]; have := h.pos; omega
  rw [e1, plX_txt h] at rd
  have q : Dv.cmD .ne (.str (txt n xs)) (.str (txt n xs)) = .ok (.bl false) true := by rw [cm_neS]; simp
  have ri := read_is_ok n xs
  have hl := h.len
  have hx : xs.length < Dv.mx := by unfold Dv.mx; omega
  simp only [L] at rd ri
  simp only [b_law_k71_t8, b_law_k71_t9, b_law_k71_t10, b_law_k71_t11, b_law_k71_t12, b_law_k71_t13, Dv.sCons, Dv.sNil, Dv.sSet, Dv.sIf, Dv.sRet, Dv.eB1, Dv.eOr, Dv.eNot, Dv.eCm, Dv.eVar, Dv.eInt, Dv.lNil, Dv.lCons, Dv.eCall, Dv.all, Dv.R.bind, Dv.RL.bind, Dv.R.bindL, Dv.RL.bindL, Dv.Out.bind, get_no, get_sh, get_ow, get_dp, Dv.sSetD, scal_int, scal_lst, scal_tup, List.map_cons, List.map_nil, List.getElem?_cons_zero, List.getElem?_cons_succ, List.set_cons_zero, List.set_cons_succ, Bool.and_true, Bool.and_false, Bool.not_true, if_true, decide_true, cm_neL, scal_str, List.length_map, tk, keep_str, Dv.isStrD, q, rd, ri, L, Dv.sKill1, decide_eq_true hx]
theorem law71_ok {s : List Int} (hs : Sm s) : F_law_k71 [L s] = .ok (.bl true) true := by
  have c0 := cell_ok (s := s) (k := 0) (by omega) (by omega)
  have c3 := cell_ok (s := s) (k := 3) (by omega) (by omega)
  have hm := mod_rg (n := 60) (a := cell s 0) (by omega)
  generalize hn : 1 + cell s 0 % 60 = n at *
  have hn1 : 1 ≤ n := by omega
  have hn2 : n ≤ 60 := by omega
  have hb := some_beat s 1 hn1
  have so := some_ok hs (k := 1) (by omega) (by omega) hn1 hn2
  generalize someOf s 1 n = xs at *
  have hp9 : Dv.opD .pow (.int 10) (.int 9) = .ok (.int 1000000000) true := rfl
  have hmf := mod_rg (n := 1000000000) (a := cell s 3 / 2) (by omega)
  generalize hf : cell s 3 / 2 % 1000000000 = far at *
  obtain ⟨w, hat, hw⟩ : ∃ w, Dv.at? [.int (0 - far), .int (61 + far)] (cell s 3 % 2) = some (.int w) ∧ ¬ (1 ≤ w ∧ w ≤ 60) := by
    rcases (show cell s 3 % 2 = 0 ∨ cell s 3 % 2 = 1 by omega) with h | h
    · exact ⟨0 - far, by rw [h]; rfl, by omega⟩
    · exact ⟨61 + far, by rw [h]; rfl, by omega⟩
  have rw_ := ref71_w (n := w) (xs := xs) (by rw [check_beat_eq, if_neg hw])
  obtain ⟨y', z', e⟩ := law71_loop (s := s) (A := .sh (.int far)) hn2 hb (upto 5) .no .no fun k hk => by have := mem_upto.mp hk; omega
  have e5 : Dv.rangeL 0 (5 : Int).toNat = (upto 5).map .int := range_upto 5
  obtain ⟨z2, e2⟩ := law71_due (S := .sh (L s)) (A := .sh (.int n)) (B := .sh (.int far)) (E := y') (F := z') (G := .ow (L xs)) (H := .no) (I := .no) (xs := xs) (upto n.toNat) [] .no (by rw [upto_len]; simp; omega)
  rw [List.nil_append, show (upto n.toNat).map (sgn xs) = txt n xs from rfl] at e2
  have en := law71_end (S := .sh (L s)) (B := .sh (.int far)) (E := y') (F := z') (G := .no) (z := z2) hn2 hb
  have ls : Dv.listD (L xs) false = .ok (L xs) true := by simp only [L, Dv.listD, flat_L, Bool.or_true]
  simp only [b_law_k71, F_law_k71, b_law_k71_t1, b_law_k71_t2, b_law_k71_t3, b_law_k71_t4, b_law_k71_t5, b_law_k71_t6, b_law_k71_t7, Dv.fn, Dv.sCons, Dv.sNil, Dv.sSet, keep_int, keep_L, Dv.give, Dv.open_, shared_no, shared_sh, shared_ow, Dv.sIf, Dv.sFor, Dv.iRange, Dv.eB1, Dv.listD, Dv.eIx, Dv.ixD, Dv.eCm, Dv.eOp, Dv.eVar, Dv.eInt, Dv.eBl, Dv.eStr, Dv.eLst, Dv.lNil, Dv.lCons, Dv.eCall, Dv.all, Dv.R.bind, Dv.RL.bind, Dv.R.bindL, Dv.RL.bindL, Dv.Out.bind, get_no, get_sh, get_ow, scal_int, scal_lst, List.map_cons, List.map_nil, List.length_cons, List.length_nil, List.replicate, List.cons_append, List.nil_append, List.getElem?_cons_zero, List.getElem?_cons_succ, List.set_cons_zero, List.set_cons_succ, List.foldl_nil, Bool.or_true, Bool.and_true, Bool.and_false, if_true, Nat.reduceAdd, Nat.reduceSub, add_ok, sub_ok, flat_L, c0, c3, mod_ok (j := 60) (by omega), hn, so, fdiv_ok (j := 2) (by omega) (by omega), hp9, mod_ok (j := 1000000000) (by omega), hf, mod_ok (j := 2) (by omega), hat, rw_, ne4_w, rng2_ok (n := 5) (by omega) (by omega), e5, e, keep_str, rng_ok (n := n) (by omega) (by omega), range_upto, e2, en]
end Cw
set_option Elab.async false
set_option linter.all false
open PySem PySem.W PyProof.Rows
set_option maxRecDepth 100000 in
set_option maxHeartbeats 0 in
theorem PySem.Challenge.cw_canonwheel_k71_beat_texts_holds : PySem.Challenge.rw_canonwheel_k71_beat_texts.Holds := by
  w_on; o_law; k_head; (case hw => w_witness2)
  k_fill
  refine Sd.walkD (l := PySem.Challenge.rw_canonwheel_k71_beat_texts) (k := 5) (x := "_law_script") (CX := fun w => Sd.CXe PySem.Challenge.rw_canonwheel_k71_beat_texts.prog w) (Fl := Cw.F_law_k71) rfl rfl ⟨rfl, by decide, by decide⟩ (fun w h Y => PySem.W.kIn_of Y) (fun w => Sd.cxe_ok) ?F ?S
  case F =>
    intro w mg fa h KX G hmg
    refine' Lk71.all_mk KX G hmg ?a_check_wheel ?l_check_wheel ?c_check_wheel ?k_check_wheel ?a_check_rising ?l_check_rising ?c_check_rising ?k_check_rising ?a_check_beat ?l_check_beat ?c_check_beat ?k_check_beat ?a_has_only ?l_has_only ?c_has_only ?k_has_only ?a_read_beat ?l_read_beat ?c_read_beat ?k_read_beat ?a_beat_text ?l_beat_text ?c_beat_text ?k_beat_text ?a_law_cell ?l_law_cell ?c_law_cell ?k_law_cell ?a_law_whole ?l_law_whole ?c_law_whole ?k_law_whole ?a_law_beat_is ?l_law_beat_is ?c_law_beat_is ?k_law_beat_is ?a_law_some ?l_law_some ?c_law_some ?k_law_some ?a_law_refused ?l_law_refused ?c_law_refused ?k_law_refused ?a_law_spoiled ?l_law_spoiled ?c_law_spoiled ?k_law_spoiled ?a_law_read_is ?l_law_read_is ?c_law_read_is ?k_law_read_is ?a_law ?l_law ?c_law ?k_law ?z_len ?z_all ?z_isinstance ?z_str ?z_enumerate ?z_range ?z_int ?z_bool ?z_list ?z_zip ?z_max ?z_ValueError ?z_tuple ?n_LONGEST ?a_WheelError ?x_WheelError ?g1_WheelError ?g2_WheelError ?g3_WheelError ?v_WheelError ?a_NoWheel ?x_NoWheel ?g1_NoWheel ?g2_NoWheel ?g3_NoWheel ?v_NoWheel ?a_NoBeat ?x_NoBeat ?g1_NoBeat ?g2_NoBeat ?g3_NoBeat ?v_NoBeat ?a_NoText ?x_NoText ?g1_NoText ?g2_NoText ?g3_NoText ?v_NoText ?s_WheelError_WheelError ?s_WheelError_NoWheel ?s_WheelError_NoBeat ?s_WheelError_NoText ?s_NoWheel_WheelError ?s_NoWheel_NoWheel ?s_NoWheel_NoBeat ?s_NoWheel_NoText ?s_NoBeat_WheelError ?s_NoBeat_NoWheel ?s_NoBeat_NoBeat ?s_NoBeat_NoText ?s_NoText_WheelError ?s_NoText_NoWheel ?s_NoText_NoBeat ?s_NoText_NoText
    (case a_check_wheel => k_is)
    (case l_check_wheel => k_is)
    (case c_check_wheel => k_is)
    (case k_check_wheel => k_is)
    (case a_check_rising => k_is)
    (case l_check_rising => k_is)
    (case c_check_rising => k_is)
    (case k_check_rising => k_is)
    (case a_check_beat => k_is)
    (case l_check_beat => k_is)
    (case c_check_beat => k_is)
    (case k_check_beat => k_is)
    (case a_has_only => k_is)
    (case l_has_only => k_is)
    (case c_has_only => k_is)
    (case k_has_only => k_is)
    (case a_read_beat => k_is)
    (case l_read_beat => k_is)
    (case c_read_beat => k_is)
    (case k_read_beat => k_is)
    (case a_beat_text => k_is)
    (case l_beat_text => k_is)
    (case c_beat_text => k_is)
    (case k_beat_text => k_is)
    (case a_law_cell => k_is)
    (case l_law_cell => k_is)
    (case c_law_cell => k_is)
    (case k_law_cell => k_is)
    (case a_law_whole => k_is)
    (case l_law_whole => k_is)
    (case c_law_whole => k_is)
    (case k_law_whole => k_is)
    (case a_law_beat_is => k_is)
    (case l_law_beat_is => k_is)
    (case c_law_beat_is => k_is)
    (case k_law_beat_is => k_is)
    (case a_law_some => k_is)
    (case l_law_some => k_is)
    (case c_law_some => k_is)
    (case k_law_some => k_is)
    (case a_law_refused => k_is)
    (case l_law_refused => k_is)
    (case c_law_refused => k_is)
    (case k_law_refused => k_is)
    (case a_law_spoiled => k_is)
    (case l_law_spoiled => k_is)
    (case c_law_spoiled => k_is)
    (case k_law_spoiled => k_is)
    (case a_law_read_is => k_is)
    (case l_law_read_is => k_is)
    (case c_law_read_is => k_is)
    (case k_law_read_is => k_is)
    (case a_law => k_is)
    (case l_law => k_is)
    (case c_law => k_is)
    (case k_law => k_is)
    (case z_len => k_is)
    (case z_all => k_is)
    (case z_isinstance => k_is)
    (case z_str => k_is)
    (case z_enumerate => k_is)
    (case z_range => k_is)
    (case z_int => k_is)
    (case z_bool => k_is)
    (case z_list => k_is)
    (case z_zip => k_is)
    (case z_max => k_is)
    (case z_ValueError => k_is)
    (case z_tuple => k_is)
    (case n_LONGEST => k_is)
    (case a_WheelError => k_is)
    (case x_WheelError => k_exc)
    (case g1_WheelError => k_is)
    (case g2_WheelError => k_is)
    (case g3_WheelError => k_is)
    (case v_WheelError => kit_is)
    (case a_NoWheel => k_is)
    (case x_NoWheel => k_exc)
    (case g1_NoWheel => k_is)
    (case g2_NoWheel => k_is)
    (case g3_NoWheel => k_is)
    (case v_NoWheel => kit_is)
    (case a_NoBeat => k_is)
    (case x_NoBeat => k_exc)
    (case g1_NoBeat => k_is)
    (case g2_NoBeat => k_is)
    (case g3_NoBeat => k_is)
    (case v_NoBeat => kit_is)
    (case a_NoText => k_is)
    (case x_NoText => k_exc)
    (case g1_NoText => k_is)
    (case g2_NoText => k_is)
    (case g3_NoText => k_is)
    (case v_NoText => kit_is)
    (case s_WheelError_WheelError => kit_is)
    (case s_WheelError_NoWheel => kit_is)
    (case s_WheelError_NoBeat => kit_is)
    (case s_WheelError_NoText => kit_is)
    (case s_NoWheel_WheelError => kit_is)
    (case s_NoWheel_NoWheel => kit_is)
    (case s_NoWheel_NoBeat => kit_is)
    (case s_NoWheel_NoText => kit_is)
    (case s_NoBeat_WheelError => kit_is)
    (case s_NoBeat_NoWheel => kit_is)
    (case s_NoBeat_NoBeat => kit_is)
    (case s_NoBeat_NoText => kit_is)
    (case s_NoText_WheelError => kit_is)
    (case s_NoText_NoWheel => kit_is)
    (case s_NoText_NoBeat => kit_is)
    (case s_NoText_NoText => kit_is)
  case S => exact fun ns _ hb => Cw.law71_ok hb
