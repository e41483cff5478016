import PyProof.Rows.All
import Wide.All
import OpenK.AllK
import Wide.FinOn
import KE.KOpsOwn
import HandS.ForMost
import HandS.ForExc
import HandS.IsInst
import HandS.Gcd
import HandS.Wide
import HandS.Defaults
import HandS.MakeKw
import HandS.OwnEq
import HandS.Codes
import HandS.Style
import HandS.StrMore
import HandS.ExcInit
import HandS.MakeKwOnly
import HandS.TryMany
import HandS.Steps
import PyProof.ReprRoads
import HandS.ExcField
import PySem.Challenge.RW_firstmeans_k02_ratios
set_option Elab.async false
set_option linter.all false
set_option maxRecDepth 100000
set_option maxHeartbeats 2000000
namespace Fm
open PySem PySem.Spec PyProof.Rows L2
section
variable {X : Cx} {CX : CXT} {k : Nat} {f C : Addr} {fd : FuncData} {ps : List Str} {sp : Sp} {E : XK}

theorem back_of {pins : List (Addr × Obj)} {σ : L2.St} {Q : VK} {v : Value} {s : Shared} (h : EP X pins σ Q v s) : PySem.W.CmpBack (EP X pins σ Q) v s := by
  cases v with
  | notImplemented =>
    obtain ⟨x, H, _, r, _⟩ := h
    cases x <;> first | exact nomatch r | (obtain ⟨t, e⟩ := r; exact nomatch e)
  | _ => exact h
theorem run_back {pins : List (Addr × Obj)} {σ : L2.St} {H : Hp} {s : Shared} {Q : VK} {us : List Value} {vs : List V} (F : FnOk X.prog X.w X.K X.mg X.base CX k f fd ps sp) (hr : Room k X.A) (hb : Binds X.K fd ps []) (hx : Passes CX X E)
    (I : Inv X pins σ H s) (r : Vals vs us) (h : sp vs H Q E) : wpAny (model X.prog X.w) X.A (call (.ref f) us) (PySem.W.CmpBack (EP X pins σ Q)) X.xe s :=
  thn (run_fn F hr hb .nil hx I r (by rw [List.append_nil]; exact h)) fun _ _ q => back_of q

/-- a value of the type that is known: an int, or another instance of the class at C -/
def NumLike (C : Addr) (y : V) (H : Hp) : Prop := (∃ j, y = .int j) ∨ ∃ b db gs, y = .ref b ∧ H b = some (.ins C db gs)
def rOwn (C : Addr) (sp : Sp) (E : XK) : R2 := fun x y H Q => (∃ a dx fs, x = .ref a ∧ H a = some (.ins C dx fs)) ∧ NumLike C y H ∧ sp [x, y] H Q E
theorem inst_of {pins : List (Addr × Obj)} {σ : L2.St} {H : Hp} {s : Shared} {a dx : Addr} {fs : List (Str × V)} (I : Inv X pins σ H s) (h : H a = some (.ins C dx fs)) : ∃ ox od, PySem.W.InstAt s.heap a ox C od := by
  obtain ⟨mA, J, _⟩ := ins_get I.hok h
  obtain ⟨od, J, _⟩ := J.look
  exact ⟨_, _, J⟩
/-- what the written part says of an own operator: name its dunder, rname the reflected one -/
structure OpFn (K : PySem.W.Frag) (C f : Addr) (op : Operator) : Prop where
  sf : PySem.W.selfFirst K C = true
  hs : PySem.W.findIn K (.ref C) (PySem.dunder op.info.2) = some (some (.ref f))
  fn : PySem.W.isFn K (.ref f) = true
  hr : PySem.W.findIn K (.ref C) (dunderR op.info.2) = some none
  h1 : ∃ fo, PySem.W.findIn K (.type "int") (PySem.dunder op.info.2) = some fo
  h2 : ∃ ro, PySem.W.findIn K (.type "int") (dunderR op.info.2) = some ro
  sub : PySem.W.subIn K (.type "int") (.ref C) = some false
theorem op_own {op : Operator} (T : OpFn X.K C f op) (F : FnOk X.prog X.w X.K X.mg X.base CX k f fd ps sp) (hr : Room k X.A) (hb : Binds X.K fd ps []) (hx : Passes CX X E) : OpR X (binaryOp op) (rOwn C sp E) := by
  intro pins s σ H x y v u Q I rx ry h
  obtain ⟨⟨a, dx, fs, rfl, ha⟩, hy, q⟩ := h
  cases rx
  obtain ⟨ox, od, J⟩ := inst_of I ha
  obtain ⟨m, hF⟩ := I.fr
  rcases hy with ⟨j, rfl⟩ | ⟨b, db, gs, rfl, hb'⟩
  · obtain ⟨t, rfl⟩ := ry
    obtain ⟨fo, e1⟩ := T.h1
    obtain ⟨ro, e2⟩ := T.h2
    exact PySem.W.ksp_binT (T := "int") hF I.ok.mod.kin J rfl T.sf T.hs T.fn T.hr (.inl rfl) e1 e2 T.sub (run_back (vs := [.ref a, .int j]) F hr hb hx I (.cons rfl (.cons ⟨t, rfl⟩ .nil)) q)
  · cases ry
    obtain ⟨oy, oyd, J'⟩ := inst_of I hb'
    exact PySem.W.binop_K hF I.ok.mod.kin J J'.type T.sf T.hs T.fn (run_back (vs := [.ref a, .ref b]) F hr hb hx I (.cons rfl (.cons rfl .nil)) q)
/-- -x -/
def rOwnU (C : Addr) (sp : Sp) (E : XK) : V → Hp → VK → Prop := fun x H Q => (∃ a dx fs, x = .ref a ∧ H a = some (.ins C dx fs)) ∧ sp [x] H Q E
theorem un_own (hs : PySem.W.findIn X.K (.ref C) "__neg__" = some (some (.ref f))) (hf : PySem.W.isFn X.K (.ref f) = true) (F : FnOk X.prog X.w X.K X.mg X.base CX k f fd ps sp) (hr : Room k X.A) (hb : Binds X.K fd ps []) (hx : Passes CX X E) :
    UnR X (unaryOp .USub) (rOwnU C sp E) := by
  intro pins s σ H x v Q I rx h
  obtain ⟨⟨a, dx, fs, rfl, ha⟩, q⟩ := h
  cases rx
  obtain ⟨ox, od, J⟩ := inst_of I ha
  obtain ⟨m, hF⟩ := I.fr
  exact PySem.W.ksp_neg hF I.ok.mod.kin J hs hf (run_fn (us := [.ref a]) (vs := [.ref a]) (dvs := []) (ds := []) F hr hb .nil hx I (.cons rfl .nil) q)
/-- comparisons: the left one an own instance, the right one of a known type -/
structure CmpFn (K : PySem.W.Frag) (C f : Addr) (op : CmpOp) : Prop where
  hs : PySem.W.findIn K (.ref C) (cmpInfo op).2.1 = some (some (.ref f))
  fn : PySem.W.isFn K (.ref f) = true
def rCmpOwn (K : PySem.W.Frag) (C : Addr) (sp : Sp) (E : XK) : R2 := fun x y H Q => (∃ a dx fs, x = .ref a ∧ H a = some (.ins C dx fs)) ∧ (∃ t, TyX K H y t ∧ PySem.W.notFirst K C t = true) ∧ sp [x, y] H Q E
theorem rel_kit {pins : List (Addr × Obj)} {σ : L2.St} {H : Hp} {s : Shared} {y : V} {u t : Value} (I : Inv X pins σ H s) (ry : RelV y u) (ty : TyX X.K H y t) : PySem.W.Looks (model X.prog X.w) s.heap (typeOf u) t := by
  obtain ⟨P, Z, p, _⟩ := kit_of I ry ty
  exact Z.ty _ _ I.kIn p
theorem op_cmp {op : CmpOp} (hop : ∀ v u : Value, compareOp op v u = richCompare op v u) (T : CmpFn X.K C f op) (F : FnOk X.prog X.w X.K X.mg X.base CX k f fd ps sp) (hr : Room k X.A) (hb : Binds X.K fd ps []) (hx : Passes CX X E) :
    OpR X (compareOp op) (rCmpOwn X.K C sp E) := by
  intro pins s σ H x y v u Q I rx ry h
  obtain ⟨⟨a, dx, fs, rfl, ha⟩, ⟨t, ty, hn⟩, q⟩ := h
  cases rx
  obtain ⟨ox, od, J⟩ := inst_of I ha
  obtain ⟨m, hF⟩ := I.fr
  rw [hop]
  exact PySem.W.cmp_K hr.units0 hF I.ok.mod.kin J (rel_kit I ry ty) hn T.hs T.fn (run_back (vs := [.ref a, y]) F hr hb hx I (.cons rfl (.cons ry .nil)) q)
/-- object.__ne__ over an own __eq__ -/
structure NeFn (K : PySem.W.Frag) (C f : Addr) : Prop where
  hn : PySem.W.findIn K (.ref C) "__ne__" = some (some (.builtin "object.__ne__"))
  hs : PySem.W.findIn K (.ref C) "__eq__" = some (some (.ref f))
  fn : PySem.W.isFn K (.ref f) = true
  ob : PySem.W.subIn K (.ref C) (.type "object") = some true
theorem ne_bind (self : Value) : bindSpecial (.builtin "object.__ne__") self = pure (.builtin "object.__ne__", [self]) := F.cmp_object.ne.bind self
theorem ne_entry {M : Model} {A : Around} {E : Value → Shared → Prop} {s : Shared} {K : PySem.W.Frag} {x C f : Addr} {ox : Obj} {od : Option Obj} {b : Value} (X : K.In s.heap) (I : PySem.W.InstAt s.heap x ox C od)
    (hs : PySem.W.findIn K (.ref C) "__eq__" = some (some (.ref f))) (hf : PySem.W.isFn K (.ref f) = true) (hu : A.units < cLine) {Q : Fin → Shared → Prop}
    (hcall : wpAny M A (call (.ref f) [.ref x, b]) (fun v s' => ∃ c, v = .bool c ∧ Q (.done (.ret (.bool (!c)))) s') E s) :
    wpAny M A (Builtin.«object.__ne__» ⟨[.ref x, b], []⟩) Q E s := by
  obtain ⟨h, g, d, t, os⟩ := s
  unfold Builtin.«object.__ne__»
  repeat (first
    | with_reducible refine wpAny_cRoomFor hu ?_
    | (refine wpAny_bind (m := callSpecialIfBound? (.ref x) (Str.ofString "__eq__") [b])
        (PySem.W.ifBound_K X I hs hf (wpAny_mono hcall (fun r s' hr => by
          obtain ⟨c, rfl, hq⟩ := hr
          repeat (first | exact hq | exact wpAny_pure hq | exact wpAny_truthy_bool hq | (refine wpAny_bind (m := truthy (.bool _)) (wpAny_truthy_bool ?_)) | wp_step)) fun _ _ e => e)))
    | wp_step)
theorem ne_own {prog : Program} {w : World} {A : Around} {E : Value → Shared → Prop} {s : Shared} {K : PySem.W.Frag} {x C f L : Addr} {h₀ : Heap} {m : Str → Option Value} {ox : Obj} {od : Option Obj} {b tb : Value} {Q : Value → Shared → Prop}
    (hu : A.units + 1 < cLine) (hF : Fr h₀ L s.heap m) (X₀ : K.In h₀) (I : PySem.W.InstAt s.heap x ox C od) (hb : PySem.W.Looks (model prog w) s.heap (typeOf b) tb) (hn : PySem.W.notFirst K C tb = true) (T : NeFn K C f)
    (h : wpAny (model prog w) A.in1 (call (.ref f) [.ref x, b]) (fun v s' => ∃ c, v = .bool c ∧ Q (.bool (!c)) s') E s) : wpAny (model prog w) A (compareOp .NotEq (.ref x) b) Q E s := by
  have X := X₀.keeps hF.keep
  have one : wpAny (model prog w) A (tryCompare (.ref x) "__ne__" b) (fun r s' => ∃ v, r = some v ∧ Q v s') E s := by
    unfold tryCompare
    have hc : wpAny (model prog w) A (call (.builtin "object.__ne__") [.ref x, b]) (fun v s' => ∃ c, v = .bool c ∧ Q (.bool c) s') E s := by
      refine wpAny_call (codeAny_call_builtin PySem.F.cmp_object.ne.plain PySem.F.cmpEntry_ne ?_)
      refine @PySem.W.check_slot (model prog w) _ _ s "object.__ne__" "object" "__ne__" (.ref x) [b] [] _ PySem.F.cmpKind_ne PySem.F.cmpSplit_ne (I.type.andThen (PySem.W.looks_subIn X T.ob)) (PySem.F.cmpArgs_ne _ _) ?_
      refine ne_entry (A := A.in1) X I T.hs T.fn hu (wpAny_mono h (fun v s' hv => ?_) fun _ _ e => e)
      obtain ⟨c, rfl, hq⟩ := hv
      exact ⟨c, rfl, _, rfl, hq⟩
    have fin : wpAny (model prog w) A (call (.builtin "object.__ne__") ([.ref x] ++ [b]) >>= fun v => pure (some v)) (fun r s' => ∃ c, r = some (Value.bool c) ∧ Q (.bool c) s') E s :=
      wpAny_bind (wpAny_mono hc (fun v s' h' => by
        obtain ⟨c, rfl, hq⟩ := h'
        exact wpAny_pure ⟨c, rfl, hq⟩) fun _ _ h' => h')
    have sp : wpAny (model prog w) A (callSpecialIfBound? (.ref x) "__ne__" [b]) (fun r s' => ∃ c, r = some (Value.bool c) ∧ Q (.bool c) s') E s := by
      simp only [callSpecialIfBound?, bindSpecialIfBound?]
      refine wpAny_holding (wpAny_bind (wpAny_bind (wpAny_bind (I.type.here ((PySem.W.looks_findIn X T.hn).here ?_)))))
      refine wpAny_bind (wpAny_askSetting (wpAny_ite ?_))
      simp only [ne_bind]
      split
      · exact wpAny_bind (wpAny_pure (wpAny_pure fin))
      · exact wpAny_tryCatch (wpAny_bind (wpAny_pure (wpAny_pure fin)))
    refine wpAny_bind (wpAny_mono sp (fun r s' z => ?_) fun _ _ e => e)
    obtain ⟨c, rfl, hq⟩ := z
    exact wpAny_pure ⟨_, rfl, hq⟩
  show wpAny (model prog w) A (richCompare .NotEq (.ref x) b) Q E s
  unfold richCompare
  simp only [oneThing_ref]
  refine wpAny_holding (wpAny_bind (wpAny_cRoomFor (Nat.lt_of_succ_lt hu) ?_))
  rw [cmpInfo_NotEq]
  dsimp only
  refine wpAny_bind (I.type.here (wpAny_bind (hb.here ?_)))
  split
  · rename_i q
    have e : PySem.W.subIn K tb (.ref C) = some false := by
      rcases Bool.or_eq_true_iff.mp hn with e | e
      · rw [beq_iff_eq.mp e] at q; simp at q
      · exact beq_iff_eq.mp e
    refine wpAny_bind ((PySem.W.looks_subIn X e).here ?_)
    simp only [Bool.false_eq_true, if_false]
    refine wpAny_bind (wpAny_mono one (fun r s' z => ?_) fun _ _ e => e)
    obtain ⟨v, rfl, hq⟩ := z
    exact wpAny_pure hq
  · refine wpAny_bind (wpAny_pure ?_)
    simp only [Bool.false_eq_true, if_false]
    refine wpAny_bind (wpAny_mono one (fun r s' z => ?_) fun _ _ e => e)
    obtain ⟨v, rfl, hq⟩ := z
    exact wpAny_pure hq
/-- x != y by the text's own ==: sp tells what == gives, a bool -/
def rNeOwn (K : PySem.W.Frag) (C : Addr) (sp : Sp) (E : XK) : R2 := fun x y H Q => (∃ a dx fs, x = .ref a ∧ H a = some (.ins C dx fs)) ∧ (∃ t, TyX K H y t ∧ PySem.W.notFirst K C t = true) ∧
  sp [x, y] H (fun v H' => ∃ b, v = .bl b ∧ Q (.bl (!b)) H') E
theorem op_neOwn (T : NeFn X.K C f) (hF' : FnOk X.prog X.w X.K X.mg X.base CX k f fd ps sp) (hr : Room (k + 1) X.A) (hb : Binds X.K fd ps []) (hx : Passes CX X E) : OpR X (compareOp .NotEq) (rNeOwn X.K C sp E) := by
  intro pins s σ H x y v u Q I rx ry h
  obtain ⟨⟨a, dx, fs, rfl, ha⟩, ⟨t, ty, hn⟩, q⟩ := h
  cases rx
  obtain ⟨ox, od, J⟩ := inst_of I ha
  obtain ⟨m, hF⟩ := I.fr
  refine ne_own (by have := hr.units0; have := hr.units; omega) hF I.ok.mod.kin J (rel_kit I ry ty) hn T ?_
  have e0 : Env0 X.prog X.w X.K X.mg X.base X.A.in1 X.stack s H := I.env0.in1
  have r : Vals [V.ref a, y] [Value.ref a, u] := .cons rfl (.cons ry .nil)
  have hl : ([Value.ref a, u] ++ []).length = ps.length := by
    rw [List.append_nil, ← r.length]; exact hF'.len _ _ _ _ q
  have hbb := hb s [Value.ref a, u] I.kIn hl
  rw [List.append_nil] at hbb
  refine wpAny_call (codeAny_mono (hF'.run X.A.in1 X.stack s H ⟨[.ref a, u], []⟩ [.ref a, u] [.ref a, y] _ E hr.in1 e0 hbb r q) fun r s' hq => ?_)
  cases r with
  | error e => exact hx pins σ H s e s' I hq
  | ok fl =>
    cases fl with
    | ret w =>
      obtain ⟨z, H', I', rz, b, ez, q'⟩ := I.after hq
      subst ez
      cases rz
      exact ⟨b, rfl, .bl (!b), H', I', rfl, q'⟩
    | next => exact False.elim hq
    | brk => exact False.elim hq
    | cont => exact False.elim hq
end
end Fm

set_option maxHeartbeats 2000000
namespace Fm
open PySem PySem.Spec PyProof.Rows L2

/-! ### quotients and their sizes -/
/-- what lowest terms divide by -/
def sg (t b : Int) : Int := if b < 0 then -((Nat.gcd t.natAbs b.natAbs : Nat) : Int) else ((Nat.gcd t.natAbs b.natAbs : Nat) : Int)
theorem gcd_pos {t b : Int} (hb : b ≠ 0) : 0 < Nat.gcd t.natAbs b.natAbs := Nat.gcd_pos_of_pos_right _ (Int.natAbs_pos.mpr hb)
theorem sg_ne {t b : Int} (hb : b ≠ 0) : sg t b ≠ 0 := by
  have := gcd_pos (t := t) hb
  unfold sg; split <;> omega
theorem sg_abs (t b : Int) : (sg t b).natAbs = Nat.gcd t.natAbs b.natAbs := by
  unfold sg; split <;> omega
theorem sg_sz {t b : Int} {k : Nat} (hb : b ≠ 0) (h : b.natAbs < 2 ^ k) : (sg t b).natAbs < 2 ^ k := by
  rw [sg_abs]
  exact Nat.lt_of_le_of_lt (Nat.gcd_le_right _ (Int.natAbs_pos.mpr hb)) h
theorem top_eq {t b : Int} (hb : b ≠ 0) : t.fdiv (sg t b) = (Rat.divInt t b).num := by
  rw [Rat.num_divInt]
  have g0 := gcd_pos (t := t) hb
  have hg : ((b.gcd t : Nat) : Int) = ((Nat.gcd t.natAbs b.natAbs : Nat) : Int) := by rw [Int.gcd_eq_natAbs_gcd_natAbs, Nat.gcd_comm]
  have hd : (((Nat.gcd t.natAbs b.natAbs : Nat)) : Int) ∣ t := Int.ofNat_dvd_left.mpr (Nat.gcd_dvd_left _ _)
  rw [hg]
  generalize hG : ((Nat.gcd t.natAbs b.natAbs : Nat) : Int) = G at hd
  have hG0 : 0 < G := by omega
  have hs : sg t b = if b < 0 then -G else G := by unfold sg; rw [hG]
  obtain ⟨c, rfl⟩ := hd
  rw [hs]
  split
  · rename_i h
    rw [Int.sign_eq_neg_one_of_neg h, show (-1 * (G * c)) = G * (-c) by rw [Int.mul_neg, Int.neg_one_mul] , Int.mul_ediv_cancel_left _ (by omega), show G * c = (-G) * (-c) by rw [Int.neg_mul_neg]]
    exact Int.mul_fdiv_cancel_left _ (by omega)
  · rename_i h
    rw [Int.sign_eq_one_of_pos (by omega), Int.one_mul, Int.mul_ediv_cancel_left _ (by omega)]
    exact Int.mul_fdiv_cancel_left _ (by omega)
theorem bot_eq {t b : Int} (hb : b ≠ 0) : b.fdiv (sg t b) = ((Rat.divInt t b).den : Int) := by
  rw [Rat.den_divInt, if_neg hb]
  have g0 := gcd_pos (t := t) hb
  have hg : b.gcd t = Nat.gcd t.natAbs b.natAbs := by rw [Int.gcd_eq_natAbs_gcd_natAbs, Nat.gcd_comm]
  have hd : (((Nat.gcd t.natAbs b.natAbs : Nat)) : Int) ∣ b := Int.ofNat_dvd_left.mpr (Nat.gcd_dvd_right _ _)
  rw [hg, Int.natCast_ediv]
  generalize hG : ((Nat.gcd t.natAbs b.natAbs : Nat) : Int) = G at hd
  have hG0 : 0 < G := by omega
  have hs : sg t b = if b < 0 then -G else G := by unfold sg; rw [hG]
  obtain ⟨c, hc⟩ := hd
  rw [hs]
  split
  · rename_i h
    have e : ((b.natAbs : Nat) : Int) = G * (-c) := by rw [Int.mul_neg, ← hc]; omega
    rw [e, Int.mul_ediv_cancel_left _ (by omega), hc, show G * c = (-G) * (-c) by rw [Int.neg_mul_neg]]
    exact Int.mul_fdiv_cancel_left _ (by omega)
  · rename_i h
    have e : ((b.natAbs : Nat) : Int) = G * c := by rw [← hc]; omega
    rw [e, Int.mul_ediv_cancel_left _ (by omega), hc]
    exact Int.mul_fdiv_cancel_left _ (by omega)
/-- k bits are enough for both parts -/
def Sz (k : Nat) (q : Rat) : Prop := q.num.natAbs < 2 ^ k ∧ q.den < 2 ^ k
theorem pw {a b : Nat} (h : a ≤ b) : 2 ^ a ≤ 2 ^ b := Nat.pow_le_pow_right (by decide) h
theorem Sz.mono {j k : Nat} {q : Rat} (h : Sz j q) (e : j ≤ k) : Sz k q := ⟨Nat.lt_of_lt_of_le h.1 (pw e), Nat.lt_of_lt_of_le h.2 (pw e)⟩
theorem Sz.divInt {k : Nat} {t b : Int} (ht : t.natAbs < 2 ^ k) (hb : b.natAbs < 2 ^ k) (h0 : b ≠ 0) : Sz k (Rat.divInt t b) := by
  have g0 := gcd_pos (t := t) h0
  have hg : b.gcd t = Nat.gcd t.natAbs b.natAbs := by rw [Int.gcd_eq_natAbs_gcd_natAbs, Nat.gcd_comm]
  constructor
  · rw [← top_eq h0]
    refine Nat.lt_of_le_of_lt ?_ ht
    have hd : sg t b ∣ t := by
      have : (((Nat.gcd t.natAbs b.natAbs : Nat)) : Int) ∣ t := Int.ofNat_dvd_left.mpr (Nat.gcd_dvd_left _ _)
      unfold sg; split
      · exact Int.neg_dvd.mpr this
      · exact this
    obtain ⟨c, hc⟩ := hd
    have hs := sg_ne (t := t) h0
    generalize sg t b = S at hc hs
    have h1 : 0 < S.natAbs := Int.natAbs_pos.mpr hs
    rw [hc, Int.mul_fdiv_cancel_left _ hs, Int.natAbs_mul]
    exact Nat.le_mul_of_pos_left _ h1
  · rw [Rat.den_divInt, if_neg h0]
    exact Nat.lt_of_le_of_lt (Nat.div_le_self _ _) hb
theorem abs_mul_lt {i j : Int} {a b : Nat} (ha : i.natAbs < 2 ^ a) (hb : j.natAbs < 2 ^ b) : (i * j).natAbs < 2 ^ (a + b) := wide_lt ha hb
theorem abs_add_lt {i j : Int} {a : Nat} (ha : i.natAbs < 2 ^ a) (hb : j.natAbs < 2 ^ a) : (i + j).natAbs < 2 ^ (a + 1) := by
  rw [Nat.pow_succ]; omega
theorem abs_sub_lt {i j : Int} {a : Nat} (ha : i.natAbs < 2 ^ a) (hb : j.natAbs < 2 ^ a) : (i - j).natAbs < 2 ^ (a + 1) := by
  rw [Nat.pow_succ]; omega
theorem lt_up {n a b : Nat} (h : n < 2 ^ a) (e : a ≤ b) : n < 2 ^ b := Nat.lt_of_lt_of_le h (pw e)
theorem den_abs (q : Rat) : ((q.den : Nat) : Int).natAbs = q.den := Int.natAbs_natCast _
theorem den_ne (q : Rat) : ((q.den : Nat) : Int) ≠ 0 := by have := q.den_pos; omega
theorem dd_ne (a b : Rat) : ((a.den : Nat) : Int) * ((b.den : Nat) : Int) ≠ 0 := by
  have := a.den_pos
  have := b.den_pos
  exact Int.mul_ne_zero (by omega) (by omega)
theorem add_divInt (a b : Rat) : Rat.divInt (a.num * b.den + b.num * a.den) ((a.den : Int) * (b.den : Int)) = a + b := by
  rw [Rat.add_def', ← Int.natCast_mul, Rat.divInt_ofNat]
theorem sub_divInt (a b : Rat) : Rat.divInt (a.num * b.den - b.num * a.den) ((a.den : Int) * (b.den : Int)) = a - b := by
  rw [Rat.sub_def', ← Int.natCast_mul, Rat.divInt_ofNat]
theorem mul_divInt (a b : Rat) : Rat.divInt (a.num * b.num) ((a.den : Int) * (b.den : Int)) = a * b := by
  rw [Rat.mul_def', ← Int.natCast_mul, Rat.divInt_ofNat]
theorem neg_divInt1 (a : Rat) : Rat.divInt (-a.num) ((a.den : Nat) : Int) = -a := by
  rw [← Rat.neg_divInt, Rat.num_divInt_den]
theorem over_divInt (a b : Rat) : Rat.divInt (a.num * b.den) ((a.den : Int) * b.num) = a / b := by
  rw [Rat.div_def, Rat.inv_def, ← Rat.divInt_mul_divInt, Rat.num_divInt_den]
theorem int_divInt (n : Int) : Rat.divInt n 1 = (n : Rat) := by
  have h := Rat.num_divInt_den (n : Rat)
  simpa using h
theorem Sz.add {k : Nat} {a b : Rat} (ha : Sz k a) (hb : Sz k b) : Sz (k + k + 1) (a + b) := by
  rw [← add_divInt]
  refine Sz.divInt (abs_add_lt (abs_mul_lt ha.1 (by rw [den_abs]; exact hb.2)) (abs_mul_lt hb.1 (by rw [den_abs]; exact ha.2))) (lt_up (abs_mul_lt (by rw [den_abs]; exact ha.2) (by rw [den_abs]; exact hb.2)) (by omega)) (dd_ne _ _)
theorem Sz.sub {k : Nat} {a b : Rat} (ha : Sz k a) (hb : Sz k b) : Sz (k + k + 1) (a - b) := by
  rw [← sub_divInt]
  refine Sz.divInt (abs_sub_lt (abs_mul_lt ha.1 (by rw [den_abs]; exact hb.2)) (abs_mul_lt hb.1 (by rw [den_abs]; exact ha.2))) (lt_up (abs_mul_lt (by rw [den_abs]; exact ha.2) (by rw [den_abs]; exact hb.2)) (by omega)) (dd_ne _ _)
theorem Sz.mul {k : Nat} {a b : Rat} (ha : Sz k a) (hb : Sz k b) : Sz (k + k) (a * b) := by
  rw [← mul_divInt]
  exact Sz.divInt (abs_mul_lt ha.1 hb.1) (abs_mul_lt (by rw [den_abs]; exact ha.2) (by rw [den_abs]; exact hb.2)) (dd_ne _ _)
theorem Sz.neg {k : Nat} {a : Rat} (ha : Sz k a) : Sz k (-a) := ⟨by rw [Rat.neg_num, Int.natAbs_neg]; exact ha.1, by rw [Rat.neg_den]; exact ha.2⟩
theorem Sz.int {k : Nat} {n : Int} (h : n.natAbs < 2 ^ k) (hk : 1 ≤ k) : Sz k (n : Rat) := ⟨by simpa using h, by simpa using (Nat.lt_of_lt_of_le (by decide : 1 < 2 ^ 1) (pw hk))⟩
theorem Sz.n {k : Nat} {a : Rat} (h : Sz k a) : a.num.natAbs < 2 ^ k := h.1
theorem Sz.d {k : Nat} {a : Rat} (h : Sz k a) : ((a.den : Nat) : Int).natAbs < 2 ^ k := by rw [den_abs]; exact h.2
theorem eq_iff_parts (a b : Rat) : (a = b) ↔ (a.num = b.num ∧ ((a.den : Nat) : Int) = ((b.den : Nat) : Int)) :=
  ⟨fun h => by subst h; exact ⟨rfl, rfl⟩, fun h => Rat.ext h.1 (by have := h.2; omega)⟩
end Fm

set_option maxHeartbeats 2000000
namespace Fm
open PySem PySem.Spec PyProof.Rows L2

/-! ### heaps that only grow -/
def Ex (H H' : Hp) : Prop := ∀ a o, H a = some o → H' a = some o
theorem Ex.refl (H : Hp) : Ex H H := fun _ _ h => h
theorem Ex.trans {H H1 H2 : Hp} (a : Ex H H1) (b : Ex H1 H2) : Ex H H2 := fun x o h => b x o (a x o h)
theorem Ex.new {H : Hp} {p : Addr} {o : HO} (h : H p = none) : Ex H (upd H p o) := fun a u e => by
  rw [upd_ne (ne_of_none e h)]
  exact e
theorem Ex.at {H H' : Hp} {p : Addr} {o : HO} (e : Ex H H') (h : H p = some o) : H' p = some o := e p o h
theorem Ex.mut {H H' : Hp} {p : Addr} {o : HO} (e : Ex H H') (h : H p = none) : Ex H (upd H' p o) := fun a u ha => by
  rw [upd_ne (ne_of_none ha h)]
  exact e a u ha
theorem Ex.free {H H' : Hp} {p : Addr} (e : Ex H H') (h : H' p = none) : H p = none := by
  cases h1 : H p with
  | none => rfl
  | some o =>
    rw [e p o h1] at h
    cases h
theorem Ex.sql {K : PySem.W.Frag} {H H' : Hp} {a : Addr} {xs : List V} (e : Ex H H') (h : SqL K H a xs) : SqL K H' a xs := SqL.ext h e
theorem Ex.sqt {K : PySem.W.Frag} {H H' : Hp} {a : Addr} {xs : List V} (e : Ex H H') (h : SqT K H a xs) : SqT K H' a xs := SqT.ext h e

/-! ### readings, a head at a time -/
section
variable {σ : L2.St} {H : Hp} {Q : VK} {D : Ends} {ta tb tc te : TE} {t u : TT} {ts tu : TS} {x y v : V} {r : R2} {i j : Int} {K : PySem.W.Frag} {W : Bool → Hp → Prop}
theorem g_var {n : Nat} (h : σ[n]? = some (some v)) (q : Q v H) : tVar n σ H Q := ⟨v, h, q⟩
theorem g_c (q : Q v H) : tC v σ H Q := q
theorem g_op (q : ta σ H fun x H1 => tb σ H1 fun y H2 => r x y H2 Q) : tOp r ta tb σ H Q := q
theorem g_un {r : V → Hp → VK → Prop} (q : ta σ H fun x H1 => r x H1 Q) : tUn r ta σ H Q := q
theorem g_I0 {g : Int → Int → V} (q : Q (g i j) H) : rI0 g (.int i) (.int j) H Q := ⟨i, j, rfl, rfl, q⟩
theorem g_I {C : Int → Int → Prop} {g : Int → Int → V} (c : C i j) (q : Q (g i j) H) : rI C g (.int i) (.int j) H Q := ⟨i, j, rfl, rfl, c, q⟩
theorem g_U {g : Int → V} (q : Q (g i) H) : rU g (.int i) H Q := ⟨i, rfl, q⟩
theorem g_eqI (q : Q (.bl (decide (i = j))) H) : rEq (.int i) (.int j) H Q := ⟨rfl, by
  rw [show decide (V.int i = V.int j) = decide (i = j) by by_cases h : i = j <;> simp [h]]; exact q⟩
theorem g_neI (q : Q (.bl (!decide (i = j))) H) : rNe (.int i) (.int j) H Q := ⟨rfl, by
  rw [show decide (V.int i = V.int j) = decide (i = j) by by_cases h : i = j <;> simp [h]]; exact q⟩
theorem g_eqS {a b : Str} (q : Q (.bl (decide (a = b))) H) : rEq (.str a) (.str b) H Q := ⟨rfl, by
  rw [show decide (V.str a = V.str b) = decide (a = b) by by_cases h : a = b <;> simp [h]]; exact q⟩
theorem g_neS {a b : Str} (q : Q (.bl (!decide (a = b))) H) : rNe (.str a) (.str b) H Q := ⟨rfl, by
  rw [show decide (V.str a = V.str b) = decide (a = b) by by_cases h : a = b <;> simp [h]]; exact q⟩
theorem g_test {W : Bool → Hp → Prop} (q : te σ H fun x H' => ∃ k, x = .bl k ∧ W k H') : tTest te σ H W := q
theorem g_B {W : Bool → Hp → Prop} (q : te σ H fun x H' => ∃ k, x = .bl k ∧ W k H') : tB te σ H W := q
theorem g_bl {W : Bool → Prop} {b : Bool} (q : W b) : ∃ k, V.bl b = .bl k ∧ W k := ⟨b, rfl, q⟩
theorem g_not (q : t σ H fun c H1 => W (!c) H1) : tNot t σ H W := q
theorem g_and (q : t σ H fun c H1 => if c = true then u σ H1 W else W false H1) : tAnd t u σ H W := q
theorem g_or (q : t σ H fun c H1 => if c = true then W true H1 else u σ H1 W) : tOr t u σ H W := q
theorem g_andV (q : ta σ H fun x H1 => ∃ c, x = .bl c ∧ if c = true then tb σ H1 Q else Q (.bl false) H1) : tAndV ta tb σ H Q := q
theorem g_orV (q : ta σ H fun x H1 => ∃ c, x = .bl c ∧ if c = true then Q (.bl true) H1 else tb σ H1 Q) : tOrV ta tb σ H Q := q
theorem g_notV (q : ta σ H fun x H1 => ∃ c, x = .bl c ∧ Q (.bl (!c)) H1) : tNotV ta σ H Q := q
theorem g_chain {r r' : R2} (q : ta σ H fun x H1 => tb σ H1 fun y H2 => r x y H2 fun z H3 => ∃ k, z = .bl k ∧ (if k = true then tc σ H3 fun w' H4 => r' y w' H4 Q else Q (.bl false) H3)) : tChain r r' ta tb tc σ H Q := q
theorem g_if (q : t σ H fun c H1 => if c = true then ta σ H1 Q else tb σ H1 Q) : tIf t ta tb σ H Q := q
theorem g_ifS (q : t σ H fun b H1 => if b = true then ts D σ H1 else tu D σ H1) : tIfS t ts tu D σ H := q
theorem g_seq (q : ts { D with nx := tu D } σ H) : tSeq ts tu D σ H := q
theorem g_next (q : D.nx σ H) : tNext D σ H := q
theorem g_break (q : D.bk σ H) : tBreak D σ H := q
theorem g_cont (q : D.ct σ H) : tCont D σ H := q
theorem g_drop (q : te σ H fun _ H1 => D.nx σ H1) : tDrop te D σ H := q
theorem g_ret (q : te σ H D.rt) : tRet te D σ H := q
theorem g_retN (q : D.rt .non H) : tRetN D σ H := q
theorem g_asg {g : TG} (q : te σ H fun x H1 => g x σ H1 D.nx) : tAsg te g D σ H := q
theorem g_name {n : Nat} {N : L2.St → Hp → Prop} (q : N (σ.set n (some v)) H) : gName n v σ H N := q
theorem g_par {n m : Nat} {t : TA} (q : t σ H fun vs H1 => ∃ v w, vs = [v, w] ∧ D.nx ((σ.set n (some v)).set m (some w)) H1) : tPar n m t D σ H := q
theorem g_par2 {v w : V} {N : V → V → Prop} (q : N v w) : ∃ v1 w1, [v, w] = [v1, w1] ∧ N v1 w1 := ⟨v, w, rfl, q⟩
theorem g_fld {f : Str} (q : ta σ H fun x H1 => ∃ a C dx fs v, x = .ref a ∧ H1 a = some (.ins C dx fs) ∧ Cls K C ∧ NoAttr K C f ∧ fs.lookup f = some v ∧ Q v H1) : tFld K ta f σ H Q := q
theorem g_sfld {f : Str} {tv : TE} (q : tv σ H fun y H1 => ta σ H1 fun x H2 => ∃ a C dx fs, x = .ref a ∧ H2 a = some (.ins C dx fs) ∧ Cls K C ∧ NoAttr K C f ∧ fs.length < 1000 ∧ D.nx σ (upd H2 a (.ins C dx (putF f y fs)))) : sFld K ta tv f D σ H := q
theorem g_nil {P : List V → Hp → Prop} (q : P [] H) : tNil σ H P := q
theorem g_cons {tr : TA} {P : List V → Hp → Prop} (q : ta σ H fun x H1 => tr σ H1 fun xs H2 => P (x :: xs) H2) : tCons ta tr σ H P := q
theorem g_tup {t : TA} (q : t σ H fun xs H1 => xs.length ≤ sizeLine ∧ ∀ p, H1 p = none → Q (.ref p) (upd H1 p (.tup xs))) : tTup t σ H Q := q
theorem g_lst {t : TA} (q : t σ H fun xs H1 => xs.length ≤ sizeLine ∧ ∀ p, H1 p = none → Q (.ref p) (upd H1 p (.lst xs))) : tLst t σ H Q := q
theorem g_call {sp : Sp} {E : XK} {t : TA} (q : t σ H fun vs H1 => sp vs H1 Q E) : tCall sp [] E t σ H Q := by
  unfold tCall
  have e : (fun vs H1 => sp (vs ++ []) H1 Q E) = fun vs H1 => sp vs H1 Q E := by funext vs H1; rw [List.append_nil]
  rw [e]; exact q
theorem g_meth {C : Addr} {m : Str} {sp : Sp} {E : XK} {t : TA} (q : ta σ H fun x H1 => ∃ a dx fs, x = .ref a ∧ H1 a = some (.ins C dx fs) ∧ fs.lookup m = none ∧ t σ H1 fun vs H2 => sp (x :: vs) H2 Q E) : tMeth C m sp [] E ta t σ H Q := by
  unfold tMeth
  have e : ∀ x H1, (t σ H1 fun vs H2 => sp (x :: (vs ++ [])) H2 Q E) = (t σ H1 fun vs H2 => sp (x :: vs) H2 Q E) := fun x H1 => by
    have : (fun vs H2 => sp (x :: (vs ++ [])) H2 Q E) = fun vs H2 => sp (x :: vs) H2 Q E := by funext vs H2; rw [List.append_nil]
    rw [this]
  simp only [e]
  exact q
theorem g_make {C : Addr} {sp : Sp} {E : XK} {t : TA} (q : t σ H fun vs H1 => ∀ x dx, H1 x = none → H1 dx = none → dx ≠ x → sp (.ref x :: vs) (upd (upd H1 dx (.own x)) x (.ins C dx [])) (fun v H2 => v = .non ∧ Q (.ref x) H2) E) : tMake C sp [] E t σ H Q := by
  unfold tMake
  have e : (fun vs H1 => ∀ x dx, H1 x = none → H1 dx = none → dx ≠ x → sp (.ref x :: (vs ++ [])) (upd (upd H1 dx (.own x)) x (.ins C dx [])) (fun v H2 => v = .non ∧ Q (.ref x) H2) E) = (fun vs H1 => ∀ x dx, H1 x = none → H1 dx = none → dx ≠ x → sp (.ref x :: vs) (upd (upd H1 dx (.own x)) x (.ins C dx [])) (fun v H2 => v = .non ∧ Q (.ref x) H2) E) := by funext vs H1; rw [List.append_nil]
  rw [e]; exact q
theorem g_make1 {C : Addr} {sp : Sp} {E : XK} {d : V} (q : te σ H fun z H1 => ∀ x dx, H1 x = none → H1 dx = none → dx ≠ x → sp [.ref x, z, d] (upd (upd H1 dx (.own x)) x (.ins C dx [])) (fun v H2 => v = .non ∧ Q (.ref x) H2) E) : tMake C sp [d] E (tCons te tNil) σ H Q := q
theorem g_sub {to ti : TE} {t : TSet} {N : L2.St → Hp → Prop} (q : to σ H fun o H1 => ti σ H1 fun i H2 => t o i v H2 fun H3 => N σ H3) : gSub to ti t v σ H N := q
theorem len_lit {α : Type} {xs : List α} (h : Nat.ble xs.length 1000 = true) : xs.length ≤ sizeLine := Nat.le_trans (Nat.le_of_ble_eq_true h) (by decide)
theorem g_cb {r : List V → Hp → VK → Prop} {t : TA} (q : t σ H fun vs H1 => r vs H1 Q) : tCB r t σ H Q := q
end
end Fm

set_option maxHeartbeats 2000000
namespace Fm
open PySem PySem.Spec PyProof.Rows L2

/-! ### operators on great ints -/
def CDivA (_ j : Int) : Prop := j ≠ 0 ∧ j.natAbs.log2 < 9000
theorem op_fdivA {X : Cx} : OpR X (binaryOp .FloorDiv) (rI CDivA fun i j => .int (i.fdiv j)) := opI fun i j _ _ _ _ _ hc q => floordiv_int hc.1 q (.inl (PyProof.noPylong_of_log2 hc.2))
theorem divA {i j : Int} {k : Nat} (h : j ≠ 0) (hb : j.natAbs < 2 ^ k) (h9 : k ≤ 8000) : CDivA i j := by
  refine ⟨h, Nat.lt_of_lt_of_le ((Nat.log2_lt (by omega)).mpr hb) (by omega)⟩
theorem mulA {i j : Int} {a b : Nat} (ha : i.natAbs < 2 ^ a) (hb : j.natAbs < 2 ^ b) (h : a + b ≤ 900000) : CMulW i j :=
  wide_mul (a := a + 1) (b := b + 1) (lt_up ha (by omega)) (lt_up hb (by omega)) (by omega) (by omega) (by omega)
def rGcd' := rGcd
theorem g_gcd {H : Hp} {Q : VK} {i j : Int} (q : Q (.int ((Nat.gcd i.natAbs j.natAbs : Nat) : Int)) H) : rGcd [.int i, .int j] H Q := ⟨i, j, rfl, q⟩
theorem g_ite {A B : Prop} {c : Bool} (h1 : c = true → A) (h2 : c = false → B) : if c = true then A else B := by
  cases c with
  | true => rw [if_pos rfl]; exact h1 rfl
  | false => rw [if_neg Bool.false_ne_true]; exact h2 rfl
theorem g_dec {p : Prop} [Decidable p] {A B : Prop} (h1 : p → A) (h2 : ¬ p → B) : if decide p = true then A else B := g_ite (fun h => h1 (of_decide_eq_true h)) (fun h => h2 (of_decide_eq_false h))

/-! ### quotients in the heap -/
theorem nTB : ¬ (("top" : Str) = "bottom") := by decide +kernel
def flR (q : Rat) : List (Str × V) := putF "bottom" (.int (q.den : Int)) (putF "top" (.int q.num) [])
theorem flR_top (q : Rat) : (flR q).lookup ("top" : Str) = some (.int q.num) := by
  unfold flR
  rw [lookup_putF, if_neg nTB, lookup_putF, if_pos rfl]
theorem flR_bottom (q : Rat) : (flR q).lookup ("bottom" : Str) = some (.int (q.den : Int)) := by
  unfold flR
  rw [lookup_putF, if_pos rfl]
theorem flR_no (q : Rat) {m : Str} (h1 : ¬ m = "bottom") (h2 : ¬ m = "top") : (flR q).lookup m = none := by
  unfold flR
  rw [lookup_putF, if_neg h1, lookup_putF, if_neg h2]
  all_goals rfl
/-- at p a Ratio that is q -/
def RatAt (C : Addr) (H : Hp) (p : Addr) (q : Rat) : Prop := ∃ dx, H p = some (.ins C dx (flR q))
def RatV (C : Addr) (H : Hp) (v : V) (q : Rat) : Prop := ∃ p, v = .ref p ∧ RatAt C H p q
/-- an int or a Ratio -/
def NumV (C : Addr) (H : Hp) (v : V) (q : Rat) : Prop := (∃ n : Int, v = .int n ∧ q = (n : Rat)) ∨ RatV C H v q
section
variable {C : Addr} {H H' : Hp} {p : Addr} {v : V} {q : Rat}
theorem RatAt.mono (e : Ex H H') (h : RatAt C H p q) : RatAt C H' p q := let ⟨dx, h⟩ := h; ⟨dx, e _ _ h⟩
theorem RatV.mono (e : Ex H H') (h : RatV C H v q) : RatV C H' v q := let ⟨p, a, h⟩ := h; ⟨p, a, h.mono e⟩
theorem NumV.mono (e : Ex H H') (h : NumV C H v q) : NumV C H' v q := h.elim .inl fun h => .inr (h.mono e)
theorem RatV.num (h : RatV C H v q) : NumV C H v q := .inr h
theorem NumV.int {n : Int} : NumV C H (.int n) (n : Rat) := .inl ⟨n, rfl, rfl⟩
theorem RatV.like (h : RatV C H v q) : NumLike C v H := let ⟨p, a, dx, h⟩ := h; .inr ⟨p, dx, _, a, h⟩
theorem NumV.like (h : NumV C H v q) : NumLike C v H := h.elim (fun ⟨n, a, _⟩ => .inl ⟨n, a⟩) RatV.like
theorem RatV.inst (h : RatV C H v q) : ∃ a dx fs, v = .ref a ∧ H a = some (.ins C dx fs) := let ⟨p, a, dx, h⟩ := h; ⟨p, dx, _, a, h⟩
end
section
variable {K : PySem.W.Frag} {C : Addr} {H : Hp} {Q : VK} {v : V} {q : Rat}
theorem g_top (c : Cls K C) (n : NoAttr K C "top") {W : V → Prop} (h : RatV C H v q) (k : W (.int q.num)) : ∃ a C dx fs w, v = .ref a ∧ H a = some (.ins C dx fs) ∧ Cls K C ∧ NoAttr K C "top" ∧ fs.lookup ("top" : Str) = some w ∧ W w := by
  obtain ⟨p, rfl, dx, h⟩ := h
  exact ⟨p, C, dx, _, _, rfl, h, c, n, flR_top q, k⟩
theorem g_bottom (c : Cls K C) (n : NoAttr K C "bottom") {W : V → Prop} (h : RatV C H v q) (k : W (.int (q.den : Int))) : ∃ a C dx fs w, v = .ref a ∧ H a = some (.ins C dx fs) ∧ Cls K C ∧ NoAttr K C "bottom" ∧ fs.lookup ("bottom" : Str) = some w ∧ W w := by
  obtain ⟨p, rfl, dx, h⟩ := h
  exact ⟨p, C, dx, _, _, rfl, h, c, n, flR_bottom q, k⟩
end

/-! ### promises that many defs make -/
/-- a new Ratio's __init__, no error -/
def spInit (C : Addr) : Sp := fun vs H Q _ => ∃ (p dx : Addr) (t b : Int) (k : Nat), vs = [.ref p, .int t, .int b] ∧ b ≠ 0 ∧ t.natAbs < 2 ^ k ∧ b.natAbs < 2 ^ k ∧ k ≤ 8000 ∧ H p = some (.ins C dx []) ∧
  ∀ H', (∀ a o, H a = some o → a ≠ p → H' a = some o) → H' p = some (.ins C dx (flR (Rat.divInt t b))) → Q .non H'
theorem use_init {C : Addr} {vs : List V} {H : Hp} {Q : VK} {E : XK} {t b : Int} {k : Nat} (hv : vs = [.int t, .int b]) (hb : b ≠ 0) (h1 : t.natAbs < 2 ^ k) (h2 : b.natAbs < 2 ^ k) (hk : k ≤ 8000)
    (q : ∀ v H', Ex H H' → RatV C H' v (Rat.divInt t b) → Q v H') : ∀ x dx, H x = none → H dx = none → dx ≠ x → spInit C (.ref x :: vs) (upd (upd H dx (.own x)) x (.ins C dx [])) (fun v H2 => v = .non ∧ Q (.ref x) H2) E := by
  intro x dx hx hdx hne
  refine ⟨x, dx, t, b, k, by rw [hv], hb, h1, h2, hk, upd_same, fun H' e hp => ⟨rfl, q _ _ (fun a o ha => ?_) ⟨x, rfl, dx, hp⟩⟩⟩
  refine e a o ?_ (ne_of_none ha hx)
  rw [upd_ne (ne_of_none ha hx), upd_ne (ne_of_none ha hdx)]
  exact ha
/-- x op y, a Ratio and a number -/
def spNum2 (C : Addr) (g : Rat → Rat → Rat) : Sp := fun vs H Q _ => ∃ (x y : V) (a b : Rat) (k : Nat), vs = [x, y] ∧ RatV C H x a ∧ NumV C H y b ∧ Sz k a ∧ Sz k b ∧ k ≤ 3000 ∧ ∀ v H', Ex H H' → RatV C H' v (g a b) → Q v H'
def spNum1 (C : Addr) (g : Rat → Rat) : Sp := fun vs H Q _ => ∃ (x : V) (a : Rat) (k : Nat), vs = [x] ∧ RatV C H x a ∧ Sz k a ∧ k ≤ 3000 ∧ ∀ v H', Ex H H' → RatV C H' v (g a) → Q v H'
def spRel2 (C : Addr) (g : Rat → Rat → Bool) : Sp := fun vs H Q _ => ∃ (x y : V) (a b : Rat) (k : Nat), vs = [x, y] ∧ RatV C H x a ∧ NumV C H y b ∧ Sz k a ∧ Sz k b ∧ k ≤ 3000 ∧ ∀ H', Ex H H' → Q (.bl (g a b)) H'
/-- the types that values have here: the class at C, or a built-in one -/
inductive KTy (C : Addr) : Value → Prop where
  | own : KTy C (.ref C)
  | int : KTy C (.type "int")
  | bool : KTy C (.type "bool")
  | non : KTy C (.type "NoneType")
  | str : KTy C (.type "str")
  | list : KTy C (.type "list")
  | tuple : KTy C (.type "tuple")
  | dict : KTy C (.type "dict")
def isT (t : Value) : Bool := t == .type "int"
def spWhole (K : PySem.W.Frag) (C : Addr) : Sp := fun vs H Q _ => ∃ (x : V) (t : Value), vs = [x] ∧ TyX K H x t ∧ KTy C t ∧ ∀ H', Ex H H' → Q (.bl (t == .type "int")) H'
def spNumber (K : PySem.W.Frag) (C : Addr) : Sp := fun vs H Q _ => ∃ (x : V) (t : Value), vs = [x] ∧ TyX K H x t ∧ KTy C t ∧ ∀ H', Ex H H' → Q (.bl (t == .ref C || t == .type "int")) H'
/-- what the written part says of the class -/
structure RC (K : PySem.W.Frag) (C : Addr) : Prop where
  cl : Cls K C
  nT : NoAttr K C "top"
  nB : NoAttr K C "bottom"
  ha : PySem.W.findIn K (.ref C) "__class__" = some (some (.builtin "object.__class__"))
  hn : PySem.W.specialIn K (.builtin "object.__class__") "__get__" = some (some (.builtin "getset_descriptor.__get__"))
  htk : PySem.W.takesIn K (.builtin "object.__class__") = some true
  hm : PySem.W.mroIn K C (.type "object") = some true
  si : PySem.W.subIn K (.ref C) (.type "int") = some false
  own : (PySem.W.clsIn K C).isSome = true
  ty : PySem.W.typeIn K (.ref C) = some (.type "type")
  noRef : ∀ n ∈ ["int", "bool", "NoneType", "str", "list", "tuple", "dict"], PySem.W.subIn K (.type n) (.ref C) = some false
theorem ty_rat {K : PySem.W.Frag} {C : Addr} {H : Hp} {v : V} {q : Rat} (R : RC K C) (h : RatV C H v q) : TyX K H v (.ref C) := by
  obtain ⟨p, rfl, dx, h⟩ := h
  exact .base (.ins h R.cl R.ha R.hn R.htk R.hm)
theorem ty_num {K : PySem.W.Frag} {C : Addr} {H : Hp} {v : V} {q : Rat} (R : RC K C) (h : NumV C H v q) : ∃ t, TyX K H v t ∧ KTy C t ∧ (t == .ref C || t == .type "int") = true := by
  rcases h with ⟨n, rfl, _⟩ | h
  · exact ⟨_, .base (.int n), .int, by simp⟩
  · exact ⟨_, ty_rat R h, .own, by simp⟩
theorem kit_int {K : PySem.W.Frag} {C : Addr} {t : Value} (R : RC K C) (k : KTy C t) : PySem.W.kitOne K t (.type "int") = some (t == .type "int" || t == .type "bool") := by
  have hm : PySem.W.kitMeta "int" = true := by decide +kernel
  cases k with
  | own =>
    show (if (Value.ref C == Value.type "int") = true then some true else PySem.W.kitCls K (.ref C) (.type "int")) = _
    rw [if_neg (by simp)]
    show (if PySem.W.kitMeta "int" = true then PySem.W.subIn K (.ref C) (.type "int") else none) = _
    rw [if_pos hm, R.si]
    simp
  | int => exact kit_ty (by decide +kernel)
  | bool => exact kit_ty (by decide +kernel)
  | non => exact kit_ty (by decide +kernel)
  | str => exact kit_ty (by decide +kernel)
  | list => exact kit_ty (by decide +kernel)
  | tuple => exact kit_ty (by decide +kernel)
  | dict => exact kit_ty (by decide +kernel)
theorem kit_bool {K : PySem.W.Frag} {C : Addr} {t : Value} (R : RC K C) (k : KTy C t) (h : (t == .type "int" || t == .type "bool") = true) : PySem.W.kitOne K t (.type "bool") = some (t == .type "bool") := by
  cases k with
  | own => simp at h
  | int => exact kit_ty (by decide +kernel)
  | bool => exact kit_ty (by decide +kernel)
  | non => simp at h
  | str => simp at h
  | list => simp at h
  | tuple => simp at h
  | dict => simp at h
theorem kit_own {K : PySem.W.Frag} {C : Addr} {t : Value} (R : RC K C) (k : KTy C t) : PySem.W.kitOne K t (.ref C) = some (t == .ref C) := by
  have base : ∀ n, n ∈ ["int", "bool", "NoneType", "str", "list", "tuple", "dict"] → PySem.W.kitOne K (.type n) (.ref C) = some (Value.type n == .ref C) := fun n hn => by
    have e : (Value.type n == Value.ref C) = false := by simp
    show (if (Value.type n == Value.ref C) = true then some true else PySem.W.kitCls K (.type n) (.ref C)) = _
    rw [e, if_neg Bool.false_ne_true]
    show (if ((PySem.W.clsIn K C).isSome && PySem.W.typeIn K (.ref C) == some (.type "type")) = true then PySem.W.subIn K (.type n) (.ref C) else none) = _
    rw [R.own, R.ty, if_pos (by simp), R.noRef n hn]
  cases k with
  | own =>
    show (if (Value.ref C == Value.ref C) = true then some true else _) = _
    rw [if_pos (by simp)]
    simp
  | int => exact base _ (by simp)
  | bool => exact base _ (by simp)
  | non => exact base _ (by simp)
  | str => exact base _ (by simp)
  | list => exact base _ (by simp)
  | tuple => exact base _ (by simp)
  | dict => exact base _ (by simp)
theorem not_first {K : PySem.W.Frag} {C : Addr} {t : Value} (R : RC K C) (k : KTy C t) : PySem.W.notFirst K C t = true := by
  have base : ∀ n, n ∈ ["int", "bool", "NoneType", "str", "list", "tuple", "dict"] → PySem.W.notFirst K C (.type n) = true := fun n hn => by
    unfold PySem.W.notFirst
    rw [R.noRef n hn]
    simp
  cases k with
  | own => unfold PySem.W.notFirst; simp
  | int => exact base _ (by simp)
  | bool => exact base _ (by simp)
  | non => exact base _ (by simp)
  | str => exact base _ (by simp)
  | list => exact base _ (by simp)
  | tuple => exact base _ (by simp)
  | dict => exact base _ (by simp)
def spAsRatio (C : Addr) : Sp := fun vs H Q _ => ∃ (x : V) (a : Rat) (k : Nat), vs = [x] ∧ NumV C H x a ∧ Sz k a ∧ k ≤ 3000 ∧ ∀ v H', Ex H H' → RatV C H' v a → Q v H'
theorem g_isi {K : PySem.W.Frag} {H : Hp} {Q : VK} {x c : V} {t u : Value} {b : Bool} (ty : TyX K H x t) (k : ClsV c u) (e : PySem.W.kitOne K t u = some b) (q : Q (.bl b) H) : rIsi K [x, c] H Q := ⟨x, c, t, u, b, rfl, k, ty, e, q⟩
theorem cx_K {CX : CXT} {P : Program} {w : World} {K : PySem.W.Frag} {mg : Str → Option Value} {base : Heap} {N : List Str} {q : Str} {sc : Scope} {f : Addr} {cdv : Value} {A : Around} {outer : List Env} {s : Shared} {H : Hp} {E : XK} :
    (cxOf CX P w K mg base N q sc f cdv A outer s H E).K = K := rfl
/-- a def without defaults as the top left it -/
abbrev Def (K : PySem.W.Frag) (x qual : Str) (st : Stmt) (f : Addr) (fd : FuncData) : Prop := FunD K x qual (defArgs st) (defBody st) (defScope st) [] [] f fd
/-- x == y for a Ratio and any value of a known type -/
def spEqV (K : PySem.W.Frag) (C : Addr) : Sp := fun vs H Q _ => ∃ (x y : V) (a : Rat) (r : Bool), vs = [x, y] ∧ RatV C H x a ∧
  ((∃ (c : Rat) (k : Nat), NumV C H y c ∧ Sz k c ∧ k ≤ 3000 ∧ r = decide (a = c)) ∨ (∃ t, TyX K H y t ∧ KTy C t ∧ (t == .ref C || t == .type "int") = false ∧ r = false)) ∧ ∀ H', Ex H H' → Q (.bl r) H'
theorem use_isnot {K : PySem.W.Frag} {C : Addr} {H : Hp} {Q : VK} {E : XK} {x : V} {t : Value} (ty : TyX K H x t) (kt : KTy C t) (e : (t == .ref C || t == .type "int") = false) (q : ∀ H', Ex H H' → Q (.bl false) H') : spNumber K C [x] H Q E :=
  ⟨x, t, rfl, ty, kt, fun H' z => by rw [e]; exact q H' z⟩
theorem use_eqN {K : PySem.W.Frag} {C : Addr} {H : Hp} {Q : VK} {E : XK} {x y : V} {a c : Rat} {k : Nat} (hx : RatV C H x a) (hy : NumV C H y c) (sc : Sz k c) (hk : k ≤ 3000) (q : ∀ H', Ex H H' → Q (.bl (decide (a = c))) H') : spEqV K C [x, y] H Q E :=
  ⟨x, y, a, _, rfl, hx, .inl ⟨c, k, hy, sc, hk, rfl⟩, q⟩
theorem use_eqO {K : PySem.W.Frag} {C : Addr} {H : Hp} {Q : VK} {E : XK} {x y : V} {a : Rat} {t : Value} (hx : RatV C H x a) (ty : TyX K H y t) (kt : KTy C t) (e : (t == .ref C || t == .type "int") = false) (q : ∀ H', Ex H H' → Q (.bl false) H') : spEqV K C [x, y] H Q E :=
  ⟨x, y, a, _, rfl, hx, .inr ⟨t, ty, kt, e, rfl⟩, q⟩
/-- x.over(y), y not 0 -/
def spOver (C : Addr) : Sp := fun vs H Q _ => ∃ (x y : V) (a b : Rat) (k : Nat), vs = [x, y] ∧ RatV C H x a ∧ NumV C H y b ∧ b ≠ 0 ∧ Sz k a ∧ Sz k b ∧ k ≤ 3000 ∧ ∀ v H', Ex H H' → RatV C H' v (a / b) → Q v H'
theorem Sz.div {k : Nat} {a b : Rat} (ha : Sz k a) (hb : Sz k b) (h0 : b ≠ 0) : Sz (k + k) (a / b) := by
  have h1 : b.num ≠ 0 := fun z => h0 (Rat.num_eq_zero.mp z)
  rw [← over_divInt]
  exact Sz.divInt (abs_mul_lt ha.n hb.d) (abs_mul_lt ha.d hb.n) (Int.mul_ne_zero (den_ne a) h1)
theorem dec_and (p q : Prop) [Decidable p] [Decidable q] : (decide p && decide q) = decide (p ∧ q) := by
  by_cases hp : p <;> by_cases hq : q <;> simp [hp, hq]
theorem dec_eqR (a b : Rat) : decide (a = b) = (decide (a.num = b.num) && decide (((a.den : Nat) : Int) = ((b.den : Nat) : Int))) := by
  rw [dec_and]
  exact decide_eq_decide.mpr (eq_iff_parts a b)
theorem dec_ltR (a b : Rat) : decide (a < b) = decide (a.num * b.den < b.num * a.den) := decide_eq_decide.mpr (Rat.lt_iff a b)
theorem dec_leR (a b : Rat) : decide (a ≤ b) = decide (a.num * b.den ≤ b.num * a.den) := decide_eq_decide.mpr (Rat.le_iff a b)
theorem b_nt : (!true) = false := rfl
theorem b_nf : (!false) = true := rfl
theorem use_num2 {C : Addr} {g : Rat → Rat → Rat} {H : Hp} {Q : VK} {E : XK} {x y : V} {a b : Rat} {k : Nat} (hx : RatV C H x a) (hy : NumV C H y b) (sa : Sz k a) (sb : Sz k b) (hk : k ≤ 3000) (q : ∀ v H', Ex H H' → RatV C H' v (g a b) → Q v H') : spNum2 C g [x, y] H Q E :=
  ⟨x, y, a, b, k, rfl, hx, hy, sa, sb, hk, q⟩
theorem use_num1 {C : Addr} {g : Rat → Rat} {H : Hp} {Q : VK} {E : XK} {x : V} {a : Rat} {k : Nat} (hx : RatV C H x a) (sa : Sz k a) (hk : k ≤ 3000) (q : ∀ v H', Ex H H' → RatV C H' v (g a) → Q v H') : spNum1 C g [x] H Q E :=
  ⟨x, a, k, rfl, hx, sa, hk, q⟩
theorem use_rel2 {C : Addr} {g : Rat → Rat → Bool} {H : Hp} {Q : VK} {E : XK} {x y : V} {a b : Rat} {k : Nat} (hx : RatV C H x a) (hy : NumV C H y b) (sa : Sz k a) (sb : Sz k b) (hk : k ≤ 3000) (q : ∀ H', Ex H H' → Q (.bl (g a b)) H') : spRel2 C g [x, y] H Q E :=
  ⟨x, y, a, b, k, rfl, hx, hy, sa, sb, hk, q⟩
theorem use_asr {C : Addr} {H : Hp} {Q : VK} {E : XK} {x : V} {a : Rat} {k : Nat} (hx : NumV C H x a) (sa : Sz k a) (hk : k ≤ 3000) (q : ∀ v H', Ex H H' → RatV C H' v a → Q v H') : spAsRatio C [x] H Q E := ⟨x, a, k, rfl, hx, sa, hk, q⟩
theorem use_isnum {K : PySem.W.Frag} {C : Addr} {H : Hp} {Q : VK} {E : XK} {x : V} {a : Rat} (R : RC K C) (hx : NumV C H x a) (q : ∀ H', Ex H H' → Q (.bl true) H') : spNumber K C [x] H Q E := by
  obtain ⟨t, ty, kt, e⟩ := ty_num R hx
  exact ⟨x, t, rfl, ty, kt, fun H' z => by rw [e]; exact q H' z⟩
theorem def_ok0 {P : Program} {w : World} {K : PySem.W.Frag} {mg : Str → Option Value} {base : Heap} {x qual : Str} {params : Arguments} {bd : List Stmt} {scope : Scope} {dvs : List V} {kws : List (Str × V)} {f : Addr} {fd : FuncData} {N ps : List Str} {k : Nat} {sp : Sp}
    (F : FunD K x qual params bd scope dvs kws f fd) (S : FnScope N ps scope) (len : ∀ vs H Q E, sp vs H Q E → vs.length = ps.length)
    (hbody : ∀ (cdv : Value) (A : Around) (outer : List Env) (s : Shared) (H : Hp) (vs : List V) (Q : VK) (E : XK), Room k (A.deeper (envOfC qual scope s.heap.objs.size f cdv)) → sp vs H Q E →
      ∃ t, PSs (cxOf CX0 P w K mg base N qual scope f cdv A outer s H E).nox bd t ∧ t { nx := fun _ H' => Q .non H', rt := Q } (L2.start N vs) H) : FnOk P w K mg base CX0 (k + 1) f fd ps sp :=
  F.ok S len fun cdv A outer s H vs Q E hr hsp => let ⟨t, h, q⟩ := hbody cdv A outer s H vs Q E hr hsp; ⟨t, h.nox, q⟩
theorem cx_Kn {CX : CXT} {P : Program} {w : World} {K : PySem.W.Frag} {mg : Str → Option Value} {base : Heap} {N : List Str} {q : Str} {sc : Scope} {f : Addr} {cdv : Value} {A : Around} {outer : List Env} {s : Shared} {H : Hp} {E : XK} :
    (cxOf CX P w K mg base N q sc f cdv A outer s H E).nox.K = K := rfl
/-! ### the law's draws -/
/-- at p a tape: two numbers from 0 on -/
def TapeAt (H : Hp) (p : Addr) : Prop := ∃ t0 t1 : Int, 0 ≤ t0 ∧ 0 ≤ t1 ∧ t1 < 2 ^ 40 ∧ H p = some (.lst [.int t0, .int t1])
/-- all but p is as it was -/
def Mo (p : Addr) (H H' : Hp) : Prop := ∀ a o, H a = some o → a ≠ p → H' a = some o
theorem Mo.refl (p : Addr) (H : Hp) : Mo p H H := fun _ _ h _ => h
theorem Mo.trans {p : Addr} {H H1 H2 : Hp} (a : Mo p H H1) (b : Mo p H1 H2) : Mo p H H2 := fun x o h n => b x o (a x o h n) n
theorem Mo.ex {p : Addr} {H H1 H2 : Hp} (a : Mo p H H1) (b : Ex H1 H2) : Mo p H H2 := fun x o h n => b x o (a x o h n)
theorem Ex.mo {p : Addr} {H H1 : Hp} (a : Ex H H1) : Mo p H H1 := fun x o h _ => a x o h
theorem Mo.set {p : Addr} {H : Hp} {o : HO} : Mo p H (upd H p o) := fun x u h n => by rw [upd_ne n]; exact h
theorem TapeAt.mono {H H' : Hp} {p : Addr} (e : Ex H H') (h : TapeAt H p) : TapeAt H' p := let ⟨t0, t1, a, b, c, h⟩ := h; ⟨t0, t1, a, b, c, e _ _ h⟩
def spTape (K : PySem.W.Frag) : Sp := fun vs H Q _ => ∃ (a : Addr) (ns : List Int) (k : Nat), vs = [.ref a, .int (k : Int)] ∧ SqL K H a (ns.map V.int) ∧ k ≤ 100 ∧ ∀ p H', H p = none → Ex H H' → TapeAt H' p → Q (.ref p) H'
def spPick : Sp := fun vs H Q _ => ∃ (p : Addr) (m : Int), vs = [.ref p, .int m] ∧ 0 < m ∧ m < 2 ^ 100 ∧ TapeAt H p ∧ ∀ d H', 0 ≤ d → d < m → Mo p H H' → TapeAt H' p → Q (.int d) H'
theorem use_pick {H : Hp} {Q : VK} {E : XK} {p : Addr} {m : Int} (h0 : 0 < m) (h1 : m < 2 ^ 100) (h : TapeAt H p) (q : ∀ d H', 0 ≤ d → d < m → Mo p H H' → TapeAt H' p → Q (.int d) H') : spPick [.ref p, .int m] H Q E := ⟨p, m, rfl, h0, h1, h, q⟩
theorem g_ixL {K : PySem.W.Frag} {H : Hp} {Q : VK} {p : Addr} {xs : List V} {i : Int} {v : V} (h : SqL K H p xs) (a : atI xs i = some v) (q : Q v H) : rIxL K (.ref p) (.int i) H Q := ⟨p, xs, i, v, rfl, rfl, h, a, q⟩
theorem g_ixT {K : PySem.W.Frag} {H : Hp} {Q : VK} {p : Addr} {xs : List V} {i : Int} {v : V} (h : SqT K H p xs) (a : atI xs i = some v) (q : Q v H) : rIxT K (.ref p) (.int i) H Q := ⟨p, xs, i, v, rfl, rfl, h, a, q⟩
def rLenQ (K : PySem.W.Frag) : List V → Hp → VK → Prop := fun xs H Q => ∃ p ys, xs = [.ref p] ∧ (SqL K H p ys ∨ SqT K H p ys) ∧ Q (.int ys.length) H
theorem call_lenQ {X : Cx} : CallR X (.builtin "len") (rLenQ X.K) := call_len_seq
theorem g_lenL {K : PySem.W.Frag} {H : Hp} {Q : VK} {p : Addr} {xs : List V} (h : SqL K H p xs) (q : Q (.int xs.length) H) : rLenQ K [.ref p] H Q := ⟨p, xs, rfl, .inl h, q⟩
theorem g_lenT {K : PySem.W.Frag} {H : Hp} {Q : VK} {p : Addr} {xs : List V} (h : SqT K H p xs) (q : Q (.int xs.length) H) : rLenQ K [.ref p] H Q := ⟨p, xs, rfl, .inr h, q⟩
def rAbsI : List V → Hp → VK → Prop := fun xs H Q => ∃ i, xs = [.int i] ∧ Q (.int (if i < 0 then -i else i)) H
theorem cr_absI {X : Cx} : CallR X (.builtin "abs") rAbsI := call_abs
theorem g_absI {H : Hp} {Q : VK} {i : Int} (q : Q (.int ((i.natAbs : Nat) : Int)) H) : rAbsI [.int i] H Q := ⟨i, rfl, by
  have e : (if i < 0 then -i else i) = ((i.natAbs : Nat) : Int) := by split <;> omega
  rw [e]; exact q⟩
def rIntI : List V → Hp → VK → Prop := fun xs H Q => (∃ i, xs = [.int i] ∧ Q (.int i) H) ∨ ∃ k, xs = [.bl k] ∧ Q (.int (if k then 1 else 0)) H
theorem cr_intI {X : Cx} : CallR X (.type "int") rIntI := call_int1
theorem g_intI {H : Hp} {Q : VK} {i : Int} (q : Q (.int i) H) : rIntI [.int i] H Q := .inl ⟨i, rfl, q⟩
def gSetL (N : Hp → Prop) (p : Addr) (xs : List V) (i : Int) (v : V) (H : Hp) : Prop := ∃ j, ixN xs.length i = some j ∧ N (upd H p (.lst (xs.set j v)))
theorem g_setL {H : Hp} {N : Hp → Prop} {p : Addr} {xs : List V} {i : Int} {v : V} {j : Nat} (h : H p = some (.lst xs)) (hj : ixN xs.length i = some j) (q : N (upd H p (.lst (xs.set j v)))) : rSetL (.ref p) (.int i) v H N := ⟨p, xs, i, j, rfl, rfl, h, hj, q⟩
end Fm

set_option maxHeartbeats 2000000
namespace Fm
open PySem PySem.Spec PyProof.Rows L2 SX

/-! ### texts of quotients -/
def dg (c : Nat) : Bool := decide (48 ≤ c) && decide (c ≤ 57)
def dig (l : List Nat) : Bool := !l.isEmpty && l.all dg
def body (l : List Nat) : List Nat := if l.head? = some 45 then l.tail else l
def txN (n : Int) : List Nat := if n < 0 then 45 :: TL.numL n.natAbs else TL.numL n.natAbs
def txR (q : Rat) : List Nat := txN q.num ++ (if q.den = 1 then [] else 47 :: TL.numL q.den)
def dv (l : List Nat) : Nat := NumText.digitsVal l
/-- as the package reads -/
def rdP (l : List Nat) : Option Rat :=
  let p := (TL.par [47] [] l).getD (l, [])
  let bottom := if (TL.par [47] [] l).isSome = true then p.2 else [49]
  if (dig (body p.1) && dig bottom && !decide (bottom.head? = some 48)) = true then
    let q := Rat.divInt (dv (body p.1)) (dv bottom)
    let q := if p.1.head? = some 45 then -q else q
    if txR q = l then some q else none
  else none
/-- as the law reads -/
def badPart (p : List Nat) : Bool := !dig p || (decide (p ≠ [48]) && decide (p.head? = some 48))
def rdL (l : List Nat) : Option Rat :=
  match TL.spl [47] 0 [] (body l) with
  | [u] => if badPart u = true then none else if u = [48] ∧ l.head? = some 45 then none else some ((if l.head? = some 45 then -(dv u : Int) else (dv u : Int) : Int) : Rat)
  | [u, d] => if (badPart u || badPart d) = true then none else if u = [48] then none else if dv d < 2 then none else if Nat.gcd (dv u) (dv d) ≠ 1 then none
      else some (Rat.divInt (if l.head? = some 45 then -(dv u : Int) else (dv u : Int)) (dv d : Int))
  | _ => none

theorem numL_dg (n : Nat) : (TL.numL n).all dg = true := by
  rw [List.all_eq_true]
  intro c hc
  have := TL.numL_digits n c hc
  unfold dg
  simp; omega
theorem dig_numL (n : Nat) : dig (TL.numL n) = true := by
  unfold dig
  rw [numL_dg]
  have := TL.numL_ne n
  cases h : TL.numL n with
  | nil => exact absurd h this
  | cons a r => rfl
theorem dv_numL (n : Nat) : dv (TL.numL n) = n := TL.numL_val n
theorem numL_head {n : Nat} (h : 0 < n) : (TL.numL n).head? ≠ some 48 := by
  induction n using Nat.strongRecOn with
  | _ n ih =>
    by_cases h10 : n < 10
    · rw [TL.numL_lt h10]
      simp
      omega
    · rw [TL.numL_step (by omega)]
      have h1 := ih (n / 10) (by omega) (by omega)
      have h2 := TL.numL_ne (n / 10)
      cases e : TL.numL (n / 10) with
      | nil => exact absurd e h2
      | cons a r =>
        rw [e] at h1
        simpa using h1
theorem numL_head45 (n : Nat) : (TL.numL n).head? ≠ some 45 := by
  intro h
  have h2 : 45 ∈ TL.numL n := by
    cases e : TL.numL n with
    | nil => rw [e] at h; simp at h
    | cons a r => rw [e] at h; simp at h; rw [h]; exact List.mem_cons_self ..
  exact TL.numL_free (n := n) (s := 45) (.inl (by decide)) h2
theorem numL_zero {n : Nat} (h : TL.numL n = [48]) : n = 0 := by
  have := dv_numL n
  rw [h] at this
  exact this.symm
theorem body_txN (n : Int) : body (txN n) = TL.numL n.natAbs := by
  unfold body txN
  by_cases h : n < 0
  · rw [if_pos h]; simp
  · rw [if_neg h, if_neg (numL_head45 _)]
theorem txN_head (n : Int) : ((txN n).head? = some 45) ↔ n < 0 := by
  unfold txN
  by_cases h : n < 0
  · rw [if_pos h]; simp [h]
  · rw [if_neg h]; simp [h, numL_head45]
theorem txN_ne (n : Int) : txN n ≠ [] := by
  unfold txN
  split
  · simp
  · exact TL.numL_ne _
theorem free47 (n : Int) : 47 ∉ txN n := by
  have h := TL.numL_free (n := n.natAbs) (s := 47) (.inl (by decide))
  unfold txN
  split
  · simp [h]
  · exact h
theorem free47N (n : Nat) : 47 ∉ TL.numL n := TL.numL_free (.inl (by decide))
theorem dv_app (l : List Nat) (c : Nat) : dv (l ++ [c]) = dv l * 10 + (c - 48) := by
  unfold dv NumText.digitsVal
  rw [List.foldl_append]
  rfl
theorem dv_pos : ∀ {l : List Nat}, dig l = true → l.head? ≠ some 48 → 0 < dv l := by
  intro l h hh
  cases l with
  | nil => simp [dig] at h
  | cons a r =>
    have ha : 49 ≤ a := by
      simp [dig, dg] at h
      simp at hh
      omega
    unfold dv NumText.digitsVal
    rw [List.foldl_cons]
    have key : ∀ (r : List Nat) (x : Nat), 0 < x → 0 < r.foldl (fun acc c => acc * 10 + (c - 48)) x := by
      intro r
      induction r with
      | nil => intro x h; exact h
      | cons b t ih => intro x h; exact ih _ (show 0 < x * 10 + (b - 48) by omega)
    exact key r _ (show 0 < 0 * 10 + (a - 48) by omega)
theorem canon {l : List Nat} (h : dig l = true) (hz : l = [48] ∨ l.head? ≠ some 48) : TL.numL (dv l) = l := by
  have key : ∀ (n : Nat) (l : List Nat), l.length = n → dig l = true → (l = [48] ∨ l.head? ≠ some 48) → TL.numL (dv l) = l := by
    intro n
    induction n with
    | zero =>
      intro l hl h _
      have := List.eq_nil_of_length_eq_zero hl
      subst this
      simp [dig] at h
    | succ n ih =>
      intro l hl h hz
      rcases List.eq_nil_or_concat l with e | ⟨r, c, e⟩
      · subst e; simp at hl
      · rw [List.concat_eq_append] at e
        subst e
        rw [dv_app]
        have hd : r.all dg = true ∧ dg c = true := by
          simp [dig] at h
          exact ⟨List.all_eq_true.mpr h.1, h.2⟩
        have hc : 48 ≤ c ∧ c ≤ 57 := by
          have := hd.2
          simp [dg] at this
          exact this
        cases r with
        | nil =>
          have : dv [] = 0 := rfl
          rw [this, TL.numL_lt (by omega)]
          simp; omega
        | cons a t =>
          have hh : (a :: t).head? ≠ some 48 := by
            rcases hz with hz | hz
            · simp at hz
            · simpa using hz
          have hdr : dig (a :: t) = true := by
            unfold dig
            rw [hd.1]; rfl
          have hpos := dv_pos hdr hh
          rw [TL.numL_step (by omega), show (dv (a :: t) * 10 + (c - 48)) / 10 = dv (a :: t) by omega, ih (a :: t) (by simpa using hl) hdr (.inr hh), show 48 + (dv (a :: t) * 10 + (c - 48)) % 10 = c by omega]
  exact key l.length l rfl h hz
theorem join_spl (l : List Nat) : ∀ acc, TL.joinL [47] (TL.spl [47] 0 acc l) = acc ++ l := by
  have ne : ∀ (l acc : List Nat), TL.spl [47] 0 acc l ≠ [] := by
    intro l
    induction l with
    | nil => intro acc; rw [TL.spl_nil]; simp
    | cons c r ih =>
      intro acc
      by_cases h : TL.pre [47] (c :: r) = true
      · rw [TL.spl_hit h]; simp
      · rw [TL.spl_miss (by simpa using h)]; exact ih _
  induction l with
  | nil => intro acc; rw [TL.spl_nil]; simp [TL.joinL]
  | cons c r ih =>
    intro acc
    by_cases h : TL.pre [47] (c :: r) = true
    · rw [TL.spl_hit h]
      have hc : c = 47 := by simpa [TL.pre] using h
      subst hc
      have h2 := ih []
      have h3 := ne r []
      show TL.joinL [47] (acc :: TL.spl [47] 0 [] r) = acc ++ 47 :: r
      cases e : TL.spl [47] 0 [] r with
      | nil => exact absurd e h3
      | cons x y =>
        rw [e] at h2
        show acc ++ ([47] ++ TL.joinL [47] (x :: y)) = acc ++ 47 :: r
        rw [h2]; simp
    · rw [TL.spl_miss (by simpa using h), ih]; simp
theorem body_join {l : List Nat} : l = (if l.head? = some 45 then [45] else []) ++ body l := by
  unfold body
  cases l with
  | nil => simp
  | cons a r =>
    by_cases h : a = 45
    · subst h; simp
    · have : (a :: r).head? ≠ some 45 := by simp [h]
      rw [if_neg this, if_neg this]; simp
theorem bad_ok {p : List Nat} (h : badPart p = false) : dig p = true ∧ (p = [48] ∨ p.head? ≠ some 48) := by
  unfold badPart at h
  rw [Bool.or_eq_false_iff] at h
  refine ⟨by simpa using h.1, ?_⟩
  by_cases e : p = [48]
  · exact .inl e
  · refine .inr fun hh => ?_
    have := h.2
    simp [e, hh] at this
theorem ok_bad {p : List Nat} (h : dig p = true) (h2 : p = [48] ∨ p.head? ≠ some 48) : badPart p = false := by
  unfold badPart
  rw [h]
  rcases h2 with rfl | h2
  · simp
  · simp [h2]
theorem bad_numL (n : Nat) : badPart (TL.numL n) = false := by
  refine ok_bad (dig_numL n) ?_
  by_cases h : n = 0
  · subst h; exact .inl (by rw [TL.numL_lt (by decide)])
  · exact .inr (numL_head (by omega))
theorem head_body {l u : List Nat} (h : dig u = true) (r : List Nat) (e : body l = u ++ r) (hn : l.head? ≠ some 45) : l = u ++ r := by
  have := body_join (l := l)
  rw [if_neg hn] at this
  rw [this, e]; rfl
/-- A: what the law reads has this text -/
theorem rdL_text {l : List Nat} {q : Rat} (h : rdL l = some q) : txR q = l := by
  have hj := join_spl (body l) []
  have hb := body_join (l := l)
  unfold rdL at h
  split at h
  · rename_i u hs
    rw [hs] at hj
    split at h
    · cases h
    · rename_i hbad
      split at h
      · cases h
      · rename_i hz
        cases h
        obtain ⟨h1, h2⟩ := bad_ok (by simpa using hbad)
        have hc := canon h1 h2
        have hu : u = body l := hj
        unfold txR
        rw [Rat.den_intCast, Rat.num_intCast, if_pos rfl, List.append_nil]
        unfold txN
        by_cases hn : l.head? = some 45
        · rw [if_pos hn]
          have hpos : 0 < dv u := by
            rcases h2 with e | e
            · exact absurd ⟨e, hn⟩ hz
            · exact dv_pos h1 e
          rw [if_pos (by omega), Int.natAbs_neg, Int.natAbs_natCast, hc, hb, if_pos hn, hu]; rfl
        · rw [if_neg hn, if_neg (by omega), Int.natAbs_natCast, hc, hb, if_neg hn, hu]; rfl
  · rename_i u d hs
    rw [hs] at hj
    split at h
    · cases h
    · rename_i hbad
      split at h
      · cases h
      · rename_i hz
        split at h
        · cases h
        · rename_i h2d
          split at h
          · cases h
          · rename_i hg
            cases h
            rw [Bool.not_eq_true, Bool.or_eq_false_iff] at hbad
            obtain ⟨u1, u2⟩ := bad_ok hbad.1
            obtain ⟨d1, d2⟩ := bad_ok hbad.2
            have cu := canon u1 u2
            have cd := canon d1 d2
            have upos : 0 < dv u := by
              rcases u2 with e | e
              · exact absurd e hz
              · exact dv_pos u1 e
            have hg' : Nat.gcd (dv u) (dv d) = 1 := by omega
            have hbody : u ++ ([47] ++ d) = body l := hj
            have core : ∀ n : Int, n.natAbs = dv u → (Rat.divInt n (dv d : Int)).num = n ∧ (Rat.divInt n (dv d : Int)).den = dv d := by
              intro n hn
              have hgg : Int.gcd (dv d : Int) n = 1 := by
                rw [Int.gcd_eq_natAbs_gcd_natAbs, hn, Int.natAbs_natCast, Nat.gcd_comm]; exact hg'
              constructor
              · rw [Rat.num_divInt, hgg, Int.sign_eq_one_of_pos (by omega)]; simp
              · rw [Rat.den_divInt, if_neg (by omega), hgg]; simp
            by_cases hn : l.head? = some 45
            · rw [if_pos hn]
              obtain ⟨e1, e2⟩ := core (-(dv u : Int)) (by omega)
              unfold txR
              rw [e1, e2, if_neg (by omega)]
              unfold txN
              rw [if_pos (by omega), Int.natAbs_neg, Int.natAbs_natCast, cu, cd, hb, if_pos hn, ← hbody]
              simp
            · rw [if_neg hn]
              obtain ⟨e1, e2⟩ := core (dv u : Int) (by omega)
              unfold txR
              rw [e1, e2, if_neg (by omega)]
              unfold txN
              rw [if_neg (by omega), Int.natAbs_natCast, cu, cd, hb, if_neg hn, ← hbody]
              simp
  · cases h
theorem par_app (n : Int) (r : List Nat) : TL.par [47] [] (txN n ++ 47 :: r) = some (txN n, r) := TL.par_part1 (s := 47) (S := []) (acc := []) (free47 n)
theorem sgn_abs (n : Int) : (if n < 0 then -((n.natAbs : Nat) : Int) else ((n.natAbs : Nat) : Int)) = n := by split <;> omega
theorem head_txR (q : Rat) : ((txR q).head? = some 45) ↔ q.num < 0 := by
  rw [← txN_head]
  unfold txR
  have := txN_ne q.num
  cases e : txN q.num with
  | nil => exact absurd e this
  | cons a r => simp
/-- B: the package reads what it writes -/
theorem rdP_text (q : Rat) : rdP (txR q) = some q := by
  by_cases h1 : q.den = 1
  · have e : txR q = txN q.num := by unfold txR; rw [if_pos h1, List.append_nil]
    have hp : TL.par [47] [] (txN q.num) = none := TL.par_none1 (s := 47) (S := []) (free47 _)
    have hq : Rat.divInt (dv (TL.numL q.num.natAbs) : Int) (dv [49] : Int) = ((q.num.natAbs : Nat) : Rat) := by
      rw [dv_numL]
      show Rat.divInt _ 1 = _
      rw [int_divInt]; rfl
    have hqq : (if (txN q.num).head? = some 45 then -((q.num.natAbs : Nat) : Rat) else ((q.num.natAbs : Nat) : Rat)) = q := by
      have hqn : q = ((q.num : Int) : Rat) := Rat.ext (by simp) (by simp [h1])
      by_cases hn : q.num < 0
      · rw [if_pos ((txN_head _).mpr hn)]
        conv => rhs; rw [hqn]
        rw [show q.num = -((q.num.natAbs : Nat) : Int) by omega]
        simp
        rfl
      · rw [if_neg (fun z => hn ((txN_head _).mp z))]
        conv => rhs; rw [hqn]
        rw [show q.num = ((q.num.natAbs : Nat) : Int) by omega]
        simp
        rfl
    unfold rdP
    rw [e, hp]
    simp only [Option.getD_none, Option.isSome_none, Bool.false_eq_true, if_false, body_txN, dig_numL, hq, hqq, e]
    simp [dig, dg]
  · have e : txR q = txN q.num ++ 47 :: TL.numL q.den := by unfold txR; rw [if_neg h1]
    have hp := par_app q.num (TL.numL q.den)
    have hd := numL_head q.den_pos
    have hq : Rat.divInt (dv (TL.numL q.num.natAbs) : Int) (dv (TL.numL q.den) : Int) = Rat.divInt ((q.num.natAbs : Nat) : Int) ((q.den : Nat) : Int) := by rw [dv_numL, dv_numL]
    have hqq : (if (txN q.num).head? = some 45 then -(Rat.divInt ((q.num.natAbs : Nat) : Int) ((q.den : Nat) : Int)) else Rat.divInt ((q.num.natAbs : Nat) : Int) ((q.den : Nat) : Int)) = q := by
      by_cases hn : q.num < 0
      · rw [if_pos ((txN_head _).mpr hn), Rat.neg_divInt, show -((q.num.natAbs : Nat) : Int) = q.num by omega, Rat.num_divInt_den]
      · rw [if_neg (fun z => hn ((txN_head _).mp z)), show ((q.num.natAbs : Nat) : Int) = q.num by omega, Rat.num_divInt_den]
    unfold rdP
    rw [e, hp]
    simp only [Option.getD_some, Option.isSome_some, if_true, body_txN, dig_numL, hq, hqq, e]
    simp [hd]
/-- D: so does the law -/
theorem rdL_of (q : Rat) : rdL (txR q) = some q := by
  have hh := head_txR q
  by_cases h1 : q.den = 1
  · have e : txR q = txN q.num := by unfold txR; rw [if_pos h1, List.append_nil]
    have hs : TL.spl [47] 0 [] (body (txR q)) = [TL.numL q.num.natAbs] := by
      rw [e, body_txN]
      exact TL.spl_last1 (s := 47) (S := []) (free47N _)
    unfold rdL
    rw [hs]
    simp only [bad_numL, Bool.false_eq_true, if_false]
    have hz : ¬ (TL.numL q.num.natAbs = [48] ∧ (txR q).head? = some 45) := fun z => by
      have := numL_zero z.1
      have := hh.mp z.2
      omega
    rw [if_neg hz, dv_numL]
    have hqn : q = ((q.num : Int) : Rat) := Rat.ext (by simp) (by simp [h1])
    congr 1
    conv => rhs; rw [hqn]
    congr 1
    by_cases hn : q.num < 0
    · rw [if_pos (hh.mpr hn)]; omega
    · rw [if_neg (fun z => hn (hh.mp z))]; omega
  · have e : txR q = txN q.num ++ 47 :: TL.numL q.den := by unfold txR; rw [if_neg h1]
    have hb : body (txR q) = TL.numL q.num.natAbs ++ 47 :: TL.numL q.den := by
      rw [e]
      unfold body txN
      by_cases hn : q.num < 0
      · rw [if_pos hn]; simp
      · rw [if_neg hn]
        have h2 := TL.numL_ne q.num.natAbs
        have h3 := numL_head45 q.num.natAbs
        cases ee : TL.numL q.num.natAbs with
        | nil => exact absurd ee h2
        | cons x r =>
          rw [ee] at h3
          rw [if_neg (by simpa using h3)]
    have hs : TL.spl [47] 0 [] (body (txR q)) = [TL.numL q.num.natAbs, TL.numL q.den] := by
      rw [hb]
      have s1 := TL.spl_part1 (s := 47) (S := []) (acc := []) (rest := TL.numL q.den) (free47N q.num.natAbs)
      have s2 := TL.spl_last1 (s := 47) (S := []) (acc := []) (free47N q.den)
      rw [s2] at s1
      exact s1
    unfold rdL
    rw [hs]
    simp only [bad_numL, Bool.or_self, Bool.false_eq_true, if_false]
    have hz : ¬ TL.numL q.num.natAbs = [48] := fun z => by
      have h0 : q.num = 0 := by have := numL_zero z; omega
      have hr := q.reduced
      rw [h0] at hr
      simp at hr
      exact h1 hr
    have hd2 : ¬ dv (TL.numL q.den) < 2 := by rw [dv_numL]; have := q.den_pos; omega
    have hg : ¬ Nat.gcd (dv (TL.numL q.num.natAbs)) (dv (TL.numL q.den)) ≠ 1 := by rw [dv_numL, dv_numL]; exact fun z => z q.reduced
    rw [if_neg hz, if_neg hd2, if_neg hg, dv_numL, dv_numL]
    congr 1
    conv => rhs; rw [← Rat.num_divInt_den q]
    congr 1
    by_cases hn : q.num < 0
    · rw [if_pos (hh.mpr hn)]; omega
    · rw [if_neg (fun z => hn (hh.mp z))]; omega
theorem rdP_some {l : List Nat} {q : Rat} (h : rdP l = some q) : txR q = l := by
  unfold rdP at h
  dsimp only at h
  rw [Option.ite_none_right_eq_some] at h
  obtain ⟨_, h⟩ := h
  rw [Option.ite_none_right_eq_some] at h
  obtain ⟨e, h⟩ := h
  cases h
  exact e
theorem rd_eq (l : List Nat) : rdP l = rdL l := by
  cases h : rdL l with
  | some q => rw [← rdL_text h]; exact rdP_text q
  | none =>
    cases h2 : rdP l with
    | none => rfl
    | some q =>
      have := rdP_some h2
      rw [← this, rdL_of] at h
      cases h
/-! ### texts in the readings -/
def rAdS : R2 := fun x y H Q => ∃ i j, x = .str i ∧ y = .str j ∧ i.length + j.length ≤ sizeLine ∧ Q (.str (i ++ j)) H
theorem op_adS {X : Cx} : OpR X (binaryOp .Add) rAdS := op_add_str
def rStrI : List V → Hp → VK → Prop := fun xs H Q => ∃ i, xs = [.int i] ∧ i.natAbs.log2 < 1920 ∧ Q (.str (toString i)) H
theorem cr_strI {X : Cx} : CallR X (.type "str") rStrI := call_str_int
def rIntS : List V → Hp → VK → Prop := fun xs H Q => ∃ a n, xs = [.str a] ∧ PySem.intText? a = some n ∧ a.length ≤ 640 ∧ Q (.int n) H
theorem cr_intS {X : Cx} : CallR X (.type "int") rIntS := call_int_str
def rLenS : List V → Hp → VK → Prop := fun xs H Q => ∃ z, xs = [.str z] ∧ z.length ≤ sizeLine ∧ Q (.int z.length) H
theorem call_lenS {X : Cx} : CallR X (.builtin "len") rLenS := by
  intro pins s σ H xs us Q I r h
  obtain ⟨z, e, hz, q⟩ := h
  exact call_len_str pins s σ H xs us Q I r ⟨z, e, hz, q⟩
theorem str_S (n : Int) : (toString n : String).toList.map Char.toNat = txN n := by
  cases n with
  | ofNat m =>
    have h := congrArg (fun x : Str => x.cps.toList) (num_S m)
    have h2 : (Str.ofString (toString ((m : Nat) : Int))).cps.toList = (toString ((m : Nat) : Int) : String).toList.map Char.toNat := PyProof.Rows.signs_ofString _
    unfold txN
    show (toString ((m : Nat) : Int) : String).toList.map Char.toNat = if ((m : Nat) : Int) < 0 then 45 :: TL.numL (Int.natAbs ((m : Nat) : Int)) else TL.numL (Int.natAbs ((m : Nat) : Int))
    rw [if_neg (show ¬ ((m : Nat) : Int) < 0 by omega)]
    rw [← h2, Int.natAbs_natCast]
    exact h
  | negSucc m =>
    have h := congrArg (fun x : Str => x.cps.toList) (num_S (m + 1))
    have h2 : (Str.ofString (toString (((m + 1 : Nat)) : Int))).cps.toList = (toString (((m + 1 : Nat)) : Int) : String).toList.map Char.toNat := PyProof.Rows.signs_ofString _
    have e : (toString (Int.negSucc m) : String) = "-" ++ (toString (((m + 1 : Nat)) : Int) : String) := rfl
    unfold txN
    rw [if_pos (by omega), e, String.toList_append, List.map_append, ← h2]
    have h3 : (Str.ofString (toString (((m + 1 : Nat)) : Int))).cps.toList = TL.numL (m + 1) := h
    rw [h3]
    rfl
theorem strS (n : Int) : (Str.ofString (toString n) : Str) = S (txN n) := TL.ext_tl ((PyProof.Rows.signs_ofString _).trans (str_S n))
section
variable {K : PySem.W.Frag} {σ : L2.St} {H : Hp} {Q : VK} {D : Ends} {ta te : TE}
theorem g_m0 {r : V → List V → Hp → VK → Prop} (q : te σ H fun x H1 => (∃ a, x = .str a) ∧ r x [] H1 Q) : tM0 r te σ H Q := q
theorem g_m1 {r : V → List V → Hp → VK → Prop} (q : ta σ H fun x H1 => (∃ a, x = .str a) ∧ te σ H1 fun y H2 => r x [y] H2 Q) : tM1 r ta te σ H Q := q
theorem g_isS {z : Str} {A : Prop} (q : A) : (∃ a, V.str z = .str a) ∧ A := ⟨⟨z, rfl⟩, q⟩
theorem g_adS {a b : List Nat} (h : a.length + b.length ≤ 100000) (q : Q (.str (S (a ++ b))) H) : rAdS (.str (S a)) (.str (S b)) H Q :=
  ⟨S a, S b, rfl, rfl, by rw [S_len, S_len]; exact Nat.le_trans h (by decide), by rw [S_cat]; exact q⟩
theorem g_strI {n : Int} (h : n.natAbs < 2 ^ 240) (q : Q (.str (S (txN n))) H) : rStrI [.int n] H Q :=
  ⟨n, rfl, by
    by_cases h0 : n.natAbs = 0
    · rw [h0]; decide
    · exact Nat.lt_of_lt_of_le ((Nat.log2_lt h0).mpr h) (by decide), by
    have e := strS n
    show Q (.str (Str.ofString (toString n))) H
    rw [e]; exact q⟩
theorem g_intS {l : List Nat} (h : dig l = true) (hl : l.length ≤ 600) (q : Q (.int ((dv l : Nat) : Int)) H) : rIntS [.str (S l)] H Q := by
  have hne : l ≠ [] := fun e => by subst e; simp [dig] at h
  have ha : l.all dg = true := by
    unfold dig at h
    rw [Bool.and_eq_true] at h
    exact h.2
  exact ⟨S l, _, rfl, int_S ha hne (by omega), by rw [S_len]; omega, q⟩
theorem g_lenS {l : List Nat} (hl : l.length ≤ 100000) (q : Q (.int (l.length : Int)) H) : rLenS [.str (S l)] H Q :=
  ⟨S l, rfl, by rw [S_len]; exact Nat.le_trans hl (by decide), by rw [S_len]; exact q⟩
theorem g_app {p : Addr} {xs : List V} {y : V} (h : H p = some (.lst xs)) (hl : xs.length ≤ 100000) (q : Q .non (upd H p (.lst (xs ++ [y])))) : rAppend (.ref p) [y] H Q := ⟨p, xs, y, rfl, rfl, h, Nat.lt_of_le_of_lt hl (by decide), q⟩
theorem g_bm {T : String} {r : V → List V → Hp → VK → Prop} {t : TA} (q : te σ H fun x H1 => tyV K T x H1 ∧ t σ H1 fun xs H2 => r x xs H2 Q) : tBM K T r te t σ H Q := q
theorem tyL {p : Addr} {xs : List V} (h : H p = some (.lst xs)) : tyV K "list" (.ref p) H := .inl ⟨rfl, _, SqL.of h⟩
theorem g_revL (q : te σ H fun x H1 => ∃ a xs, x = .ref a ∧ SqL K H1 a xs ∧ ∀ p, H1 p = none → Q (.ref p) (upd H1 p (.lst xs.reverse))) : tRevL K te σ H Q := q
theorem while_no {c : TT} {tb : TS} (h : c σ H fun b H1 => b = false ∧ H1 = H) (mono : ∀ σ H (Q Q' : Bool → Hp → Prop), (∀ b H1, Q b H1 → Q' b H1) → c σ H Q → c σ H Q') (q : D.nx σ H) : tWhile c tb D σ H := by
  refine ⟨fun m σ' H' => σ' = σ ∧ H' = H, ⟨0, rfl, rfl⟩, ?_⟩
  rintro m σ' H' ⟨rfl, rfl⟩
  refine mono _ _ _ _ (fun b H1 hb => ?_) h
  obtain ⟨rfl, rfl⟩ := hb
  rw [if_neg Bool.false_ne_true]
  exact q
end
theorem isDigit_ascii : ∀ c, c < 128 → Unicode.isDigit c = dg c := by decide +kernel
theorem isdig_eq (l : List Nat) : (if Txt.isascii (S l) = true then Txt.isdigit (S l) else false) = dig l := by
  have ea : Txt.isascii (S l) = l.all (· < 128) := by unfold Txt.isascii; rw [← Array.all_toList]
  have ed : Txt.isdigit (S l) = (decide (0 < l.length) && l.all Unicode.isDigit) := by unfold Txt.isdigit; rw [← Array.all_toList, S_len]
  rw [ea, ed]
  have en : decide (0 < l.length) = !l.isEmpty := by cases l <;> simp
  rw [en]
  by_cases h : l.all (· < 128) = true
  · rw [if_pos h]
    unfold dig
    congr 1
    rw [List.all_eq_true] at h
    have : ∀ c ∈ l, Unicode.isDigit c = dg c := fun c hc => isDigit_ascii c (by simpa using h c hc)
    clear h ea ed en
    induction l with
    | nil => rfl
    | cons a r ih =>
      rw [List.all_cons, List.all_cons, this a (List.mem_cons_self ..), ih fun c hc => this c (List.mem_cons_of_mem _ hc)]
  · rw [if_neg h]
    unfold dig
    have : l.all dg = false := by
      cases e : l.all dg with
      | false => rfl
      | true =>
        refine absurd ?_ h
        rw [List.all_eq_true] at e ⊢
        intro c hc
        have := e c hc
        simp [dg] at this
        simp; omega
    rw [this]; simp
theorem remove_S (l : List Nat) : Txt.removeprefix (S l) (S [45]) = S (body l) := by
  rw [StrLaws.removeprefix_eq]
  have e : (decide (0 + (S [45]).length ≤ (S l).length) && Builtin.Str.subAt (S l) (S [45]) 0) = decide (l.head? = some 45) := by
    cases l with
    | nil => rfl
    | cons a r =>
      rw [S_len, S_len]
      have h1 : decide (0 + [45].length ≤ (a :: r).length) = true := by simp
      rw [h1, Bool.true_and]
      unfold Builtin.Str.subAt
      show ((S (a :: r)).cps.extract 0 (0 + 1) == #[45]) = _
      have : (S (a :: r)).cps.extract 0 (0 + 1) = #[a] := by
        show (a :: r).toArray.extract 0 1 = #[a]
        simp
      rw [this]
      by_cases h : a = 45
      · subst h; simp
      · simp [h]
  rw [e]
  unfold body
  by_cases h : l.head? = some 45
  · rw [if_pos (by simp [h]), if_pos h]
    rw [S_len, S_len]
    cases l with
    | nil => simp at h
    | cons a r => simp
  · rw [if_neg (by simp [h]), if_neg h]
theorem starts_S (l : List Nat) (c : Nat) : Txt.startswith (S l) (S [c]) = decide (l.head? = some c) := by
  cases l with
  | nil => rfl
  | cons a r =>
    unfold Txt.startswith
    rw [S_len, S_len]
    have h1 : decide (0 + [c].length ≤ (a :: r).length) = true := by simp
    rw [h1, Bool.true_and]
    unfold Builtin.Str.subAt
    show ((S (a :: r)).cps.extract 0 (0 + 1) == #[c]) = _
    have : (S (a :: r)).cps.extract 0 (0 + 1) = #[a] := by
      show (a :: r).toArray.extract 0 1 = #[a]
      simp
    rw [this]
    by_cases h : a = c
    · subst h; simp
    · simp [h]
theorem cut_to (l : List Nat) (k : Nat) : cutS (S l) none (some (k : Int)) = S (l.take k) := by
  unfold cutS
  rw [HT.sIx_none, HT.sIx_nat, S_len]
  show S ((l.drop 0).take (min k l.length - 0)) = S (l.take k)
  have e : List.take (min k l.length) l = List.take k l := List.take_eq_take_iff.mpr (by omega)
  rw [List.drop_zero, Nat.sub_zero, e]
theorem cut_from (l : List Nat) (k : Nat) : cutS (S l) (some (k : Int)) none = S (l.drop k) := by
  unfold cutS
  rw [HT.sIx_none, HT.sIx_nat, S_len]
  show S ((l.drop (min k l.length)).take (l.length - min k l.length)) = S (l.drop k)
  by_cases h : k ≤ l.length
  · rw [Nat.min_eq_left h, List.take_of_length_le (by rw [List.length_drop]; omega)]
  · rw [Nat.min_eq_right (by omega), List.drop_of_length_le (by omega), List.drop_of_length_le (by omega), List.take_nil]
section
variable {K : PySem.W.Frag} {σ : L2.St} {H : Hp} {Q : VK} {D : Ends} {ta te : TE} {tl th : TO}
theorem g_sl {r : V → Option Int → Option Int → Hp → VK → Prop} (q : te σ H fun x H1 => tl σ H1 fun l H2 => th σ H2 fun u H3 => r x l u H3 Q) : tSl r te tl th σ H Q := q
theorem g_nopart {W : Option Int → Hp → Prop} (q : W none H) : tNoPart σ H W := q
theorem g_part {W : Option Int → Hp → Prop} (q : te σ H fun x H1 => ∃ i, x = .int i ∧ W (some i) H1) : tPart te σ H W := q
theorem g_exI {W : Int → Prop} {i : Int} (q : W i) : ∃ j, V.int i = .int j ∧ W j := ⟨i, rfl, q⟩
theorem g_slS {l m : List Nat} {lo hi : Option Int} (hl : l.length ≤ 100000) (e : cutS (S l) lo hi = S m) (q : Q (.str (S m)) H) : rSlS (.str (S l)) lo hi H Q :=
  ⟨S l, rfl, by rw [S_len]; exact Nat.le_trans hl (by decide), by rw [e]; exact q⟩
theorem g_iteC {p : Prop} [Decidable p] {v w u : V} (h1 : p → v = u) (h2 : ¬ p → w = u) (q : Q u H) : if decide p = true then tC v σ H Q else tC w σ H Q := by
  by_cases h : p
  · rw [decide_eq_true h, if_pos rfl, h1 h]; exact q
  · rw [decide_eq_false h, if_neg Bool.false_ne_true, h2 h]; exact q
end
theorem rg_none : ∀ n, n < 60 → RgC (n : Nat) (n : Nat) 60 0 := fun n hn => by
  have h : ∀ n, n < 60 → (Builtin.Range.small ((n : Nat) : Int) ((n : Nat) : Int) 60 = true ∧ Builtin.Range.rangeSize ((n : Nat) : Int) ((n : Nat) : Int) 60 = ((0 : Nat) : Int)) := by decide
  exact ⟨by decide, by decide, (h n hn).1, (h n hn).2⟩
theorem txR_one {q : Rat} (h : ((q.den : Nat) : Int) = 1) : txR q = txN q.num := by unfold txR; rw [if_pos (by omega), List.append_nil]
theorem txR_more {q : Rat} (h : ¬ ((q.den : Nat) : Int) = 1) : txR q = txN q.num ++ 47 :: TL.numL q.den := by unfold txR; rw [if_neg (by omega)]
theorem txN_abs (n : Int) : (if n < 0 then [45] else []) ++ TL.numL n.natAbs = txN n := by unfold txN; split <;> rfl
theorem dig0 {l : List Nat} (h : dig l = true) : dig (48 :: l) = true := by
  unfold dig at h ⊢
  rw [Bool.and_eq_true] at h
  rw [List.all_cons, h.2]; rfl
theorem dv0 (l : List Nat) : dv (48 :: l) = dv l := rfl
end Fm

set_option maxHeartbeats 2000000
namespace Fm
open PySem PySem.Spec PyProof.Rows L2
/-! ### loops and comprehensions by named parts -/
/-- what a for asks once its iterator J stands -/
def Lp (J : It) (g : TG) (tb : TS) (D : Ends) (σ : L2.St) (H : Hp) : Prop := tFor (fun _ H R => R J H) g tb D σ H
/-- what a comprehension asks once its iterator J stands -/
def Cp (J : It) (g : TG) (tt : TT) (te : TE) (vs : List Nat) (σ : L2.St) (H : Hp) (Q : VK) : Prop := tLc (fun _ H R => R J H) g tt te vs σ H Q
section
variable {K : PySem.W.Frag} {σ : L2.St} {H : Hp} {Q : VK} {D : Ends} {g : TG} {tb : TS} {tt : TT} {te tl : TE} {ta : TA} {vs : List Nat} {wi : TI} {R : It → Hp → Prop}
theorem g_for (q : wi σ H fun J H1 => Lp J g tb D σ H1) : tFor wi g tb D σ H := q
theorem g_lc (q : wi σ H fun J H1 => Cp J g tt te vs σ H1 Q) : tLc wi g tt te vs σ H Q := q
theorem g_ilist (q : tl σ H fun x H1 => ∃ a, x = .ref a ∧ (∃ xs, SqL K H1 a xs) ∧ R (Itl K a) H1) : iList K tl σ H R := q
theorem g_itup (q : tl σ H fun x H1 => ∃ a, x = .ref a ∧ (∃ xs, SqT K H1 a xs) ∧ R (Itt K a) H1) : iTup K tl σ H R := q
theorem g_rng1 (q : ta σ H fun vs H1 => ∃ j : Int, vs = [.int j] ∧ -(2 ^ 62) ≤ j ∧ j < 2 ^ 62 ∧ R (Itr 0 j.toNat) H1) : iRng1 ta σ H R := q
theorem g_rng3 (q : ta σ H fun vs H1 => ∃ (i j c : Int) (n : Nat), vs = [.int i, .int j, .int c] ∧ RgC i j c n ∧ R (Itc i c n) H1) : iRng3 ta σ H R := q
theorem g_rng1k {n : Nat} (h : n ≤ 1000000) {W : Nat → Prop} (q : W n) : ∃ j : Int, [V.int (n : Int)] = [.int j] ∧ -(2 ^ 62) ≤ j ∧ j < 2 ^ 62 ∧ W j.toNat := ⟨n, rfl, by omega, by omega, by rw [Int.toNat_natCast]; exact q⟩
theorem lp_C {lo c : Int} {n : Nat} (Pv : Nat → L2.St → Hp → Prop) (h0 : Pv 0 σ H)
    (hs : ∀ i σ H, i < n → Pv i σ H → g (.int (lo + (i : Nat) * c)) σ H fun s2 H2 => tb { D with nx := Pv (i + 1), ct := Pv (i + 1), bk := D.nx } s2 H2) (hd : ∀ σ H, Pv n σ H → D.nx σ H) : Lp (Itc lo c n) g tb D σ H := for_rangeC Pv h0 hs hd
theorem lp_R {lo : Int} {n : Nat} (Pv : Nat → L2.St → Hp → Prop) (h0 : Pv 0 σ H)
    (hs : ∀ i σ H, i < n → Pv i σ H → g (.int (lo + i)) σ H fun s2 H2 => tb { D with nx := Pv (i + 1), ct := Pv (i + 1), bk := D.nx } s2 H2) (hd : ∀ σ H, Pv n σ H → D.nx σ H) : Lp (Itr lo n) g tb D σ H := for_range Pv h0 hs hd
theorem lp_L {a : Addr} {xs : List V} (Pv : Nat → L2.St → Hp → Prop) (h0 : Pv 0 σ H) (hl : ∀ i σ H, i ≤ xs.length → Pv i σ H → SqL K H a xs)
    (hs : ∀ i x σ H, xs[i]? = some x → Pv i σ H → g x σ H fun s2 H2 => tb { D with nx := Pv (i + 1), ct := Pv (i + 1), bk := D.nx } s2 H2) (hd : ∀ σ H, Pv xs.length σ H → D.nx σ H) : Lp (Itl K a) g tb D σ H := for_list Pv h0 hl hs hd
theorem lp_T {a : Addr} {xs : List V} (Pv : Nat → L2.St → Hp → Prop) (h0 : Pv 0 σ H) (hl : ∀ i σ H, i ≤ xs.length → Pv i σ H → SqT K H a xs)
    (hs : ∀ i x σ H, xs[i]? = some x → Pv i σ H → g x σ H fun s2 H2 => tb { D with nx := Pv (i + 1), ct := Pv (i + 1), bk := D.nx } s2 H2) (hd : ∀ σ H, Pv xs.length σ H → D.nx σ H) : Lp (Itt K a) g tb D σ H := for_tup Pv h0 hl hs hd
/-- one turn of a comprehension: the item x is taken, the element put behind -/
def Turn (g : TG) (tt : TT) (te : TE) (vs : List Nat) (σ : L2.St) (D : Addr) (N : Hp → Prop) (x : V) (H : Hp) : Prop := g x (wipe σ vs) H fun s2 H2 => wipe s2 vs = wipe σ vs ∧ tt s2 H2 fun b H3 =>
  if b = true then te s2 H3 fun y H4 => ∃ acc, H4 D = some (.lst acc) ∧ acc.length < sizeLine ∧ N (upd H4 D (.lst (acc ++ [y]))) else N H3
theorem cp_R {lo : Int} {n : Nat} (Pv : Addr → Nat → Hp → Prop) (h0 : ∀ D, H D = none → Pv D 0 (upd H D (.lst [])))
    (hs : ∀ D, H D = none → ∀ i H', i < n → Pv D i H' → Turn g tt te vs σ D (Pv D (i + 1)) (.int (lo + i)) H') (hd : ∀ D, H D = none → ∀ H', Pv D n H' → Q (.ref D) H') : Cp (Itr lo n) g tt te vs σ H Q :=
  fun D hD => lc_range (Pv D) (h0 D hD) (hs D hD) (hd D hD)
theorem cp_L {a : Addr} {xs : List V} (Pv : Addr → Nat → Hp → Prop) (h0 : ∀ D, H D = none → Pv D 0 (upd H D (.lst []))) (hl : ∀ D, H D = none → ∀ i H', i ≤ xs.length → Pv D i H' → SqL K H' a xs)
    (hs : ∀ D, H D = none → ∀ i x H', xs[i]? = some x → Pv D i H' → Turn g tt te vs σ D (Pv D (i + 1)) x H') (hd : ∀ D, H D = none → ∀ H', Pv D xs.length H' → Q (.ref D) H') : Cp (Itl K a) g tt te vs σ H Q :=
  fun D hD => lc_list (Pv D) (h0 D hD) (hl D hD) (hs D hD) (hd D hD)
theorem g_yes {W : Bool → Hp → Prop} (q : W true H) : tYes σ H W := q
end
/-- a walk of what may be a list or a tuple -/
theorem pi_seq {X : Cx} {tg l : Expr} {tl : TE} (hl : PE X l tl) : PI X tg l (fun σ H R => iList X.K tl σ H R ∨ iTup X.K tl σ H R) := by
  refine ⟨fun pins s σ H R I h => ?_⟩
  rcases h with h | h
  · exact (pi_list hl).run pins s σ H R I h
  · exact (pi_tup hl).run pins s σ H R I h
end Fm

set_option maxHeartbeats 2000000
namespace Fm
open PySem PySem.Spec PyProof.Rows L2
/-! ### own errors -/
def veMro : List Value := [.type "ValueError", .type "Exception", .type "BaseException", .type "object"]
/-- an error class of the text without an own __init__ -/
structure XC (K : PySem.W.Frag) (C : Addr) : Prop where
  ex : PySem.W.excIn K C [.type "ValueError", .type "Exception", .type "BaseException", .type "object"] "ValueError.__new__" = true
  kp : PySem.W.keepIn K (.ref C) = true
  bx : PySem.W.subIn K (.ref C) (.type "BaseException") = some true
  ty : PySem.W.typeIn K (.ref C) = some (.type "type")
  cls : PySem.W.isClsIn K C = true
  sub : PySem.W.subIn K (.ref C) (.ref C) = some true
/-- X() -/
theorem pmk_own0 {X : Cx} {C : Addr} {bmB : List Value} {B newId initId : String} {x : Str} {p pos : Pos} (F : ExcBaseFacts B newId initId bmB) (q : PySem.W.excIn X.K C bmB newId = true) (gC : X.mg x = some (.ref C))
    (kC : PySem.W.keepIn X.K (.ref C) = true) (r : Raises X (.ref C)) (hg : Gl X x) (hdb : (x == ("__debug__" : Str)) = false := by decide) : PMk X (.Call (.Name x p) [] [] pos) (fun _ H Q => Q (.ref C) none H) := by
  intro pins s σ H Q I h
  refine wpAny_Call_Name_kw (ld_glob I hg gC ?_ hdb)
  refine PySem.W.callWith_K0 I.kIn kC ?_
  obtain ⟨bm, N, nm, qn, bs, hdct, sn, sub, ab, col, dd, k0, k1, k2, k3, k5, mN, hC, hN, hni, T⟩ := exc_obj I.kIn q
  refine wpAny_call_exc_subT F T hC hN hni (fun h' e hm => ?_) (by show 0 ≤ sizeLine; exact Nat.zero_le _)
  exact mk_of I hm r h (I.hok.gone hm.new)
theorem ps_raise0 {X : Cx} {W : WX} {C : Addr} {x : Str} {p pos pos2 : Pos} (hc : X.calm = true) (tk : Takes X W) (T : XC X.K C) (gC : X.mg x = some (.ref C)) (hg : Gl X x) (hdb : (x == ("__debug__" : Str)) = false := by decide) :
    PS X (.Raise (some (.Call (.Name x p) [] [] pos)) none pos2) (fun _ σ H => W (.ref C) none σ H) :=
  ps_raise hc tk (pmk_own0 PySem.F.excBase_ValueError T.ex gC T.kp (raises_own T.bx T.ty) hg hdb)
section
variable {K : PySem.W.Frag} {σ : L2.St} {H : Hp} {Q : VK} {C : Addr} {v : V} {q : Rat} {N : L2.St → Hp → Prop} {E : XK}
theorem g_gtup {n : Nat} {t : TGs} {p : Addr} {xs : List V} (h : SqT K H p xs) (hl : xs.length = n) (k : t xs σ H N) : gTup K n t (.ref p) σ H N := ⟨p, xs, rfl, h, hl, k⟩
theorem g_gcons {t : TG} {u : TGs} {r : List V} (k : t v σ H fun s1 H1 => u r s1 H1 N) : gCons t u (v :: r) σ H N := ⟨v, r, rfl, k⟩
theorem g_gnil (k : N σ H) : gNil [] σ H N := ⟨rfl, k⟩
theorem g_methR {m : Str} {W : Prop} (h : RatV C H v q) (h1 : ¬ m = "bottom") (h2 : ¬ m = "top") (k : W) : ∃ a dx fs, v = .ref a ∧ H a = some (.ins C dx fs) ∧ fs.lookup m = none ∧ W := by
  obtain ⟨p, rfl, dx, hp⟩ := h
  exact ⟨p, dx, _, rfl, hp, flR_no q h1 h2, k⟩
theorem g_neg {k : Nat} (h : RatV C H v q) (sz : Sz k q) (hk : k ≤ 3000) (z : ∀ u H', Ex H H' → RatV C H' u (-q) → Q u H') : rOwnU C (spNum1 C (- ·)) E v H Q := ⟨h.inst, use_num1 h sz hk z⟩
theorem g_own {sp : Sp} {y : V} (h : RatV C H v q) (hy : NumLike C y H) (z : sp [v, y] H Q E) : rOwn C sp E v y H Q := ⟨h.inst, hy, z⟩
theorem g_num2 {g : Rat → Rat → Rat} {y : V} {b : Rat} {k : Nat} (hx : RatV C H v q) (hy : NumV C H y b) (sa : Sz k q) (sb : Sz k b) (hk : k ≤ 3000) (z : ∀ u H', Ex H H' → RatV C H' u (g q b) → Q u H') : rOwn C (spNum2 C g) E v y H Q :=
  ⟨hx.inst, hy.like, use_num2 hx hy sa sb hk z⟩
theorem g_rel2 {g : Rat → Rat → Bool} {y : V} {b : Rat} {k : Nat} (R : RC K C) (hx : RatV C H v q) (hy : NumV C H y b) (sa : Sz k q) (sb : Sz k b) (hk : k ≤ 3000) (z : ∀ H', Ex H H' → Q (.bl (g q b)) H') : rCmpOwn K C (spRel2 C g) E v y H Q := by
  obtain ⟨t, ty, kt, _⟩ := ty_num R hy
  exact ⟨hx.inst, ⟨t, ty, not_first R kt⟩, use_rel2 hx hy sa sb hk z⟩
theorem g_eqN {y : V} {b : Rat} {k : Nat} (R : RC K C) (hx : RatV C H v q) (hy : NumV C H y b) (sb : Sz k b) (hk : k ≤ 3000) (z : ∀ H', Ex H H' → Q (.bl (decide (q = b))) H') : rCmpOwn K C (spEqV K C) E v y H Q := by
  obtain ⟨t, ty, kt, _⟩ := ty_num R hy
  exact ⟨hx.inst, ⟨t, ty, not_first R kt⟩, use_eqN hx hy sb hk z⟩
theorem g_eqO {y : V} {t : Value} (R : RC K C) (hx : RatV C H v q) (ty : TyX K H y t) (kt : KTy C t) (e : (t == .ref C || t == .type "int") = false) (z : ∀ H', Ex H H' → Q (.bl false) H') : rCmpOwn K C (spEqV K C) E v y H Q :=
  ⟨hx.inst, ⟨t, ty, not_first R kt⟩, use_eqO hx ty kt e z⟩
theorem g_neN {y : V} {b : Rat} {k : Nat} (R : RC K C) (hx : RatV C H v q) (hy : NumV C H y b) (sb : Sz k b) (hk : k ≤ 3000) (z : ∀ H', Ex H H' → Q (.bl (!decide (q = b))) H') : rNeOwn K C (spEqV K C) E v y H Q := by
  obtain ⟨t, ty, kt, _⟩ := ty_num R hy
  exact ⟨hx.inst, ⟨t, ty, not_first R kt⟩, use_eqN hx hy sb hk fun H' e => ⟨_, rfl, z H' e⟩⟩
end
theorem num_le {t b : Int} (h0 : b ≠ 0) : (Rat.divInt t b).num.natAbs ≤ t.natAbs ∧ (Rat.divInt t b).den ≤ b.natAbs := by
  have hg : b.gcd t = Nat.gcd t.natAbs b.natAbs := by rw [Int.gcd_eq_natAbs_gcd_natAbs, Nat.gcd_comm]
  have hp := gcd_pos (t := t) h0
  constructor
  · rw [← top_eq h0]
    have hd : sg t b ∣ t := by
      have : (((Nat.gcd t.natAbs b.natAbs : Nat)) : Int) ∣ t := Int.ofNat_dvd_left.mpr (Nat.gcd_dvd_left _ _)
      unfold sg; split
      · exact Int.neg_dvd.mpr this
      · exact this
    obtain ⟨c, hc⟩ := hd
    have hs := sg_ne (t := t) h0
    generalize sg t b = S at hc hs
    have h1 : 0 < S.natAbs := Int.natAbs_pos.mpr hs
    rw [hc, Int.mul_fdiv_cancel_left _ hs, Int.natAbs_mul]
    exact Nat.le_mul_of_pos_left _ h1
  · rw [Rat.den_divInt, if_neg h0]
    exact Nat.div_le_self _ _
theorem dv_lt : ∀ {l : List Nat}, dig l = true → dv l < 10 ^ l.length := by
  have key : ∀ (n : Nat) (l : List Nat), l.length = n → l.all dg = true → dv l < 10 ^ n := by
    intro n
    induction n with
    | zero =>
      intro l hl _
      have := List.eq_nil_of_length_eq_zero hl
      subst this
      exact (by decide : 0 < 10 ^ 0)
    | succ n ih =>
      intro l hl h
      rcases List.eq_nil_or_concat l with e | ⟨r, c, e⟩
      · subst e; simp at hl
      · rw [List.concat_eq_append] at e
        subst e
        have hr : r.all dg = true ∧ dg c = true := by simpa using h
        have hc : c ≤ 57 := by have := hr.2; simp [dg] at this; exact this.2
        have h1 := ih r (by simpa using hl) hr.1
        rw [dv_app, Nat.pow_succ]
        omega
  intro l h
  unfold dig at h
  rw [Bool.and_eq_true] at h
  exact key _ l rfl h.2
theorem dv_lt60 {l : List Nat} (h : dig l = true) (hl : l.length ≤ 60) : dv l < 10 ^ 60 := Nat.lt_of_lt_of_le (dv_lt h) (Nat.pow_le_pow_right (by decide) hl)
theorem neS {a b : List Nat} : decide (SX.S a = SX.S b) = decide (a = b) := decide_eq_decide.mpr ⟨SX.S_inj, fun h => by rw [h]⟩
theorem par_split {l p q : List Nat} : ∀ {acc : List Nat}, TL.par [47] acc l = some (p, q) → p ++ 47 :: q = acc ++ l := by
  induction l with
  | nil => intro acc h; cases h
  | cons c r ih =>
    intro acc h
    by_cases hc : TL.pre [47] (c :: r) = true
    · rw [TL.par_hit hc] at h
      have e : c = 47 := by simpa [TL.pre] using hc
      subst e
      cases h
      rfl
    · rw [TL.par_miss (by simpa using hc)] at h
      have := ih h
      rw [this]; simp
/-- the parts that the package reads: head, whether a stroke stands behind it, tail -/
def hd (l : List Nat) : List Nat := ((TL.par [47] [] l).getD (l, [])).1
def tlp (l : List Nat) : List Nat := ((TL.par [47] [] l).getD (l, [])).2
def strk (l : List Nat) : Bool := (TL.par [47] [] l).isSome
def bot (l : List Nat) : List Nat := if strk l = true then tlp l else [49]
theorem part_S (l : List Nat) : Txt.partition (SX.S l) (SX.S [47]) = (SX.S (hd l), SX.S (if strk l = true then [47] else []), SX.S (tlp l)) := by
  unfold hd tlp strk
  cases h : TL.par [47] [] l with
  | none => rw [SX.partition_none (by simp) h]; rfl
  | some pq =>
    obtain ⟨p, q⟩ := pq
    rw [SX.partition_some (by simp) h]; rfl
theorem part_len (l : List Nat) : (hd l).length ≤ l.length ∧ (tlp l).length ≤ l.length := by
  unfold hd tlp
  cases h : TL.par [47] [] l with
  | none => simp
  | some pq =>
    obtain ⟨p, q⟩ := pq
    have := congrArg List.length (par_split h)
    simp at this
    simp; omega
theorem body_len (l : List Nat) : (body l).length ≤ l.length := by
  unfold body; split
  · rw [List.length_tail]; omega
  · omega
theorem bot_len {l : List Nat} (h : l.length < 60) : (bot l).length < 60 := by
  have := (part_len l).2
  unfold bot; split
  · omega
  · decide
theorem rdP_eq (l : List Nat) : rdP l = if (dig (body (hd l)) && dig (bot l) && !decide ((bot l).head? = some 48)) = true then
    (let q := (if (hd l).head? = some 45 then -(Rat.divInt (dv (body (hd l))) (dv (bot l))) else Rat.divInt (dv (body (hd l))) (dv (bot l))); if txR q = l then some q else none) else none := rfl
theorem strk_dec (l : List Nat) : decide (SX.S (if strk l = true then [47] else []) = SX.S [47]) = strk l := by
  cases strk l with
  | true => simp
  | false =>
    rw [neS]; simp
theorem g_iteVC {σ : L2.St} {H : Hp} {Q : VK} {n : Nat} {b : Bool} {v w : V} (h : σ[n]? = some (some v)) (q : Q (if b = true then v else w) H) : if b = true then tVar n σ H Q else tC w σ H Q := by
  cases b with
  | true => exact ⟨v, h, q⟩
  | false => exact q
theorem use_initW {C : Addr} {H : Hp} {W : Addr → Hp → Prop} {E : XK} {t b : Int} {k : Nat} (hb : b ≠ 0) (h1 : t.natAbs < 2 ^ k) (h2 : b.natAbs < 2 ^ k) (hk : k ≤ 8000)
    (q : ∀ p H', Ex H H' → RatV C H' (.ref p) (Rat.divInt t b) → W p H') : ∀ x dx, H x = none → H dx = none → dx ≠ x → spInit C [.ref x, .int t, .int b] (upd (upd H dx (.own x)) x (.ins C dx [])) (fun v H2 => v = .non ∧ W x H2) E := by
  intro x dx hx hdx hne
  refine ⟨x, dx, t, b, k, rfl, hb, h1, h2, hk, upd_same, fun H' e hp => ⟨rfl, q _ _ (fun a o ha => ?_) ⟨x, rfl, dx, hp⟩⟩⟩
  refine e a o ?_ (ne_of_none ha hx)
  rw [upd_ne (ne_of_none ha hx), upd_ne (ne_of_none ha hdx)]
  exact ha
end Fm

set_option maxHeartbeats 2000000
namespace Fm
open PySem PySem.Spec PyProof.Rows L2
/-! ### calls with keywords alone, calls whose errors are wished for at the caller's slots -/
/-- a def without defaults, n values in front, the names ks behind -/
theorem kbN {K : PySem.W.Frag} {x qual : Str} {params : Arguments} {bd : List Stmt} {scope : Scope} {f : Addr} {fd : FuncData} {ps : List Str} (F : FunD K x qual params bd scope [] [] f fd) (n : Nat) (ks : List Str) (g : {α : Type} → List α → List α → List α)
    (hrel : ∀ {vs zs : List V} {us ws : List Value}, Vals vs us → Vals zs ws → Vals (g vs zs) (g us ws))
    (h : ∀ (kV doc pm : Value) (an : Option Addr) (cdv ct : Value) (us ws : List Value), us.length = n → ws.length = ks.length → bindArgs (PySem.W.fnOf x qual params bd scope .none kV doc pm an cdv ct) ⟨us, ks.zip ws⟩ = pure (ps.zip (g us ws))) :
    KBn K fd ps n ks (fun us ws => g us ws) (fun vs zs => g vs zs) := by
  obtain ⟨oc, od, dV, kV, doc, pm, an, cdv, ct, osl, rfl, lk, hcd, hD, hK⟩ := F.ex
  rcases hD with ⟨_, rfl⟩ | ⟨e, _⟩
  · exact ⟨fun s us ws _ l1 l2 => .of_eq (h kV doc pm an cdv ct us ws l1 l2), fun r1 r2 => hrel r1 r2⟩
  · exact absurd rfl e
section
variable {X : Cx} {CX : CXT} {k n : Nat} {f C : Addr} {fd : FuncData} {ps ks : List Str} {sp : Sp} {E : L2.St → XK} {x m : Str} {p pos apos : Pos} {e o : Expr} {es : List Expr} {kws : List Keyword} {t tk : TA} {ta : TE} {g : List Value → List Value → List Value} {gV : List V → List V → List V}
theorem run_kwS {pins : List (Addr × Obj)} {σ : L2.St} {H : Hp} {s : Shared} {Q : VK} {us ws : List Value} {vs zs : List V} (F : FnOk X.prog X.w X.K X.mg X.base CX k f fd ps sp) (hr : Room k X.A) (hb : KBn X.K fd ps n ks g gV) (hx : PassesAt CX X σ (E σ))
    (I : Inv X pins σ H s) (r : Vals vs us) (rz : Vals zs ws) (l1 : vs.length = n) (l2 : zs.length = ks.length) (h : sp (gV vs zs) H Q (E σ)) : wpAny (model X.prog X.w) X.A (call (.ref f) us (ks.zip ws)) (EP X pins σ Q) X.xe s := by
  have bb := hb.to s us ws I.kIn (r.length.symm.trans l1) (rz.length.symm.trans l2)
  refine wpAny_call (codeAny_mono (F.run X.A X.stack s H _ _ _ Q (E σ) hr I.env0 bb (hb.rel r rz) h) fun rr s' hq => ?_)
  cases rr with
  | error ee => exact hx pins H s ee s' I hq
  | ok fl =>
    cases fl with
    | ret u => exact I.after hq
    | next => exact False.elim hq
    | brk => exact False.elim hq
    | cont => exact False.elim hq
/-- f(k = v, ..) -/
def tCallW (sp : Sp) (gV : List V → List V → List V) (m : Nat) (E : L2.St → XK) (tk : TA) : TE := fun σ H Q => tk σ H fun zs H2 => zs.length = m ∧ sp (gV [] zs) H2 Q (E σ)
theorem pe_callW (F : FnOk X.prog X.w X.K X.mg X.base CX k f fd ps sp) (hr : Room k X.A) (hg : Gl X x) (hm : X.mg x = some (.ref f)) (hk : PySem.W.keepIn X.K (.ref f) = true) (hb : KBn X.K fd ps 0 ks g gV) (hx : ∀ σ, PassesAt CX X σ (E σ)) (hkw : PK X kws tk)
    (hall : (backToKw pos (keywordEach kws X.env)).all (·.1.isSome) = true := by rfl) (hks : (backToKw pos (keywordEach kws X.env)).filterMap (·.1) = ks := by rfl) (hdb : (x == ("__debug__" : Str)) = false := by decide)
    (hpl : ((backTo pos (starEach [] X.env)).any (·.1) || (backToKw pos (keywordEach kws X.env)).any (·.1.isNone)) = false := by rfl) : PE X (.Call (.Name x p) [] kws pos) (tCallW sp gV ks.length E tk) := by
  refine ⟨fun pins s σ H Q I h => ?_⟩
  refine wpAny_Call_Name_kw (ld_glob I hg hm ?_ hdb)
  refine PySem.W.callWith_KW0 (h₀ := X.base) I.ok.mod.kin hk hall ?_ hpl
  refine thn (hkw.run pos pins s σ H _ I h) fun ws s2 hh => ?_
  obtain ⟨zs, H2, I2, rz, l2, q2⟩ := hh
  refine ⟨I2.kIn, ?_⟩
  rw [hks]
  exact run_kwS (us := []) (vs := []) F hr hb (hx σ) I2 .nil rz rfl l2 q2
/-- o.m(k = v, ..) -/
def tMethW (C : Addr) (m : Str) (sp : Sp) (gV : List V → List V → List V) (j : Nat) (E : L2.St → XK) (ta : TE) (tk : TA) : TE := fun σ H Q => ta σ H fun x H1 => ∃ a dx fs, x = .ref a ∧ H1 a = some (.ins C dx fs) ∧ fs.lookup m = none ∧
  tk σ H1 fun zs H2 => zs.length = j ∧ sp (gV [x] zs) H2 Q (E σ)
theorem pe_methW {pl : Sem Bool} (he : PE X o ta) (c : Cls X.K C) (hm : Meth X.K C m f) (F : FnOk X.prog X.w X.K X.mg X.base CX k f fd ps sp) (hr : Room k X.A) (hb : KBn X.K fd ps 1 ks g gV) (hx : ∀ σ, PassesAt CX X σ (E σ)) (hkw : PK X kws tk)
    (hall : (backToKw pos (keywordEach kws X.env)).all (·.1.isSome) = true := by rfl) (hks : (backToKw pos (keywordEach kws X.env)).filterMap (·.1) = ks := by rfl)
    (hpl : ((backTo pos (starEach [] X.env)).any (·.1) || (backToKw pos (keywordEach kws X.env)).any (·.1.isNone)) = false := by rfl)
    (ht : eval (.Call (.Attribute o m apos) [] kws pos) X.env = (do
      let ov ← eval o X.env
      standAt apos.atName
      let (f, first) ← holding [ov] (getMethod ov m pl)
      callWith pos f first (backTo pos (starEach [] X.env)) (backToKw pos (keywordEach kws X.env))) := by rfl) :
    PE X (.Call (.Attribute o m apos) [] kws pos) (tMethW C m sp gV ks.length E ta tk) := by
  refine ⟨fun pins s σ H Q I h => ?_⟩
  refine PySem.W.methodCall_KW (pl := pl) (thn (he.run pins s σ H _ I h) fun u s1 hh => ?_) ht
  obtain ⟨x, H1, I1, rx, a, dx, fs, ex, ea, l, q⟩ := hh
  subst ex
  cases rx
  refine getmeth_ok I1 ea c hm l ?_
  refine PySem.W.callWith_KW0 (first := [.ref a]) (h₀ := X.base) I.ok.mod.kin hm.kp hall ?_ hpl
  refine thn (hkw.run pos pins s1 σ H1 _ I1 q) fun ws s2 hh => ?_
  obtain ⟨zs, H2, I2, rz, l2, q2⟩ := hh
  refine ⟨I2.kIn, ?_⟩
  rw [hks]
  exact run_kwS (us := [.ref a]) (vs := [.ref a]) F hr hb (hx σ) I2 (.cons rfl .nil) rz rfl l2 q2
/-- C(e, ..), the errors of its __init__ wished for at the slots -/
def tMakeS (C : Addr) (sp : Sp) (E : L2.St → XK) (t : TA) : TE := fun σ H Q => t σ H fun vs H1 => ∀ x dx, H1 x = none → H1 dx = none → dx ≠ x → sp (.ref x :: vs) (upd (upd H1 dx (.own x)) x (.ins C dx [])) (fun v H2 => v = .non ∧ Q (.ref x) H2) (E σ)
theorem pe_makeS (M : Mk X.K C f) (F : FnOk X.prog X.w X.K X.mg X.base CX k f fd ps sp) (hr : Room (k + 1) X.A) (hg : Gl X x) (hm : X.mg x = some (.ref C)) (hb : Binds X.K fd ps []) (hx : ∀ σ, PassesAt CX X σ (E σ))
    (ha : PA X (e :: es) t) (hdb : (x == ("__debug__" : Str)) = false := by decide) (he : starEach (e :: es) X.env = (false, eval e X.env) :: starEach es X.env := by rfl) (hpl : (backTo pos (starEach es X.env)).any (·.1) = false := by rfl) :
    PE X (.Call (.Name x p) (e :: es) [] pos) (tMakeS C sp E t) := by
  refine ⟨fun pins s σ H Q I h => ?_⟩
  refine wpAny_Call_Name_kw (ld_glob I hg hm ?_ hdb)
  refine PySem.W.callWith_K (h₀ := X.base) I.ok.mod.kin M.kp (thn (ha.run pos pins s σ H _ I h) fun us s1 hh => ?_) he hpl
  obtain ⟨vs, H1, I1, r, q⟩ := hh
  refine ⟨I1.kIn, ?_⟩
  have hq := q (s1.heap.objs.size + 1) s1.heap.objs.size (I1.hok.fresh (Nat.le_succ _)) (I1.hok.fresh (Nat.le_refl _)) (Nat.ne_of_lt (Nat.lt_succ_self _))
  have I2 := Inv.made (C := C) I1
  have r2 : Vals (V.ref (s1.heap.objs.size + 1) :: vs) (Value.ref (s1.heap.objs.size + 1) :: us) := .cons rfl r
  have hl : (Value.ref (s1.heap.objs.size + 1) :: us ++ []).length = ps.length := by
    have e0 := r2.length
    rw [F.len _ _ _ _ hq] at e0
    rw [List.append_nil]
    exact e0.symm
  have hbb := hb _ (Value.ref (s1.heap.objs.size + 1) :: us) I2.kIn hl
  rw [List.append_nil] at hbb
  show wpAny _ _ (call (.ref C) us) _ _ _
  refine wpAny_call (make_map (f := f) I1.kIn M.makes M.init (beq_iff_eq.mp M.fn) (codeAny_mono (F.run _ X.stack _ _ ⟨Value.ref (s1.heap.objs.size + 1) :: us, []⟩ _ _ _ (E σ) (hr.make C us []) (I2.env0.make C us []) hbb r2 hq) fun rr s' hq' => ?_))
  cases rr with
  | error ee => exact hx σ pins _ _ ee s' I2 hq'
  | ok fl =>
    cases fl with
    | ret u =>
      obtain ⟨v, H', I3, rv, ev, q3⟩ := I2.after hq'
      subst ev
      exact ⟨rv, ⟨V.ref (s1.heap.objs.size + 1), H', I3, rfl, q3⟩⟩
    | next => exact False.elim hq'
    | brk => exact False.elim hq'
    | cont => exact False.elim hq'
end
theorem at0 {X : Cx} : ∀ σ : L2.St, PassesAt CX0 X σ ((fun _ => E0) σ) := fun _ _ _ _ _ _ _ h => h.elim
section
variable {σ : L2.St} {H : Hp} {Q : VK} {sp : Sp} {gV : List V → List V → List V} {E : L2.St → XK} {tk t : TA} {ta : TE} {m : Nat} {C : Addr} {nm : Str}
theorem g_callW (q : tk σ H fun zs H2 => zs.length = m ∧ sp (gV [] zs) H2 Q (E σ)) : tCallW sp gV m E tk σ H Q := q
theorem g_methW (q : ta σ H fun x H1 => ∃ a dx fs, x = .ref a ∧ H1 a = some (.ins C dx fs) ∧ fs.lookup nm = none ∧ tk σ H1 fun zs H2 => zs.length = m ∧ sp (gV [x] zs) H2 Q (E σ)) : tMethW C nm sp gV m E ta tk σ H Q := q
theorem g_makeS (q : t σ H fun vs H1 => ∀ x dx, H1 x = none → H1 dx = none → dx ≠ x → sp (.ref x :: vs) (upd (upd H1 dx (.own x)) x (.ins C dx [])) (fun v H2 => v = .non ∧ Q (.ref x) H2) (E σ)) : tMakeS C sp E t σ H Q := q
theorem g_callS (q : t σ H fun vs H1 => sp vs H1 Q (E σ)) : tCallS sp E t σ H Q := q
end
end Fm

set_option maxHeartbeats 2000000
namespace Fm
open PySem PySem.Spec PyProof.Rows L2
/-! ### lists of numbers -/
def sumR (qs : List Rat) : Rat := qs.foldl (· + ·) 0
theorem sumR_take {qs : List Rat} {i : Nat} {q : Rat} (h : qs[i]? = some q) : sumR (qs.take (i + 1)) = sumR (qs.take i) + q := by
  have e : qs.take (i + 1) = qs.take i ++ [q] := by
    rw [List.take_add_one, h]; rfl
  unfold sumR
  rw [e, List.foldl_append]
  rfl
def Nums (C : Addr) (H : Hp) (xs : List V) (qs : List Rat) : Prop := xs.length = qs.length ∧ ∀ (i : Nat) (v : V) (q : Rat), xs[i]? = some v → qs[i]? = some q → NumV C H v q
theorem Nums.mono {C : Addr} {H H' : Hp} {xs : List V} {qs : List Rat} (e : Ex H H') (h : Nums C H xs qs) : Nums C H' xs qs := ⟨h.1, fun i v q a b => (h.2 i v q a b).mono e⟩
theorem Nums.nil {C : Addr} {H : Hp} : Nums C H [] [] := ⟨rfl, fun i v q a => by simp at a⟩
theorem Nums.cons {C : Addr} {H : Hp} {x : V} {q : Rat} {xs : List V} {qs : List Rat} (h : NumV C H x q) (t : Nums C H xs qs) : Nums C H (x :: xs) (q :: qs) := by
  refine ⟨by rw [List.length_cons, List.length_cons, t.1], fun i v r a b => ?_⟩
  cases i with
  | zero => simp at a b; subst a; subst b; exact h
  | succ i => exact t.2 i v r (by simpa using a) (by simpa using b)
def spTotal (K : PySem.W.Frag) (C : Addr) : Sp := fun vs H Q _ => ∃ (p : Addr) (xs : List V) (qs : List Rat) (k : Nat), vs = [.ref p] ∧ (SqL K H p xs ∨ SqT K H p xs) ∧ Nums C H xs qs ∧ (∀ i, i ≤ qs.length → Sz k (sumR (qs.take i))) ∧ (∀ q, q ∈ qs → Sz k q) ∧ k ≤ 3000 ∧
  ∀ v H', Ex H H' → RatV C H' v (sumR qs) → Q v H'
end Fm

set_option maxHeartbeats 2000000
namespace Fm
open PySem PySem.Spec PyProof.Rows L2
/-! ### what the laws reckon -/
theorem parts_of {z : Rat} {t b : Int} (hb : b ≠ 0) (e : z = Rat.divInt t b) : z.num * b = t * z.den := by
  refine (Rat.divInt_eq_divInt_iff (den_ne z) hb).mp ?_
  rw [Rat.num_divInt_den, e]
theorem divInt_lt {p q r s : Int} (hq : 0 < q) (hs : 0 < s) : Rat.divInt p q < Rat.divInt r s ↔ p * s < r * q := by
  rw [Rat.divInt_eq_div, Rat.divInt_eq_div]
  have hq' : (0 : Rat) < (q : Rat) := by
    have := Rat.lt_iff 0 (q : Rat)
    rw [this]; simp; exact hq
  have hs' : (0 : Rat) < (s : Rat) := by
    have := Rat.lt_iff 0 (s : Rat)
    rw [this]; simp; exact hs
  rw [Rat.div_lt_iff hq', Rat.div_def, Rat.mul_assoc, Rat.mul_comm (s : Rat)⁻¹, ← Rat.mul_assoc, ← Rat.div_def, Rat.lt_div_iff hs', ← Rat.intCast_mul, ← Rat.intCast_mul]
  rw [Rat.lt_iff, Rat.num_intCast, Rat.num_intCast, Rat.den_intCast, Rat.den_intCast]; simp
theorem divInt_eq {p q r s : Int} (hq : 0 < q) (hs : 0 < s) : Rat.divInt p q = Rat.divInt r s ↔ p * s = r * q := Rat.divInt_eq_divInt_iff (by omega) (by omega)
theorem divInt_le {p q r s : Int} (hq : 0 < q) (hs : 0 < s) : Rat.divInt p q ≤ Rat.divInt r s ↔ p * s ≤ r * q := by
  rw [← Rat.not_lt, divInt_lt hs hq]; omega
theorem add_div2 {p q r s : Int} (hq : q ≠ 0) (hs : s ≠ 0) : Rat.divInt p q + Rat.divInt r s = Rat.divInt (p * s + r * q) (q * s) := Rat.divInt_add_divInt _ _ hq hs
theorem sub_div2 {p q r s : Int} (hq : q ≠ 0) (hs : s ≠ 0) : Rat.divInt p q - Rat.divInt r s = Rat.divInt (p * s - r * q) (q * s) := Rat.divInt_sub_divInt _ _ hq hs
theorem mul_div2 {p q r s : Int} : Rat.divInt p q * Rat.divInt r s = Rat.divInt (p * r) (q * s) := Rat.divInt_mul_divInt _ _
theorem over_div2 {p q r s : Int} : Rat.divInt p q / Rat.divInt r s = Rat.divInt (p * s) (q * r) := by
  rw [Rat.div_def, Rat.inv_divInt, Rat.divInt_mul_divInt]
theorem divInt_zero' {r s : Int} (hs : s ≠ 0) : Rat.divInt r s = 0 ↔ r = 0 := by
  constructor
  · intro h
    have := parts_of hs h.symm
    simp at this
    exact this.symm ▸ rfl
  · intro h; rw [h, Rat.zero_divInt]
section
variable {H : Hp} {Q : VK}
theorem g_eqB {a b : Bool} (q : Q (.bl (decide (a = b))) H) : rEq (.bl a) (.bl b) H Q := ⟨rfl, by
  rw [show decide (V.bl a = V.bl b) = decide (a = b) by cases a <;> cases b <;> rfl]; exact q⟩
theorem g_neB {a b : Bool} (q : Q (.bl (!decide (a = b))) H) : rNe (.bl a) (.bl b) H Q := ⟨rfl, by
  rw [show decide (V.bl a = V.bl b) = decide (a = b) by cases a <;> cases b <;> rfl]; exact q⟩
end
def spLis (C : Addr) : Sp := fun vs H Q _ => ∃ (x : V) (q : Rat) (u p : Int), vs = [x, .int u, .int p] ∧ RatV C H x q ∧ q.num * p = u * q.den ∧ q.num.natAbs < 10 ^ 60 ∧ q.den < 10 ^ 60 ∧ u.natAbs < 2 ^ 250 ∧ p.natAbs < 2 ^ 250 ∧ ∀ H', Ex H H' → Q (.bl true) H'
theorem use_Lis {C : Addr} {H : Hp} {Q : VK} {E : XK} {x : V} {z : Rat} {u p : Int} (hx : RatV C H x z) (e : z = Rat.divInt u p) (hp : p ≠ 0) (h1 : u.natAbs < 2 ^ 150) (h2 : p.natAbs < 2 ^ 150) (q : ∀ H', Ex H H' → Q (.bl true) H') : spLis C [x, .int u, .int p] H Q E := by
  have hle := num_le (t := u) hp
  rw [← e] at hle
  have b1 : (2 : Nat) ^ 150 < 10 ^ 60 := by decide
  have b2 : (2 : Nat) ^ 150 < 2 ^ 250 := by decide
  exact ⟨x, z, u, p, rfl, hx, parts_of hp e, by omega, by omega, by omega, by omega, q⟩
def spPairR (K : PySem.W.Frag) (C : Addr) : Sp := fun vs H Q _ => ∃ (x y : V) (ta tb : Addr) (p q r s : Int), vs = [x, y, .ref ta, .ref tb] ∧ RatV C H x (Rat.divInt p q) ∧ NumV C H y (Rat.divInt r s) ∧ SqT K H ta [.int p, .int q] ∧ SqT K H tb [.int r, .int s] ∧
  0 < q ∧ 0 < s ∧ p.natAbs < 2 ^ 60 ∧ q.natAbs < 2 ^ 60 ∧ r.natAbs < 2 ^ 60 ∧ s.natAbs < 2 ^ 60 ∧ ∀ H', Ex H H' → Q (.bl true) H'
theorem g_guard {c : Bool} {tc : TE} {σ : L2.St} {H : Hp} {A B : Hp → Prop} {Z : Prop} (h : c = true → ∀ Q : VK, (∀ H', Ex H H' → Q (.bl true) H') → tc σ H Q) (hz : B H → Z) (next : ∀ H', Ex H H' → B H') :
    if c = true then tNot (tB tc) σ H (fun b H1 => if b = true then A H1 else B H1) else Z := by
  cases c with
  | true =>
    rw [if_pos rfl]
    exact h rfl _ fun H' e => ⟨true, rfl, by show (if (!true) = true then A H' else B H'); rw [if_neg (by decide)]; exact next H' e⟩
  | false =>
    rw [if_neg Bool.false_ne_true]
    exact hz (next H (Ex.refl H))
end Fm

set_option maxHeartbeats 2000000
namespace Fm
open PySem PySem.Spec PyProof.Rows L2 SX
/-! ### texts: walks, lists of texts -/
section
variable {K : PySem.W.Frag} {σ : L2.St} {H : Hp} {Q : VK} {D : Ends} {g : TG} {tb : TS} {tt : TT} {te t1 t2 : TE} {ta : TA} {vs : List Nat} {wi : TI} {R : It → Hp → Prop} {v x y : V}
theorem g_istr (q : te σ H fun v H1 => ∃ x, v = .str x ∧ R (Its x) H1) : iStr te σ H R := q
theorem cp_S {l : List Nat} (Pv : Addr → Nat → Hp → Prop) (h0 : ∀ D, H D = none → Pv D 0 (upd H D (.lst [])))
    (hs : ∀ D, H D = none → ∀ i c H', l[i]? = some c → Pv D i H' → Turn g tt te vs σ D (Pv D (i + 1)) (.str (S [c])) H') (hd : ∀ D, H D = none → ∀ H', Pv D l.length H' → Q (.ref D) H') : Cp (Its (S l)) g tt te vs σ H Q := by
  intro D hD
  refine ⟨fun i m H => m = l.length - i ∧ i ≤ l.length ∧ Pv D i H, ⟨l.length, by simp, Nat.zero_le _, h0 D hD⟩, ?_⟩
  rintro i m H' ⟨rfl, hi, p⟩
  by_cases hlt : i < l.length
  · refine .inr ⟨by show i < (S l).cps.size; simpa using hlt, Pv D (i + 1), fun H' p' => ⟨l.length - (i + 1), by omega, rfl, hlt, p'⟩, fun x H2 y => ?_⟩
    obtain ⟨e, c, hc, e2⟩ := y
    subst e
    subst e2
    exact hs D hD i c _ (by simpa using hc) p
  · have e : i = l.length := by omega
    subst e
    exact .inl ⟨by show (S l).cps.size ≤ l.length; simp, hd D hD _ p⟩
theorem g_iteQ {p : Prop} [Decidable p] (h1 : p → ∀ Q : VK, Q v H → t1 σ H Q) (h2 : ¬ p → ∀ Q : VK, Q v H → t2 σ H Q) (q : Q v H) : if decide p = true then t1 σ H Q else t2 σ H Q := g_dec (fun h => h1 h Q q) (fun h => h2 h Q q)
theorem g_ixS {l : List Nat} {i : Int} {c : Nat} (hl : l.length ≤ 100000) (h : atI l i = some c) (q : Q (.str (S [c])) H) : rIxS (.str (S l)) (.int i) H Q :=
  ⟨S l, i, c, rfl, rfl, by rw [S_len]; exact Nat.le_trans hl (by decide), h, q⟩
theorem g_notInS {c : Nat} {l : List Nat} (q : Q (.bl (!decide (c ∈ l))) H) : rNotInS (.str (S [c])) (.str (S l)) H Q := ⟨c, S l, rfl, rfl, q⟩
end
theorem canLay_strs : ∀ l : List Str, (∀ x ∈ l, PyData.strOk x = true) → PyData.canLayAll0 (l.map PyData.str) = true
  | [], _ => by simp [PyData.canLayAll0]
  | n :: r, h => by simp [PyData.canLayAll0, PyData.canLay0, h n (List.mem_cons_self ..), canLay_strs r fun x hx => h x (List.mem_cons_of_mem _ hx)]
theorem strOk_S {l : List Nat} (h : ∀ c ∈ l, c < 256) : PyData.strOk (S l) = true := by
  show (S l).cps.all (· < 0x110000) = true
  rw [Array.all_eq_true_iff_forall_mem]
  intro c hc
  have := h c (by simpa using hc)
  exact decide_eq_true (by omega)
theorem depth_strs : ∀ l : List Str, PyData.depthAll (l.map PyData.str) ≤ 1
  | [] => by simp [PyData.depthAll]
  | n :: r => by
    have := depth_strs r
    simp only [List.map_cons, PyData.depthAll, PyData.depth]
    omega
theorem shaped_strs (l : List Str) (h : ∀ x ∈ l, PyData.strOk x = true) : SeqAt.shaped (.list (l.map PyData.str)) = true := by
  have h1 := depth_strs l
  have h2 : PyData.depth (.list (l.map PyData.str)) ≤ 64 := by simp only [PyData.depth]; omega
  show (PyData.canLay0 (.list (l.map PyData.str)) && decide (PyData.depth (.list (l.map PyData.str)) ≤ 64)) = true
  rw [Bool.and_eq_true]
  exact ⟨by simp only [PyData.canLay0]; exact canLay_strs l h, decide_eq_true h2⟩
theorem eqv_strs : ∀ l r : List Str, PyData.eqvAll (l.map PyData.str) (r.map PyData.str) = decide (l = r)
  | [], [] => by simp [PyData.eqvAll]
  | [], _ :: _ => by simp [PyData.eqvAll]
  | _ :: _, [] => by simp [PyData.eqvAll]
  | a :: r, b :: q => by
    simp only [List.map_cons, PyData.eqvAll, PyData.eqv, eqv_strs r q]
    by_cases h : a = b <;> simp [h]
section
variable {K : PySem.W.Frag} {H : Hp} {Q : VK}
theorem dpAll_strs : ∀ l : List Str, DpAll K H (l.map V.str) (l.map PyData.str)
  | [] => .nil
  | _ :: r => .cons (.str _) (dpAll_strs r)
theorem dp_strs {p : Addr} {l : List Str} (h : SqL K H p (l.map V.str)) : Dp K H (.ref p) (.list (l.map PyData.str)) := .lst h (dpAll_strs l)
theorem g_neStrs {p r : Addr} {l m : List Str} (o1 : ∀ x ∈ l, PyData.strOk x = true) (o2 : ∀ x ∈ m, PyData.strOk x = true) (h1 : SqL K H p (l.map V.str)) (h2 : SqL K H r (m.map V.str)) (q : Q (.bl (!decide (l = m))) H) : rNeD K (.ref p) (.ref r) H Q :=
  ⟨_, _, dp_strs h1, dp_strs h2, shaped_strs l o1, shaped_strs m o2, by rw [show PyData.eqv (.list (l.map PyData.str)) (.list (m.map PyData.str)) = decide (l = m) by simp only [PyData.eqv]; exact eqv_strs l m]; exact q⟩
theorem g_eqStrs {p r : Addr} {l m : List Str} (o1 : ∀ x ∈ l, PyData.strOk x = true) (o2 : ∀ x ∈ m, PyData.strOk x = true) (h1 : SqL K H p (l.map V.str)) (h2 : SqL K H r (m.map V.str)) (q : Q (.bl (decide (l = m))) H) : rEqD K (.ref p) (.ref r) H Q :=
  ⟨_, _, dp_strs h1, dp_strs h2, shaped_strs l o1, shaped_strs m o2, by rw [show PyData.eqv (.list (l.map PyData.str)) (.list (m.map PyData.str)) = decide (l = m) by simp only [PyData.eqv]; exact eqv_strs l m]; exact q⟩
end
end Fm
namespace Fm
open PySem PySem.Spec PyProof.Rows L2 SX
theorem sign_iff (l : List Nat) : (S (l.take 1) = (Str.ofString "-" : Str)) ↔ l.head? = some 45 := by
  rw [show (Str.ofString "-" : Str) = S [45] from rfl]
  constructor
  · intro h
    have := S_inj h
    cases l with
    | nil => simp at this
    | cons c r => simpa using this
  · intro h
    cases l with
    | nil => simp at h
    | cons c r =>
      simp at h
      subst h
      rfl
theorem join_parts : ∀ ps : List (List Nat), ps.length ≤ (TL.joinL [47] ps).length + 1 ∧ ∀ p ∈ ps, p.length ≤ (TL.joinL [47] ps).length ∧ ∀ c ∈ p, c ∈ TL.joinL [47] ps
  | [] => ⟨Nat.zero_le _, fun _ h => nomatch h⟩
  | [p] => ⟨by simp, fun q h => by
      have e : q = p := by simpa using h
      subst e
      exact ⟨by simp [TL.joinL], fun c hc => by simpa [TL.joinL] using hc⟩⟩
  | p :: q :: r => by
    obtain ⟨h1, h2⟩ := join_parts (q :: r)
    have e : TL.joinL [47] (p :: q :: r) = p ++ ([47] ++ TL.joinL [47] (q :: r)) := rfl
    rw [e]
    refine ⟨by simp at h1 ⊢; omega, fun x hx => ?_⟩
    rcases List.mem_cons.mp hx with rfl | hx
    · exact ⟨by simp, fun c hc => by simp [hc]⟩
    · obtain ⟨h3, h4⟩ := h2 x hx
      exact ⟨by simp; omega, fun c hc => by simp [h4 c hc]⟩
theorem digs_mem (c : Nat) : (!decide (c ∈ [48, 49, 50, 51, 52, 53, 54, 55, 56, 57])) = !dg c := by
  congr 1
  unfold dg
  rw [Bool.eq_iff_iff]
  simp
  omega
theorem take_succ_get {α : Type} {l : List α} {i : Nat} {x : α} (h : l[i]? = some x) : l.take (i + 1) = l.take i ++ [x] := by
  rw [List.take_add_one, h]; rfl
theorem bad_eq (p : List Nat) : badPart p = (decide (p = []) || (!decide ((p.filter fun c => !dg c).map (fun c => S [c]) = []) || (!decide (p = [48]) && decide (p.head? = some 48)))) := by
  unfold badPart dig
  cases p with
  | nil => rfl
  | cons c r =>
    rw [Bool.eq_iff_iff]
    simp
end Fm
namespace Fm
open PySem PySem.Spec PyProof.Rows L2 SX
theorem rdL_bad {l q : List Nat} (h : q ∈ TL.spl [47] 0 [] (body l)) (hb : badPart q = true) : rdL l = none := by
  unfold rdL
  generalize TL.spl [47] 0 [] (body l) = parts at h ⊢
  match parts, h with
  | [u], h =>
    have e : q = u := by simpa using h
    subst e
    simp only [hb, if_true]
  | [u, d], h =>
    have e : q = u ∨ q = d := by simpa using h
    have : (badPart u || badPart d) = true := by
      rcases e with rfl | rfl
      · rw [hb]; rfl
      · rw [hb, Bool.or_true]
    simp only [this, if_true]
  | _ :: _ :: _ :: _, _ => rfl
theorem spl_ne (l : List Nat) : TL.spl [47] 0 [] l ≠ [] := by
  intro h
  have := join_spl l []
  rw [h] at this
  have e : l = [] := by simpa [TL.joinL] using this.symm
  subst e
  cases h
end Fm
namespace Fm
open PySem PySem.Spec PyProof.Rows L2 SX
theorem g_lenQ {K : PySem.W.Frag} {H : Hp} {Q : VK} {p : Addr} {xs : List V} (h : SqL K H p xs) (q : Q (.int (xs.length : Int)) H) : rLenQ K [.ref p] H Q := ⟨p, xs, rfl, .inl h, q⟩
theorem at_zero {α : Type} {c : α} {r : List α} : atI (c :: r) 0 = some c := by
  unfold atI ixN
  simp
theorem at_one {α : Type} {b c : α} {r : List α} : atI (b :: c :: r) 1 = some c := by
  unfold atI ixN
  simp
  rw [if_pos (by omega)]
  rfl
theorem head_48 {c : Nat} {r : List Nat} : decide (S [c] = Str.ofString "0") = decide ((c :: r).head? = some 48) := by
  refine decide_eq_decide.mpr ⟨fun h => ?_, fun h => ?_⟩
  · have := S_inj (b := [48]) h
    simpa using this
  · have e : c = 48 := by simpa using h
    rw [e]
    rfl
end Fm
namespace Fm
open PySem PySem.Spec PyProof.Rows L2 SX
section
variable {σ : L2.St} {H : Hp} {t u : TT} {W : Bool → Hp → Prop} {b c : Bool}
theorem g_orB (h1 : ∀ W : Bool → Hp → Prop, W b H → t σ H W) (h2 : b = false → ∀ W : Bool → Hp → Prop, W c H → u σ H W) (q : W (b || c) H) : tOr t u σ H W := by
  refine g_or (h1 _ ?_)
  cases b with
  | true => exact q
  | false => exact h2 rfl _ q
theorem g_andB (h1 : ∀ W : Bool → Hp → Prop, W b H → t σ H W) (h2 : b = true → ∀ W : Bool → Hp → Prop, W c H → u σ H W) (q : W (b && c) H) : tAnd t u σ H W := by
  refine g_and (h1 _ ?_)
  cases b with
  | true => exact h2 rfl _ q
  | false => exact q
end
def dnOf : List (List Nat) → Nat
  | [d] => dv d
  | _ => 1
def sgnOf (l : List Nat) (n : Nat) : Int := if l.head? = some 45 then 0 - (n : Int) else n
theorem rdL_form {l u : List Nat} {r : List (List Nat)} (h : TL.spl [47] 0 [] (body l) = u :: r) (hall : ∀ q ∈ u :: r, badPart q = false) {n : Nat} (hn : n = (u :: r).length) :
    rdL l = if (decide (2 < (n : Int)) || (decide (u = [48]) && (decide ((n : Int) = 2) || decide (l.head? = some 45)))) = true then none
      else if (decide ((n : Int) = 2) && decide (((dnOf r : Nat) : Int) < 2)) = true then none
      else if (!decide (((Nat.gcd (dv u) (dnOf r) : Nat) : Int) = 1) && decide ((n : Int) = 2)) = true then none
      else some (Rat.divInt (sgnOf l (dv u)) ((dnOf r : Nat) : Int)) := by
  subst hn
  unfold rdL
  rw [h]
  match r, hall with
  | [], hall =>
    have b := hall u (by simp)
    simp only [b, dnOf, sgnOf]
    by_cases h1 : u = [48] <;> by_cases h2 : l.head? = some 45 <;> simp [h1, h2, int_divInt]
  | [d], hall =>
    have b := hall u (by simp)
    have b2 := hall d (by simp)
    have e : ((dv d : Nat) : Int) < 2 ↔ dv d < 2 := by omega
    have e3 : (((Nat.gcd (dv u) (dv d) : Nat) : Int) = 1) ↔ Nat.gcd (dv u) (dv d) = 1 := by omega
    simp only [b, b2, dnOf, sgnOf]
    by_cases h1 : u = [48] <;> by_cases h2 : l.head? = some 45 <;> by_cases h3 : dv d < 2 <;> by_cases h4 : Nat.gcd (dv u) (dv d) = 1 <;> simp [h1, h2, h3, h4, e, e3]
  | x :: y :: m, _ =>
    have e : (decide (2 < (((u :: x :: y :: m : List (List Nat)).length : Nat) : Int))) = true := decide_eq_true (by simp only [List.length_cons]; omega)
    simp only [e, Bool.true_or, if_true]
end Fm
namespace Fm
open PySem PySem.Spec PyProof.Rows L2 SX
/-! ### phrases: short texts of plain signs -/
def okS (s : Str) : Bool := decide (s.cps.toList.length < 60) && s.cps.toList.all (· < 256)
def okV : V → Bool
  | .str s => okS s
  | _ => false
theorem S_cps (s : Str) : S s.cps.toList = s := by
  show (⟨s.cps.toList.toArray⟩ : Str) = s
  rw [Array.toArray_toList]
theorem okV_S {x : V} (h : okV x = true) : ∃ l, x = .str (S l) ∧ l.length < 60 ∧ ∀ c ∈ l, c < 256 := by
  cases x with
  | str s =>
    have h' : okS s = true := h
    unfold okS at h'
    rw [Bool.and_eq_true] at h'
    exact ⟨s.cps.toList, by rw [S_cps], of_decide_eq_true h'.1, fun c hc => by have := List.all_eq_true.mp h'.2 c hc; simpa using this⟩
  | _ => cases h
theorem okV_of {l : List Nat} (h : l.length < 60) (h2 : ∀ c ∈ l, c < 256) : okV (.str (S l)) = true := by
  show okS (S l) = true
  unfold okS
  rw [Bool.and_eq_true]
  exact ⟨decide_eq_true h, List.all_eq_true.mpr fun c hc => decide_eq_true (h2 c hc)⟩
theorem numL_256 {n c : Nat} (h : c ∈ TL.numL n) : c < 256 := by
  have := List.all_eq_true.mp (numL_dg n) c h
  unfold dg at this
  rw [Bool.and_eq_true] at this
  have := of_decide_eq_true this.2
  omega
theorem txN_256 {n : Int} {c : Nat} (h : c ∈ txN n) : c < 256 := by
  unfold txN at h
  split at h
  · rcases List.mem_cons.mp h with rfl | h
    · omega
    · exact numL_256 h
  · exact numL_256 h
theorem txR_256 {q : Rat} {c : Nat} (h : c ∈ txR q) : c < 256 := by
  unfold txR at h
  rcases List.mem_append.mp h with h | h
  · exact txN_256 h
  · split at h
    · cases h
    · rcases List.mem_cons.mp h with rfl | h
      · omega
      · exact numL_256 h
theorem txR_len {q : Rat} {k : Nat} (hk : 0 < k) (h1 : q.num.natAbs < 10 ^ k) (h2 : q.den < 10 ^ k) : (txR q).length ≤ 2 * k + 2 := by
  have l1 := TL.numL_len hk h1
  have l2 := TL.numL_len hk h2
  have l3 : (txN q.num).length ≤ k + 1 := by rw [← txN_abs]; split <;> simp <;> omega
  unfold txR
  split
  · simp; omega
  · simp; omega
theorem numL_lt (n : Nat) : n < 10 ^ (TL.numL n).length := by
  have := dv_lt (dig_numL n)
  rw [dv_numL] at this
  exact this
theorem txR_big {q : Rat} {l : List Nat} (h : txR q = l) (hl : l.length < 60) : q.num.natAbs < 10 ^ 60 ∧ q.den < 10 ^ 60 := by
  have e1 : (TL.numL q.num.natAbs).length ≤ 60 := by
    have e : (txN q.num).length ≤ l.length := by rw [← h]; unfold txR; simp
    have e2 : (TL.numL q.num.natAbs).length ≤ (txN q.num).length := by unfold txN; split <;> simp
    omega
  refine ⟨Nat.lt_of_lt_of_le (numL_lt _) (Nat.pow_le_pow_right (by decide) e1), ?_⟩
  by_cases hd : q.den = 1
  · rw [hd]; decide
  · have e2 : (TL.numL q.den).length ≤ 60 := by
      have e : (TL.numL q.den).length ≤ l.length := by rw [← h]; unfold txR; rw [if_neg hd]; simp; omega
      omega
    exact Nat.lt_of_lt_of_le (numL_lt _) (Nat.pow_le_pow_right (by decide) e2)
end Fm
namespace Fm
open PySem PySem.Spec PyProof.Rows L2 SX
section
variable {H : Hp} {Q : VK} {m n : Addr} {xs ys : List V} {k j : Nat}
theorem g_lstOk (k : Nat) (h : xs.all okV = true) (hl : xs.length ≤ k) (hk : k ≤ 1000) (q : ∀ p ys H', ys.all okV = true → ys.length ≤ k → H p = none → Ex H H' → H' p = some (.lst ys) → Q (.ref p) H') :
    xs.length ≤ sizeLine ∧ ∀ p, H p = none → Q (.ref p) (upd H p (.lst xs)) :=
  ⟨Nat.le_trans (Nat.le_trans hl hk) (by decide), fun p hp => q p xs _ h hl hp (Ex.new hp) upd_same⟩
theorem g_catOk (hm : H m = some (.lst xs)) (hn : H n = some (.lst ys)) (h1 : xs.all okV = true) (h2 : ys.all okV = true) (l1 : xs.length ≤ k) (l2 : ys.length ≤ j) (hk : k + j ≤ 1000)
    (q : ∀ p zs H', zs.all okV = true → zs.length ≤ k + j → H p = none → Ex H H' → H' p = some (.lst zs) → Q (.ref p) H') : rCat (.ref m) (.ref n) H Q :=
  ⟨m, n, xs, ys, rfl, rfl, hm, hn, Nat.le_trans (show _ ≤ 1000 by omega) (by decide), fun p hp => q p _ _ (by rw [List.all_append, h1, h2]; rfl) (by rw [List.length_append]; omega) hp (Ex.new hp) upd_same⟩
end
end Fm
namespace Fm
open PySem PySem.Spec PyProof.Rows L2 SX
theorem lstFacts {H G : Hp} {p : Addr} {xs : List V} {k : Nat} (hG : upd H p (.lst xs) = G) (hp : H p = none) (h : xs.all okV = true) (hl : xs.length ≤ k) : ∃ ys, ys.all okV = true ∧ ys.length ≤ k ∧ Ex H G ∧ G p = some (.lst ys) := by
  subst hG
  exact ⟨xs, h, hl, Ex.new hp, upd_same⟩
theorem catFacts {H : Hp} {m n : Addr} {xs ys : List V} {k j : Nat} {W : Addr → Hp → Prop} (hm : H m = some (.lst xs)) (hn : H n = some (.lst ys)) (l1 : xs.length ≤ k) (l2 : ys.length ≤ j) (hk : k + j ≤ 1000)
    (q : ∀ p, H p = none → W p (upd H p (.lst (xs ++ ys)))) : ∃ l b xs zs, V.ref m = .ref l ∧ V.ref n = .ref b ∧ H l = some (.lst xs) ∧ H b = some (.lst zs) ∧ xs.length + zs.length ≤ sizeLine ∧ ∀ p, H p = none → W p (upd H p (.lst (xs ++ zs))) :=
  ⟨m, n, xs, ys, rfl, rfl, hm, hn, Nat.le_trans (show _ ≤ 1000 by omega) (by decide), q⟩
end Fm
namespace Fm
open PySem PySem.Spec PyProof.Rows L2 SX
theorem Ex.mo_new {H H1 H2 : Hp} {t : Addr} (e : Ex H H1) (h : H t = none) (m : Mo t H1 H2) : Ex H H2 := fun a o ha => m a o (e a o ha) (ne_of_none ha h)
theorem TapeAt.ne {H : Hp} {t x : Addr} {o : HO} (h : TapeAt H t) (hx : H x = some o) (hl : ∀ l, o ≠ .lst l) : x ≠ t := fun e => by
  obtain ⟨_, _, _, _, _, z⟩ := h
  rw [e, z] at hx
  exact hl _ (by cases hx; rfl)
theorem TapeAt.new {H : Hp} {t x : Addr} (h : TapeAt H t) (hx : H x = none) : x ≠ t := fun e => by
  obtain ⟨_, _, _, _, _, z⟩ := h
  rw [e, z] at hx
  cases hx
theorem RatV.mo {C : Addr} {H H' : Hp} {v : V} {q : Rat} {t : Addr} (h : TapeAt H t) (m : Mo t H H') (r : RatV C H v q) : RatV C H' v q := by
  obtain ⟨p, rfl, dx, hp⟩ := r
  exact ⟨p, rfl, dx, m _ _ hp (h.ne hp fun l => by intro z; cases z)⟩
end Fm
namespace Fm
open PySem PySem.Spec PyProof.Rows L2 SX
def rMaxI : List V → Hp → VK → Prop := fun xs H Q => ∃ i j, xs = [.int i, .int j] ∧ Q (.int (if j > i then j else i)) H
def rMinI : List V → Hp → VK → Prop := fun xs H Q => ∃ i j, xs = [.int i, .int j] ∧ Q (.int (if j < i then j else i)) H
theorem cr_max2 {X : Cx} (hc : X.calm = true) : CallR X (.builtin "max") rMaxI := call_max2 hc
theorem cr_min2 {X : Cx} (hc : X.calm = true) : CallR X (.builtin "min") rMinI := call_min2 hc
end Fm
namespace Fm
open PySem PySem.Spec PyProof.Rows L2 SX
/-- a pair that the law drew, at its place -/
structure PrOk (H : Hp) (t : Addr) (e : Addr × Int × Int) : Prop where
  ne : e.1 ≠ t
  at_ : H e.1 = some (.tup [.int e.2.1, .int e.2.2])
  l1 : -(10 ^ 11) ≤ e.2.1
  l2 : e.2.1 ≤ 10 ^ 11
  l3 : 1 ≤ e.2.2
  l4 : e.2.2 ≤ 10 ^ 11
theorem PrOk.mono {H H' : Hp} {t : Addr} {e : Addr × Int × Int} (x : Ex H H') (h : PrOk H t e) : PrOk H' t e := ⟨h.ne, x _ _ h.at_, h.l1, h.l2, h.l3, h.l4⟩
theorem PrOk.mo {H H' : Hp} {t : Addr} {e : Addr × Int × Int} (x : Mo t H H') (h : PrOk H t e) : PrOk H' t e := ⟨h.ne, x _ _ h.at_ h.ne, h.l1, h.l2, h.l3, h.l4⟩
def rtOf (e : Addr × Int × Int) : Rat := Rat.divInt e.2.1 e.2.2
/-- what stands in a lap of the law -/
structure Bn (C : Addr) (H0 H : Hp) (t D F : Addr) (e0 e1 e2 : Addr × Int × Int) (r0 r1 r2 : V) : Prop where
  ex : Ex H0 H
  nw : H0 t = none
  tp : TapeAt H t
  hD : H D = some (.lst [.ref e0.1, .ref e1.1, .ref e2.1])
  hF : H F = some (.lst [r0, r1, r2])
  dt : D ≠ t
  ft : F ≠ t
  p0 : PrOk H t e0
  p1 : PrOk H t e1
  p2 : PrOk H t e2
  q0 : RatV C H r0 (rtOf e0)
  q1 : RatV C H r1 (rtOf e1)
  q2 : RatV C H r2 (rtOf e2)
section
variable {C : Addr} {H0 H H' : Hp} {t D F : Addr} {e0 e1 e2 : Addr × Int × Int} {r0 r1 r2 : V}
theorem Bn.mono (b : Bn C H0 H t D F e0 e1 e2 r0 r1 r2) (e : Ex H H') : Bn C H0 H' t D F e0 e1 e2 r0 r1 r2 :=
  ⟨b.ex.trans e, b.nw, b.tp.mono e, e _ _ b.hD, e _ _ b.hF, b.dt, b.ft, b.p0.mono e, b.p1.mono e, b.p2.mono e, b.q0.mono e, b.q1.mono e, b.q2.mono e⟩
theorem Bn.mo (b : Bn C H0 H t D F e0 e1 e2 r0 r1 r2) (m : Mo t H H') (h : TapeAt H' t) : Bn C H0 H' t D F e0 e1 e2 r0 r1 r2 :=
  ⟨b.ex.mo_new b.nw m, b.nw, h, m _ _ b.hD b.dt, m _ _ b.hF b.ft, b.dt, b.ft, b.p0.mo m, b.p1.mo m, b.p2.mo m, b.q0.mo b.tp m, b.q1.mo b.tp m, b.q2.mo b.tp m⟩
end
end Fm
namespace Fm
open PySem PySem.Spec PyProof.Rows L2 SX
theorem g_makeK {C : Addr} {n m : Nat} {sp : Sp} {gV : List V → List V → List V} {E : XK} {t tk : TA} {σ : L2.St} {H : Hp} {Q : VK} (q : t σ H fun vs H1 => tk σ H1 fun zs H2 => vs.length = n ∧ zs.length = m ∧ ∀ x dx, H2 x = none → H2 dx = none → dx ≠ x →
  sp (gV (.ref x :: vs) zs) (upd (upd H2 dx (.own x)) x (.ins C dx [])) (fun v H3 => v = .non ∧ Q (.ref x) H3) E) : tMakeK C n m sp gV E t tk σ H Q := q
theorem flip_divInt {u p : Int} (hp : p ≠ 0) : Rat.divInt u (0 - p) = Rat.divInt (0 - u) p := by
  rw [Rat.divInt_eq_divInt_iff (by omega) hp, Int.zero_sub, Int.zero_sub, Int.neg_mul_neg]
theorem use_pairR {K : PySem.W.Frag} {C : Addr} {H : Hp} {Q : VK} {E : XK} {x y : V} {ta tb : Addr} {p q r s : Int} (hx : RatV C H x (Rat.divInt p q)) (hy : NumV C H y (Rat.divInt r s)) (ha : SqT K H ta [.int p, .int q]) (hb : SqT K H tb [.int r, .int s])
    (hq : 0 < q) (hs : 0 < s) (b1 : p.natAbs < 2 ^ 60) (b2 : q.natAbs < 2 ^ 60) (b3 : r.natAbs < 2 ^ 60) (b4 : s.natAbs < 2 ^ 60) (z : ∀ H', Ex H H' → Q (.bl true) H') : spPairR K C [x, y, .ref ta, .ref tb] H Q E :=
  ⟨x, y, ta, tb, p, q, r, s, rfl, hx, hy, ha, hb, hq, hs, b1, b2, b3, b4, z⟩
theorem sumR1 {x : Rat} : sumR [x] = x := by
  show 0 + x = x
  exact Rat.zero_add x
theorem sumR2 {x y : Rat} : sumR [x, y] = x + y := by
  show 0 + x + y = x + y
  rw [Rat.zero_add]
theorem sumR3 {x y z : Rat} : sumR [x, y, z] = x + y + z := by
  show 0 + x + y + z = x + y + z
  rw [Rat.zero_add]
theorem add_int {p q w : Int} (hq : q ≠ 0) : Rat.divInt p q + (w : Rat) = Rat.divInt (p + w * q) q := by
  rw [← int_divInt w, Rat.divInt_add_divInt _ _ hq (by decide), Int.mul_one, Int.mul_one]
end Fm

set_option maxHeartbeats 2000000
namespace Fm
open PySem PySem.Spec PyProof.Rows L2 SX
/-! ### the sums that the law looks at -/
theorem at_two {α : Type} {x y z : α} {r : List α} : atI (x :: y :: z :: r) 2 = some z := by
  unfold atI ixN
  simp
  rw [if_pos (by omega)]
  rfl
theorem sz_int {w : Int} {k : Nat} (h : w.natAbs < 2 ^ k) (hk : 1 ≤ k) : Sz k (w : Rat) := by
  rw [← int_divInt]
  exact Sz.divInt h (Nat.lt_of_lt_of_le (by decide : (1 : Int).natAbs < 2 ^ 1) (Nat.pow_le_pow_right (by decide) hk)) (by decide)
theorem sz_le {k j : Nat} {q : Rat} (h : Sz k q) (hk : k ≤ j) : Sz j q := ⟨Nat.lt_of_lt_of_le h.1 (Nat.pow_le_pow_right (by decide) hk), Nat.lt_of_lt_of_le h.2 (Nat.pow_le_pow_right (by decide) hk)⟩
section
variable {p q r s w : Int}
theorem tot3 (hq : 0 < q) (hs : 0 < s) (b1 : p.natAbs < 2 ^ 40) (b2 : q.natAbs < 2 ^ 40) (b3 : r.natAbs < 2 ^ 40) (b4 : s.natAbs < 2 ^ 40) (b5 : w.natAbs < 2 ^ 40) :
    (∀ i, i ≤ 3 → Sz 200 (sumR ([Rat.divInt p q, Rat.divInt r s, (w : Rat)].take i))) ∧ (∀ x ∈ [Rat.divInt p q, Rat.divInt r s, (w : Rat)], Sz 200 x) ∧
      sumR [Rat.divInt p q, Rat.divInt r s, (w : Rat)] = Rat.divInt (p * s + r * q + w * q * s) (q * s) ∧ (p * s + r * q + w * q * s).natAbs < 2 ^ 150 ∧ (q * s).natAbs < 2 ^ 150 ∧ q * s ≠ 0 := by
  have hqs : q * s ≠ 0 := Int.mul_ne_zero (by omega) (by omega)
  have w1 : (p * s).natAbs < 2 ^ 80 := abs_mul_lt b1 b4
  have w2 : (r * q).natAbs < 2 ^ 80 := abs_mul_lt b3 b2
  have w3 : (q * s).natAbs < 2 ^ 80 := abs_mul_lt b2 b4
  have w4 : (w * q).natAbs < 2 ^ 80 := abs_mul_lt b5 b2
  have w5 : (w * q * s).natAbs < 2 ^ 120 := abs_mul_lt (a := 80) (b := 40) w4 b4
  have e2 : Rat.divInt p q + Rat.divInt r s = Rat.divInt (p * s + r * q) (q * s) := add_div2 (by omega) (by omega)
  have e3 : Rat.divInt p q + Rat.divInt r s + (w : Rat) = Rat.divInt (p * s + r * q + w * q * s) (q * s) := by
    rw [e2, add_int hqs, Int.mul_assoc w q s]
  have s1 : Sz 200 (Rat.divInt p q) := Sz.divInt (by omega) (by omega) (by omega)
  have s2 : Sz 200 (Rat.divInt r s) := Sz.divInt (by omega) (by omega) (by omega)
  have s3 : Sz 200 (w : Rat) := sz_int (by omega) (by decide)
  have s12 : Sz 200 (Rat.divInt p q + Rat.divInt r s) := by rw [e2]; exact Sz.divInt (by omega) (by omega) hqs
  have s123 : Sz 200 (Rat.divInt p q + Rat.divInt r s + (w : Rat)) := by rw [e3]; exact Sz.divInt (by omega) (by omega) hqs
  refine ⟨fun i hi => ?_, fun x hx => ?_, by rw [sumR3, e3], by omega, by omega, hqs⟩
  · have : i = 0 ∨ i = 1 ∨ i = 2 ∨ i = 3 := by omega
    rcases this with rfl | rfl | rfl | rfl
    · exact sz_int (w := 0) (by decide) (by decide)
    · show Sz 200 (sumR [Rat.divInt p q]); rw [sumR1]; exact s1
    · show Sz 200 (sumR [Rat.divInt p q, Rat.divInt r s]); rw [sumR2]; exact s12
    · show Sz 200 (sumR [Rat.divInt p q, Rat.divInt r s, (w : Rat)]); rw [sumR3]; exact s123
  · have : x = Rat.divInt p q ∨ x = Rat.divInt r s ∨ x = (w : Rat) := by simpa using hx
    rcases this with rfl | rfl | rfl
    · exact s1
    · exact s2
    · exact s3
theorem tot1 {x : Rat} (h : Sz 200 x) : (∀ i, i ≤ 1 → Sz 200 (sumR ([x].take i))) ∧ (∀ y ∈ [x], Sz 200 y) ∧ sumR [x] = x := by
  refine ⟨fun i hi => ?_, fun y hy => ?_, sumR1⟩
  · have : i = 0 ∨ i = 1 := by omega
    rcases this with rfl | rfl
    · exact sz_int (w := 0) (by decide) (by decide)
    · show Sz 200 (sumR [x]); rw [sumR1]; exact h
  · have : y = x := by simpa using hy
    rw [this]; exact h
theorem tot0 : (∀ i, i ≤ 0 → Sz 200 (sumR (([] : List Rat).take i))) ∧ (∀ y ∈ ([] : List Rat), Sz 200 y) ∧ sumR [] = Rat.divInt 0 1 := by
  refine ⟨fun i hi => ?_, fun y hy => by simp at hy, ?_⟩
  · have : i = 0 := by omega
    subst this
    exact sz_int (w := 0) (by decide) (by decide)
  · rw [int_divInt]; rfl
theorem tot2 (hq : 0 < q) (b1 : p.natAbs < 2 ^ 40) (b2 : q.natAbs < 2 ^ 40) (b5 : w.natAbs < 2 ^ 40) :
    (∀ i, i ≤ 2 → Sz 200 (sumR ([(w : Rat), Rat.divInt p q].take i))) ∧ (∀ x ∈ [(w : Rat), Rat.divInt p q], Sz 200 x) ∧ sumR [(w : Rat), Rat.divInt p q] = Rat.divInt (p + w * q) q ∧ (p + w * q).natAbs < 2 ^ 150 := by
  have w4 : (w * q).natAbs < 2 ^ 80 := abs_mul_lt b5 b2
  have e2 : (w : Rat) + Rat.divInt p q = Rat.divInt (p + w * q) q := by rw [Rat.add_comm, add_int (by omega)]
  have s1 : Sz 200 (Rat.divInt p q) := Sz.divInt (by omega) (by omega) (by omega)
  have s3 : Sz 200 (w : Rat) := sz_int (by omega) (by decide)
  have s12 : Sz 200 ((w : Rat) + Rat.divInt p q) := by rw [e2]; exact Sz.divInt (by omega) (by omega) (by omega)
  refine ⟨fun i hi => ?_, fun x hx => ?_, by rw [sumR2, e2], by omega⟩
  · have : i = 0 ∨ i = 1 ∨ i = 2 := by omega
    rcases this with rfl | rfl | rfl
    · exact sz_int (w := 0) (by decide) (by decide)
    · show Sz 200 (sumR [(w : Rat)]); rw [sumR1]; exact s3
    · show Sz 200 (sumR [(w : Rat), Rat.divInt p q]); rw [sumR2]; exact s12
  · have : x = (w : Rat) ∨ x = Rat.divInt p q := by simpa using hx
    rcases this with rfl | rfl
    · exact s3
    · exact s1
end
theorem sum_sevenths : ∀ n : Nat, sumR ((List.range n).map fun (i : Nat) => Rat.divInt (i : Int) 7) = Rat.divInt (((List.range n).foldl (· + ·) 0 : Nat) : Int) 7
  | 0 => by
    show (0 : Rat) = Rat.divInt 0 7
    rw [Rat.zero_divInt]
  | n + 1 => by
    rw [List.range_succ, List.map_append, List.foldl_append]
    show sumR _ = _
    unfold sumR
    rw [List.foldl_append]
    have ih := sum_sevenths n
    unfold sumR at ih
    rw [ih]
    show Rat.divInt _ 7 + Rat.divInt _ 7 = _
    rw [Rat.divInt_add_divInt _ _ (by decide) (by decide), Rat.divInt_eq_divInt_iff (by decide) (by decide)]
    show _ = ((((List.range n).foldl (· + ·) 0 + n : Nat)) : Int) * (7 * 7)
    push_cast
    omega
end Fm
namespace L2
open PySem PySem.Spec PyProof.Rows
theorem pss_weak {X : Cx} {b : List Stmt} {t t' : TS} (h : PSs X b t) (i : ∀ D σ H, t' D σ H → t D σ H) : PSs X b t' := ⟨fun pins s σ H D I q => h.run pins s σ H D I (i D σ H q)⟩
end L2
namespace Fm
open PySem PySem.Spec PyProof.Rows L2 SX
/-- one of the values that are no numbers -/
def OddV (H : Hp) (v : V) : Prop := v = .non ∨ (∃ b, v = .bl b) ∨ v = .str (S [49]) ∨ ∃ p, v = .ref p ∧ (H p = some (.lst [.int 1]) ∨ H p = some (.tup [.int 1, .int 2]) ∨ H p = some (.dK []))
theorem OddV.mono {H H' : Hp} {v : V} (e : Ex H H') (h : OddV H v) : OddV H' v := by
  rcases h with h | h | h | ⟨p, h, h1 | h1 | h1⟩
  · exact .inl h
  · exact .inr (.inl h)
  · exact .inr (.inr (.inl h))
  · exact .inr (.inr (.inr ⟨p, h, .inl (e _ _ h1)⟩))
  · exact .inr (.inr (.inr ⟨p, h, .inr (.inl (e _ _ h1))⟩))
  · exact .inr (.inr (.inr ⟨p, h, .inr (.inr (e _ _ h1))⟩))
theorem odd_ty {K : PySem.W.Frag} {C : Addr} {H : Hp} {v : V} (h : OddV H v) : ∃ t, TyX K H v t ∧ KTy C t ∧ (t == .ref C || t == .type "int") = false := by
  rcases h with rfl | ⟨b, rfl⟩ | rfl | ⟨p, rfl, h1 | h1 | h1⟩
  · exact ⟨_, .base .non, .non, by simp⟩
  · exact ⟨_, .base (.bl b), .bool, by simp⟩
  · exact ⟨_, .base (.str _), .str, by simp⟩
  · exact ⟨_, .base (.lst h1), .list, by simp⟩
  · exact ⟨_, .base (.tup h1), .tuple, by simp⟩
  · exact ⟨_, .base (.dK h1), .dict, by simp⟩
theorem sev_small : ∀ i, i ≤ 40 → (List.range i).foldl (· + ·) 0 < 1000 := by decide
theorem sev_take {i : Nat} (hi : i ≤ 40) : Sz 200 (sumR ((((List.range 40).map fun (i : Nat) => Rat.divInt (i : Int) 7)).take i)) := by
  rw [← List.map_take, List.take_range, Nat.min_eq_left hi, sum_sevenths]
  have := sev_small i hi
  exact Sz.divInt (by omega) (by decide) (by decide)
theorem sev_sum : sumR ((List.range 40).map fun (i : Nat) => Rat.divInt (i : Int) 7) = Rat.divInt 780 7 := by
  rw [sum_sevenths]
  rfl
theorem sev_each : ∀ q ∈ ((List.range 40).map fun (i : Nat) => Rat.divInt (i : Int) 7), Sz 200 q := by
  intro q hq
  obtain ⟨i, hi, rfl⟩ := List.mem_map.mp hq
  have := List.mem_range.mp hi
  exact Sz.divInt (by omega) (by decide) (by decide)
end Fm
namespace Fm
open PySem PySem.Spec PyProof.Rows L2 SX
theorem g_dnew {σ : L2.St} {H : Hp} {Q : VK} (q : ∀ p, H p = none → Q (.ref p) (upd H p (.dK []))) : tDNewK σ H Q := q
end Fm

set_option maxHeartbeats 2000000
namespace Fm
open PySem PySem.Spec PyProof.Rows L2
/-! ### a try whose clauses have names or none -/
/-- a clause: what it catches, the slot of its name (if any), its suite's reading -/
structure Cl where
  cls : Value
  slot : Option Nat
  ts : Addr → Value → Option Addr → TS
/-- the ends of a suite whose name goes behind it -/
def Ends.drop (i : Nat) (D : Ends) : Ends := { nx := fun m G => D.nx (m.set i none) G, rt := D.rt, bk := fun m G => D.bk (m.set i none) G, ct := fun m G => D.ct (m.set i none) G }
/-- what a clause's suite wishes -/
def Cl.wish (c : Cl) (a : Addr) (cls : Value) (d : Option Addr) (D : Ends) (m : L2.St) (G : Hp) : Prop := match c.slot with
  | none => c.ts a cls d D m G
  | some i => c.ts a cls d (Ends.drop i D) (m.set i (some (.ref a))) G
def wCls (K : PySem.W.Frag) (W : WX) (D : Ends) : List Cl → WX
  | [] => W
  | c :: r => fun cls d m G => ∃ b, PySem.W.exmOne K cls c.cls = some b ∧ (b = true → ∀ a, G a = none → c.wish a cls d D m G) ∧ (b = false → wCls K W D r cls d m G)
/-- a clause's name: none, or the local in a slot -/
def NameOk (X : Cx) (nm : Option Str) (sl : Option Nat) : Prop := match nm, sl with
  | none, none => True
  | some n, some i => X.N[i]? = some n ∧ X.env.kindOf n = some .local
  | _, _ => False
inductive ClsOk (X : Cx) : List ExceptHandler → List Cl → Prop
  | nil : ClsOk X [] []
  | cons {x : Str} {nm : Option Str} {c : Cl} {b : Stmt} {su : List Stmt} {np p : Pos} {hs : List ExceptHandler} {l : List Cl} (nok : NameOk X nm c.slot) (hc : Names X x c.cls)
      (hsu : ∀ (a : Addr) (oe : Obj) (k : Value) (d : Option Addr) (pn : List (Addr × Obj)), Zc k d oe → (∃ vs, oe.data = .fields vs) → PSs (X.suite a ((a, oe) :: pn)) (b :: su) (c.ts a k d)) (r : ClsOk X hs l) :
      ClsOk X (.ExceptHandler (some (.Name x np)) nm (b :: su) p :: hs) (c :: l)
section
variable {X : Cx}
/-- the end of a try's body that raised nothing -/
theorem sp_ofTry {pins : List (Addr × Obj)} {xe : Value → Shared → Prop} {D : Ends} {f : Flow} {s : Shared} (ok : X.Ok) (h : SP (X.tr (X.pn ++ pins) xe) [] D f s) : SP X pins D f s := by
  cases f with
  | ret u => exact let ⟨v, m, G, J, r, q⟩ := h; ⟨v, m, G, J.ofTry ok, r, q⟩
  | _ => exact let ⟨m, G, J, q⟩ := h; ⟨m, G, J.ofTry ok, q⟩
theorem sp_unsuite {pins : List (Addr × Obj)} {D : Ends} {f : Flow} {s : Shared} {a : Addr} {oe : Obj} (ok : X.Ok) (h : SP (X.suite a ((a, oe) :: (X.pn ++ pins))) [] D f s) : SP X pins D f s := by
  cases f with
  | ret u => exact let ⟨v, m, G, J, r, q⟩ := h; ⟨v, m, G, J.unsuite ok, r, q⟩
  | _ => exact let ⟨m, G, J, q⟩ := h; ⟨m, G, J.unsuite ok, q⟩
/-- a try with clauses: what each wishes stands in wCls -/
theorem ps_try_cls {X : Cx} {body : List Stmt} {h1 : ExceptHandler} {hs : List ExceptHandler} {l : List Cl} {pos : Pos} {tb : WX → TS} {W : WX} (st : X.stack = X.env :: X.outer) (fr : X.env.frame = some X.env.locals) (nd : X.N.Nodup) (tk : Takes X W)
    (hb : ∀ (V : WX) (pn : List (Addr × Obj)) (xe : Value → Shared → Prop), Takes (X.tr pn xe) V → PassesOwn (model X.prog X.w) X.A X.env xe → PSs (X.tr pn xe) body (tb V)) (hk : ClsOk X (h1 :: hs) l) :
    PS X (.Try body (h1 :: hs) [] [] pos) (fun D m G => tb (wCls X.K W D l) D m G) := by
  constructor
  intro pins s₀ m₀ G₀ D I₀ hh
  have ok := I₀.ok
  have frames : X.A.frames = some (X.env :: X.outer) := ok.frames.trans (congrArg some st)
  apply wpAny_Try_except
  have R := (hb (wCls X.K W D l) (X.pn ++ pins) (fun e x1 => wpAny (model X.prog X.w) X.A (noteFrame e X.env) (fun _ x2 => wpAny (model X.prog X.w) X.A (setFlight e none) (fun _ x3 => wpAny (model X.prog X.w) X.A (handleBy e X.env (h1 :: hs)) (SP X pins D) X.xe x3) X.xe x2) X.xe x1) ?_ PassesOwn.looking).run [] s₀ m₀ G₀ D (I₀.toTry _) hh
  · refine wpAny_mono R (fun f x q => ?_) fun _ _ q => q
    have q2 := sp_ofTry ok q
    cases f with
    | next => exact let ⟨m, G, J, z⟩ := q2; wpAny_execs_nil ⟨m, G, J, z⟩
    | _ => exact q2
  intro u x ⟨e, B, y, pin2, m, G, k, d, eu, J2, nb, up, air, free, os, bare, wish⟩
  subst eu
  have J : Inv X pins m G y := J2.ofTry ok
  rw [show (X.tr (X.pn ++ pins) _).stack = X.env :: X.outer from st] at air
  show wpAny (model X.prog X.w) X.A (noteFrame (.ref e) X.env) _ _ _
  refine Sky.land Zc.steady frames fr air fun g1 fly1 up1 => ?_
  have L1 : Inv X pins m G { x with heap := g1 } := J.landed nb fly1.1 (up.trans up1) os bare
  obtain ⟨oe, vs, at1, z1, da⟩ := fly1.there
  have off : e ∉ frs (X.env :: X.outer) := fun hm => by
    obtain ⟨_, o2, at2, no⟩ := fly1.2.2.1.mem hm
    rw [at1] at at2
    cases at2
    exact no _ da
  have offL : e ≠ X.env.locals := fun z => off (List.mem_filterMap.mpr ⟨X.env, List.mem_cons_self, by rw [fr, z]⟩)
  have offF : e ∉ X.fs := fun hm => let ⟨v, hv, z⟩ := List.mem_filterMap.mp hm; off (List.mem_filterMap.mpr ⟨v, List.mem_cons_of_mem _ hv, z⟩)
  have S1 := L1.suite at1 da free offL offF
  suffices go : ∀ {hs' : List ExceptHandler} {l' : List Cl}, ClsOk X hs' l' → wCls X.K W D l' k d m G → wpAny (model X.prog X.w) X.A (handleBy (.ref e) X.env hs') (SP X pins D) X.xe { x with heap := g1 } from go hk wish
  intro hs' l' ck
  induction ck with
  | nil =>
    intro out
    apply wpAny_handleBy_nil
    have fly := fly1
    obtain ⟨_, _, _, o2, vs2, T, _, _, at2, _, da2, tb2, _⟩ := fly1
    unfold PySem.passOn
    apply wpAny_bind
    refine wpAny_field at2 da2 tb2 ?_
    rw [if_neg (by simp)]
    have last : wpAny (model X.prog X.w) X.A (setFlight (.ref e) X.env.frame) (fun _ x4 => wpAny (model X.prog X.w) X.A (throw (.ref e) : Sem Flow) (SP X pins D) X.xe x4) X.xe { x with heap := g1 } := by
      rw [fr]
      exact HandSPX.setFlight_upZ fly fun g2 land2 up2 => wpAny_throw (tk _ _ ⟨e, B, y, pins, m, G, k, d, rfl, J, nb, (up.trans up1).trans up2, .inr (.inr (by rw [st]; exact land2)), free, os, bare, out⟩)
    first
      | exact wpAny_bind (wpAny_pure (wpAny_bind last))
      | exact wpAny_bind last
  | @cons nmX nm c b su np p hs2 l2 nok hc hsu _ ih =>
    intro ⟨ans, hans, yes, no⟩
    refine wpAny_handleBy_cons (codeAny_handlers_test ?_) (by intro q; cases q)
    have ty : PySem.W.Looks (model X.prog X.w) g1 (typeOf (.ref e)) k := fun _ _ _ _ kp q => wpAny_typeOf_ref (kp _ _ at1) (by rw [z1.1]; exact q)
    have look : ∀ {Q : Value → Shared → Prop} {F : Value → Shared → Prop}, Q c.cls { x with heap := g1 } → wpAny (model X.prog X.w) (X.A.mark (some (.ref e))) (eval (.Name nmX np) X.env) Q F { x with heap := g1 } := fun q => by
      rcases hc with ⟨g, dbg, own | ⟨free', blt, nn⟩⟩
      · exact ld_glob (X := X.suite e ((e, oe) :: (X.pn ++ pins))) S1 g own q dbg
      · exact ld_blt (X := X.suite e ((e, oe) :: (X.pn ++ pins))) S1 g free' blt q nn dbg
    refine look ((PySem.W.exm_one (M := model X.prog X.w) L1.kIn ty hans).here ?_)
    cases ans with
    | false => exact ih (no rfl)
    | true =>
      have w1 := yes rfl e free
      match nm, hsl : c.slot, nok with
      | none, none, _ =>
        refine codeAny_handlers_suite (HandSPX.lands_againZ fly1 fun g2 fly2 up2 => ?_)
        obtain ⟨oe2, vs2, at2, z2, da2⟩ := fly2.there
        have S2 := (J.landed nb fly2.1 ((up.trans up1).trans up2) os bare : Inv X pins m G { x with heap := g2 }).suite at2 da2 free offL offF
        unfold Cl.wish at w1
        rw [hsl] at w1
        exact wpAny_mono ((hsu e oe2 k d (X.pn ++ pins) z2 ⟨_, da2⟩).run [] _ _ G _ S2 w1) (fun f _ q => sp_unsuite ok q) fun _ _ q => q.elim
      | some n, some i, ⟨hi, hl⟩ =>
        refine codeAny_handlers_suite_as (HandSPX.lands_againZ fly1 fun g2 fly2 up2 => ?_)
        obtain ⟨oe2, vs2, at2, z2, da2⟩ := fly2.there
        have S2 := (J.landed nb fly2.1 ((up.trans up1).trans up2) os bare : Inv X pins m G { x with heap := g2 }).suite at2 da2 free offL offF
        unfold Cl.wish at w1
        rw [hsl] at w1
        refine store_ok (X := X.suite e ((e, oe2) :: (X.pn ++ pins))) (v := .ref e) S2 nd hi (.inl hl) rfl (fun x5 S5 => ?_) (.inr hl)
        refine wpAny_mono ((hsu e oe2 k d (X.pn ++ pins) z2 ⟨_, da2⟩).run [] x5 _ G _ S5 w1) (fun f x6 q => ?_) fun _ _ q => q.elim
        cases f with
        | ret u => exact let ⟨v, m6, G6, S6, r6, q6⟩ := q; gone_ok (S6.unsuite ok) nd hi hl fun x7 J7 => ⟨v, _, _, J7, r6, q6⟩
        | _ => exact let ⟨m6, G6, S6, q6⟩ := q; gone_ok (S6.unsuite ok) nd hi hl fun x7 J7 => ⟨_, _, J7, q6⟩
end
end Fm

set_option maxHeartbeats 2000000
namespace Fm
open PySem PySem.Spec PyProof.Rows L2 SX
/-! ### the guards of the reprs that run: unknown, but the same throughout a body -/
theorem wl_any {α : Type} {M : Model} {A : Around} {t : Sem α} {Q : α → Shared → Prop} {E : Value → Shared → Prop} {s : Shared} (h : ∀ g : List Code, wpAny M { A with guards := some g } t Q E s) : wpAny M A t Q E s :=
  fun Γ p hΓ => h (Γ.code.guards ++ guardsOf Γ.below) Γ p ⟨hΓ.1, hΓ.2.1, hΓ.2.2.1, fun _ e => Option.some.inj e, hΓ.2.2.2.2⟩
/-- a context whose guards are known -/
abbrev gdX (g : List Code) (X : Cx) : Cx := { X with A := { X.A with guards := some g } }
theorem gd_K {g : List Code} {X : Cx} : (gdX g X).K = X.K := rfl
theorem gd_room {g : List Code} {A : Around} {k : Nat} (r : Room k A) : Room k { A with guards := some g } := ⟨r.hd, r.dp, r.un⟩
theorem gd_inv {g : List Code} {X : Cx} {pins : List (Addr × Obj)} {σ : L2.St} {H : Hp} {s : Shared} (I : Inv X pins σ H s) : Inv (gdX g X) pins σ H s := by
  obtain ⟨⟨a1, a2, a3, a4, a5, a6, a7, a8, a9, a10, a11, a12, a13, a14, a15, a16, a17, a18⟩, b2, b3, b4, b5, b6, b7, b8, b9, b10, b11⟩ := I
  exact ⟨⟨a1, a2, a3, a4, a5, a6, a7, a8, a9, a10, a11, a12, a13, a14, a15, a16, a17, a18⟩, b2, b3, b4, b5, b6, b7, b8, b9, b10, b11⟩
theorem un_gd {g : List Code} {X : Cx} {pins : List (Addr × Obj)} {σ : L2.St} {H : Hp} {s : Shared} (I : Inv (gdX g X) pins σ H s) : Inv X pins σ H s := by
  obtain ⟨⟨a1, a2, a3, a4, a5, a6, a7, a8, a9, a10, a11, a12, a13, a14, a15, a16, a17, a18⟩, b2, b3, b4, b5, b6, b7, b8, b9, b10, b11⟩ := I
  exact ⟨⟨a1, a2, a3, a4, a5, a6, a7, a8, a9, a10, a11, a12, a13, a14, a15, a16, a17, a18⟩, b2, b3, b4, b5, b6, b7, b8, b9, b10, b11⟩
theorem pss_gd {X : Cx} {b : List Stmt} {t : List Code → TS} (h : ∀ g, PSs (gdX g X) b (t g)) : PSs X b (fun D σ H => ∀ g, t g D σ H) := ⟨fun pins s σ H D I q => wl_any fun g => wpAny_mono ((h g).run pins s σ H D (gd_inv I) (q g)) (fun f s' z => by
  cases f with
  | ret u => exact let ⟨v, m, G, J, r, q⟩ := z; ⟨v, m, G, un_gd J, r, q⟩
  | _ => exact let ⟨m, G, J, q⟩ := z; ⟨m, G, un_gd J, q⟩) fun _ _ z => z⟩
/-! ### repr of a list, a tuple, a dict whose repr runs already -/
def lsRun (a : Addr) : Code × Pos → Bool := fun
  | (.builtin "list.__repr__.loop" ⟨v :: _, _⟩, _) => Builtin.List.listSameRef v (.ref a)
  | _ => false
theorem lsRun_cons (a : Addr) (id : String) (v : Value) (rest : List Value) (kw : List (Str × Value)) (p : Pos) : lsRun a (.builtin id ⟨v :: rest, kw⟩, p) = (decide (id = "list.__repr__.loop") && Builtin.List.listSameRef v (.ref a)) := by
  by_cases h : id = "list.__repr__.loop"
  · subst h; simp [lsRun]
  · unfold lsRun; split <;> simp_all
theorem lsRun_nil (a : Addr) (id : String) (kw : List (Str × Value)) (p : Pos) : lsRun a (.builtin id ⟨[], kw⟩, p) = false := by
  unfold lsRun; split <;> simp_all
theorem lsRun_pos (a : Addr) (c : Code) (p : Pos) : lsRun a (c, p) = lsRun a (c, default) := by
  cases c with
  | builtin id args =>
    obtain ⟨ps, kw⟩ := args
    cases ps with
    | nil => rw [lsRun_nil, lsRun_nil]
    | cons v r => rw [lsRun_cons, lsRun_cons]
  | _ => rfl
theorem lsRun_off (a : Addr) (c : Code) (p : Pos) (hc : c.isGuard = false) : lsRun a (c, p) = false := by
  cases c with
  | builtin id args =>
    obtain ⟨ps, kw⟩ := args
    cases ps with
    | nil => exact lsRun_nil ..
    | cons v r =>
      rw [lsRun_cons]
      simp [Code.isGuard, guardIds] at hc
      simp [hc]
  | _ => rfl
section
variable {P : Program} {w : World} {A : Around} {E : Value → Shared → Prop} {s : Shared} {a : Addr} {o : Obj} {n : Nat} {g : List Code} {Q : Value → Shared → Prop}
theorem ls_seen {x : Value} {l : List Value} (ty : s.TypeIs (.ref a) "list") (hg : A.guards = some g) (hit : (g.any fun c => lsRun a (c, default)) = true) (ho : s.heap.get? a = some o) (hd : o.data = .seq (x :: l).toArray n) (q : ∀ u tk, Q (.str "[...]" u) { s with toks := tk }) :
    wpAny (model P w) A (call (.builtin "list.__repr__") [.ref a]) Q E s := by
  refine wpAny_call (codeAny_call_builtin_own (Code.quiet_builtin _ (by decide +kernel)) F.entry_list_repr (F.slot_list_repr.check _ _ _ _ _ _ _ _ ty (F.args_list_repr_1 _) ?_))
  intro Γ p hc hΓ
  have he : (Γ.below.any (lsRun a)) = true := by
    rw [any_eq_guards (lsRun_off a) (lsRun_pos a), hΓ.2.2.2.1 g hg]
    exact hit
  show Sem.wp _ Γ (Builtin.listReprAt 0 ⟨[.ref a], []⟩) _ _ p s
  unfold Builtin.listReprAt
  simp [slotArgs, Builtin.List.listItems, seqItems?, Sem.wp_load_of (h := ho), hd, stack]
  show Sem.wp _ Γ (if (Γ.below.any (lsRun a)) = true then _ else _) _ _ p s
  rw [if_pos he]
  exact q _ _
theorem ls_plain {x : Value} {l : List Value} {ts : List Str} (ty : s.TypeIs (.ref a) "list") (hg : A.guards = some g) (hit : (g.any fun c => lsRun a (c, default)) = false) (ho : s.heap.get? a = some o) (hd : o.data = .seq (x :: l).toArray n) (hl : ts.length = (x :: l).toArray.size)
    (hT : ∀ (i : Nat) (y : Value), (x :: l).toArray[i]? = some y → ∃ t, ts[i]? = some t ∧ ReprIs P w y t) (sz : (listText ts).length ≤ sizeLine)
    (q : ∀ h' u tk, (∀ b o, s.heap.get? b = some o → h'.get? b = some o) → Q (.str (listText ts) u) { s with heap := h', toks := tk }) : wpAny (model P w) A (call (.builtin "list.__repr__") [.ref a]) Q E s := by
  refine call_list_repr ty hg (fun v r kw hm => ?_) ho hd hl hT q sz
  have h1 := List.any_eq_false.mp hit _ hm
  rw [lsRun_cons] at h1
  simpa using h1
theorem tp_seen (ty : s.TypeIs (.ref a) "tuple") (hg : A.guards = some g) (hit : (g.any fun c => tupGuardF (.ref a) (c, default)) = true) (q : ∀ u tk, Q (.str "(...)" u) { s with toks := tk }) : wpAny (model P w) A (call (.builtin "tuple.__repr__") [.ref a]) Q E s := by
  refine wpAny_call (codeAny_call_builtin_own (Code.quiet_builtin _ (by decide +kernel)) F.entry_tuple_repr (F.slot_tuple_repr.check _ _ _ _ _ _ _ _ ty (F.args_tuple_repr_1 _) ?_))
  show wpOwn _ _ _ (Builtin.tupleReprAt 0 ⟨[.ref a], []⟩) _ _ s
  rw [tuple_repr_tree, tupleReprUnderWay_eq]
  refine wpOwn_bind (wpOwn_stackTailAny hg (tupGuardF_off _) (tupGuardF_pos _) ?_)
  rw [hit]
  exact wpOwn_of_wpAny (wpAny_bind (wpAny_rule (wpAny_bind (wpAny_mkStr (wpAny_pure (q _ _)) (by decide +kernel)))))
theorem tp_plain {its : Array Value} {ts : List Str} (ty : s.TypeIs (.ref a) "tuple") (hg : A.guards = some g) (hit : (g.any fun c => tupGuardF (.ref a) (c, default)) = false) (ho : s.heap.get? a = some o) (hd : o.data = .seq its n) (hT : ReprAll P w its.toList ts) (sz : (tupleText ts).length ≤ sizeLine)
    (q : ∀ u tk, Q (.str (tupleText ts) u) { s with toks := tk }) : wpAny (model P w) A (call (.builtin "tuple.__repr__") [.ref a]) Q E s :=
  call_tuple_repr ty hg (fun c hc => by simpa using List.any_eq_false.mp hit c hc) ho hd hT q sz
theorem dc_any {ep : Nat} (ty : s.TypeIs (.ref a) "dict") (hg : A.guards = some g) (ns : (a == sysModules) = false) (ho : s.heap.get? a = some o) (hd : o.data = .dict #[] ep) {b : Bool} (hb : (g.any fun c => dictGuardF (.ref a) (c, default)) = b)
    (q : ∀ u tk, Q (.str (if b = true then "{...}" else "{}") u) { s with toks := tk }) : wpAny (model P w) A (call (.builtin "dict.__repr__") [.ref a]) Q E s := by
  refine wpAny_call (codeAny_call_builtin_own (Code.quiet_builtin _ (by decide +kernel)) F.entry_dict_repr (F.slot_dict_repr.check _ _ _ _ _ _ _ _ ty (F.args_dict_repr_1 _) ?_))
  show wpOwn _ _ _ (Builtin.dictReprAt 0 ⟨[.ref a], []⟩) _ _ s
  unfold Builtin.dictReprAt
  refine wpOwn_bind (wpOwn_of_wpAny ?_)
  unfold Builtin.Dict.dictSlotNone
  refine wpAny_bind (wpAny_notOrdered_dict ty ?_)
  refine (wpAny_pure ?_ : wpAny _ _ (pure (Value.ref a)) _ _ s)
  rw [dictReprRunning_eq]
  refine wpOwn_bind (wpOwn_stackTailAny hg (dictGuardF_off _) (dictGuardF_pos _) ?_)
  rw [hb]
  cases b with
  | true => exact wpOwn_of_wpAny (wpAny_bind (wpAny_rule (wpAny_bind (wpAny_mkStr (wpAny_pure (q _ _)) (by decide +kernel)))))
  | false =>
    refine wpOwn_of_wpAny ?_
    refine (wpAny_bind (wpAny_pure ?_) : wpAny _ _ (Builtin.Dict.addrOf (.ref a) >>= _) _ _ s)
    show wpAny _ _ (Builtin.Dict.showsAll a >>= _) _ _ s
    unfold Builtin.Dict.showsAll
    rw [if_neg (by rw [ns]; exact Bool.false_ne_true)]
    refine wpAny_bind (wpAny_pure (wpAny_bind (wpAny_dictEpoch ho hd (wpAny_bind (wpAny_dictEntries ho hd (wpAny_bind ?_))))))
    rw [Std.Legacy.Range.forIn_eq_forIn_range']
    refine (wpAny_pure ?_ : wpAny _ _ (pure _) _ _ s)
    exact wpAny_bind (wpAny_mkStr (wpAny_pure (q _ _)) (by decide +kernel))
end
end Fm
namespace Fm
open PySem PySem.Spec PyProof.Rows L2 SX
/-- repr(v) is the text t, wherever the guards g are known -/
def RpOk (g : List Code) (v : V) (t : Str) (H0 : Hp) : Prop := PyData.strOk t = true ∧ ∀ (X : Cx), X.A.guards = some g → X.A.units + 64 < cLine → ∀ (pins : List (Addr × Obj)) (s : Shared) (σ : L2.St) (H : Hp) (us : List Value) (Q : VK),
  Inv X pins σ H s → Ex H0 H → Vals [v] us → Q (.str t) H → wpAny (model X.prog X.w) X.A (call (.builtin "repr") us) (EP X pins σ Q) X.xe s
theorem repr_odd {g : List Code} {H0 : Hp} {v : V} (h : OddV H0 v) : ∃ t, RpOk g v t H0 := by
  rcases h with rfl | ⟨b, rfl⟩ | rfl | ⟨p, rfl, h1 | h1 | h1⟩
  · refine ⟨"None", by decide +kernel, fun X hg hu pins s σ H us Q I ex r q => ?_⟩
    obtain ⟨u, rfl, hv⟩ := vals1 r
    cases hv
    exact PySem.P.repr_of_none ⟨.str "None", H, I.tok _, ⟨_, rfl⟩, q⟩
  · refine ⟨((if b then "True" else "False" : String) : Str), by cases b <;> decide +kernel, fun X hg hu pins s σ H us Q I ex r q => ?_⟩
    obtain ⟨u, rfl, hv⟩ := vals1 r
    cases hv
    refine PySem.P.repr_of_bool ⟨.str _, H, I.tok _, ⟨_, rfl⟩, ?_⟩
    cases b <;> exact q
  · refine ⟨reprText (S [49]), by decide +kernel, fun X hg hu pins s σ H us Q I ex r q => ?_⟩
    obtain ⟨u, rfl, t, rfl⟩ := vals1 r
    exact PySem.P.repr_of_str ⟨.str _, H, I.tok _, ⟨_, rfl⟩, q⟩ (by decide +kernel)
  · cases hit : (g.any fun c => lsRun p (c, default)) with
    | true =>
      refine ⟨"[...]", by decide +kernel, fun X hg hu pins s σ H us Q I ex r q => ?_⟩
      obtain ⟨u, rfl, hv⟩ := vals1 r
      cases hv
      obtain ⟨_, its, n, rv, ho⟩ := I.hok p _ (ex _ _ h1)
      obtain ⟨u, rfl, t, rfl⟩ := vals1 rv
      exact call_repr_slot (by omega) ⟨_, ho, rfl⟩ F.slot_list_repr.toG (ls_seen (A := X.A.in1) ⟨_, ho, rfl⟩ hg hit ho rfl fun u tk => ⟨_, _, rfl, ⟨.str _, H, I.tok _, ⟨_, rfl⟩, q⟩⟩)
    | false =>
      refine ⟨listText [toString (1 : Int)], by decide +kernel, fun X hg hu pins s σ H us Q I ex r q => ?_⟩
      obtain ⟨u, rfl, hv⟩ := vals1 r
      cases hv
      obtain ⟨_, its, n, rv, ho⟩ := I.hok p _ (ex _ _ h1)
      obtain ⟨u, rfl, t, rfl⟩ := vals1 rv
      refine call_repr_slot (by omega) ⟨_, ho, rfl⟩ F.slot_list_repr.toG (ls_plain (A := X.A.in1) (ts := [toString (1 : Int)]) ⟨_, ho, rfl⟩ hg hit ho rfl rfl (fun i y hy => ?_) (by decide +kernel) fun h' u tk hk => ⟨_, _, rfl, ⟨.str _, H, I.kept hk, ⟨_, rfl⟩, q⟩⟩)
      match i, hy with
      | 0, hy =>
        have e : y = .int 1 t := by simpa using hy.symm
        subst e
        exact ⟨_, rfl, ReprIs.int t (by decide +kernel)⟩
      | _ + 1, hy => simp at hy
  · cases hit : (g.any fun c => tupGuardF (.ref p) (c, default)) with
    | true =>
      refine ⟨"(...)", by decide +kernel, fun X hg hu pins s σ H us Q I ex r q => ?_⟩
      obtain ⟨u, rfl, hv⟩ := vals1 r
      cases hv
      obtain ⟨_, its, rv, o, ho, hc, n, hd⟩ := I.hok p _ (ex _ _ h1)
      exact call_repr_slot (by omega) ⟨_, ho, hc⟩ F.slot_tuple_repr (tp_seen (A := X.A.in1) ⟨_, ho, hc⟩ hg hit fun u tk => ⟨_, _, rfl, ⟨.str _, H, I.tok _, ⟨_, rfl⟩, q⟩⟩)
    | false =>
      refine ⟨tupleText [toString (1 : Int), toString (2 : Int)], by decide +kernel, fun X hg hu pins s σ H us Q I ex r q => ?_⟩
      obtain ⟨u, rfl, hv⟩ := vals1 r
      cases hv
      obtain ⟨_, its, rv, o, ho, hc, n, hd⟩ := I.hok p _ (ex _ _ h1)
      obtain ⟨u1, u2, rfl, ⟨t1, rfl⟩, ⟨t2, rfl⟩⟩ := vals2 rv
      exact call_repr_slot (by omega) ⟨_, ho, hc⟩ F.slot_tuple_repr (tp_plain (A := X.A.in1) (ts := [toString (1 : Int), toString (2 : Int)]) ⟨_, ho, hc⟩ hg hit ho hd (.cons (ReprIs.int t1 (by decide +kernel)) (.cons (ReprIs.int t2 (by decide +kernel)) .nil)) (by decide +kernel)
        fun u tk => ⟨_, _, rfl, ⟨.str _, H, I.tok _, ⟨_, rfl⟩, q⟩⟩)
  · refine ⟨((if (g.any fun c => dictGuardF (.ref p) (c, default)) = true then "{...}" else "{}" : String) : Str), by split <;> decide +kernel, fun X hg hu pins s σ H us Q I ex r q => ?_⟩
    obtain ⟨u, rfl, hv⟩ := vals1 r
    cases hv
    obtain ⟨_, ns, vs, rv, o, es, ep, ho, hc, hd, _, he, _⟩ := I.hok p _ (ex _ _ h1)
    cases rv
    have e0 : es = #[] := by
      apply Array.ext'
      revert he
      cases es.toList with
      | nil => intro _; rfl
      | cons x l => intro he; cases he
    subst e0
    have ty : s.TypeIs (.ref p) "dict" := ⟨o, ho, hc.1⟩
    refine call_repr_slot (by omega) ty F.slot_dict_repr (dc_any (A := X.A.in1) ty hg ns ho hd rfl fun u tk => ⟨_, _, rfl, ⟨.str _, H, I.tok _, ⟨u, ?_⟩, q⟩⟩)
    split <;> rfl
def rRepr (g : List Code) : List V → Hp → VK → Prop := fun xs H Q => ∃ (v : V) (t : Str) (H0 : Hp), xs = [v] ∧ RpOk g v t H0 ∧ Ex H0 H ∧ Q (.str t) H
theorem cr_repr {X : Cx} {g : List Code} (hg : X.A.guards = some g) (hu : X.A.units + 64 < cLine) : CallR X (.builtin "repr") (rRepr g) := fun pins s σ H xs us Q I r h => by
  obtain ⟨v, t, H0, rfl, ok, ex, q⟩ := h
  exact ok.2 X hg hu pins s σ H us Q I ex r q
theorem g_repr {g : List Code} {v : V} {t : Str} {H H0 : Hp} {Q : VK} (ok : RpOk g v t H0) (ex : Ex H0 H) (q : Q (.str t) H) : rRepr g [v] H Q := ⟨v, t, H0, rfl, ok, ex, q⟩
end Fm
namespace Fm
open PySem PySem.Spec PyProof.Rows L2 SX
/-! ### rules whose readings name the written part by a letter: within a try, where the context hangs on what is not known yet -/
section
variable {X : Cx} {K : PySem.W.Frag}
theorem pe_fldK {e : Expr} {f : Str} {ta : TE} {pos : Pos} (hK : X.K = K) (he : PE X e ta) (hb : attributeBase e f X.env (eval e X.env) = eval e X.env) : PE X (.Attribute e f pos) (tFld K ta f) := by
  subst hK
  exact pe_fld he hb
theorem ix_listK (hK : X.K = K) : IxR X (rIxL K) := by
  subst hK
  exact ix_list
theorem pe_appK {o e : Expr} {to te : TE} {apos cpos : Pos} (hK : X.K = K) (ho : PE X o to) (he : PE X e te) (h1 : attributeBase o "append" X.env (eval o X.env) = eval o X.env := by rfl)
    (h2 : ((backTo cpos (starEach [e] X.env)).all (fun x => !x.1) && (backToKw cpos (keywordEach [] X.env)).all (fun x => x.1.isSome) && decide ([e].length + ([] : List Keyword).length + (if ([] : List Keyword).isEmpty then 0 else 1) < 30)) = true := by rfl)
    (h3 : (apos.endLine == cpos.line) = true := by rfl) (h4 : starEach [e] X.env = (false, eval e X.env) :: starEach [] X.env := by rfl) (h5 : (backTo cpos (starEach [] X.env)).any (·.1) = false := by rfl) :
    PE X (.Call (.Attribute o "append" apos) [e] [] cpos) (tBM K "list" rAppend to (tCons te tNil)) := by
  subst hK
  exact pe_bm PySem.F.plainAttrs_list PySem.F.slot_list_append PySem.F.type_list_append mt_append ho (pa_cons he pa_nil h4) h1 h2 h3 h4 h5
end
end Fm

set_option maxHeartbeats 4000000
namespace Kx
open PySem PySem.Spec PyProof.Rows L2 Fm
def top (i : Nat) : Stmt := PySem.Challenge.pw_firstmeans_k02_ratios.main.body.getD i (.Pass ⟨0, 0, 0, 0⟩)
abbrev s_BadNumber_init : Stmt := inClass (top 5) 0
abbrev N_BadNumber_init : List Str := ["self", "given"]
abbrev P_BadNumber_init : List Str := ["self", "given"]
theorem sc_BadNumber_init : FnScope N_BadNumber_init P_BadNumber_init (defScope s_BadNumber_init) := ⟨rfl, rfl, rfl, by decide +kernel, rfl, by decide +kernel, by decide +kernel⟩
abbrev s_Ratio_init : Stmt := inClass (top 7) 0
abbrev N_Ratio_init : List Str := ["self", "top", "bottom", "shared"]
abbrev P_Ratio_init : List Str := ["self", "top", "bottom"]
theorem sc_Ratio_init : FnScope N_Ratio_init P_Ratio_init (defScope s_Ratio_init) := ⟨rfl, rfl, rfl, by decide +kernel, rfl, by decide +kernel, by decide +kernel⟩
abbrev s_Ratio_add : Stmt := inClass (top 7) 1
abbrev N_Ratio_add : List Str := ["self", "other", "number"]
abbrev P_Ratio_add : List Str := ["self", "other"]
theorem sc_Ratio_add : FnScope N_Ratio_add P_Ratio_add (defScope s_Ratio_add) := ⟨rfl, rfl, rfl, by decide +kernel, rfl, by decide +kernel, by decide +kernel⟩
abbrev s_Ratio_sub : Stmt := inClass (top 7) 2
abbrev N_Ratio_sub : List Str := ["self", "other", "number"]
abbrev P_Ratio_sub : List Str := ["self", "other"]
theorem sc_Ratio_sub : FnScope N_Ratio_sub P_Ratio_sub (defScope s_Ratio_sub) := ⟨rfl, rfl, rfl, by decide +kernel, rfl, by decide +kernel, by decide +kernel⟩
abbrev s_Ratio_mul : Stmt := inClass (top 7) 3
abbrev N_Ratio_mul : List Str := ["self", "other", "number"]
abbrev P_Ratio_mul : List Str := ["self", "other"]
theorem sc_Ratio_mul : FnScope N_Ratio_mul P_Ratio_mul (defScope s_Ratio_mul) := ⟨rfl, rfl, rfl, by decide +kernel, rfl, by decide +kernel, by decide +kernel⟩
abbrev s_Ratio_neg : Stmt := inClass (top 7) 4
abbrev N_Ratio_neg : List Str := ["self"]
abbrev P_Ratio_neg : List Str := ["self"]
theorem sc_Ratio_neg : FnScope N_Ratio_neg P_Ratio_neg (defScope s_Ratio_neg) := ⟨rfl, rfl, rfl, by decide +kernel, rfl, by decide +kernel, by decide +kernel⟩
abbrev s_Ratio_eq : Stmt := inClass (top 7) 5
abbrev N_Ratio_eq : List Str := ["self", "other", "number"]
abbrev P_Ratio_eq : List Str := ["self", "other"]
theorem sc_Ratio_eq : FnScope N_Ratio_eq P_Ratio_eq (defScope s_Ratio_eq) := ⟨rfl, rfl, rfl, by decide +kernel, rfl, by decide +kernel, by decide +kernel⟩
abbrev s_Ratio_lt : Stmt := inClass (top 7) 6
abbrev N_Ratio_lt : List Str := ["self", "other", "number"]
abbrev P_Ratio_lt : List Str := ["self", "other"]
theorem sc_Ratio_lt : FnScope N_Ratio_lt P_Ratio_lt (defScope s_Ratio_lt) := ⟨rfl, rfl, rfl, by decide +kernel, rfl, by decide +kernel, by decide +kernel⟩
abbrev s_Ratio_le : Stmt := inClass (top 7) 7
abbrev N_Ratio_le : List Str := ["self", "other", "number"]
abbrev P_Ratio_le : List Str := ["self", "other"]
theorem sc_Ratio_le : FnScope N_Ratio_le P_Ratio_le (defScope s_Ratio_le) := ⟨rfl, rfl, rfl, by decide +kernel, rfl, by decide +kernel, by decide +kernel⟩
abbrev s_Ratio_over : Stmt := inClass (top 7) 8
abbrev N_Ratio_over : List Str := ["self", "number", "divisor"]
abbrev P_Ratio_over : List Str := ["self", "number"]
theorem sc_Ratio_over : FnScope N_Ratio_over P_Ratio_over (defScope s_Ratio_over) := ⟨rfl, rfl, rfl, by decide +kernel, rfl, by decide +kernel, by decide +kernel⟩
abbrev s_Ratio_text : Stmt := inClass (top 7) 9
abbrev N_Ratio_text : List Str := ["self", "sign", "top"]
abbrev P_Ratio_text : List Str := ["self"]
theorem sc_Ratio_text : FnScope N_Ratio_text P_Ratio_text (defScope s_Ratio_text) := ⟨rfl, rfl, rfl, by decide +kernel, rfl, by decide +kernel, by decide +kernel⟩
abbrev s_is_whole : Stmt := top 8
abbrev N_is_whole : List Str := ["value"]
abbrev P_is_whole : List Str := ["value"]
theorem sc_is_whole : FnScope N_is_whole P_is_whole (defScope s_is_whole) := ⟨rfl, rfl, rfl, by decide +kernel, rfl, by decide +kernel, by decide +kernel⟩
abbrev s_is_number : Stmt := top 9
abbrev N_is_number : List Str := ["value"]
abbrev P_is_number : List Str := ["value"]
theorem sc_is_number : FnScope N_is_number P_is_number (defScope s_is_number) := ⟨rfl, rfl, rfl, by decide +kernel, rfl, by decide +kernel, by decide +kernel⟩
abbrev s_as_ratio : Stmt := top 10
abbrev N_as_ratio : List Str := ["given"]
abbrev P_as_ratio : List Str := ["given"]
theorem sc_as_ratio : FnScope N_as_ratio P_as_ratio (defScope s_as_ratio) := ⟨rfl, rfl, rfl, by decide +kernel, rfl, by decide +kernel, by decide +kernel⟩
abbrev s_total : Stmt := top 11
abbrev N_total : List Str := ["numbers", "reached", "number"]
abbrev P_total : List Str := ["numbers"]
theorem sc_total : FnScope N_total P_total (defScope s_total) := ⟨rfl, rfl, rfl, by decide +kernel, rfl, by decide +kernel, by decide +kernel⟩
abbrev s_read_ratio : Stmt := top 12
abbrev N_read_ratio : List Str := ["text", "head", "slash", "tail", "digits", "bottom", "ratio"]
abbrev P_read_ratio : List Str := ["text"]
theorem sc_read_ratio : FnScope N_read_ratio P_read_ratio (defScope s_read_ratio) := ⟨rfl, rfl, rfl, by decide +kernel, rfl, by decide +kernel, by decide +kernel⟩
abbrev s_has_digits_only : Stmt := top 13
abbrev N_has_digits_only : List Str := ["word"]
abbrev P_has_digits_only : List Str := ["word"]
theorem sc_has_digits_only : FnScope N_has_digits_only P_has_digits_only (defScope s_has_digits_only) := ⟨rfl, rfl, rfl, by decide +kernel, rfl, by decide +kernel, by decide +kernel⟩
abbrev s_numeral : Stmt := top 14
abbrev N_numeral : List Str := ["number", "parts", "part"]
abbrev P_numeral : List Str := ["number"]
theorem sc_numeral : FnScope N_numeral P_numeral (defScope s_numeral) := ⟨rfl, rfl, rfl, by decide +kernel, rfl, by decide +kernel, by decide +kernel⟩
abbrev s_from_numeral : Stmt := top 15
abbrev N_from_numeral : List Str := ["digits", "lead", "number", "start"]
abbrev P_from_numeral : List Str := ["digits"]
theorem sc_from_numeral : FnScope N_from_numeral P_from_numeral (defScope s_from_numeral) := ⟨rfl, rfl, rfl, by decide +kernel, rfl, by decide +kernel, by decide +kernel⟩
abbrev s_Ltape : Stmt := top 17
abbrev N_Ltape : List Str := ["_law_script", "_law_k", "_law_cell"]
abbrev P_Ltape : List Str := ["_law_script", "_law_k"]
theorem sc_Ltape : FnScope N_Ltape P_Ltape (defScope s_Ltape) := ⟨rfl, rfl, rfl, by decide +kernel, rfl, by decide +kernel, by decide +kernel⟩
abbrev s_Lpick : Stmt := top 18
abbrev N_Lpick : List Str := ["_law_tape_here", "_law_many", "_law_digit", "_law_blend"]
abbrev P_Lpick : List Str := ["_law_tape_here", "_law_many"]
theorem sc_Lpick : FnScope N_Lpick P_Lpick (defScope s_Lpick) := ⟨rfl, rfl, rfl, by decide +kernel, rfl, by decide +kernel, by decide +kernel⟩
abbrev s_Lpair : Stmt := top 19
abbrev N_Lpair : List Str := ["_law_tape_here", "_law_size"]
abbrev P_Lpair : List Str := ["_law_tape_here"]
theorem sc_Lpair : FnScope N_Lpair P_Lpair (defScope s_Lpair) := ⟨rfl, rfl, rfl, by decide +kernel, rfl, by decide +kernel, by decide +kernel⟩
abbrev s_Ldivisor : Stmt := top 20
abbrev N_Ldivisor : List Str := ["_law_one", "_law_other"]
abbrev P_Ldivisor : List Str := ["_law_one", "_law_other"]
theorem sc_Ldivisor : FnScope N_Ldivisor P_Ldivisor (defScope s_Ldivisor) := ⟨rfl, rfl, rfl, by decide +kernel, rfl, by decide +kernel, by decide +kernel⟩
abbrev s_Lis : Stmt := top 21
abbrev N_Lis : List Str := ["_law_ratio", "_law_upper", "_law_part", "_law_prose"]
abbrev P_Lis : List Str := ["_law_ratio", "_law_upper", "_law_part"]
theorem sc_Lis : FnScope N_Lis P_Lis (defScope s_Lis) := ⟨rfl, rfl, rfl, by decide +kernel, rfl, by decide +kernel, by decide +kernel⟩
abbrev s_Lpair_right : Stmt := top 22
abbrev N_Lpair_right : List Str := ["_law_one", "_law_other", "_law_a", "_law_b", "_law_p", "_law_q", "_law_r", "_law_s"]
abbrev P_Lpair_right : List Str := ["_law_one", "_law_other", "_law_a", "_law_b"]
theorem sc_Lpair_right : FnScope N_Lpair_right P_Lpair_right (defScope s_Lpair_right) := ⟨rfl, rfl, rfl, by decide +kernel, rfl, by decide +kernel, by decide +kernel⟩
abbrev s_Lrefused : Stmt := top 23
abbrev N_Lrefused : List Str := ["_law_one", "_law_odd", "_law_found", "_law_door", "e"]
abbrev P_Lrefused : List Str := ["_law_one", "_law_odd"]
theorem sc_Lrefused : FnScope N_Lrefused P_Lrefused (defScope s_Lrefused) := ⟨rfl, rfl, rfl, by decide +kernel, rfl, by decide +kernel, by decide +kernel⟩
abbrev s_Lnumber : Stmt := top 24
abbrev N_Lnumber : List Str := ["_law_phrase", "_law_bare", "_law_parts", "_law_part", "_law_sign", "_law_upper", "_law_one", "_law_other"]
abbrev P_Lnumber : List Str := ["_law_phrase"]
theorem sc_Lnumber : FnScope N_Lnumber P_Lnumber (defScope s_Lnumber) := ⟨rfl, rfl, rfl, by decide +kernel, rfl, by decide +kernel, by decide +kernel⟩
abbrev s_Ltold : Stmt := top 25
abbrev N_Ltold : List Str := ["_law_phrase"]
abbrev P_Ltold : List Str := ["_law_phrase"]
theorem sc_Ltold : FnScope N_Ltold P_Ltold (defScope s_Ltold) := ⟨rfl, rfl, rfl, by decide +kernel, rfl, by decide +kernel, by decide +kernel⟩
abbrev s_Ltexts_right : Stmt := top 26
abbrev N_Ltexts_right : List Str := ["_law_tape_here", "_law_ratio", "_law_plain", "_law_some", "_law_at", "_law_phrase"]
abbrev P_Ltexts_right : List Str := ["_law_tape_here", "_law_ratio"]
theorem sc_Ltexts_right : FnScope N_Ltexts_right P_Ltexts_right (defScope s_Ltexts_right) := ⟨rfl, rfl, rfl, by decide +kernel, rfl, by decide +kernel, by decide +kernel⟩
abbrev s_law : Stmt := top 27
abbrev N_law : List Str := ["_law_script", "_law_k", "_law_tape_here", "_law_pairs", "_law_lap", "_law_ratios", "_law_upper", "_law_part", "_law_great", "_law_near", "_law_far", "_law_whole", "_law_p", "_law_q", "_law_r", "_law_s", "_law_kept", "_law_sums1", "_law_odd"]
abbrev P_law : List Str := ["_law_script"]
theorem sc_law : FnScope N_law P_law (defScope s_law) := ⟨rfl, rfl, rfl, by decide +kernel, rfl, by decide +kernel, by decide +kernel⟩
/-- where all stands -/
structure Ad where
  C_MeansError : Addr
  C_ByZero : Addr
  C_BadText : Addr
  C_BadNumber : Addr
  C_Ratio : Addr
  f_BadNumber_init : Addr
  d_BadNumber_init : FuncData
  f_Ratio_init : Addr
  d_Ratio_init : FuncData
  f_Ratio_add : Addr
  d_Ratio_add : FuncData
  f_Ratio_sub : Addr
  d_Ratio_sub : FuncData
  f_Ratio_mul : Addr
  d_Ratio_mul : FuncData
  f_Ratio_neg : Addr
  d_Ratio_neg : FuncData
  f_Ratio_eq : Addr
  d_Ratio_eq : FuncData
  f_Ratio_lt : Addr
  d_Ratio_lt : FuncData
  f_Ratio_le : Addr
  d_Ratio_le : FuncData
  f_Ratio_over : Addr
  d_Ratio_over : FuncData
  f_Ratio_text : Addr
  d_Ratio_text : FuncData
  f_is_whole : Addr
  d_is_whole : FuncData
  f_is_number : Addr
  d_is_number : FuncData
  f_as_ratio : Addr
  d_as_ratio : FuncData
  f_total : Addr
  d_total : FuncData
  f_read_ratio : Addr
  d_read_ratio : FuncData
  f_has_digits_only : Addr
  d_has_digits_only : FuncData
  f_numeral : Addr
  d_numeral : FuncData
  f_from_numeral : Addr
  d_from_numeral : FuncData
  f_Ltape : Addr
  d_Ltape : FuncData
  f_Lpick : Addr
  d_Lpick : FuncData
  f_Lpair : Addr
  d_Lpair : FuncData
  f_Ldivisor : Addr
  d_Ldivisor : FuncData
  f_Lis : Addr
  d_Lis : FuncData
  f_Lpair_right : Addr
  d_Lpair_right : FuncData
  f_Lrefused : Addr
  d_Lrefused : FuncData
  f_Lnumber : Addr
  d_Lnumber : FuncData
  f_Ltold : Addr
  d_Ltold : FuncData
  f_Ltexts_right : Addr
  d_Ltexts_right : FuncData
  f_law : Addr
  d_law : FuncData
/-- what the top has left of the text -/
structure Tx (K : PySem.W.Frag) (mg : Str → Option Value) (a : Ad) : Prop where
  g_MeansError : mg "MeansError" = some (.ref a.C_MeansError)
  g_ByZero : mg "ByZero" = some (.ref a.C_ByZero)
  g_BadText : mg "BadText" = some (.ref a.C_BadText)
  g_BadNumber : mg "BadNumber" = some (.ref a.C_BadNumber)
  g_Ratio : mg "Ratio" = some (.ref a.C_Ratio)
  F_BadNumber_init : Def K "__init__" "BadNumber.__init__" s_BadNumber_init a.f_BadNumber_init a.d_BadNumber_init
  F_Ratio_init : FunD K "__init__" "Ratio.__init__" (defArgs s_Ratio_init) (defBody s_Ratio_init) (defScope s_Ratio_init) [.int 1] [] a.f_Ratio_init a.d_Ratio_init
  m_Ratio_init : Meth K a.C_Ratio "__init__" a.f_Ratio_init
  F_Ratio_add : Def K "__add__" "Ratio.__add__" s_Ratio_add a.f_Ratio_add a.d_Ratio_add
  m_Ratio_add : Meth K a.C_Ratio "__add__" a.f_Ratio_add
  F_Ratio_sub : Def K "__sub__" "Ratio.__sub__" s_Ratio_sub a.f_Ratio_sub a.d_Ratio_sub
  m_Ratio_sub : Meth K a.C_Ratio "__sub__" a.f_Ratio_sub
  F_Ratio_mul : Def K "__mul__" "Ratio.__mul__" s_Ratio_mul a.f_Ratio_mul a.d_Ratio_mul
  m_Ratio_mul : Meth K a.C_Ratio "__mul__" a.f_Ratio_mul
  F_Ratio_neg : Def K "__neg__" "Ratio.__neg__" s_Ratio_neg a.f_Ratio_neg a.d_Ratio_neg
  m_Ratio_neg : Meth K a.C_Ratio "__neg__" a.f_Ratio_neg
  F_Ratio_eq : Def K "__eq__" "Ratio.__eq__" s_Ratio_eq a.f_Ratio_eq a.d_Ratio_eq
  m_Ratio_eq : Meth K a.C_Ratio "__eq__" a.f_Ratio_eq
  F_Ratio_lt : Def K "__lt__" "Ratio.__lt__" s_Ratio_lt a.f_Ratio_lt a.d_Ratio_lt
  m_Ratio_lt : Meth K a.C_Ratio "__lt__" a.f_Ratio_lt
  F_Ratio_le : Def K "__le__" "Ratio.__le__" s_Ratio_le a.f_Ratio_le a.d_Ratio_le
  m_Ratio_le : Meth K a.C_Ratio "__le__" a.f_Ratio_le
  F_Ratio_over : Def K "over" "Ratio.over" s_Ratio_over a.f_Ratio_over a.d_Ratio_over
  m_Ratio_over : Meth K a.C_Ratio "over" a.f_Ratio_over
  F_Ratio_text : Def K "text" "Ratio.text" s_Ratio_text a.f_Ratio_text a.d_Ratio_text
  m_Ratio_text : Meth K a.C_Ratio "text" a.f_Ratio_text
  F_is_whole : Def K "is_whole" "is_whole" s_is_whole a.f_is_whole a.d_is_whole
  g_is_whole : mg "is_whole" = some (.ref a.f_is_whole)
  F_is_number : Def K "is_number" "is_number" s_is_number a.f_is_number a.d_is_number
  g_is_number : mg "is_number" = some (.ref a.f_is_number)
  F_as_ratio : Def K "as_ratio" "as_ratio" s_as_ratio a.f_as_ratio a.d_as_ratio
  g_as_ratio : mg "as_ratio" = some (.ref a.f_as_ratio)
  F_total : Def K "total" "total" s_total a.f_total a.d_total
  g_total : mg "total" = some (.ref a.f_total)
  F_read_ratio : Def K "read_ratio" "read_ratio" s_read_ratio a.f_read_ratio a.d_read_ratio
  g_read_ratio : mg "read_ratio" = some (.ref a.f_read_ratio)
  F_has_digits_only : Def K "has_digits_only" "has_digits_only" s_has_digits_only a.f_has_digits_only a.d_has_digits_only
  g_has_digits_only : mg "has_digits_only" = some (.ref a.f_has_digits_only)
  F_numeral : Def K "numeral" "numeral" s_numeral a.f_numeral a.d_numeral
  g_numeral : mg "numeral" = some (.ref a.f_numeral)
  F_from_numeral : Def K "from_numeral" "from_numeral" s_from_numeral a.f_from_numeral a.d_from_numeral
  g_from_numeral : mg "from_numeral" = some (.ref a.f_from_numeral)
  F_Ltape : Def K "_law_tape" "_law_tape" s_Ltape a.f_Ltape a.d_Ltape
  g_Ltape : mg "_law_tape" = some (.ref a.f_Ltape)
  F_Lpick : Def K "_law_pick" "_law_pick" s_Lpick a.f_Lpick a.d_Lpick
  g_Lpick : mg "_law_pick" = some (.ref a.f_Lpick)
  F_Lpair : Def K "_law_pair" "_law_pair" s_Lpair a.f_Lpair a.d_Lpair
  g_Lpair : mg "_law_pair" = some (.ref a.f_Lpair)
  F_Ldivisor : Def K "_law_divisor" "_law_divisor" s_Ldivisor a.f_Ldivisor a.d_Ldivisor
  g_Ldivisor : mg "_law_divisor" = some (.ref a.f_Ldivisor)
  F_Lis : Def K "_law_is" "_law_is" s_Lis a.f_Lis a.d_Lis
  g_Lis : mg "_law_is" = some (.ref a.f_Lis)
  F_Lpair_right : Def K "_law_pair_right" "_law_pair_right" s_Lpair_right a.f_Lpair_right a.d_Lpair_right
  g_Lpair_right : mg "_law_pair_right" = some (.ref a.f_Lpair_right)
  F_Lrefused : Def K "_law_refused" "_law_refused" s_Lrefused a.f_Lrefused a.d_Lrefused
  g_Lrefused : mg "_law_refused" = some (.ref a.f_Lrefused)
  F_Lnumber : Def K "_law_number" "_law_number" s_Lnumber a.f_Lnumber a.d_Lnumber
  g_Lnumber : mg "_law_number" = some (.ref a.f_Lnumber)
  F_Ltold : Def K "_law_told" "_law_told" s_Ltold a.f_Ltold a.d_Ltold
  g_Ltold : mg "_law_told" = some (.ref a.f_Ltold)
  F_Ltexts_right : Def K "_law_texts_right" "_law_texts_right" s_Ltexts_right a.f_Ltexts_right a.d_Ltexts_right
  g_Ltexts_right : mg "_law_texts_right" = some (.ref a.f_Ltexts_right)
  F_law : Def K "law" "law" s_law a.f_law a.d_law
  g_law : mg "law" = some (.ref a.f_law)
  x_ByZero : XC K a.C_ByZero
  x_BadText : XC K a.C_BadText
  oc_BadNumber : OexC K a.C_BadNumber
  ti_BadNumber : PySem.W.typeIn K (.ref a.f_BadNumber_init) = some (.type "function")
  fi_BadNumber : PySem.W.findIn K (.ref a.C_BadNumber) "__init__" = some (some (.ref a.f_BadNumber_init))
  xf_BadNumber : XfC K a.C_BadNumber
  xs_BadNumber : PySem.W.exmOne K (.ref a.C_BadNumber) (.ref a.C_BadNumber) = some true
  xa_BadNumber_given : PySem.W.findIn K (.ref a.C_BadNumber) "given" = some none
  xo_BadNumber_ByZero : PySem.W.exmOne K (.ref a.C_BadNumber) (.ref a.C_ByZero) = some false
  xo_BadNumber_BadText : PySem.W.exmOne K (.ref a.C_BadNumber) (.ref a.C_BadText) = some false
  b_abs : mg "abs" = none
  b_bool : mg "bool" = none
  b_divmod : mg "divmod" = none
  b_int : mg "int" = none
  b_isinstance : mg "isinstance" = none
  b_len : mg "len" = none
  b_max : mg "max" = none
  b_min : mg "min" = none
  b_range : mg "range" = none
  b_repr : mg "repr" = none
  b_str : mg "str" = none
  g_gcd : mg "gcd" = some (.builtin "math.gcd")
  R : RC K a.C_Ratio
  mk_Ratio : Mk K a.C_Ratio a.f_Ratio_init
  o_add : OpFn K a.C_Ratio a.f_Ratio_add .Add
  o_sub : OpFn K a.C_Ratio a.f_Ratio_sub .Sub
  o_mul : OpFn K a.C_Ratio a.f_Ratio_mul .Mult
  p_lt : CmpFn K a.C_Ratio a.f_Ratio_lt .Lt
  p_le : CmpFn K a.C_Ratio a.f_Ratio_le .LtE
  p_eq : CmpFn K a.C_Ratio a.f_Ratio_eq .Eq
  p_ne : NeFn K a.C_Ratio a.f_Ratio_eq
theorem bd_BadNumber_init {K : PySem.W.Frag} {mg : Str → Option Value} {a : Ad} (T : Tx K mg a) : Binds K a.d_BadNumber_init P_BadNumber_init [] := T.F_BadNumber_init.bindsN fun _ _ _ _ _ _ us hl => match us, hl with | [_, _], _ => rfl
theorem bd_Ratio_init {K : PySem.W.Frag} {mg : Str → Option Value} {a : Ad} (T : Tx K mg a) : Binds K a.d_Ratio_init P_Ratio_init [] := by
  obtain ⟨ds, hv, hb⟩ := T.F_Ratio_init.binds1 (ps := P_Ratio_init) 3 1 (by simp) rfl fun T kV doc pm an cdv ct us its h1 h2 => match us, its, h1, h2 with | [_, _, _], [_], _, _ => ⟨_, rfl, rfl⟩
  cases hv
  exact hb
theorem bd1_Ratio_init {K : PySem.W.Frag} {mg : Str → Option Value} {a : Ad} (T : Tx K mg a) : ∃ ds, Vals [.int 1] ds ∧ Binds K a.d_Ratio_init P_Ratio_init ds :=
  T.F_Ratio_init.binds1 (ps := P_Ratio_init) 2 0 (by simp) rfl fun T kV doc pm an cdv ct us its h1 h2 => match us, its, h1, h2 with | [_, _], [_], _, _ => ⟨_, rfl, rfl⟩
theorem bd_Ratio_add {K : PySem.W.Frag} {mg : Str → Option Value} {a : Ad} (T : Tx K mg a) : Binds K a.d_Ratio_add P_Ratio_add [] := T.F_Ratio_add.bindsN fun _ _ _ _ _ _ us hl => match us, hl with | [_, _], _ => rfl
theorem bd_Ratio_sub {K : PySem.W.Frag} {mg : Str → Option Value} {a : Ad} (T : Tx K mg a) : Binds K a.d_Ratio_sub P_Ratio_sub [] := T.F_Ratio_sub.bindsN fun _ _ _ _ _ _ us hl => match us, hl with | [_, _], _ => rfl
theorem bd_Ratio_mul {K : PySem.W.Frag} {mg : Str → Option Value} {a : Ad} (T : Tx K mg a) : Binds K a.d_Ratio_mul P_Ratio_mul [] := T.F_Ratio_mul.bindsN fun _ _ _ _ _ _ us hl => match us, hl with | [_, _], _ => rfl
theorem bd_Ratio_neg {K : PySem.W.Frag} {mg : Str → Option Value} {a : Ad} (T : Tx K mg a) : Binds K a.d_Ratio_neg P_Ratio_neg [] := T.F_Ratio_neg.bindsN fun _ _ _ _ _ _ us hl => match us, hl with | [_], _ => rfl
theorem bd_Ratio_eq {K : PySem.W.Frag} {mg : Str → Option Value} {a : Ad} (T : Tx K mg a) : Binds K a.d_Ratio_eq P_Ratio_eq [] := T.F_Ratio_eq.bindsN fun _ _ _ _ _ _ us hl => match us, hl with | [_, _], _ => rfl
theorem bd_Ratio_lt {K : PySem.W.Frag} {mg : Str → Option Value} {a : Ad} (T : Tx K mg a) : Binds K a.d_Ratio_lt P_Ratio_lt [] := T.F_Ratio_lt.bindsN fun _ _ _ _ _ _ us hl => match us, hl with | [_, _], _ => rfl
theorem bd_Ratio_le {K : PySem.W.Frag} {mg : Str → Option Value} {a : Ad} (T : Tx K mg a) : Binds K a.d_Ratio_le P_Ratio_le [] := T.F_Ratio_le.bindsN fun _ _ _ _ _ _ us hl => match us, hl with | [_, _], _ => rfl
theorem bd_Ratio_over {K : PySem.W.Frag} {mg : Str → Option Value} {a : Ad} (T : Tx K mg a) : Binds K a.d_Ratio_over P_Ratio_over [] := T.F_Ratio_over.bindsN fun _ _ _ _ _ _ us hl => match us, hl with | [_, _], _ => rfl
theorem bd_Ratio_text {K : PySem.W.Frag} {mg : Str → Option Value} {a : Ad} (T : Tx K mg a) : Binds K a.d_Ratio_text P_Ratio_text [] := T.F_Ratio_text.bindsN fun _ _ _ _ _ _ us hl => match us, hl with | [_], _ => rfl
theorem bd_is_whole {K : PySem.W.Frag} {mg : Str → Option Value} {a : Ad} (T : Tx K mg a) : Binds K a.d_is_whole P_is_whole [] := T.F_is_whole.bindsN fun _ _ _ _ _ _ us hl => match us, hl with | [_], _ => rfl
theorem bd_is_number {K : PySem.W.Frag} {mg : Str → Option Value} {a : Ad} (T : Tx K mg a) : Binds K a.d_is_number P_is_number [] := T.F_is_number.bindsN fun _ _ _ _ _ _ us hl => match us, hl with | [_], _ => rfl
theorem bd_as_ratio {K : PySem.W.Frag} {mg : Str → Option Value} {a : Ad} (T : Tx K mg a) : Binds K a.d_as_ratio P_as_ratio [] := T.F_as_ratio.bindsN fun _ _ _ _ _ _ us hl => match us, hl with | [_], _ => rfl
theorem bd_total {K : PySem.W.Frag} {mg : Str → Option Value} {a : Ad} (T : Tx K mg a) : Binds K a.d_total P_total [] := T.F_total.bindsN fun _ _ _ _ _ _ us hl => match us, hl with | [_], _ => rfl
theorem bd_read_ratio {K : PySem.W.Frag} {mg : Str → Option Value} {a : Ad} (T : Tx K mg a) : Binds K a.d_read_ratio P_read_ratio [] := T.F_read_ratio.bindsN fun _ _ _ _ _ _ us hl => match us, hl with | [_], _ => rfl
theorem bd_has_digits_only {K : PySem.W.Frag} {mg : Str → Option Value} {a : Ad} (T : Tx K mg a) : Binds K a.d_has_digits_only P_has_digits_only [] := T.F_has_digits_only.bindsN fun _ _ _ _ _ _ us hl => match us, hl with | [_], _ => rfl
theorem bd_numeral {K : PySem.W.Frag} {mg : Str → Option Value} {a : Ad} (T : Tx K mg a) : Binds K a.d_numeral P_numeral [] := T.F_numeral.bindsN fun _ _ _ _ _ _ us hl => match us, hl with | [_], _ => rfl
theorem bd_from_numeral {K : PySem.W.Frag} {mg : Str → Option Value} {a : Ad} (T : Tx K mg a) : Binds K a.d_from_numeral P_from_numeral [] := T.F_from_numeral.bindsN fun _ _ _ _ _ _ us hl => match us, hl with | [_], _ => rfl
theorem bd_Ltape {K : PySem.W.Frag} {mg : Str → Option Value} {a : Ad} (T : Tx K mg a) : Binds K a.d_Ltape P_Ltape [] := T.F_Ltape.bindsN fun _ _ _ _ _ _ us hl => match us, hl with | [_, _], _ => rfl
theorem bd_Lpick {K : PySem.W.Frag} {mg : Str → Option Value} {a : Ad} (T : Tx K mg a) : Binds K a.d_Lpick P_Lpick [] := T.F_Lpick.bindsN fun _ _ _ _ _ _ us hl => match us, hl with | [_, _], _ => rfl
theorem bd_Lpair {K : PySem.W.Frag} {mg : Str → Option Value} {a : Ad} (T : Tx K mg a) : Binds K a.d_Lpair P_Lpair [] := T.F_Lpair.bindsN fun _ _ _ _ _ _ us hl => match us, hl with | [_], _ => rfl
theorem bd_Ldivisor {K : PySem.W.Frag} {mg : Str → Option Value} {a : Ad} (T : Tx K mg a) : Binds K a.d_Ldivisor P_Ldivisor [] := T.F_Ldivisor.bindsN fun _ _ _ _ _ _ us hl => match us, hl with | [_, _], _ => rfl
theorem bd_Lis {K : PySem.W.Frag} {mg : Str → Option Value} {a : Ad} (T : Tx K mg a) : Binds K a.d_Lis P_Lis [] := T.F_Lis.bindsN fun _ _ _ _ _ _ us hl => match us, hl with | [_, _, _], _ => rfl
theorem bd_Lpair_right {K : PySem.W.Frag} {mg : Str → Option Value} {a : Ad} (T : Tx K mg a) : Binds K a.d_Lpair_right P_Lpair_right [] := T.F_Lpair_right.bindsN fun _ _ _ _ _ _ us hl => match us, hl with | [_, _, _, _], _ => rfl
theorem bd_Lrefused {K : PySem.W.Frag} {mg : Str → Option Value} {a : Ad} (T : Tx K mg a) : Binds K a.d_Lrefused P_Lrefused [] := T.F_Lrefused.bindsN fun _ _ _ _ _ _ us hl => match us, hl with | [_, _], _ => rfl
theorem bd_Lnumber {K : PySem.W.Frag} {mg : Str → Option Value} {a : Ad} (T : Tx K mg a) : Binds K a.d_Lnumber P_Lnumber [] := T.F_Lnumber.bindsN fun _ _ _ _ _ _ us hl => match us, hl with | [_], _ => rfl
theorem bd_Ltold {K : PySem.W.Frag} {mg : Str → Option Value} {a : Ad} (T : Tx K mg a) : Binds K a.d_Ltold P_Ltold [] := T.F_Ltold.bindsN fun _ _ _ _ _ _ us hl => match us, hl with | [_], _ => rfl
theorem bd_Ltexts_right {K : PySem.W.Frag} {mg : Str → Option Value} {a : Ad} (T : Tx K mg a) : Binds K a.d_Ltexts_right P_Ltexts_right [] := T.F_Ltexts_right.bindsN fun _ _ _ _ _ _ us hl => match us, hl with | [_, _], _ => rfl
theorem bd_law {K : PySem.W.Frag} {mg : Str → Option Value} {a : Ad} (T : Tx K mg a) : Binds K a.d_law P_law [] := T.F_law.bindsN fun _ _ _ _ _ _ us hl => match us, hl with | [_], _ => rfl
end Kx


set_option maxHeartbeats 4000000
namespace Kx
open PySem PySem.Spec PyProof.Rows L2 Fm
local macro_rules | `(tactic| walk_at "gv") => `(tactic| ((with_reducible refine' g_var ?gh ?_); (case gh => exact rfl)))
local macro_rules | `(tactic| walk_at "g1") => `(tactic| first
  | walk_at "gv"
  | with_reducible refine g_c ?_ | with_reducible refine g_op ?_ | with_reducible refine g_un ?_ | with_reducible refine g_I0 ?_ | with_reducible refine g_U ?_
  | with_reducible refine g_eqI ?_ | with_reducible refine g_neI ?_ | with_reducible refine g_eqS ?_ | with_reducible refine g_neS ?_
  | with_reducible refine g_test ?_ | with_reducible refine g_B ?_ | with_reducible refine g_bl ?_ | with_reducible refine g_not ?_ | with_reducible refine g_and ?_ | with_reducible refine g_or ?_
  | with_reducible refine g_andV ?_ | with_reducible refine g_orV ?_ | with_reducible refine g_notV ?_ | with_reducible refine g_chain ?_ | with_reducible refine g_if ?_ | with_reducible refine g_ifS ?_
  | with_reducible refine g_seq ?_ | with_reducible refine g_next ?_ | with_reducible refine g_break ?_ | with_reducible refine g_cont ?_ | with_reducible refine g_drop ?_ | with_reducible refine g_ret ?_ | with_reducible refine g_retN ?_
  | with_reducible refine g_asg ?_ | with_reducible refine g_name ?_ | with_reducible refine g_par ?_ | with_reducible refine g_par2 ?_ | with_reducible refine g_fld ?_ | with_reducible refine g_sfld ?_
  | with_reducible refine g_nil ?_ | with_reducible refine g_cons ?_ | with_reducible refine g_tup ?_ | with_reducible refine g_lst ?_ | with_reducible refine g_call ?_ | with_reducible refine g_meth ?_ | with_reducible refine g_make1 ?_ | with_reducible refine g_make ?_ | with_reducible refine g_cb ?_ | with_reducible refine g_sub ?_ | with_reducible refine g_absI ?_ | with_reducible refine g_intI ?_
  | with_reducible refine iteT ?_ | with_reducible refine iteF ?_ | with_reducible refine g_gcd ?_)
local macro_rules | `(tactic| walk_at "g") => `(tactic| (repeat (first | walk_at "g1" | dsimp only [cx_K, cx_Kn, b_nt, b_nf])))
local macro_rules | `(tactic| walk_at "mul") => `(tactic| exact mulA (a := 200) (b := 200) (by omega) (by omega) (by decide))
local macro_rules | `(tactic| walk_at "pow") => `(tactic| exact ⟨by omega, by omega, by omega⟩)

section
variable {P : Program} {w : World} {K : PySem.W.Frag} {mg : Str → Option Value} {base : Heap} {a : Ad}
theorem ok_is_whole (T : Tx K mg a) : FnOk P w K mg base CX0 1 a.f_is_whole a.d_is_whole P_is_whole (spWhole K a.C_Ratio) := by
  refine T.F_is_whole.ok sc_is_whole (fun vs H Q E h => ?_) (fun cdv A outer s H vs Q E hr h => ?_)
  · obtain ⟨x, t, rfl, _⟩ := h
    rfl
  · obtain ⟨x, t, rfl, ty, kt, k⟩ := h
    refine ⟨_, (pss_one (ps_ret (pe_and (pe_callB call_isi (by rfl) T.b_isinstance (by decide +kernel) (pa_cons (pv 0) (pa_cons (pe_bltn (v := .ty "int") (by rfl) T.b_int (by decide +kernel) rfl) pa_nil))) (pe_one (pe_not (pe_callB call_isi (by rfl) T.b_isinstance (by decide +kernel) (pa_cons (pv 0) (pa_cons (pe_bltn (v := .ty "bool") (by rfl) T.b_bool (by decide +kernel) rfl) pa_nil)))))))), ?_⟩
    walk_at "g"
    refine g_isi ty (.ty _) (kit_int T.R kt) ?_
    walk_at "g"
    cases hb : (t == .type "int" || t == .type "bool") with
    | true =>
      walk_at "g"
      refine g_isi ty (.ty _) (kit_bool T.R kt hb) ?_
      walk_at "g"
      have e : (!(t == Value.type "bool")) = (t == .type "int") := by cases kt <;> first | rfl | simp at hb | simp
      rw [e]
      exact k H (Ex.refl H)
    | false =>
      walk_at "g"
      have e : (t == Value.type "int") = false := (Bool.or_eq_false_iff.mp hb).1
      rw [e] at k
      exact k H (Ex.refl H)
theorem ok_is_number (T : Tx K mg a) : FnOk P w K mg base CX0 2 a.f_is_number a.d_is_number P_is_number (spNumber K a.C_Ratio) := by
  refine T.F_is_number.ok sc_is_number (fun vs H Q E h => ?_) (fun cdv A outer s H vs Q E hr h => ?_)
  · obtain ⟨x, t, rfl, _⟩ := h
    rfl
  · obtain ⟨x, t, rfl, ty, kt, k⟩ := h
    refine ⟨_, (pss_one (ps_ret (pe_or (pe_callB call_isi (by rfl) T.b_isinstance (by decide +kernel) (pa_cons (pv 0) (pa_cons (pe_glob (v := .ref a.C_Ratio) rfl T.g_Ratio rfl) pa_nil))) (pe_one (pe_call (ok_is_whole T) (hr.mono (by decide)) (by rfl) T.g_is_whole T.F_is_whole.kp (bd_is_whole T) .nil pass0 (pa_cons (pv 0) pa_nil)))))), ?_⟩
    walk_at "g"
    refine g_isi ty (.own _) (kit_own T.R kt) ?_
    walk_at "g"
    cases hb : (t == .ref a.C_Ratio) with
    | true =>
      walk_at "g"
      rw [hb] at k
      exact k H (Ex.refl H)
    | false =>
      walk_at "g"
      rw [hb] at k
      exact ⟨x, t, rfl, ty, kt, fun H' e => k H' e⟩
theorem ok_Ratio_init (T : Tx K mg a) : FnOk P w K mg base CX0 1 a.f_Ratio_init a.d_Ratio_init P_Ratio_init (spInit a.C_Ratio) := by
  refine T.F_Ratio_init.ok sc_Ratio_init (fun vs H Q E h => ?_) (fun cdv A outer s H vs Q E hr h => ?_)
  · obtain ⟨p, dx, t, b, k, rfl, _⟩ := h
    rfl
  · obtain ⟨p, dx, t, b, k, rfl, hb, h1, h2, hk, hp, q⟩ := h
    refine ⟨_, (pss_cons (ps_if (pt_cmpR op_eq (pv 2) pe_int (nomark _)) (pss_one ps_never) pss_nil) (pss_cons (ps_set (i := 3) sc_Ratio_init.nd rfl (Or.inl rfl) (pe_callBfun cr_gcd (by rfl) T.g_gcd (pa_cons (pv 1) (pa_cons (pv 2) pa_nil)))) (pss_cons (ps_if (pt_cmpR op_lt (pv 2) pe_int (nomark _)) (pss_one (ps_set (i := 3) sc_Ratio_init.nd rfl (Or.inl rfl) (pe_un un_neg (pv 3)))) pss_nil) (pss_cons (ps_fld (pv 0) (pe_op op_fdivA (pv 1) (pv 3)) rfl) (pss_one (ps_fld (pv 0) (pe_op op_fdivA (pv 2) (pv 3)) rfl)))))), ?_⟩
    walk_at "g"
    refine g_dec (fun h => absurd h hb) (fun _ => ?_)
    walk_at "g"
    refine g_dec (fun hn => ?_) (fun hn => ?_)
    · walk_at "g"
      have ez : -((Nat.gcd t.natAbs b.natAbs : Nat) : Int) = sg t b := by unfold sg; rw [if_pos hn]
      rw [ez]
      refine g_I (divA (sg_ne hb) (sg_sz hb h2) hk) ?_
      walk_at "g"
      refine ⟨p, _, dx, [], rfl, hp, T.R.cl, T.R.nT, by decide, ?_⟩
      walk_at "g"
      refine g_I (divA (sg_ne hb) (sg_sz hb h2) hk) ?_
      walk_at "g"
      refine ⟨p, _, dx, _, rfl, upd_same, T.R.cl, T.R.nB, by show 1 < 1000; decide, ?_⟩
      walk_at "g"
      rw [top_eq hb, bot_eq hb]
      refine q _ (fun c o hc hne => ?_) upd_same
      rw [upd_ne hne, upd_ne hne]
      exact hc
    · walk_at "g"
      have ez : ((Nat.gcd t.natAbs b.natAbs : Nat) : Int) = sg t b := by unfold sg; rw [if_neg hn]
      rw [ez]
      refine g_I (divA (sg_ne hb) (sg_sz hb h2) hk) ?_
      walk_at "g"
      refine ⟨p, _, dx, [], rfl, hp, T.R.cl, T.R.nT, by decide, ?_⟩
      walk_at "g"
      refine g_I (divA (sg_ne hb) (sg_sz hb h2) hk) ?_
      walk_at "g"
      refine ⟨p, _, dx, _, rfl, upd_same, T.R.cl, T.R.nB, by show 1 < 1000; decide, ?_⟩
      walk_at "g"
      rw [top_eq hb, bot_eq hb]
      refine q _ (fun c o hc hne => ?_) upd_same
      rw [upd_ne hne, upd_ne hne]
      exact hc
theorem ok_as_ratio (T : Tx K mg a) : FnOk P w K mg base CX0 3 a.f_as_ratio a.d_as_ratio P_as_ratio (spAsRatio a.C_Ratio) := by
  refine T.F_as_ratio.ok sc_as_ratio (fun vs H Q E h => ?_) (fun cdv A outer s H vs Q E hr h => ?_)
  · obtain ⟨x, q, k, rfl, _⟩ := h
    rfl
  · obtain ⟨x, q, k, rfl, hx, sa, hk, z⟩ := h
    refine ⟨_, (pss_cons (ps_if (pt_val (pe_callB call_isi (by rfl) T.b_isinstance (by decide +kernel) (pa_cons (pv 0) (pa_cons (pe_glob (v := .ref a.C_Ratio) rfl T.g_Ratio rfl) pa_nil)))) (pss_one (ps_ret (pv 0))) pss_nil) (pss_cons (ps_if (pt_val (pe_call (ok_is_whole T) (hr.mono (by decide)) (by rfl) T.g_is_whole T.F_is_whole.kp (bd_is_whole T) .nil pass0 (pa_cons (pv 0) pa_nil))) (pss_one (ps_ret (pe_make T.mk_Ratio (ok_Ratio_init T) (hr.mono (by decide)) (by rfl) T.g_Ratio (bd1_Ratio_init T).choose_spec.2 (bd1_Ratio_init T).choose_spec.1 pass0 (pa_cons (pv 0) pa_nil)))) pss_nil) (pss_one ps_never))), ?_⟩
    walk_at "g"
    rcases hx with ⟨n, rfl, rfl⟩ | hx
    · refine g_isi (.base (.int n)) (.own _) (kit_own T.R .int) ?_
      walk_at "g"
      refine g_ite (fun h => by simp at h) (fun _ => ?_)
      walk_at "g"
      refine ⟨_, _, rfl, .base (.int n), .int, fun H1 e1 => ?_⟩
      walk_at "g"
      refine g_ite (fun _ => ?_) (fun h => by simp at h)
      walk_at "g"
      refine use_init (t := n) (b := 1) (k := k + 1) rfl (by decide) (by have := sa.1; rw [Rat.num_intCast] at this; exact lt_up this (by omega)) (lt_up (by decide : 1 < 2 ^ 1) (by omega)) (by omega) fun v H2 e2 hv => ?_
      rw [int_divInt] at hv
      exact z v H2 (e1.trans e2) hv
    · refine g_isi (ty_rat T.R hx) (.own _) (kit_own T.R .own) ?_
      walk_at "g"
      refine g_ite (fun _ => ?_) (fun h => by simp at h)
      walk_at "g"
      exact z x H (Ex.refl H) hx
theorem ok_Ratio_add (T : Tx K mg a) : FnOk P w K mg base CX0 4 a.f_Ratio_add a.d_Ratio_add P_Ratio_add (spNum2 a.C_Ratio (· + ·)) := by
  refine T.F_Ratio_add.ok sc_Ratio_add (fun vs H Q E h => ?_) (fun cdv A outer s H vs Q E hr h => ?_)
  · obtain ⟨x, y, p, q, k, rfl, _⟩ := h
    rfl
  · obtain ⟨x, y, p, q, k, rfl, hx, hy, sa, sb, hk, z⟩ := h
    refine ⟨_, (pss_cons (ps_if (pt_not (pt_val (pe_call (ok_is_number T) (hr.mono (by decide)) (by rfl) T.g_is_number T.F_is_number.kp (bd_is_number T) .nil pass0 (pa_cons (pv 1) pa_nil)))) (pss_one ps_never) pss_nil) (pss_cons (ps_set (i := 2) sc_Ratio_add.nd rfl (Or.inl rfl) (pe_call (ok_as_ratio T) (hr.mono (by decide)) (by rfl) T.g_as_ratio T.F_as_ratio.kp (bd_as_ratio T) .nil pass0 (pa_cons (pv 1) pa_nil))) (pss_one (ps_ret (pe_make T.mk_Ratio (ok_Ratio_init T) (hr.mono (by decide)) (by rfl) T.g_Ratio (bd_Ratio_init T) .nil pass0 (pa_cons (pe_op op_add (pe_op op_mulW (pe_fld (pv 0) rfl) (pe_fld (pv 2) rfl)) (pe_op op_mulW (pe_fld (pv 2) rfl) (pe_fld (pv 0) rfl))) (pa_cons (pe_op op_mulW (pe_fld (pv 0) rfl) (pe_fld (pv 2) rfl)) pa_nil))))))), ?_⟩
    walk_at "g"
    refine use_isnum T.R hy fun H0 e0 => ?_
    walk_at "g"
    have hy := hy.mono e0
    have hx := hx.mono e0
    refine use_asr hy sb hk fun u H1 e1 hn => ?_
    have hx' := hx.mono e1
    walk_at "g"
    refine g_top T.R.cl T.R.nT hx' ?_
    walk_at "g"
    refine g_bottom T.R.cl T.R.nB hn ?_
    refine g_I (mulA sa.n sb.d (by omega)) ?_
    walk_at "g"
    refine g_top T.R.cl T.R.nT hn ?_
    walk_at "g"
    refine g_bottom T.R.cl T.R.nB hx' ?_
    refine g_I (mulA sb.n sa.d (by omega)) ?_
    walk_at "g"
    refine g_bottom T.R.cl T.R.nB hx' ?_
    walk_at "g"
    refine g_bottom T.R.cl T.R.nB hn ?_
    refine g_I (mulA sa.d sb.d (by omega)) ?_
    walk_at "g"
    refine use_init (k := k + k + 1) rfl (dd_ne _ _) (abs_add_lt (abs_mul_lt sa.n sb.d) (abs_mul_lt sb.n sa.d)) (lt_up (abs_mul_lt sa.d sb.d) (by omega)) (by omega) fun v H2 e2 hv => ?_
    rw [add_divInt] at hv
    exact z v H2 ((e0.trans e1).trans e2) hv
theorem ok_Ratio_sub (T : Tx K mg a) : FnOk P w K mg base CX0 4 a.f_Ratio_sub a.d_Ratio_sub P_Ratio_sub (spNum2 a.C_Ratio (· - ·)) := by
  refine T.F_Ratio_sub.ok sc_Ratio_sub (fun vs H Q E h => ?_) (fun cdv A outer s H vs Q E hr h => ?_)
  · obtain ⟨x, y, p, q, k, rfl, _⟩ := h
    rfl
  · obtain ⟨x, y, p, q, k, rfl, hx, hy, sa, sb, hk, z⟩ := h
    refine ⟨_, (pss_cons (ps_if (pt_not (pt_val (pe_call (ok_is_number T) (hr.mono (by decide)) (by rfl) T.g_is_number T.F_is_number.kp (bd_is_number T) .nil pass0 (pa_cons (pv 1) pa_nil)))) (pss_one ps_never) pss_nil) (pss_cons (ps_set (i := 2) sc_Ratio_sub.nd rfl (Or.inl rfl) (pe_call (ok_as_ratio T) (hr.mono (by decide)) (by rfl) T.g_as_ratio T.F_as_ratio.kp (bd_as_ratio T) .nil pass0 (pa_cons (pv 1) pa_nil))) (pss_one (ps_ret (pe_make T.mk_Ratio (ok_Ratio_init T) (hr.mono (by decide)) (by rfl) T.g_Ratio (bd_Ratio_init T) .nil pass0 (pa_cons (pe_op op_sub (pe_op op_mulW (pe_fld (pv 0) rfl) (pe_fld (pv 2) rfl)) (pe_op op_mulW (pe_fld (pv 2) rfl) (pe_fld (pv 0) rfl))) (pa_cons (pe_op op_mulW (pe_fld (pv 0) rfl) (pe_fld (pv 2) rfl)) pa_nil))))))), ?_⟩
    walk_at "g"
    refine use_isnum T.R hy fun H0 e0 => ?_
    walk_at "g"
    have hy := hy.mono e0
    have hx := hx.mono e0
    refine use_asr hy sb hk fun u H1 e1 hn => ?_
    have hx' := hx.mono e1
    walk_at "g"
    refine g_top T.R.cl T.R.nT hx' ?_
    walk_at "g"
    refine g_bottom T.R.cl T.R.nB hn ?_
    refine g_I (mulA sa.n sb.d (by omega)) ?_
    walk_at "g"
    refine g_top T.R.cl T.R.nT hn ?_
    walk_at "g"
    refine g_bottom T.R.cl T.R.nB hx' ?_
    refine g_I (mulA sb.n sa.d (by omega)) ?_
    walk_at "g"
    refine g_bottom T.R.cl T.R.nB hx' ?_
    walk_at "g"
    refine g_bottom T.R.cl T.R.nB hn ?_
    refine g_I (mulA sa.d sb.d (by omega)) ?_
    walk_at "g"
    refine use_init (k := k + k + 1) rfl (dd_ne _ _) (abs_sub_lt (abs_mul_lt sa.n sb.d) (abs_mul_lt sb.n sa.d)) (lt_up (abs_mul_lt sa.d sb.d) (by omega)) (by omega) fun v H2 e2 hv => ?_
    rw [sub_divInt] at hv
    exact z v H2 ((e0.trans e1).trans e2) hv
theorem ok_Ratio_mul (T : Tx K mg a) : FnOk P w K mg base CX0 4 a.f_Ratio_mul a.d_Ratio_mul P_Ratio_mul (spNum2 a.C_Ratio (· * ·)) := by
  refine T.F_Ratio_mul.ok sc_Ratio_mul (fun vs H Q E h => ?_) (fun cdv A outer s H vs Q E hr h => ?_)
  · obtain ⟨x, y, p, q, k, rfl, _⟩ := h
    rfl
  · obtain ⟨x, y, p, q, k, rfl, hx, hy, sa, sb, hk, z⟩ := h
    refine ⟨_, (pss_cons (ps_if (pt_not (pt_val (pe_call (ok_is_number T) (hr.mono (by decide)) (by rfl) T.g_is_number T.F_is_number.kp (bd_is_number T) .nil pass0 (pa_cons (pv 1) pa_nil)))) (pss_one ps_never) pss_nil) (pss_cons (ps_set (i := 2) sc_Ratio_mul.nd rfl (Or.inl rfl) (pe_call (ok_as_ratio T) (hr.mono (by decide)) (by rfl) T.g_as_ratio T.F_as_ratio.kp (bd_as_ratio T) .nil pass0 (pa_cons (pv 1) pa_nil))) (pss_one (ps_ret (pe_make T.mk_Ratio (ok_Ratio_init T) (hr.mono (by decide)) (by rfl) T.g_Ratio (bd_Ratio_init T) .nil pass0 (pa_cons (pe_op op_mulW (pe_fld (pv 0) rfl) (pe_fld (pv 2) rfl)) (pa_cons (pe_op op_mulW (pe_fld (pv 0) rfl) (pe_fld (pv 2) rfl)) pa_nil))))))), ?_⟩
    walk_at "g"
    refine use_isnum T.R hy fun H0 e0 => ?_
    walk_at "g"
    have hy := hy.mono e0
    have hx := hx.mono e0
    refine use_asr hy sb hk fun u H1 e1 hn => ?_
    have hx' := hx.mono e1
    walk_at "g"
    refine g_top T.R.cl T.R.nT hx' ?_
    walk_at "g"
    refine g_top T.R.cl T.R.nT hn ?_
    refine g_I (mulA sa.n sb.n (by omega)) ?_
    walk_at "g"
    refine g_bottom T.R.cl T.R.nB hx' ?_
    walk_at "g"
    refine g_bottom T.R.cl T.R.nB hn ?_
    refine g_I (mulA sa.d sb.d (by omega)) ?_
    walk_at "g"
    refine use_init (k := k + k) rfl (dd_ne _ _) (abs_mul_lt sa.n sb.n) (abs_mul_lt sa.d sb.d) (by omega) fun v H2 e2 hv => ?_
    rw [mul_divInt] at hv
    exact z v H2 ((e0.trans e1).trans e2) hv
theorem ok_Ratio_lt (T : Tx K mg a) : FnOk P w K mg base CX0 4 a.f_Ratio_lt a.d_Ratio_lt P_Ratio_lt (spRel2 a.C_Ratio fun x y => decide (x < y)) := by
  refine T.F_Ratio_lt.ok sc_Ratio_lt (fun vs H Q E h => ?_) (fun cdv A outer s H vs Q E hr h => ?_)
  · obtain ⟨x, y, p, q, k, rfl, _⟩ := h
    rfl
  · obtain ⟨x, y, p, q, k, rfl, hx, hy, sa, sb, hk, z⟩ := h
    refine ⟨_, (pss_cons (ps_if (pt_not (pt_val (pe_call (ok_is_number T) (hr.mono (by decide)) (by rfl) T.g_is_number T.F_is_number.kp (bd_is_number T) .nil pass0 (pa_cons (pv 1) pa_nil)))) (pss_one ps_never) pss_nil) (pss_cons (ps_set (i := 2) sc_Ratio_lt.nd rfl (Or.inl rfl) (pe_call (ok_as_ratio T) (hr.mono (by decide)) (by rfl) T.g_as_ratio T.F_as_ratio.kp (bd_as_ratio T) .nil pass0 (pa_cons (pv 1) pa_nil))) (pss_one (ps_ret (pe_cmpR op_lt (pe_op op_mulW (pe_fld (pv 0) rfl) (pe_fld (pv 2) rfl)) (pe_op op_mulW (pe_fld (pv 2) rfl) (pe_fld (pv 0) rfl)) (nomark _)))))), ?_⟩
    walk_at "g"
    refine use_isnum T.R hy fun H0 e0 => ?_
    walk_at "g"
    have hy := hy.mono e0
    have hx := hx.mono e0
    refine use_asr hy sb hk fun u H1 e1 hn => ?_
    have hx' := hx.mono e1
    walk_at "g"
    refine g_top T.R.cl T.R.nT hx' ?_
    walk_at "g"
    refine g_bottom T.R.cl T.R.nB hn ?_
    refine g_I (mulA sa.n sb.d (by omega)) ?_
    walk_at "g"
    refine g_top T.R.cl T.R.nT hn ?_
    walk_at "g"
    refine g_bottom T.R.cl T.R.nB hx' ?_
    refine g_I (mulA sb.n sa.d (by omega)) ?_
    walk_at "g"
    have z := z H1 (e0.trans e1)
    dsimp only at z
    rw [dec_ltR] at z
    exact z
theorem ok_Ratio_le (T : Tx K mg a) : FnOk P w K mg base CX0 4 a.f_Ratio_le a.d_Ratio_le P_Ratio_le (spRel2 a.C_Ratio fun x y => decide (x ≤ y)) := by
  refine T.F_Ratio_le.ok sc_Ratio_le (fun vs H Q E h => ?_) (fun cdv A outer s H vs Q E hr h => ?_)
  · obtain ⟨x, y, p, q, k, rfl, _⟩ := h
    rfl
  · obtain ⟨x, y, p, q, k, rfl, hx, hy, sa, sb, hk, z⟩ := h
    refine ⟨_, (pss_cons (ps_if (pt_not (pt_val (pe_call (ok_is_number T) (hr.mono (by decide)) (by rfl) T.g_is_number T.F_is_number.kp (bd_is_number T) .nil pass0 (pa_cons (pv 1) pa_nil)))) (pss_one ps_never) pss_nil) (pss_cons (ps_set (i := 2) sc_Ratio_le.nd rfl (Or.inl rfl) (pe_call (ok_as_ratio T) (hr.mono (by decide)) (by rfl) T.g_as_ratio T.F_as_ratio.kp (bd_as_ratio T) .nil pass0 (pa_cons (pv 1) pa_nil))) (pss_one (ps_ret (pe_cmpR op_le (pe_op op_mulW (pe_fld (pv 0) rfl) (pe_fld (pv 2) rfl)) (pe_op op_mulW (pe_fld (pv 2) rfl) (pe_fld (pv 0) rfl)) (nomark _)))))), ?_⟩
    walk_at "g"
    refine use_isnum T.R hy fun H0 e0 => ?_
    walk_at "g"
    have hy := hy.mono e0
    have hx := hx.mono e0
    refine use_asr hy sb hk fun u H1 e1 hn => ?_
    have hx' := hx.mono e1
    walk_at "g"
    refine g_top T.R.cl T.R.nT hx' ?_
    walk_at "g"
    refine g_bottom T.R.cl T.R.nB hn ?_
    refine g_I (mulA sa.n sb.d (by omega)) ?_
    walk_at "g"
    refine g_top T.R.cl T.R.nT hn ?_
    walk_at "g"
    refine g_bottom T.R.cl T.R.nB hx' ?_
    refine g_I (mulA sb.n sa.d (by omega)) ?_
    walk_at "g"
    have z := z H1 (e0.trans e1)
    dsimp only at z
    rw [dec_leR] at z
    exact z
theorem ok_Ratio_eq (T : Tx K mg a) : FnOk P w K mg base CX0 4 a.f_Ratio_eq a.d_Ratio_eq P_Ratio_eq (spEqV K a.C_Ratio) := by
  refine T.F_Ratio_eq.ok sc_Ratio_eq (fun vs H Q E h => ?_) (fun cdv A outer s H vs Q E hr h => ?_)
  · obtain ⟨x, y, p, r, rfl, _⟩ := h
    rfl
  · obtain ⟨x, y, p, r, rfl, hx, hy, z⟩ := h
    refine ⟨_, (pss_cons (ps_if (pt_not (pt_val (pe_call (ok_is_number T) (hr.mono (by decide)) (by rfl) T.g_is_number T.F_is_number.kp (bd_is_number T) .nil pass0 (pa_cons (pv 1) pa_nil)))) (pss_one (ps_ret pe_bl)) pss_nil) (pss_cons (ps_set (i := 2) sc_Ratio_eq.nd rfl (Or.inl rfl) (pe_call (ok_as_ratio T) (hr.mono (by decide)) (by rfl) T.g_as_ratio T.F_as_ratio.kp (bd_as_ratio T) .nil pass0 (pa_cons (pv 1) pa_nil))) (pss_one (ps_ret (pe_and (pe_cmpR op_eq (pe_fld (pv 0) rfl) (pe_fld (pv 2) rfl) (nomark _)) (pe_one (pe_cmpR op_eq (pe_fld (pv 0) rfl) (pe_fld (pv 2) rfl) (nomark _)))))))), ?_⟩
    walk_at "g"
    rcases hy with ⟨q, k, hy, sb, hk, rfl⟩ | ⟨t, ty, kt, et, rfl⟩
    · refine use_isnum T.R hy fun H0 e0 => ?_
      walk_at "g"
      have hy := hy.mono e0
      have hx := hx.mono e0
      refine use_asr hy sb hk fun u H1 e1 hn => ?_
      have hx' := hx.mono e1
      walk_at "g"
      refine g_top T.R.cl T.R.nT hx' ?_
      walk_at "g"
      refine g_top T.R.cl T.R.nT hn ?_
      walk_at "g"
      have z := z H1 (e0.trans e1)
      rw [dec_eqR] at z
      refine g_dec (fun h => ?_) (fun h => ?_)
      · rw [decide_eq_true h] at z
        walk_at "g"
        refine g_bottom T.R.cl T.R.nB hx' ?_
        walk_at "g"
        refine g_bottom T.R.cl T.R.nB hn ?_
        walk_at "g"
        exact z
      · rw [decide_eq_false h] at z
        walk_at "g"
        exact z
    · refine use_isnot ty kt et fun H0 e0 => ?_
      walk_at "g"
      exact z H0 e0
theorem ok_Ratio_neg (T : Tx K mg a) : FnOk P w K mg base CX0 3 a.f_Ratio_neg a.d_Ratio_neg P_Ratio_neg (spNum1 a.C_Ratio (- ·)) := by
  refine T.F_Ratio_neg.ok sc_Ratio_neg (fun vs H Q E h => ?_) (fun cdv A outer s H vs Q E hr h => ?_)
  · obtain ⟨x, p, k, rfl, _⟩ := h
    rfl
  · obtain ⟨x, p, k, rfl, hx, sa, hk, z⟩ := h
    refine ⟨_, (pss_one (ps_ret (pe_make T.mk_Ratio (ok_Ratio_init T) (hr.mono (by decide)) (by rfl) T.g_Ratio (bd_Ratio_init T) .nil pass0 (pa_cons (pe_un un_neg (pe_fld (pv 0) rfl)) (pa_cons (pe_fld (pv 0) rfl) pa_nil))))), ?_⟩
    walk_at "g"
    refine g_top T.R.cl T.R.nT hx ?_
    walk_at "g"
    refine g_bottom T.R.cl T.R.nB hx ?_
    walk_at "g"
    refine use_init (k := k) rfl (den_ne _) (by rw [Int.natAbs_neg]; exact sa.n) sa.d (by omega) fun v H2 e2 hv => ?_
    rw [neg_divInt1] at hv
    exact z v H2 e2 hv
theorem ok_Ratio_over (T : Tx K mg a) : FnOk P w K mg base CX0 4 a.f_Ratio_over a.d_Ratio_over P_Ratio_over (spOver a.C_Ratio) := by
  refine T.F_Ratio_over.ok sc_Ratio_over (fun vs H Q E h => ?_) (fun cdv A outer s H vs Q E hr h => ?_)
  · obtain ⟨x, y, p, q, k, rfl, _⟩ := h
    rfl
  · obtain ⟨x, y, p, q, k, rfl, hx, hy, h0, sa, sb, hk, z⟩ := h
    refine ⟨_, (pss_cons (ps_set (i := 2) sc_Ratio_over.nd rfl (Or.inl rfl) (pe_call (ok_as_ratio T) (hr.mono (by decide)) (by rfl) T.g_as_ratio T.F_as_ratio.kp (bd_as_ratio T) .nil pass0 (pa_cons (pv 1) pa_nil))) (pss_one (ps_ret (pe_make T.mk_Ratio (ok_Ratio_init T) (hr.mono (by decide)) (by rfl) T.g_Ratio (bd_Ratio_init T) .nil pass0 (pa_cons (pe_op op_mulW (pe_fld (pv 0) rfl) (pe_fld (pv 2) rfl)) (pa_cons (pe_op op_mulW (pe_fld (pv 0) rfl) (pe_fld (pv 2) rfl)) pa_nil)))))), ?_⟩
    walk_at "g"
    refine use_asr hy sb hk fun u H1 e1 hn => ?_
    have hx' := hx.mono e1
    have h1 : q.num ≠ 0 := fun z => h0 (Rat.num_eq_zero.mp z)
    walk_at "g"
    refine g_top T.R.cl T.R.nT hx' ?_
    walk_at "g"
    refine g_bottom T.R.cl T.R.nB hn ?_
    refine g_I (mulA sa.n sb.d (by omega)) ?_
    walk_at "g"
    refine g_bottom T.R.cl T.R.nB hx' ?_
    walk_at "g"
    refine g_top T.R.cl T.R.nT hn ?_
    refine g_I (mulA sa.d sb.n (by omega)) ?_
    walk_at "g"
    refine use_init (k := k + k) rfl (Int.mul_ne_zero (den_ne p) h1) (abs_mul_lt sa.n sb.d) (abs_mul_lt sa.d sb.n) (by omega) fun v H2 e2 hv => ?_
    rw [over_divInt] at hv
    exact z v H2 (e1.trans e2) hv
end
end Kx


set_option maxHeartbeats 4000000
namespace Kx
open PySem PySem.Spec PyProof.Rows L2 Fm SX
local macro_rules | `(tactic| walk_at "gv") => `(tactic| ((with_reducible refine' g_var ?gh ?_); (case gh => exact rfl)))
local macro_rules | `(tactic| walk_at "g1") => `(tactic| first
  | walk_at "gv"
  | with_reducible refine g_c ?_ | with_reducible refine g_op ?_ | with_reducible refine g_un ?_ | with_reducible refine g_I0 ?_ | with_reducible refine g_U ?_
  | with_reducible refine g_eqI ?_ | with_reducible refine g_neI ?_ | with_reducible refine g_eqS ?_ | with_reducible refine g_neS ?_
  | with_reducible refine g_test ?_ | with_reducible refine g_B ?_ | with_reducible refine g_bl ?_ | with_reducible refine g_not ?_ | with_reducible refine g_and ?_ | with_reducible refine g_or ?_
  | with_reducible refine g_andV ?_ | with_reducible refine g_orV ?_ | with_reducible refine g_notV ?_ | with_reducible refine g_chain ?_ | with_reducible refine g_if ?_ | with_reducible refine g_ifS ?_
  | with_reducible refine g_seq ?_ | with_reducible refine g_next ?_ | with_reducible refine g_break ?_ | with_reducible refine g_cont ?_ | with_reducible refine g_drop ?_ | with_reducible refine g_ret ?_ | with_reducible refine g_retN ?_
  | with_reducible refine g_asg ?_ | with_reducible refine g_name ?_ | with_reducible refine g_par ?_ | with_reducible refine g_par2 ?_ | with_reducible refine g_fld ?_ | with_reducible refine g_sfld ?_
  | with_reducible refine g_nil ?_ | with_reducible refine g_cons ?_ | with_reducible refine g_tup ?_ | with_reducible refine g_lst ?_ | with_reducible refine g_call ?_ | with_reducible refine g_meth ?_ | with_reducible refine g_make1 ?_ | with_reducible refine g_make ?_ | with_reducible refine g_cb ?_ | with_reducible refine g_sub ?_ | with_reducible refine g_m0 ?_ | with_reducible refine g_gcons ?_ | with_reducible refine g_gnil ?_ | with_reducible refine g_for ?_ | with_reducible refine g_lc ?_ | with_reducible refine g_ilist ?_ | with_reducible refine g_itup ?_ | with_reducible refine g_rng1 ?_ | with_reducible refine g_rng3 ?_ | with_reducible refine g_yes ?_ | with_reducible refine g_sl ?_ | with_reducible refine g_nopart ?_ | with_reducible refine g_part ?_ | with_reducible refine g_exI ?_ | with_reducible refine g_m1 ?_ | with_reducible refine g_isS ?_ | with_reducible refine g_bm ?_ | with_reducible refine g_revL ?_ | with_reducible refine g_absI ?_ | with_reducible refine g_intI ?_
  | with_reducible refine iteT ?_ | with_reducible refine iteF ?_ | with_reducible refine g_gcd ?_)
local macro_rules | `(tactic| walk_at "g") => `(tactic| (repeat (first | walk_at "g1" | dsimp only [cx_K, cx_Kn, b_nt, b_nf])))
local macro_rules | `(tactic| walk_at "mul") => `(tactic| exact mulA (a := 200) (b := 200) (by omega) (by omega) (by decide))
local macro_rules | `(tactic| walk_at "pow") => `(tactic| exact ⟨by omega, by omega, by omega⟩)

def spNumeral : Sp := fun vs H Q _ => ∃ n : Nat, vs = [.int (n : Int)] ∧ n < 10 ^ 60 ∧ ∀ H', Ex H H' → Q (.str (S (TL.numL n))) H'
def spDigits : Sp := fun vs H Q _ => ∃ l : List Nat, vs = [.str (S l)] ∧ ∀ H', Ex H H' → Q (.bl (dig l)) H'
def spFromN : Sp := fun vs H Q _ => ∃ l : List Nat, vs = [.str (S l)] ∧ dig l = true ∧ l.length < 60 ∧ ∀ H', Ex H H' → Q (.int ((dv l : Nat) : Int)) H'
def spText (C : Addr) : Sp := fun vs H Q _ => ∃ (x : V) (q : Rat), vs = [x] ∧ RatV C H x q ∧ q.num.natAbs < 10 ^ 60 ∧ q.den < 10 ^ 60 ∧ ∀ H', Ex H H' → Q (.str (S (txR q))) H'
section
variable {P : Program} {w : World} {K : PySem.W.Frag} {mg : Str → Option Value} {base : Heap} {a : Ad}
theorem ok_has_digits_only (T : Tx K mg a) : FnOk P w K mg base CX0 1 a.f_has_digits_only a.d_has_digits_only P_has_digits_only spDigits := by
  refine T.F_has_digits_only.ok sc_has_digits_only (fun vs H Q E h => ?_) (fun cdv A outer s H vs Q E hr h => ?_)
  · obtain ⟨l, rfl, _⟩ := h
    rfl
  · obtain ⟨l, rfl, q⟩ := h
    refine ⟨_, (pss_one (ps_ret (pe_and (pe_m0 PySem.F.slot_str_isascii PySem.F.type_str_isascii mt_isascii (pv 0)) (pe_one (pe_m0 PySem.F.slot_str_isdigit PySem.F.type_str_isdigit mt_isdigit (pv 0)))))), ?_⟩
    have e := isdig_eq l
    walk_at "g"
    refine ⟨_, rfl, rfl, trivial, _, rfl, ?_⟩
    refine g_ite (fun h => ?_) (fun h => ?_)
    · rw [if_pos h] at e
      walk_at "g"
      refine ⟨_, rfl, rfl, trivial, ?_⟩
      rw [e]
      exact q H (Ex.refl H)
    · rw [h, if_neg Bool.false_ne_true] at e
      rw [e]
      exact q H (Ex.refl H)
theorem ok_numeral (T : Tx K mg a) : FnOk P w K mg base CX0 1 a.f_numeral a.d_numeral P_numeral spNumeral := by
  refine def_ok0 T.F_numeral sc_numeral (fun vs H Q E h => ?_) (fun cdv A outer s H vs Q E hr h => ?_)
  · obtain ⟨n, rfl, _⟩ := h
    rfl
  · obtain ⟨n, rfl, hn, q⟩ := h
    refine ⟨_, (pss_cons (ps_set (i := 1) sc_numeral.nd rfl (Or.inl rfl) (pe_lst pa_nil)) (pss_cons (ps_while PassesOwn.never (pt_cmpR op_ge (pv 0) (pe_op op_pow pe_int pe_int) (nomark _)) (pss_cons ps_never (pss_one ps_never))) (pss_cons (ps_expr (pe_bm PySem.F.plainAttrs_list PySem.F.slot_list_append PySem.F.type_list_append mt_append (pv 1) (pa_cons (pe_callTy cr_strI (by rfl) T.b_str (by decide +kernel) (pa_cons (pv 0) pa_nil)) pa_nil))) (pss_one (ps_ret (pe_join pe_str (pe_revL (pv 1)))))))), ?_⟩
    walk_at "g"
    refine ⟨len_lit rfl, fun p hp => ?_⟩
    walk_at "g"
    refine ⟨fun m σ' H' => σ' = _ ∧ H' = _, ⟨0, rfl, rfl⟩, ?_⟩
    rintro m σ' H' ⟨rfl, rfl⟩
    walk_at "g"
    refine g_I (by walk_at "pow") ?_
    walk_at "g"
    have hlt : (n : Int) < 10 ^ (60 : Int).toNat := by
      have e : (10 : Int) ^ (60 : Int).toNat = ((10 ^ 60 : Nat) : Int) := by decide
      rw [e]
      exact Int.ofNat_lt.mpr hn
    refine g_dec (fun h => absurd h (by omega)) (fun _ => ?_)
    walk_at "g"
    refine ⟨tyL upd_same, ?_⟩
    walk_at "g"
    refine g_strI (by rw [Int.natAbs_natCast]; exact Nat.lt_trans hn (by decide)) ?_
    walk_at "g"
    refine g_app upd_same (by decide) ?_
    walk_at "g"
    refine ⟨p, _, rfl, SqL.of upd_same, fun r hr' => ?_⟩
    have ez : txN (n : Int) = TL.numL n := by unfold txN; rw [if_neg (by omega), Int.natAbs_natCast]
    refine ⟨_, r, [S (TL.numL n)], rfl, rfl, .inl (SqL.of (by rw [upd_same, ez]; rfl)), ?_, ?_⟩
    · have := TL.numL_len (n := n) (k := 60) (by decide) hn
      show (S (TL.numL n)).length + 0 + (0 + 1) * (Str.ofString "").length ≤ 16777216
      rw [S_len]
      have e0 : (Str.ofString "").length = 0 := rfl
      omega
    · rw [show Txt.join (Str.ofString "") [S (TL.numL n)] = S (TL.numL n) from join_S [] [TL.numL n]]
      refine q _ (Ex.mut (Ex.mut (Ex.mut (Ex.refl H) hp) hp) (Ex.free (Ex.mut (Ex.mut (Ex.refl H) hp) hp) hr'))
theorem ok_from_numeral (T : Tx K mg a) : FnOk P w K mg base CX0 1 a.f_from_numeral a.d_from_numeral P_from_numeral spFromN := by
  refine def_ok0 T.F_from_numeral sc_from_numeral (fun vs H Q E h => ?_) (fun cdv A outer s H vs Q E hr h => ?_)
  · obtain ⟨l, rfl, _⟩ := h
    rfl
  · obtain ⟨l, rfl, hd, hl, q⟩ := h
    refine ⟨_, (pss_cons (ps_set (i := 1) sc_from_numeral.nd rfl (Or.inl rfl) (pe_op op_mod (pe_callB call_lenS (by rfl) T.b_len (by decide +kernel) (pa_cons (pv 0) pa_nil)) pe_int)) (pss_cons (ps_set (i := 2) sc_from_numeral.nd rfl (Or.inl rfl) (pe_callTy cr_intS (by rfl) T.b_int (by decide +kernel) (pa_cons (pe_op op_adS pe_str (pe_slice sl_str (pv 0) po_none (po_some (pv 1)))) pa_nil))) (pss_cons (ps_for PassesOwn.never rfl (pi_range3 (by rfl) T.b_range (pa_cons (pv 1) (pa_cons (pe_callB call_lenS (by rfl) T.b_len (by decide +kernel) (pa_cons (pv 0) pa_nil)) (pa_cons pe_int pa_nil)))) (pg_name (i := 3) sc_from_numeral.nd rfl (Or.inl rfl)) (pss_one ps_never)) (pss_one (ps_ret (pv 2)))))), ?_⟩
    walk_at "g"
    refine g_lenS (by omega) ?_
    walk_at "g"
    refine g_I (by decide) ?_
    walk_at "g"
    rw [show ((l.length : Int) % 60) = (l.length : Int) from Int.emod_eq_of_lt (by omega) (by omega)]
    refine g_slS (by omega) ((cut_to l l.length).trans (by rw [List.take_length])) ?_
    rw [show (Str.ofString "0") = S [48] from rfl]
    refine g_adS (by show 1 + l.length ≤ 100000; omega) ?_
    walk_at "g"
    refine g_intS (dig0 hd) (by show l.length + 1 ≤ 600; omega) ?_
    walk_at "g"
    refine g_lenS (by omega) ?_
    walk_at "g"
    refine ⟨_, _, _, 0, rfl, rg_none _ hl, lp_C (n := 0) (fun _ σ' H' => σ' = _ ∧ H' = _) ⟨rfl, rfl⟩ (fun i σ H hi => absurd hi (by omega)) ?_⟩
    rintro σ' H' ⟨rfl, rfl⟩
    walk_at "g"
    exact q _ (Ex.refl _)
theorem ok_Ratio_text (T : Tx K mg a) : FnOk P w K mg base CX0 2 a.f_Ratio_text a.d_Ratio_text P_Ratio_text (spText a.C_Ratio) := by
  refine def_ok0 T.F_Ratio_text sc_Ratio_text (fun vs H Q E h => ?_) (fun cdv A outer s H vs Q E hr h => ?_)
  · obtain ⟨x, q, rfl, _⟩ := h
    rfl
  · obtain ⟨x, q, rfl, hx, h1, h2, z⟩ := h
    refine ⟨_, (pss_cons (ps_set (i := 1) sc_Ratio_text.nd rfl (Or.inl rfl) (pe_ifExp (pt_cmpR op_lt (pe_fld (pv 0) rfl) pe_int (nomark _)) pe_str pe_str)) (pss_cons (ps_set (i := 2) sc_Ratio_text.nd rfl (Or.inl rfl) (pe_op op_adS (pv 1) (pe_call (ok_numeral T) (hr.mono (by decide)) (by rfl) T.g_numeral T.F_numeral.kp (bd_numeral T) .nil pass0 (pa_cons (pe_callB cr_absI (by rfl) T.b_abs (by decide +kernel) (pa_cons (pe_fld (pv 0) rfl) pa_nil)) pa_nil)))) (pss_cons (ps_if (pt_cmpR op_eq (pe_fld (pv 0) rfl) pe_int (nomark _)) (pss_one (ps_ret (pv 2))) pss_nil) (pss_one (ps_ret (pe_op op_adS (pe_op op_adS (pv 2) pe_str) (pe_call (ok_numeral T) (hr.mono (by decide)) (by rfl) T.g_numeral T.F_numeral.kp (bd_numeral T) .nil pass0 (pa_cons (pe_fld (pv 0) rfl) pa_nil)))))))), ?_⟩
    walk_at "g"
    refine g_top T.R.cl T.R.nT hx ?_
    walk_at "g"
    have l1 := TL.numL_len (n := q.num.natAbs) (k := 60) (by decide) h1
    have l2 := TL.numL_len (n := q.den) (k := 60) (by decide) h2
    refine g_iteC (u := .str (S (if q.num < 0 then [45] else []))) (fun h => by rw [if_pos h]; rfl) (fun h => by rw [if_neg h]; rfl) ?_
    walk_at "g"
    refine g_top T.R.cl T.R.nT hx ?_
    walk_at "g"
    refine ⟨_, rfl, h1, fun H1 e1 => ?_⟩
    have hx1 := hx.mono e1
    refine g_adS (by split <;> simp <;> omega) ?_
    rw [txN_abs]
    have l3 : (txN q.num).length ≤ 61 := by
      rw [← txN_abs]; split <;> simp <;> omega
    walk_at "g"
    refine g_bottom T.R.cl T.R.nB hx1 ?_
    walk_at "g"
    refine g_dec (fun h => ?_) (fun h => ?_)
    · walk_at "g"
      rw [← txR_one h]
      exact z H1 e1
    · walk_at "g"
      rw [show (Str.ofString "/") = S [47] from rfl]
      refine g_adS (by show (txN q.num).length + 1 ≤ 100000; omega) ?_
      walk_at "g"
      refine g_bottom T.R.cl T.R.nB hx1 ?_
      walk_at "g"
      refine ⟨_, rfl, h2, fun H2 e2 => ?_⟩
      refine g_adS (by rw [List.length_append]; show (txN q.num).length + 1 + (TL.numL q.den).length ≤ 100000; omega) ?_
      rw [List.append_assoc]
      show Q (.str (S (txN q.num ++ 47 :: TL.numL q.den))) H2
      rw [← txR_more h]
      exact z H2 (e1.trans e2)
end
end Kx


set_option maxHeartbeats 4000000
namespace Kx
open PySem PySem.Spec PyProof.Rows L2 Fm SX
local macro_rules | `(tactic| walk_at "gv") => `(tactic| ((with_reducible refine' g_var ?gh ?_); (case gh => exact rfl)))
local macro_rules | `(tactic| walk_at "g1") => `(tactic| first
  | walk_at "gv"
  | with_reducible refine g_c ?_ | with_reducible refine g_op ?_ | with_reducible refine g_un ?_ | with_reducible refine g_I0 ?_ | with_reducible refine g_U ?_
  | with_reducible refine g_eqI ?_ | with_reducible refine g_neI ?_ | with_reducible refine g_eqS ?_ | with_reducible refine g_neS ?_
  | with_reducible refine g_test ?_ | with_reducible refine g_B ?_ | with_reducible refine g_bl ?_ | with_reducible refine g_not ?_ | with_reducible refine g_and ?_ | with_reducible refine g_or ?_
  | with_reducible refine g_andV ?_ | with_reducible refine g_orV ?_ | with_reducible refine g_notV ?_ | with_reducible refine g_chain ?_ | with_reducible refine g_if ?_ | with_reducible refine g_ifS ?_
  | with_reducible refine g_seq ?_ | with_reducible refine g_next ?_ | with_reducible refine g_break ?_ | with_reducible refine g_cont ?_ | with_reducible refine g_drop ?_ | with_reducible refine g_ret ?_ | with_reducible refine g_retN ?_
  | with_reducible refine g_asg ?_ | with_reducible refine g_name ?_ | with_reducible refine g_par ?_ | with_reducible refine g_par2 ?_ | with_reducible refine g_fld ?_ | with_reducible refine g_sfld ?_
  | with_reducible refine g_nil ?_ | with_reducible refine g_cons ?_ | with_reducible refine g_tup ?_ | with_reducible refine g_lst ?_ | with_reducible refine g_call ?_ | with_reducible refine g_meth ?_ | with_reducible refine g_make1 ?_ | with_reducible refine g_make ?_ | with_reducible refine g_cb ?_ | with_reducible refine g_sub ?_ | with_reducible refine g_m0 ?_ | with_reducible refine g_gcons ?_ | with_reducible refine g_gnil ?_ | with_reducible refine g_for ?_ | with_reducible refine g_lc ?_ | with_reducible refine g_ilist ?_ | with_reducible refine g_itup ?_ | with_reducible refine g_rng1 ?_ | with_reducible refine g_rng3 ?_ | with_reducible refine g_yes ?_ | with_reducible refine g_sl ?_ | with_reducible refine g_nopart ?_ | with_reducible refine g_part ?_ | with_reducible refine g_exI ?_ | with_reducible refine g_m1 ?_ | with_reducible refine g_isS ?_ | with_reducible refine g_bm ?_ | with_reducible refine g_revL ?_ | with_reducible refine g_absI ?_ | with_reducible refine g_intI ?_
  | with_reducible refine iteT ?_ | with_reducible refine iteF ?_ | with_reducible refine g_gcd ?_)
local macro_rules | `(tactic| walk_at "g") => `(tactic| (repeat (first | walk_at "g1" | dsimp only [cx_K, cx_Kn, b_nt, b_nf])))
local macro_rules | `(tactic| walk_at "mul") => `(tactic| exact mulA (a := 200) (b := 200) (by omega) (by omega) (by decide))
local macro_rules | `(tactic| walk_at "pow") => `(tactic| exact ⟨by omega, by omega, by omega⟩)

def spRead (C B : Addr) : Sp := fun vs H Q E => ∃ l : List Nat, vs = [.str (S l)] ∧ l.length < 60 ∧ (∀ q, rdP l = some q → ∀ v H', Ex H H' → RatV C H' v q → Q v H') ∧ (rdP l = none → ∀ H', Ex H H' → E (.ref B) none H')
section
variable {P : Program} {w : World} {K : PySem.W.Frag} {mg : Str → Option Value} {base : Heap} {a : Ad}
theorem ok_read_ratio (T : Tx K mg a) : FnOk P w K mg base (L2.CX P w) 5 a.f_read_ratio a.d_read_ratio P_read_ratio (spRead a.C_Ratio a.C_BadText) := by
  refine T.F_read_ratio.ok sc_read_ratio (fun vs H Q E h => ?_) (fun cdv A outer s H vs Q E hr h => ?_)
  · obtain ⟨l, rfl, _⟩ := h
    rfl
  · obtain ⟨l, rfl, hl, hq, hn⟩ := h
    refine ⟨_, (pss_cons (ps_asg (pe_partition (pv 0) pe_str) (pg_tup rfl (pgs_cons (pg_name (i := 1) sc_read_ratio.nd rfl (Or.inl rfl)) (pgs_cons (pg_name (i := 2) sc_read_ratio.nd rfl (Or.inl rfl)) (pgs_cons (pg_name (i := 3) sc_read_ratio.nd rfl (Or.inl rfl)) pgs_nil))))) (pss_cons (ps_set (i := 4) sc_read_ratio.nd rfl (Or.inl rfl) (pe_m1 PySem.F.slot_str_removeprefix PySem.F.type_str_removeprefix mt_removeprefix (pv 1) pe_str)) (pss_cons (ps_set (i := 5) sc_read_ratio.nd rfl (Or.inl rfl) (pe_ifExp (pt_cmpR op_eq (pv 2) pe_str (nomark _)) (pv 3) pe_str)) (pss_cons (ps_if (PW.pt (pw_or (pt_not (pt_val (pe_call (ok_has_digits_only T) (hr.mono (by decide)) (by rfl) T.g_has_digits_only T.F_has_digits_only.kp (bd_has_digits_only T) .nil pass0 (pa_cons (pv 4) pa_nil)))) (pw_or (pt_not (pt_val (pe_call (ok_has_digits_only T) (hr.mono (by decide)) (by rfl) T.g_has_digits_only T.F_has_digits_only.kp (bd_has_digits_only T) .nil pass0 (pa_cons (pv 5) pa_nil)))) (pw_or1 (pt_val (pe_m1 PySem.F.slot_str_startswith PySem.F.type_str_startswith mt_startswith (pv 5) pe_str)))))) (pss_one (ps_raise0 rfl (takes_of rfl rfl rfl rfl) T.x_BadText T.g_BadText rfl)) pss_nil) (pss_cons (ps_set (i := 6) sc_read_ratio.nd rfl (Or.inl rfl) (pe_make T.mk_Ratio (ok_Ratio_init T) (hr.mono (by decide)) (by rfl) T.g_Ratio (bd_Ratio_init T) .nil pass0 (pa_cons (pe_call (ok_from_numeral T) (hr.mono (by decide)) (by rfl) T.g_from_numeral T.F_from_numeral.kp (bd_from_numeral T) .nil pass0 (pa_cons (pv 4) pa_nil)) (pa_cons (pe_call (ok_from_numeral T) (hr.mono (by decide)) (by rfl) T.g_from_numeral T.F_from_numeral.kp (bd_from_numeral T) .nil pass0 (pa_cons (pv 5) pa_nil)) pa_nil)))) (pss_cons (ps_if (pt_val (pe_m1 PySem.F.slot_str_startswith PySem.F.type_str_startswith mt_startswith (pv 1) pe_str)) (pss_one (ps_set (i := 6) sc_read_ratio.nd rfl (Or.inl rfl) (pe_un (un_own T.m_Ratio_neg.at_ T.m_Ratio_neg.fn (ok_Ratio_neg T) (hr.mono (by decide)) (bd_Ratio_neg T) pass0) (pv 6)))) pss_nil) (pss_cons (ps_if (pt_cmpR op_ne (pe_meth0 (pv 6) T.R.cl T.m_Ratio_text (ok_Ratio_text T) (hr.mono (by decide)) (bd_Ratio_text T) .nil pass0) (pv 0) (nomark _)) (pss_one (ps_raise0 rfl (takes_of rfl rfl rfl rfl) T.x_BadText T.g_BadText rfl)) pss_nil) (pss_one (ps_ret (pv 6)))))))))), ?_⟩
    walk_at "g"
    have hl1 := part_len l
    have hl2 := body_len (hd l)
    have hl3 := bot_len hl
    have re := rdP_eq l
    refine ⟨_, _, rfl, rfl, rfl, by rw [S_len]; exact Nat.le_trans (Nat.le_of_lt hl) (by decide), fun p hp => ?_⟩
    rw [show (Str.ofString "/") = S [47] from rfl, part_S]
    refine g_gtup (SqT.of upd_same) rfl ?_
    have ex0 : Ex H (upd H p (.tup [.str (S (hd l)), .str (S (if strk l = true then [47] else [])), .str (S (tlp l))])) := Ex.new hp
    generalize (upd H p (.tup [.str (S (hd l)), .str (S (if strk l = true then [47] else [])), .str (S (tlp l))])) = G at ex0 ⊢
    walk_at "g"
    refine ⟨_, _, rfl, rfl, by rw [S_len]; exact Nat.le_trans (show _ ≤ 100 by omega) (by decide), ?_⟩
    rw [show (Str.ofString "-") = S [45] from rfl, remove_S]
    walk_at "g"
    rw [strk_dec]
    refine g_iteVC rfl ?_
    rw [show (if strk l = true then V.str (S (tlp l)) else V.str (Str.ofString "1")) = V.str (S (bot l)) by unfold bot; split <;> rfl]
    walk_at "g"
    refine ⟨_, rfl, fun H1 e1 => ?_⟩
    walk_at "g"
    refine g_ite (fun h => ?_) (fun h1 => ?_)
    · rw [Bool.not_eq_true'] at h
      rw [h] at re
      walk_at "g"
      exact hn (by rw [re]; rfl) H1 (ex0.trans e1)
    rw [Bool.not_eq_false'] at h1
    walk_at "g"
    refine ⟨_, rfl, fun H2 e2 => ?_⟩
    walk_at "g"
    refine g_ite (fun h => ?_) (fun h2 => ?_)
    · rw [Bool.not_eq_true'] at h
      rw [h, Bool.and_false] at re
      walk_at "g"
      exact hn (by rw [re]; rfl) H2 ((ex0.trans e1).trans e2)
    rw [Bool.not_eq_false'] at h2
    walk_at "g"
    refine ⟨_, _, rfl, rfl, ?_⟩
    rw [show (Str.ofString "0") = S [48] from rfl, starts_S]
    walk_at "g"
    refine g_dec (fun h => ?_) (fun h3 => ?_)
    · rw [decide_eq_true h, Bool.not_true, Bool.and_false] at re
      walk_at "g"
      exact hn (by rw [re]; rfl) H2 ((ex0.trans e1).trans e2)
    rw [h1, h2, decide_eq_false h3, Bool.not_false, Bool.and_true, Bool.and_true, if_pos rfl] at re
    have d1 := dv_lt60 h1 (by omega)
    have d2 := dv_lt60 h2 (by omega)
    have p2 : (dv (bot l) : Int) ≠ 0 := by have := dv_pos h2 h3; omega
    walk_at "g"
    refine ⟨_, rfl, h1, by omega, fun H3 e3 => ?_⟩
    walk_at "g"
    refine ⟨_, rfl, h2, by omega, fun H4 e4 => ?_⟩
    walk_at "g"
    have big : (10 : Nat) ^ 60 ≤ 2 ^ 200 := by decide
    refine use_initW (k := 200) p2 (by rw [Int.natAbs_natCast]; omega) (by rw [Int.natAbs_natCast]; omega) (by decide) fun vp H5 e5 hv => ?_
    have ex5 : Ex H H5 := ((((ex0.trans e1).trans e2).trans e3).trans e4).trans e5
    have hle := num_le (t := (dv (body (hd l)) : Int)) p2
    rw [Int.natAbs_natCast, Int.natAbs_natCast] at hle
    have sz : Sz 200 (Rat.divInt (dv (body (hd l)) : Int) (dv (bot l) : Int)) := ⟨by omega, by omega⟩
    have fin : ∀ (u : V) (q : Rat) (H6 : Hp), Ex H5 H6 → RatV a.C_Ratio H6 u q → q.num.natAbs < 10 ^ 60 → q.den < 10 ^ 60 → (rdP l = if txR q = l then some q else none) →
        ∀ H7, Ex H6 H7 → (if decide (txR q = l) = false then E (.ref a.C_BadText) none H7 else Q u H7) := by
      intro u q H6 e6 hu n1 n2 er H7 e7
      by_cases ht : txR q = l
      · rw [decide_eq_true ht, if_neg (by simp)]
        rw [if_pos ht] at er
        exact hq q er u H7 ((ex5.trans e6).trans e7) (hu.mono e7)
      · rw [decide_eq_false ht, if_pos rfl]
        rw [if_neg ht] at er
        exact hn er H7 ((ex5.trans e6).trans e7)
    walk_at "g"
    refine ⟨_, _, rfl, rfl, ?_⟩
    rw [starts_S]
    dsimp only at re
    walk_at "g"
    refine g_dec (fun h4 => ?_) (fun h4 => ?_)
    · rw [if_pos h4] at re
      walk_at "g"
      refine g_neg hv sz (by decide) fun u H6 e6 hu => ?_
      have n1 : (-(Rat.divInt (dv (body (hd l)) : Int) (dv (bot l) : Int))).num.natAbs < 10 ^ 60 := by rw [Rat.neg_num, Int.natAbs_neg]; omega
      have n2 : (-(Rat.divInt (dv (body (hd l)) : Int) (dv (bot l) : Int))).den < 10 ^ 60 := by rw [Rat.neg_den]; omega
      walk_at "g"
      refine g_methR hu (by decide +kernel) (by decide +kernel) ?_
      walk_at "g"
      refine ⟨_, _, rfl, hu, n1, n2, fun H7 e7 => ?_⟩
      walk_at "g"
      rw [neS]
      have fz := fin u _ H6 e6 hu n1 n2 re H7 e7
      refine g_ite (fun h => ?_) (fun h => ?_)
      · rw [Bool.not_eq_true'] at h
        rw [h, if_pos rfl] at fz
        walk_at "g"
        exact fz
      · rw [Bool.not_eq_false'] at h
        rw [h, if_neg (by simp)] at fz
        walk_at "g"
        exact fz
    · rw [if_neg h4] at re
      walk_at "g"
      refine g_methR hv (by decide +kernel) (by decide +kernel) ?_
      walk_at "g"
      refine ⟨_, _, rfl, hv, by omega, by omega, fun H7 e7 => ?_⟩
      walk_at "g"
      rw [neS]
      have fz := fin (.ref vp) _ H5 (Ex.refl H5) hv (by omega) (by omega) re H7 e7
      refine g_ite (fun h => ?_) (fun h => ?_)
      · rw [Bool.not_eq_true'] at h
        rw [h, if_pos rfl] at fz
        walk_at "g"
        exact fz
      · rw [Bool.not_eq_false'] at h
        rw [h, if_neg (by simp)] at fz
        walk_at "g"
        exact fz
end
end Kx


set_option maxHeartbeats 4000000
namespace Kx
open PySem PySem.Spec PyProof.Rows L2 Fm SX
local macro_rules | `(tactic| walk_at "gv") => `(tactic| ((with_reducible refine' g_var ?gh ?_); (case gh => exact rfl)))
local macro_rules | `(tactic| walk_at "g1") => `(tactic| first
  | walk_at "gv"
  | with_reducible refine g_c ?_ | with_reducible refine g_op ?_ | with_reducible refine g_un ?_ | with_reducible refine g_I0 ?_ | with_reducible refine g_U ?_
  | with_reducible refine g_eqI ?_ | with_reducible refine g_neI ?_ | with_reducible refine g_eqS ?_ | with_reducible refine g_neS ?_
  | with_reducible refine g_test ?_ | with_reducible refine g_B ?_ | with_reducible refine g_bl ?_ | with_reducible refine g_not ?_ | with_reducible refine g_and ?_ | with_reducible refine g_or ?_
  | with_reducible refine g_andV ?_ | with_reducible refine g_orV ?_ | with_reducible refine g_notV ?_ | with_reducible refine g_chain ?_ | with_reducible refine g_if ?_ | with_reducible refine g_ifS ?_
  | with_reducible refine g_seq ?_ | with_reducible refine g_next ?_ | with_reducible refine g_break ?_ | with_reducible refine g_cont ?_ | with_reducible refine g_drop ?_ | with_reducible refine g_ret ?_ | with_reducible refine g_retN ?_
  | with_reducible refine g_asg ?_ | with_reducible refine g_name ?_ | with_reducible refine g_par ?_ | with_reducible refine g_par2 ?_ | with_reducible refine g_fld ?_ | with_reducible refine g_sfld ?_
  | with_reducible refine g_nil ?_ | with_reducible refine g_cons ?_ | with_reducible refine g_tup ?_ | with_reducible refine g_lst ?_ | with_reducible refine g_call ?_ | with_reducible refine g_meth ?_ | with_reducible refine g_make1 ?_ | with_reducible refine g_make ?_ | with_reducible refine g_cb ?_ | with_reducible refine g_sub ?_ | with_reducible refine g_m0 ?_ | with_reducible refine g_gcons ?_ | with_reducible refine g_gnil ?_ | with_reducible refine g_for ?_ | with_reducible refine g_lc ?_ | with_reducible refine g_ilist ?_ | with_reducible refine g_itup ?_ | with_reducible refine g_rng1 ?_ | with_reducible refine g_rng3 ?_ | with_reducible refine g_yes ?_ | with_reducible refine g_sl ?_ | with_reducible refine g_nopart ?_ | with_reducible refine g_part ?_ | with_reducible refine g_exI ?_ | with_reducible refine g_m1 ?_ | with_reducible refine g_isS ?_ | with_reducible refine g_bm ?_ | with_reducible refine g_revL ?_ | with_reducible refine g_absI ?_ | with_reducible refine g_intI ?_
  | with_reducible refine iteT ?_ | with_reducible refine iteF ?_ | with_reducible refine g_gcd ?_)
local macro_rules | `(tactic| walk_at "g") => `(tactic| (repeat (first | walk_at "g1" | dsimp only [cx_K, cx_Kn, b_nt, b_nf])))
local macro_rules | `(tactic| walk_at "mul") => `(tactic| exact mulA (a := 200) (b := 200) (by omega) (by omega) (by decide))
local macro_rules | `(tactic| walk_at "pow") => `(tactic| exact ⟨by omega, by omega, by omega⟩)

section
variable {P : Program} {w : World} {K : PySem.W.Frag} {mg : Str → Option Value} {base : Heap} {a : Ad}
theorem ok_total (T : Tx K mg a) : FnOk P w K mg base CX0 5 a.f_total a.d_total P_total (spTotal K a.C_Ratio) := by
  refine def_ok0 T.F_total sc_total (fun vs H Q E h => ?_) (fun cdv A outer s H vs Q E hr h => ?_)
  · obtain ⟨p, xs, qs, k, rfl, _⟩ := h
    rfl
  · obtain ⟨p, xs, qs, k, rfl, hs, hn, hz, hzq, hk, q⟩ := h
    refine ⟨_, (pss_cons (ps_set (i := 1) sc_total.nd rfl (Or.inl rfl) (pe_make T.mk_Ratio (ok_Ratio_init T) (hr.mono (by decide)) (by rfl) T.g_Ratio (bd1_Ratio_init T).choose_spec.2 (bd1_Ratio_init T).choose_spec.1 pass0 (pa_cons pe_int pa_nil))) (pss_cons (ps_for PassesOwn.never rfl (pi_seq (pv 0)) (pg_name (i := 2) sc_total.nd rfl (Or.inl rfl)) (pss_one (ps_set (i := 1) sc_total.nd rfl (Or.inl rfl) (pe_op (op_own T.o_add (ok_Ratio_add T) (hr.mono (by decide)) (bd_Ratio_add T) pass0) (pv 1) (pv 2))))) (pss_one (ps_ret (pv 1))))), ?_⟩
    walk_at "g"
    refine use_initW (k := 2) (by decide) (by decide) (by decide) (by decide) fun r H1 e1 hr1 => ?_
    walk_at "g"
    have z0 : Rat.divInt 0 1 = 0 := by rw [Rat.zero_divInt]
    rw [z0] at hr1
    have turn : ∀ (i : Nat) (x : V) (σ' : L2.St) (H' : Hp) (rt : VK) (bk ct : L2.St → Hp → Prop), xs[i]? = some x → (∃ u vv, σ' = [some (.ref p), some u, vv] ∧ Ex H H' ∧ RatV a.C_Ratio H' u (sumR (qs.take i))) →
        gName 2 x σ' H' fun s2 H2 => tAsg (tOp (rOwn a.C_Ratio (spNum2 a.C_Ratio fun x1 x2 => x1 + x2) E0) (tVar 1) (tVar 2)) (gName 1) { nx := fun σ3 H3 => ∃ u vv, σ3 = [some (.ref p), some u, vv] ∧ Ex H H3 ∧ RatV a.C_Ratio H3 u (sumR (qs.take (i + 1))), rt := rt, bk := bk, ct := ct } s2 H2 := by
      rintro i x σ' H' rt bk ct hx ⟨u, vv, rfl, ex, hu⟩
      have hi : i < qs.length := by rw [← hn.1]; exact (List.getElem?_eq_some_iff.mp hx).1
      have hq : qs[i]? = some qs[i] := List.getElem?_eq_getElem hi
      walk_at "g"
      refine g_num2 hu ((hn.2 i x _ hx hq).mono ex) (hz i (Nat.le_of_lt hi)) (hzq _ (List.getElem_mem hi)) hk fun v H2 e2 hv => ?_
      walk_at "g"
      rw [← sumR_take hq] at hv
      exact ⟨v, some x, rfl, ex.trans e2, hv⟩
    have fin : ∀ σ' H', (∃ u vv, σ' = [some (.ref p), some u, vv] ∧ Ex H H' ∧ RatV a.C_Ratio H' u (sumR (qs.take xs.length))) → tRet (tVar 1) { nx := fun _ H' => Q .non H', rt := Q } σ' H' := by
      rintro σ' H' ⟨u, vv, rfl, ex, hu⟩
      walk_at "g"
      rw [hn.1, List.take_length] at hu
      exact q u H' ex hu
    rcases hs with hs | hs
    · left
      walk_at "g"
      refine ⟨p, rfl, ⟨xs, hs.ext e1⟩, lp_L (xs := xs) (fun i σ' H' => ∃ u vv, σ' = [some (.ref p), some u, vv] ∧ Ex H H' ∧ RatV a.C_Ratio H' u (sumR (qs.take i))) ⟨_, _, rfl, e1, hr1⟩ (fun i σ' H' _ ⟨_, _, _, ex, _⟩ => hs.ext ex) (fun i x σ' H' hx hP => turn i x σ' H' _ _ _ hx hP) fin⟩
    · right
      walk_at "g"
      refine ⟨p, rfl, ⟨xs, hs.ext e1⟩, lp_T (xs := xs) (fun i σ' H' => ∃ u vv, σ' = [some (.ref p), some u, vv] ∧ Ex H H' ∧ RatV a.C_Ratio H' u (sumR (qs.take i))) ⟨_, _, rfl, e1, hr1⟩ (fun i σ' H' _ ⟨_, _, _, ex, _⟩ => hs.ext ex) (fun i x σ' H' hx hP => turn i x σ' H' _ _ _ hx hP) fin⟩
end
end Kx


set_option maxHeartbeats 4000000
namespace Kx
open PySem PySem.Spec PyProof.Rows L2 Fm
local macro_rules | `(tactic| walk_at "gv") => `(tactic| ((with_reducible refine' g_var ?gh ?_); (case gh => exact rfl)))
local macro_rules | `(tactic| walk_at "g1") => `(tactic| first
  | walk_at "gv"
  | with_reducible refine g_c ?_ | with_reducible refine g_op ?_ | with_reducible refine g_un ?_ | with_reducible refine g_I0 ?_ | with_reducible refine g_U ?_
  | with_reducible refine g_eqI ?_ | with_reducible refine g_neI ?_ | with_reducible refine g_eqS ?_ | with_reducible refine g_neS ?_
  | with_reducible refine g_test ?_ | with_reducible refine g_B ?_ | with_reducible refine g_bl ?_ | with_reducible refine g_not ?_ | with_reducible refine g_and ?_ | with_reducible refine g_or ?_
  | with_reducible refine g_andV ?_ | with_reducible refine g_orV ?_ | with_reducible refine g_notV ?_ | with_reducible refine g_chain ?_ | with_reducible refine g_if ?_ | with_reducible refine g_ifS ?_
  | with_reducible refine g_seq ?_ | with_reducible refine g_next ?_ | with_reducible refine g_break ?_ | with_reducible refine g_cont ?_ | with_reducible refine g_drop ?_ | with_reducible refine g_ret ?_ | with_reducible refine g_retN ?_
  | with_reducible refine g_asg ?_ | with_reducible refine g_name ?_ | with_reducible refine g_par ?_ | with_reducible refine g_par2 ?_ | with_reducible refine g_fld ?_ | with_reducible refine g_sfld ?_
  | with_reducible refine g_nil ?_ | with_reducible refine g_cons ?_ | with_reducible refine g_tup ?_ | with_reducible refine g_lst ?_ | with_reducible refine g_call ?_ | with_reducible refine g_meth ?_ | with_reducible refine g_make1 ?_ | with_reducible refine g_make ?_ | with_reducible refine g_cb ?_ | with_reducible refine g_sub ?_ | with_reducible refine g_absI ?_ | with_reducible refine g_intI ?_
  | with_reducible refine iteT ?_ | with_reducible refine iteF ?_ | with_reducible refine g_gcd ?_)
local macro_rules | `(tactic| walk_at "g") => `(tactic| (repeat (first | walk_at "g1" | dsimp only [cx_K, cx_Kn, b_nt, b_nf])))
local macro_rules | `(tactic| walk_at "mul") => `(tactic| exact mulA (a := 200) (b := 200) (by omega) (by omega) (by decide))
local macro_rules | `(tactic| walk_at "pow") => `(tactic| exact ⟨by omega, by omega, by omega⟩)

section
variable {P : Program} {w : World} {K : PySem.W.Frag} {mg : Str → Option Value} {base : Heap} {a : Ad}
theorem ok_Ltape (T : Tx K mg a) : FnOk P w K mg base CX0 1 a.f_Ltape a.d_Ltape P_Ltape (spTape K) := by
  refine T.F_Ltape.ok sc_Ltape (fun vs H Q E h => ?_) (fun cdv A outer s H vs Q E hr h => ?_)
  · obtain ⟨p, ns, k, rfl, _⟩ := h
    rfl
  · obtain ⟨p, ns, k, rfl, hs, hk, q⟩ := h
    refine ⟨_, (pss_cons (ps_set (i := 2) sc_Ltape.nd rfl (Or.inl rfl) pe_int) (pss_cons (ps_if (pt_cmpR op_lt (pv 1) (pe_callB call_lenQ (by rfl) T.b_len (by decide +kernel) (pa_cons (pv 0) pa_nil)) (nomark _)) (pss_one (ps_set (i := 2) sc_Ltape.nd rfl (Or.inl rfl) (pe_ix ix_list (pv 0) (pv 1) (fun _ _ => rfl)))) pss_nil) (pss_one (ps_ret (pe_lst (pa_cons (pe_callB cr_absI (by rfl) T.b_abs (by decide +kernel) (pa_cons (pv 2) pa_nil)) (pa_cons (pe_op op_add (pe_op op_mulW pe_int (pv 1)) pe_int) pa_nil))))))), ?_⟩
    walk_at "g"
    refine g_lenL hs ?_
    walk_at "g"
    have fin : ∀ z : Int, ∀ l, H l = none → Q (.ref l) (upd H l (.lst [.int ((z.natAbs : Nat) : Int), .int (7919 * (k : Int) + 15485863)])) := fun z l hl =>
      q l _ hl (Ex.new hl) ⟨_, _, by omega, by omega, by omega, upd_same⟩
    refine g_dec (fun hlt => ?_) (fun _ => ?_)
    · walk_at "g"
      rw [List.length_map] at hlt
      have hkn : k < ns.length := by omega
      refine g_ixL hs (atI_nat (by rw [List.getElem?_map, List.getElem?_eq_getElem hkn]; rfl)) ?_
      walk_at "g"
      refine g_I (by walk_at "mul") ?_
      walk_at "g"
      exact ⟨len_lit rfl, fun l hl => fin _ l hl⟩
    · walk_at "g"
      refine g_I (by walk_at "mul") ?_
      walk_at "g"
      exact ⟨len_lit rfl, fun l hl => fin 0 l hl⟩
theorem ok_Lpick (T : Tx K mg a) : FnOk P w K mg base CX0 1 a.f_Lpick a.d_Lpick P_Lpick spPick := by
  refine T.F_Lpick.ok sc_Lpick (fun vs H Q E h => ?_) (fun cdv A outer s H vs Q E hr h => ?_)
  · obtain ⟨p, m, rfl, _⟩ := h
    rfl
  · obtain ⟨p, m, rfl, h0, h1, ⟨t0, t1, a0, a1, a2, hp⟩, q⟩ := h
    refine ⟨_, (pss_cons (ps_if (pt_cmpR op_ge (pe_ix ix_list (pv 0) pe_int (fun _ _ => rfl)) (pe_op op_pow pe_int pe_int) (nomark _)) (pss_cons (ps_set (i := 2) sc_Lpick.nd rfl (Or.inl rfl) (pe_op op_mod (pe_callTy cr_intI (by rfl) T.b_int (by decide +kernel) (pa_cons (pe_ix ix_list (pv 0) pe_int (fun _ _ => rfl)) pa_nil)) (pv 1))) (pss_cons (ps_asg (pe_op op_fdivA (pe_ix ix_list (pv 0) pe_int (fun _ _ => rfl)) (pv 1)) (pg_sub (pv 0) pe_int set_list)) (pss_one (ps_ret (pv 2))))) pss_nil) (pss_cons (ps_asg (pe_op op_mod (pe_callTy cr_intI (by rfl) T.b_int (by decide +kernel) (pa_cons (pe_op op_add (pe_op op_add (pe_op op_mulW (pe_ix ix_list (pv 0) pe_int (fun _ _ => rfl)) pe_int) (pe_op op_mulW (pe_ix ix_list (pv 0) pe_int (fun _ _ => rfl)) pe_int)) pe_int) pa_nil)) pe_int) (pg_sub (pv 0) pe_int set_list)) (pss_cons (ps_set (i := 3) sc_Lpick.nd rfl (Or.inl rfl) (pe_op op_mod (pe_callTy cr_intI (by rfl) T.b_int (by decide +kernel) (pa_cons (pe_op op_add (pe_op op_add (pe_op op_mulW (pe_ix ix_list (pv 0) pe_int (fun _ _ => rfl)) (pe_ix ix_list (pv 0) pe_int (fun _ _ => rfl))) (pe_op op_mulW (pe_ix ix_list (pv 0) pe_int (fun _ _ => rfl)) pe_int)) pe_int) pa_nil)) pe_int)) (pss_one (ps_ret (pe_op op_mod (pe_callTy cr_intI (by rfl) T.b_int (by decide +kernel) (pa_cons (pe_op op_fdivA (pv 3) pe_int) pa_nil)) (pv 1))))))), ?_⟩
    walk_at "g"
    refine g_ixL (SqL.of hp) (atI_nat (j := 0) rfl) ?_
    walk_at "g"
    refine g_I (by walk_at "pow") ?_
    walk_at "g"
    refine g_dec (fun hge => ?_) (fun hlt => ?_)
    · walk_at "g"
      refine g_ixL (SqL.of hp) (atI_nat (j := 0) rfl) ?_
      walk_at "g"
      refine g_I h0 ?_
      walk_at "g"
      refine g_ixL (SqL.of hp) (atI_nat (j := 0) rfl) ?_
      walk_at "g"
      refine g_I (divA (k := 100) (by omega) (by omega) (by decide)) ?_
      walk_at "g"
      refine g_setL (j := 0) hp rfl ?_
      walk_at "g"
      refine q _ _ (Int.emod_nonneg _ (by omega)) (Int.emod_lt_of_pos _ h0) Mo.set ⟨_, _, ?_, a1, a2, upd_same⟩
      rw [Int.fdiv_eq_ediv_of_nonneg _ (by omega)]
      exact Int.ediv_nonneg a0 (by omega)
    · have hs : t0 < 2 ^ 64 := by
        have : ¬ ((10 : Int) ^ (18 : Int).toNat ≤ t0) := hlt
        have e : (10 : Int) ^ (18 : Int).toNat = 1000000000000000000 := by decide
        omega
      walk_at "g"
      refine g_ixL (SqL.of hp) (atI_nat (j := 1) rfl) ?_
      walk_at "g"
      refine g_I (by walk_at "mul") ?_
      walk_at "g"
      refine g_ixL (SqL.of hp) (atI_nat (j := 0) rfl) ?_
      walk_at "g"
      refine g_I (by walk_at "mul") ?_
      walk_at "g"
      refine g_I (by decide) ?_
      walk_at "g"
      refine g_setL (j := 1) hp rfl ?_
      have b0 : 0 ≤ (t1 * 48271 + t0 * 69621 + 29) % 2147483647 := Int.emod_nonneg _ (by decide)
      have b1 : (t1 * 48271 + t0 * 69621 + 29) % 2147483647 < 2147483647 := Int.emod_lt_of_pos _ (by decide)
      generalize (t1 * 48271 + t0 * 69621 + 29) % 2147483647 = u1 at b0 b1 ⊢
      have hp1 : (upd H p (.lst ([V.int t0, V.int t1].set 1 (.int u1)))) p = some (.lst [.int t0, .int u1]) := upd_same
      walk_at "g"
      refine g_ixL (SqL.of hp1) (atI_nat (j := 1) rfl) ?_
      walk_at "g"
      refine g_ixL (SqL.of hp1) (atI_nat (j := 1) rfl) ?_
      walk_at "g"
      refine g_I (by walk_at "mul") ?_
      walk_at "g"
      refine g_ixL (SqL.of hp1) (atI_nat (j := 1) rfl) ?_
      walk_at "g"
      refine g_I (by walk_at "mul") ?_
      walk_at "g"
      refine g_I (by decide) ?_
      walk_at "g"
      refine g_I (divA (k := 100) (by decide) (by decide) (by decide)) ?_
      walk_at "g"
      refine g_I h0 ?_
      exact q _ _ (Int.emod_nonneg _ (by omega)) (Int.emod_lt_of_pos _ h0) Mo.set ⟨_, _, a0, b0, by omega, hp1⟩
end
end Kx


set_option maxHeartbeats 4000000
namespace Kx
open PySem PySem.Spec PyProof.Rows L2 Fm SX
local macro_rules | `(tactic| walk_at "gv") => `(tactic| ((with_reducible refine' g_var ?gh ?_); (case gh => exact rfl)))
local macro_rules | `(tactic| walk_at "g1") => `(tactic| first
  | walk_at "gv"
  | with_reducible refine g_c ?_ | with_reducible refine g_op ?_ | with_reducible refine g_un ?_ | with_reducible refine g_I0 ?_ | with_reducible refine g_U ?_
  | with_reducible refine g_eqI ?_ | with_reducible refine g_neI ?_ | with_reducible refine g_eqS ?_ | with_reducible refine g_neS ?_
  | with_reducible refine g_test ?_ | with_reducible refine g_B ?_ | with_reducible refine g_bl ?_ | with_reducible refine g_not ?_ | with_reducible refine g_and ?_ | with_reducible refine g_or ?_
  | with_reducible refine g_andV ?_ | with_reducible refine g_orV ?_ | with_reducible refine g_notV ?_ | with_reducible refine g_chain ?_ | with_reducible refine g_if ?_ | with_reducible refine g_ifS ?_
  | with_reducible refine g_seq ?_ | with_reducible refine g_next ?_ | with_reducible refine g_break ?_ | with_reducible refine g_cont ?_ | with_reducible refine g_drop ?_ | with_reducible refine g_ret ?_ | with_reducible refine g_retN ?_
  | with_reducible refine g_asg ?_ | with_reducible refine g_name ?_ | with_reducible refine g_par ?_ | with_reducible refine g_par2 ?_ | with_reducible refine g_fld ?_ | with_reducible refine g_sfld ?_
  | with_reducible refine g_nil ?_ | with_reducible refine g_cons ?_ | with_reducible refine g_tup ?_ | with_reducible refine g_lst ?_ | with_reducible refine g_call ?_ | with_reducible refine g_meth ?_ | with_reducible refine g_make1 ?_ | with_reducible refine g_make ?_ | with_reducible refine g_cb ?_ | with_reducible refine g_sub ?_ | with_reducible refine g_m0 ?_ | with_reducible refine g_gcons ?_ | with_reducible refine g_gnil ?_ | with_reducible refine g_for ?_ | with_reducible refine g_lc ?_ | with_reducible refine g_ilist ?_ | with_reducible refine g_itup ?_ | with_reducible refine g_rng1 ?_ | with_reducible refine g_rng3 ?_ | with_reducible refine g_yes ?_ | with_reducible refine g_sl ?_ | with_reducible refine g_nopart ?_ | with_reducible refine g_part ?_ | with_reducible refine g_exI ?_ | with_reducible refine g_m1 ?_ | with_reducible refine g_isS ?_ | with_reducible refine g_bm ?_ | with_reducible refine g_revL ?_ | with_reducible refine g_absI ?_ | with_reducible refine g_intI ?_
  | with_reducible refine iteT ?_ | with_reducible refine iteF ?_ | with_reducible refine g_gcd ?_)
local macro_rules | `(tactic| walk_at "g") => `(tactic| (repeat (first | walk_at "g1" | dsimp only [cx_K, cx_Kn, b_nt, b_nf])))
local macro_rules | `(tactic| walk_at "mul") => `(tactic| exact mulA (a := 200) (b := 200) (by omega) (by omega) (by decide))
local macro_rules | `(tactic| walk_at "pow") => `(tactic| exact ⟨by omega, by omega, by omega⟩)

def spDivisor : Sp := fun vs H Q _ => ∃ x y : Int, vs = [.int x, .int y] ∧ ∀ H', Ex H H' → Q (.int ((Nat.gcd x.natAbs y.natAbs : Nat) : Int)) H'
section
variable {P : Program} {w : World} {K : PySem.W.Frag} {mg : Str → Option Value} {base : Heap} {a : Ad}
theorem ok_Ldivisor (T : Tx K mg a) : FnOk P w K mg base CX0 1 a.f_Ldivisor a.d_Ldivisor P_Ldivisor spDivisor := by
  refine def_ok0 T.F_Ldivisor sc_Ldivisor (fun vs H Q E h => ?_) (fun cdv A outer s H vs Q E hr h => ?_)
  · obtain ⟨x, y, rfl, _⟩ := h
    rfl
  · obtain ⟨x, y, rfl, q⟩ := h
    refine ⟨_, (pss_cons (ps_par (i := 0) (j := 1) (by rfl) sc_Ldivisor.nd rfl rfl (by decide) rfl rfl (pa_cons (pe_callB cr_absI (by rfl) T.b_abs (by decide +kernel) (pa_cons (pv 0) pa_nil)) (pa_cons (pe_callB cr_absI (by rfl) T.b_abs (by decide +kernel) (pa_cons (pv 1) pa_nil)) pa_nil)) (by rfl)) (pss_cons (ps_while PassesOwn.never (pt_cmpR op_gt (pv 1) pe_int (nomark _)) (pss_one (ps_par (i := 0) (j := 1) (by rfl) sc_Ldivisor.nd rfl rfl (by decide) rfl rfl (pa_cons (pv 1) (pa_cons (pe_op op_mod (pv 0) (pv 1)) pa_nil)) (by rfl)))) (pss_one (ps_ret (pv 0))))), ?_⟩
    walk_at "g"
    refine ⟨fun m σ' H' => ∃ i j : Nat, m = j ∧ σ' = [some (.int (i : Int)), some (.int (j : Int))] ∧ H' = H ∧ Nat.gcd i j = Nat.gcd x.natAbs y.natAbs, ⟨_, _, _, rfl, rfl, rfl, rfl⟩, ?_⟩
    rintro m σ' H' ⟨i, j, rfl, rfl, rfl, hg⟩
    walk_at "g"
    refine g_dec (fun h => ?_) (fun h => ?_)
    · refine ⟨fun s2 H2 => s2 = [some (.int (m : Int)), some (.int ((i % m : Nat) : Int))] ∧ H2 = H', ?_, ?_⟩
      · rintro σ' H' ⟨rfl, rfl⟩
        refine ⟨i % m, Nat.mod_lt _ (by omega), m, i % m, rfl, rfl, rfl, ?_⟩
        rw [← hg, Nat.gcd_comm m, ← Nat.gcd_rec, Nat.gcd_comm]
      · walk_at "g"
        refine g_I h ?_
        walk_at "g"
        exact ⟨by rw [Int.natCast_emod]; rfl, rfl⟩
    · walk_at "g"
      have e : m = 0 := by omega
      subst e
      rw [Nat.gcd_zero_right] at hg
      rw [hg]
      exact q _ (Ex.refl _)
theorem ok_Lis (T : Tx K mg a) : FnOk P w K mg base CX0 3 a.f_Lis a.d_Lis P_Lis (spLis a.C_Ratio) := by
  refine def_ok0 T.F_Lis sc_Lis (fun vs H Q E h => ?_) (fun cdv A outer s H vs Q E hr h => ?_)
  · obtain ⟨x, q, u, p, rfl, _⟩ := h
    rfl
  · obtain ⟨x, q, u, p, rfl, hx, he, h1, h2, hu, hp, z⟩ := h
    have l1 := TL.numL_len (n := q.num.natAbs) (k := 60) (by decide) h1
    have l2 := TL.numL_len (n := q.den) (k := 60) (by decide) h2
    have l3 : (txN q.num).length ≤ 61 := by rw [← txN_abs]; split <;> simp <;> omega
    refine ⟨_, (pss_cons (ps_if (PW.pt (pw_or (pt_not (pt_val (pe_callB call_isi (by rfl) T.b_isinstance (by decide +kernel) (pa_cons (pv 0) (pa_cons (pe_glob (v := .ref a.C_Ratio) rfl T.g_Ratio rfl) pa_nil))))) (pw_or (pt_cmpR op_lt (pe_fld (pv 0) rfl) pe_int (nomark _)) (pw_or1 (pt_cmpR op_ne (pe_call (ok_Ldivisor T) (hr.mono (by decide)) (by rfl) T.g_Ldivisor T.F_Ldivisor.kp (bd_Ldivisor T) .nil pass0 (pa_cons (pe_fld (pv 0) rfl) (pa_cons (pe_fld (pv 0) rfl) pa_nil))) pe_int (nomark _)))))) (pss_one (ps_ret pe_bl)) pss_nil) (pss_cons (ps_set (i := 3) sc_Lis.nd rfl (Or.inl rfl) (pe_op op_adS (pe_callTy cr_strI (by rfl) T.b_str (by decide +kernel) (pa_cons (pe_fld (pv 0) rfl) pa_nil)) (pe_ifExp (pt_cmpR op_ne (pe_fld (pv 0) rfl) pe_int (nomark _)) (pe_op op_adS pe_str (pe_callTy cr_strI (by rfl) T.b_str (by decide +kernel) (pa_cons (pe_fld (pv 0) rfl) pa_nil))) pe_str))) (pss_one (ps_ret (pe_and (pe_cmpR op_eq (pe_op op_mulW (pe_fld (pv 0) rfl) (pv 2)) (pe_op op_mulW (pv 1) (pe_fld (pv 0) rfl)) (nomark _)) (pe_one (pe_cmpR op_eq (pe_meth0 (pv 0) T.R.cl T.m_Ratio_text (ok_Ratio_text T) (hr.mono (by decide)) (bd_Ratio_text T) .nil pass0) (pv 3) (nomark _)))))))), ?_⟩
    walk_at "g"
    refine g_isi (ty_rat T.R hx) (.own _) (kit_own T.R .own) ?_
    walk_at "g"
    refine g_ite (fun h => by simp at h) (fun _ => ?_)
    walk_at "g"
    refine g_bottom T.R.cl T.R.nB hx ?_
    walk_at "g"
    refine g_dec (fun h => absurd h (by have := q.den_pos; omega)) (fun _ => ?_)
    walk_at "g"
    refine g_top T.R.cl T.R.nT hx ?_
    walk_at "g"
    refine g_bottom T.R.cl T.R.nB hx ?_
    walk_at "g"
    refine ⟨_, _, rfl, fun H1 e1 => ?_⟩
    have hx1 := hx.mono e1
    rw [Int.natAbs_natCast, q.reduced]
    walk_at "g"
    refine g_ite (fun h => by simp at h) (fun _ => ?_)
    walk_at "g"
    refine g_top T.R.cl T.R.nT hx1 ?_
    walk_at "g"
    refine g_strI (Nat.lt_trans h1 (by decide)) ?_
    walk_at "g"
    refine g_bottom T.R.cl T.R.nB hx1 ?_
    walk_at "g"
    by_cases hd : ((q.den : Nat) : Int) = 1
    · rw [decide_eq_true hd]
      walk_at "g"
      rw [show (Str.ofString "") = S [] from rfl]
      refine g_adS (by show (txN q.num).length + 0 ≤ 100000; omega) ?_
      rw [List.append_nil, ← txR_one hd]
      walk_at "g"
      refine g_top T.R.cl T.R.nT hx1 ?_
      walk_at "g"
      refine g_I (mulA (a := 200) (b := 250) (by omega) hp (by decide)) ?_
      walk_at "g"
      refine g_bottom T.R.cl T.R.nB hx1 ?_
      refine g_I (mulA (a := 250) (b := 200) hu (by rw [den_abs]; omega) (by decide)) ?_
      walk_at "g"
      rw [decide_eq_true he]
      walk_at "g"
      refine g_methR hx1 (by decide +kernel) (by decide +kernel) ?_
      walk_at "g"
      refine ⟨_, _, rfl, hx1, h1, h2, fun H2 e2 => ?_⟩
      walk_at "g"
      rw [decide_eq_true rfl]
      exact z H2 (e1.trans e2)
    · rw [decide_eq_false hd]
      walk_at "g"
      refine g_bottom T.R.cl T.R.nB hx1 ?_
      walk_at "g"
      refine g_strI (by rw [den_abs]; exact Nat.lt_trans h2 (by decide)) ?_
      have ed : txN ((q.den : Nat) : Int) = TL.numL q.den := by unfold txN; rw [if_neg (by omega), Int.natAbs_natCast]
      rw [ed, show (Str.ofString "/") = S [47] from rfl]
      refine g_adS (by show 1 + (TL.numL q.den).length ≤ 100000; omega) ?_
      refine g_adS (by rw [List.length_append]; show (txN q.num).length + (1 + (TL.numL q.den).length) ≤ 100000; omega) ?_
      rw [show txN q.num ++ ([47] ++ TL.numL q.den) = txR q from (txR_more hd).symm]
      walk_at "g"
      refine g_top T.R.cl T.R.nT hx1 ?_
      walk_at "g"
      refine g_I (mulA (a := 200) (b := 250) (by omega) hp (by decide)) ?_
      walk_at "g"
      refine g_bottom T.R.cl T.R.nB hx1 ?_
      refine g_I (mulA (a := 250) (b := 200) hu (by rw [den_abs]; omega) (by decide)) ?_
      walk_at "g"
      rw [decide_eq_true he]
      walk_at "g"
      refine g_methR hx1 (by decide +kernel) (by decide +kernel) ?_
      walk_at "g"
      refine ⟨_, _, rfl, hx1, h1, h2, fun H2 e2 => ?_⟩
      walk_at "g"
      rw [decide_eq_true rfl]
      exact z H2 (e1.trans e2)
def spPair : Sp := fun vs H Q _ => ∃ (p : Addr), vs = [.ref p] ∧ TapeAt H p ∧ ∀ t u v H', Mo p H H' → TapeAt H' p → t ≠ p → H' t = some (.tup [.int u, .int v]) → -(10 ^ 11) ≤ u → u ≤ 10 ^ 11 → 1 ≤ v → v ≤ 10 ^ 11 → Q (.ref t) H'
theorem ok_Lpair (T : Tx K mg a) : FnOk P w K mg base CX0 2 a.f_Lpair a.d_Lpair P_Lpair spPair := by
  refine def_ok0 T.F_Lpair sc_Lpair (fun vs H Q E h => ?_) (fun cdv A outer s H vs Q E hr h => ?_)
  · obtain ⟨p, rfl, _⟩ := h
    rfl
  · obtain ⟨p, rfl, ht, z⟩ := h
    refine ⟨_, (pss_cons (ps_set (i := 1) sc_Lpair.nd rfl (Or.inl rfl) (pe_ix ix_list (pe_lst (pa_cons pe_int (pa_cons pe_int (pa_cons pe_int (pa_cons (pe_op op_pow pe_int pe_int) pa_nil))))) (pe_call (ok_Lpick T) (hr.mono (by decide)) (by rfl) T.g_Lpick T.F_Lpick.kp (bd_Lpick T) .nil pass0 (pa_cons (pv 0) (pa_cons pe_int pa_nil))) (fun _ _ => rfl))) (pss_one (ps_ret (pe_tup (pa_cons (pe_op op_sub (pe_call (ok_Lpick T) (hr.mono (by decide)) (by rfl) T.g_Lpick T.F_Lpick.kp (bd_Lpick T) .nil pass0 (pa_cons (pv 0) (pa_cons (pe_op op_mulW pe_int (pv 1)) pa_nil))) (pv 1)) (pa_cons (pe_op op_add pe_int (pe_call (ok_Lpick T) (hr.mono (by decide)) (by rfl) T.g_Lpick T.F_Lpick.kp (bd_Lpick T) .nil pass0 (pa_cons (pv 0) (pa_cons (pe_ix ix_list (pe_lst (pa_cons pe_int (pa_cons pe_int (pa_cons (pv 1) pa_nil)))) (pe_call (ok_Lpick T) (hr.mono (by decide)) (by rfl) T.g_Lpick T.F_Lpick.kp (bd_Lpick T) .nil pass0 (pa_cons (pv 0) (pa_cons pe_int pa_nil))) (fun _ _ => rfl)) pa_nil)))) pa_nil)))))), ?_⟩
    walk_at "g"
    refine g_I (by walk_at "pow") ?_
    walk_at "g"
    refine ⟨len_lit rfl, fun m hm => ?_⟩
    have tm : m ≠ p := fun e => by
      obtain ⟨_, _, _, _, _, h⟩ := ht
      rw [e] at hm
      rw [hm] at h
      cases h
    walk_at "g"
    refine use_pick (by decide) (by decide) (ht.mono (Ex.new hm)) fun d H1 d0 d4 m1 t1 => ?_
    have hm1 := m1 m _ upd_same tm
    obtain ⟨sz, s1, s2, hsz⟩ : ∃ sz : Int, 1 ≤ sz ∧ sz ≤ 10 ^ 11 ∧ atI [V.int 3, V.int 10, V.int 1000, V.int (10 ^ Int.toNat 11)] d = some (.int sz) := by
      have hd : d = 0 ∨ d = 1 ∨ d = 2 ∨ d = 3 := by omega
      rcases hd with rfl | rfl | rfl | rfl
      · exact ⟨3, by decide, by decide, rfl⟩
      · exact ⟨10, by decide, by decide, rfl⟩
      · exact ⟨1000, by decide, by decide, rfl⟩
      · exact ⟨10 ^ 11, by decide, by decide, rfl⟩
    refine g_ixL (SqL.of hm1) hsz ?_
    walk_at "g"
    refine g_I (by walk_at "mul") ?_
    walk_at "g"
    refine use_pick (by omega) (by omega) t1 fun d2 H2 b0 b1 m2 t2 => ?_
    walk_at "g"
    refine ⟨len_lit rfl, fun m' hm' => ?_⟩
    have tm' : m' ≠ p := fun e => by
      obtain ⟨_, _, _, _, _, h⟩ := t2
      rw [e] at hm'
      rw [hm'] at h
      cases h
    walk_at "g"
    refine use_pick (by decide) (by decide) (t2.mono (Ex.new hm')) fun d3 H3 c0 c1 m3 t3 => ?_
    have hm3 := m3 m' _ upd_same tm'
    obtain ⟨s3, r1, r2, hs3⟩ : ∃ s3 : Int, 1 ≤ s3 ∧ s3 ≤ 10 ^ 11 ∧ atI [V.int 1, V.int 4, V.int sz] d3 = some (.int s3) := by
      have hd : d3 = 0 ∨ d3 = 1 ∨ d3 = 2 := by omega
      rcases hd with rfl | rfl | rfl
      · exact ⟨1, by decide, by decide, rfl⟩
      · exact ⟨4, by decide, by decide, rfl⟩
      · exact ⟨sz, s1, s2, rfl⟩
    refine g_ixL (SqL.of hm3) hs3 ?_
    walk_at "g"
    refine use_pick (by omega) (by omega) t3 fun d4' H4 e0 e1 m4 t4 => ?_
    walk_at "g"
    refine ⟨len_lit rfl, fun t hT => ?_⟩
    have tp : t ≠ p := fun e => by
      obtain ⟨_, _, _, _, _, h⟩ := t4
      rw [e] at hT
      rw [hT] at h
      cases h
    refine z t _ _ _ ?_ (t4.mono (Ex.new hT)) tp upd_same (by omega) (by omega) (by omega) (by omega)
    exact ((((Ex.new hm).mo.trans m1).trans m2).trans (((Ex.new hm').mo).trans (m3.trans m4))).ex (Ex.new hT)
end
end Kx


set_option maxHeartbeats 4000000
namespace Kx
open PySem PySem.Spec PyProof.Rows L2 Fm SX
local macro_rules | `(tactic| walk_at "gv") => `(tactic| ((with_reducible refine' g_var ?gh ?_); (case gh => exact rfl)))
local macro_rules | `(tactic| walk_at "g1") => `(tactic| first
  | walk_at "gv"
  | with_reducible refine g_c ?_ | with_reducible refine g_op ?_ | with_reducible refine g_un ?_ | with_reducible refine g_I0 ?_ | with_reducible refine g_U ?_
  | with_reducible refine g_eqI ?_ | with_reducible refine g_neI ?_ | with_reducible refine g_eqS ?_ | with_reducible refine g_neS ?_
  | with_reducible refine g_test ?_ | with_reducible refine g_B ?_ | with_reducible refine g_bl ?_ | with_reducible refine g_not ?_ | with_reducible refine g_and ?_ | with_reducible refine g_or ?_
  | with_reducible refine g_andV ?_ | with_reducible refine g_orV ?_ | with_reducible refine g_notV ?_ | with_reducible refine g_chain ?_ | with_reducible refine g_if ?_ | with_reducible refine g_ifS ?_
  | with_reducible refine g_seq ?_ | with_reducible refine g_next ?_ | with_reducible refine g_break ?_ | with_reducible refine g_cont ?_ | with_reducible refine g_drop ?_ | with_reducible refine g_ret ?_ | with_reducible refine g_retN ?_
  | with_reducible refine g_asg ?_ | with_reducible refine g_name ?_ | with_reducible refine g_par ?_ | with_reducible refine g_par2 ?_ | with_reducible refine g_fld ?_ | with_reducible refine g_sfld ?_
  | with_reducible refine g_nil ?_ | with_reducible refine g_cons ?_ | with_reducible refine g_tup ?_ | with_reducible refine g_lst ?_ | with_reducible refine g_call ?_ | with_reducible refine g_meth ?_ | with_reducible refine g_make1 ?_ | with_reducible refine g_make ?_ | with_reducible refine g_cb ?_ | with_reducible refine g_sub ?_ | with_reducible refine g_m0 ?_ | with_reducible refine g_gcons ?_ | with_reducible refine g_gnil ?_ | with_reducible refine g_for ?_ | with_reducible refine g_lc ?_ | with_reducible refine g_ilist ?_ | with_reducible refine g_itup ?_ | with_reducible refine g_rng1 ?_ | with_reducible refine g_rng3 ?_ | with_reducible refine g_yes ?_ | with_reducible refine g_sl ?_ | with_reducible refine g_nopart ?_ | with_reducible refine g_part ?_ | with_reducible refine g_exI ?_ | with_reducible refine g_m1 ?_ | with_reducible refine g_isS ?_ | with_reducible refine g_bm ?_ | with_reducible refine g_revL ?_ | with_reducible refine g_absI ?_ | with_reducible refine g_intI ?_
  | with_reducible refine iteT ?_ | with_reducible refine iteF ?_ | with_reducible refine g_gcd ?_)
local macro_rules | `(tactic| walk_at "g") => `(tactic| (repeat (first | walk_at "g1" | dsimp only [cx_K, cx_Kn, b_nt, b_nf])))
local macro_rules | `(tactic| walk_at "mul") => `(tactic| exact mulA (a := 200) (b := 200) (by omega) (by omega) (by decide))
local macro_rules | `(tactic| walk_at "pow") => `(tactic| exact ⟨by omega, by omega, by omega⟩)

section
variable {P : Program} {w : World} {K : PySem.W.Frag} {mg : Str → Option Value} {base : Heap} {a : Ad}
theorem ok_Lpair_right (T : Tx K mg a) : FnOk P w K mg base CX0 6 a.f_Lpair_right a.d_Lpair_right P_Lpair_right (spPairR K a.C_Ratio) := by
  refine def_ok0 T.F_Lpair_right sc_Lpair_right (fun vs H Q E h => ?_) (fun cdv A outer s H vs Q E hr h => ?_)
  · obtain ⟨x, y, ta, tb, p, q, r, t, rfl, _⟩ := h
    rfl
  · obtain ⟨x, y, ta, tb, p, q, r, t, rfl, hx, hy, ha, hb, hq, ht, b1, b2, b3, b4, z⟩ := h
    have sx : Sz 70 (Rat.divInt p q) := Sz.divInt (by omega) (by omega) (by omega)
    have sy : Sz 70 (Rat.divInt r t) := Sz.divInt (by omega) (by omega) (by omega)
    refine ⟨_, (pss_cons (ps_asg (pv 2) (pg_tup rfl (pgs_cons (pg_name (i := 4) sc_Lpair_right.nd rfl (Or.inl rfl)) (pgs_cons (pg_name (i := 5) sc_Lpair_right.nd rfl (Or.inl rfl)) pgs_nil)))) (pss_cons (ps_asg (pv 3) (pg_tup rfl (pgs_cons (pg_name (i := 6) sc_Lpair_right.nd rfl (Or.inl rfl)) (pgs_cons (pg_name (i := 7) sc_Lpair_right.nd rfl (Or.inl rfl)) pgs_nil)))) (pss_cons (ps_if (PW.pt (pw_or (pt_not (pt_val (pe_call (ok_Lis T) (hr.mono (by decide)) (by rfl) T.g_Lis T.F_Lis.kp (bd_Lis T) .nil pass0 (pa_cons (pe_op (op_own T.o_add (ok_Ratio_add T) (hr.mono (by decide)) (bd_Ratio_add T) pass0) (pv 0) (pv 1)) (pa_cons (pe_op op_add (pe_op op_mulW (pv 4) (pv 7)) (pe_op op_mulW (pv 6) (pv 5))) (pa_cons (pe_op op_mulW (pv 5) (pv 7)) pa_nil)))))) (pw_or1 (pt_not (pt_val (pe_call (ok_Lis T) (hr.mono (by decide)) (by rfl) T.g_Lis T.F_Lis.kp (bd_Lis T) .nil pass0 (pa_cons (pe_op (op_own T.o_sub (ok_Ratio_sub T) (hr.mono (by decide)) (bd_Ratio_sub T) pass0) (pv 0) (pv 1)) (pa_cons (pe_op op_sub (pe_op op_mulW (pv 4) (pv 7)) (pe_op op_mulW (pv 6) (pv 5))) (pa_cons (pe_op op_mulW (pv 5) (pv 7)) pa_nil))))))))) (pss_one (ps_ret pe_bl)) pss_nil) (pss_cons (ps_if (PW.pt (pw_or (pt_not (pt_val (pe_call (ok_Lis T) (hr.mono (by decide)) (by rfl) T.g_Lis T.F_Lis.kp (bd_Lis T) .nil pass0 (pa_cons (pe_op (op_own T.o_mul (ok_Ratio_mul T) (hr.mono (by decide)) (bd_Ratio_mul T) pass0) (pv 0) (pv 1)) (pa_cons (pe_op op_mulW (pv 4) (pv 6)) (pa_cons (pe_op op_mulW (pv 5) (pv 7)) pa_nil)))))) (pw_or1 (pt_not (pt_val (pe_call (ok_Lis T) (hr.mono (by decide)) (by rfl) T.g_Lis T.F_Lis.kp (bd_Lis T) .nil pass0 (pa_cons (pe_un (un_own T.m_Ratio_neg.at_ T.m_Ratio_neg.fn (ok_Ratio_neg T) (hr.mono (by decide)) (bd_Ratio_neg T) pass0) (pv 0)) (pa_cons (pe_op op_sub pe_int (pv 4)) (pa_cons (pv 5) pa_nil))))))))) (pss_one (ps_ret pe_bl)) pss_nil) (pss_cons (ps_if (PW.pt (pw_and (pt_cmpR op_ne (pv 6) pe_int (nomark _)) (pw_and1 (pt_not (pt_val (pe_call (ok_Lis T) (hr.mono (by decide)) (by rfl) T.g_Lis T.F_Lis.kp (bd_Lis T) .nil pass0 (pa_cons (pe_meth (pv 0) T.R.cl T.m_Ratio_over (ok_Ratio_over T) (hr.mono (by decide)) (bd_Ratio_over T) .nil pass0 (pa_cons (pv 1) pa_nil)) (pa_cons (pe_op op_mulW (pv 4) (pv 7)) (pa_cons (pe_op op_mulW (pv 5) (pv 6)) pa_nil))))))))) (pss_one (ps_ret pe_bl)) pss_nil) (pss_cons (ps_if (PW.pt (pw_or (pt_cmpR op_ne (pe_cmpR (op_cmp (fun _ _ => rfl) T.p_lt (ok_Ratio_lt T) (hr.mono (by decide)) (bd_Ratio_lt T) pass0) (pv 0) (pv 1) (nomark _)) (pe_cmpR op_lt (pe_op op_mulW (pv 4) (pv 7)) (pe_op op_mulW (pv 6) (pv 5)) (nomark _)) (nomark _)) (pw_or1 (pt_cmpR op_ne (pe_cmpR (op_cmp (fun _ _ => rfl) T.p_le (ok_Ratio_le T) (hr.mono (by decide)) (bd_Ratio_le T) pass0) (pv 0) (pv 1) (nomark _)) (pe_cmpR op_le (pe_op op_mulW (pv 4) (pv 7)) (pe_op op_mulW (pv 6) (pv 5)) (nomark _)) (nomark _))))) (pss_one (ps_ret pe_bl)) pss_nil) (pss_one (ps_ret (pe_and (pe_cmpR op_eq (pe_cmpR (op_cmp (fun _ _ => rfl) T.p_eq (ok_Ratio_eq T) (hr.mono (by decide)) (bd_Ratio_eq T) pass0) (pv 0) (pv 1) (nomark _)) (pe_cmpR op_eq (pe_op op_mulW (pv 4) (pv 7)) (pe_op op_mulW (pv 6) (pv 5)) (nomark _)) (nomark _)) (pe_one (pe_cmpR op_eq (pe_cmpR (op_neOwn T.p_ne (ok_Ratio_eq T) (hr.mono (by decide)) (bd_Ratio_eq T) pass0) (pv 0) (pv 1) (nomark _)) (pe_cmpR op_ne (pe_op op_mulW (pv 4) (pv 7)) (pe_op op_mulW (pv 6) (pv 5)) (nomark _)) (nomark _)))))))))))), ?_⟩
    walk_at "g"
    refine g_gtup ha rfl ?_
    walk_at "g"
    refine g_gtup hb rfl ?_
    walk_at "g"
    have hqt : q * t ≠ 0 := Int.mul_ne_zero (by omega) (by omega)
    have w1 : (p * t).natAbs < 2 ^ 120 := abs_mul_lt b1 b4
    have w2 : (r * q).natAbs < 2 ^ 120 := abs_mul_lt b3 b2
    have w3 : (q * t).natAbs < 2 ^ 120 := abs_mul_lt b2 b4
    have w4 : (p * r).natAbs < 2 ^ 120 := abs_mul_lt b1 b3
    have w5 : (q * r).natAbs < 2 ^ 120 := abs_mul_lt b2 b3
    refine g_num2 hx hy sx sy (by decide) fun v1 H1 e1 h1 => ?_
    walk_at "g"
    refine g_I (by walk_at "mul") ?_
    walk_at "g"
    refine g_I (by walk_at "mul") ?_
    walk_at "g"
    refine g_I (by walk_at "mul") ?_
    walk_at "g"
    refine use_Lis h1 (add_div2 (by omega) (by omega)) hqt (by omega) (by omega) fun H2 e2 => ?_
    have x2 := e1.trans e2
    walk_at "g"
    refine g_num2 (hx.mono x2) (hy.mono x2) sx sy (by decide) fun v2 H3 e3 h3 => ?_
    walk_at "g"
    refine g_I (by walk_at "mul") ?_
    walk_at "g"
    refine g_I (by walk_at "mul") ?_
    walk_at "g"
    refine g_I (by walk_at "mul") ?_
    walk_at "g"
    refine use_Lis h3 (sub_div2 (by omega) (by omega)) hqt (by omega) (by omega) fun H4 e4 => ?_
    have x4 := (x2.trans e3).trans e4
    walk_at "g"
    refine g_num2 (hx.mono x4) (hy.mono x4) sx sy (by decide) fun v3 H5 e5 h5 => ?_
    walk_at "g"
    refine g_I (by walk_at "mul") ?_
    walk_at "g"
    refine g_I (by walk_at "mul") ?_
    walk_at "g"
    refine use_Lis h5 mul_div2 hqt (by omega) (by omega) fun H6 e6 => ?_
    have x6 := (x4.trans e5).trans e6
    walk_at "g"
    refine g_neg (hx.mono x6) sx (by decide) fun v4 H7 e7 h7 => ?_
    walk_at "g"
    refine use_Lis h7 (by rw [Rat.neg_divInt, Int.zero_sub]) (by omega) (by omega) (by omega) fun H8 e8 => ?_
    have x8 := (x6.trans e7).trans e8
    walk_at "g"
    refine g_guard (fun hr0 Q2 q2 => ?_) (fun h => ?_) ?_
    · have r0 : r ≠ 0 := by simpa using hr0
      walk_at "g"
      refine g_methR (hx.mono x8) (by decide +kernel) (by decide +kernel) ?_
      walk_at "g"
      refine ⟨x, y, _, _, 70, rfl, hx.mono x8, hy.mono x8, fun z => r0 ((divInt_zero' (by omega)).mp z), sx, sy, by decide, fun v5 H9 e9 h9 => ?_⟩
      walk_at "g"
      refine g_I (by walk_at "mul") ?_
      walk_at "g"
      refine g_I (by walk_at "mul") ?_
      walk_at "g"
      refine use_Lis h9 over_div2 (Int.mul_ne_zero (by omega) r0) (by omega) (by omega) fun Ha ea => ?_
      exact q2 Ha (e9.trans ea)
    · first
        | exact iteF h
        | exact h
    intro H9 x9'
    have x9 := x8.trans x9'
    walk_at "g"
    refine g_rel2 T.R (hx.mono x9) (hy.mono x9) sx sy (by decide) fun Ha ea => ?_
    walk_at "g"
    refine g_I (by walk_at "mul") ?_
    walk_at "g"
    refine g_I (by walk_at "mul") ?_
    walk_at "g"
    rw [show decide (Rat.divInt p q < Rat.divInt r t) = decide (p * t < r * q) from decide_eq_decide.mpr (divInt_lt hq ht)]
    refine g_neB ?_
    rw [decide_eq_true rfl]
    walk_at "g"
    refine g_rel2 T.R ((hx.mono x9).mono ea) ((hy.mono x9).mono ea) sx sy (by decide) fun Hb eb => ?_
    walk_at "g"
    refine g_I (by walk_at "mul") ?_
    walk_at "g"
    refine g_I (by walk_at "mul") ?_
    walk_at "g"
    rw [show decide (Rat.divInt p q ≤ Rat.divInt r t) = decide (p * t ≤ r * q) from decide_eq_decide.mpr (divInt_le hq ht)]
    refine g_neB ?_
    rw [decide_eq_true rfl]
    walk_at "g"
    have xb := (x9.trans ea).trans eb
    refine g_eqN T.R (hx.mono xb) (hy.mono xb) sy (by decide) fun Hc ec => ?_
    walk_at "g"
    refine g_I (by walk_at "mul") ?_
    walk_at "g"
    refine g_I (by walk_at "mul") ?_
    walk_at "g"
    have ee : decide (Rat.divInt p q = Rat.divInt r t) = decide (p * t = r * q) := decide_eq_decide.mpr (divInt_eq hq ht)
    rw [ee]
    refine g_eqB ?_
    rw [decide_eq_true rfl]
    walk_at "g"
    have xc := xb.trans ec
    refine g_neN T.R (hx.mono xc) (hy.mono xc) sy (by decide) fun Hd ed => ?_
    walk_at "g"
    refine g_I (by walk_at "mul") ?_
    walk_at "g"
    refine g_I (by walk_at "mul") ?_
    walk_at "g"
    rw [ee]
    refine g_eqB ?_
    rw [decide_eq_true rfl]
    exact z Hd (xc.trans ed)
end
end Kx


set_option maxHeartbeats 4000000
namespace Kx
open PySem PySem.Spec PyProof.Rows L2 Fm SX
local macro_rules | `(tactic| walk_at "gv") => `(tactic| ((with_reducible refine' g_var ?gh ?_); (case gh => exact rfl)))
local macro_rules | `(tactic| walk_at "g1") => `(tactic| first
  | walk_at "gv"
  | with_reducible refine g_c ?_ | with_reducible refine g_op ?_ | with_reducible refine g_un ?_ | with_reducible refine g_I0 ?_ | with_reducible refine g_U ?_
  | with_reducible refine g_eqI ?_ | with_reducible refine g_neI ?_ | with_reducible refine g_eqS ?_ | with_reducible refine g_neS ?_
  | with_reducible refine g_test ?_ | with_reducible refine g_B ?_ | with_reducible refine g_bl ?_ | with_reducible refine g_not ?_ | with_reducible refine g_and ?_ | with_reducible refine g_or ?_
  | with_reducible refine g_andV ?_ | with_reducible refine g_orV ?_ | with_reducible refine g_notV ?_ | with_reducible refine g_chain ?_ | with_reducible refine g_if ?_ | with_reducible refine g_ifS ?_
  | with_reducible refine g_seq ?_ | with_reducible refine g_next ?_ | with_reducible refine g_break ?_ | with_reducible refine g_cont ?_ | with_reducible refine g_drop ?_ | with_reducible refine g_ret ?_ | with_reducible refine g_retN ?_
  | with_reducible refine g_asg ?_ | with_reducible refine g_name ?_ | with_reducible refine g_par ?_ | with_reducible refine g_par2 ?_ | with_reducible refine g_fld ?_ | with_reducible refine g_sfld ?_
  | with_reducible refine g_nil ?_ | with_reducible refine g_cons ?_ | with_reducible refine g_tup ?_ | with_reducible refine g_lst ?_ | with_reducible refine g_call ?_ | with_reducible refine g_meth ?_ | with_reducible refine g_make1 ?_ | with_reducible refine g_make ?_ | with_reducible refine g_cb ?_ | with_reducible refine g_sub ?_ | with_reducible refine g_m0 ?_ | with_reducible refine g_gcons ?_ | with_reducible refine g_gnil ?_ | with_reducible refine g_for ?_ | with_reducible refine g_lc ?_ | with_reducible refine g_ilist ?_ | with_reducible refine g_itup ?_ | with_reducible refine g_rng1 ?_ | with_reducible refine g_rng3 ?_ | with_reducible refine g_yes ?_ | with_reducible refine g_sl ?_ | with_reducible refine g_nopart ?_ | with_reducible refine g_part ?_ | with_reducible refine g_exI ?_ | with_reducible refine g_m1 ?_ | with_reducible refine g_isS ?_ | with_reducible refine g_bm ?_ | with_reducible refine g_revL ?_ | with_reducible refine g_absI ?_ | with_reducible refine g_intI ?_
  | with_reducible refine iteT ?_ | with_reducible refine iteF ?_ | with_reducible refine g_gcd ?_)
local macro_rules | `(tactic| walk_at "g") => `(tactic| (repeat (first | walk_at "g1" | dsimp only [cx_K, cx_Kn, b_nt, b_nf])))
local macro_rules | `(tactic| walk_at "mul") => `(tactic| exact mulA (a := 200) (b := 200) (by omega) (by omega) (by decide))
local macro_rules | `(tactic| walk_at "pow") => `(tactic| exact ⟨by omega, by omega, by omega⟩)

theorem exm_self {K : PySem.W.Frag} {S : Addr} (x : XC K S) : PySem.W.exmOne K (.ref S) (.ref S) = some true := by
  have e1 : (PySem.W.subIn K (.ref S) (.type "BaseException") == some true) = true := by rw [x.bx] <;> rfl
  have e2 : ((PySem.W.clsIn K S).isSome && PySem.W.typeIn K (.ref S) == some (.type "type")) = true := by
    have h2' : (PySem.W.clsIn K S).isSome = true := x.cls
    rw [h2', x.ty] <;> rfl
  show (if (PySem.W.subIn K (.ref S) (.type "BaseException") == some true) = true then (if ((PySem.W.clsIn K S).isSome && PySem.W.typeIn K (.ref S) == some (.type "type")) = true then PySem.W.subIn K (.ref S) (.ref S) else none) else none) = some true
  rw [if_pos e1, if_pos e2]
  exact x.sub
theorem kb_read_ratio {K : PySem.W.Frag} {mg : Str → Option Value} {a : Ad} (T : Tx K mg a) : KBn K a.d_read_ratio P_read_ratio 0 ["text"] (fun _ ws => ws) (fun _ zs => zs) :=
  kbN T.F_read_ratio 0 ["text"] (fun _ ws => ws) (fun _ rz => rz) fun kV doc pm an cdv ct us ws h1 h2 => match us, ws, h1, h2 with | [], [_], _, _ => rfl
/-- what the package tells of a text: a Ratio or None -/
def OptV (C : Addr) (H : Hp) (v : V) : Option Rat → Prop
  | some q => RatV C H v q
  | none => v = .non
def spTold (C : Addr) : Sp := fun vs H Q _ => ∃ l : List Nat, vs = [.str (S l)] ∧ l.length < 60 ∧ ∀ v H', Ex H H' → OptV C H' v (rdL l) → Q v H'
section
variable {P : Program} {w : World} {K : PySem.W.Frag} {mg : Str → Option Value} {base : Heap} {a : Ad}
theorem ok_Ltold (T : Tx K mg a) : FnOk P w K mg base CX0 6 a.f_Ltold a.d_Ltold P_Ltold (spTold a.C_Ratio) := by
  refine def_ok0 T.F_Ltold sc_Ltold (fun vs H Q E h => ?_) (fun cdv A outer s H vs Q E hr h => ?_)
  · obtain ⟨l, rfl, _⟩ := h
    rfl
  · obtain ⟨l, rfl, hl, z⟩ := h
    refine ⟨_, (pss_one (ps_try_only (Wout := fun _ _ _ _ => False) rfl rfl ⟨rfl, by decide, .inl T.g_BadText⟩ takes0 (fun W pn xe tk _ => (pss_one (ps_ret (pe_callW (ok_read_ratio T) (hr.mono (by decide)) (by rfl) T.g_read_ratio T.F_read_ratio.kp (kb_read_ratio T) (fun σ => passAt tk σ) (pk_cons (pv 0) pk_nil))))) (fun _ _ _ _ _ _ _ => (pss_one (ps_ret pe_non))))), ?_⟩
    walk_at "g"
    refine g_callW ?_
    walk_at "g"
    refine ⟨rfl, l, rfl, hl, fun q e v H' ex hv => ?_, fun e H' ex => ?_⟩
    · rw [rd_eq] at e
      exact z v H' ex (by rw [e]; exact hv)
    · rw [rd_eq] at e
      refine ⟨true, exm_self T.x_BadText, fun _ b hb => ?_, fun h => by cases h⟩
      walk_at "g"
      exact z _ H' ex (by rw [e]; exact rfl)
end
end Kx


set_option maxHeartbeats 4000000
namespace Kx
open PySem PySem.Spec PyProof.Rows L2 Fm SX
local macro_rules | `(tactic| walk_at "gv") => `(tactic| ((with_reducible refine' g_var ?gh ?_); (case gh => exact rfl)))
local macro_rules | `(tactic| walk_at "g1") => `(tactic| first
  | walk_at "gv"
  | with_reducible refine g_c ?_ | with_reducible refine g_op ?_ | with_reducible refine g_un ?_ | with_reducible refine g_I0 ?_ | with_reducible refine g_U ?_
  | with_reducible refine g_eqI ?_ | with_reducible refine g_neI ?_ | with_reducible refine g_eqS ?_ | with_reducible refine g_neS ?_
  | with_reducible refine g_test ?_ | with_reducible refine g_B ?_ | with_reducible refine g_bl ?_ | with_reducible refine g_not ?_ | with_reducible refine g_and ?_ | with_reducible refine g_or ?_
  | with_reducible refine g_andV ?_ | with_reducible refine g_orV ?_ | with_reducible refine g_notV ?_ | with_reducible refine g_chain ?_ | with_reducible refine g_if ?_ | with_reducible refine g_ifS ?_
  | with_reducible refine g_seq ?_ | with_reducible refine g_next ?_ | with_reducible refine g_break ?_ | with_reducible refine g_cont ?_ | with_reducible refine g_drop ?_ | with_reducible refine g_ret ?_ | with_reducible refine g_retN ?_
  | with_reducible refine g_asg ?_ | with_reducible refine g_name ?_ | with_reducible refine g_par ?_ | with_reducible refine g_par2 ?_ | with_reducible refine g_fld ?_ | with_reducible refine g_sfld ?_
  | with_reducible refine g_nil ?_ | with_reducible refine g_cons ?_ | with_reducible refine g_tup ?_ | with_reducible refine g_lst ?_ | with_reducible refine g_call ?_ | with_reducible refine g_meth ?_ | with_reducible refine g_make1 ?_ | with_reducible refine g_make ?_ | with_reducible refine g_cb ?_ | with_reducible refine g_sub ?_ | with_reducible refine g_m0 ?_ | with_reducible refine g_gcons ?_ | with_reducible refine g_gnil ?_ | with_reducible refine g_for ?_ | with_reducible refine g_lc ?_ | with_reducible refine g_ilist ?_ | with_reducible refine g_itup ?_ | with_reducible refine g_rng1 ?_ | with_reducible refine g_rng3 ?_ | with_reducible refine g_yes ?_ | with_reducible refine g_sl ?_ | with_reducible refine g_nopart ?_ | with_reducible refine g_part ?_ | with_reducible refine g_exI ?_ | with_reducible refine g_m1 ?_ | with_reducible refine g_isS ?_ | with_reducible refine g_bm ?_ | with_reducible refine g_revL ?_ | with_reducible refine g_istr ?_ | with_reducible refine g_notInS ?_ | with_reducible refine g_absI ?_ | with_reducible refine g_intI ?_
  | with_reducible refine iteT ?_ | with_reducible refine iteF ?_ | with_reducible refine g_gcd ?_)
local macro_rules | `(tactic| walk_at "g") => `(tactic| (repeat (first | walk_at "g1" | dsimp only [cx_K, cx_Kn, b_nt, b_nf])))
local macro_rules | `(tactic| walk_at "mul") => `(tactic| exact mulA (a := 200) (b := 200) (by omega) (by omega) (by decide))
local macro_rules | `(tactic| walk_at "pow") => `(tactic| exact ⟨by omega, by omega, by omega⟩)

def spNumber2 (C : Addr) : Sp := fun vs H Q _ => ∃ l : List Nat, vs = [.str (S l)] ∧ l.length < 60 ∧ (∀ c ∈ l, c < 256) ∧ ∀ v H', Ex H H' → OptV C H' v (rdL l) → Q v H'
section
variable {P : Program} {w : World} {K : PySem.W.Frag} {mg : Str → Option Value} {base : Heap} {a : Ad}
theorem ok_Lnumber (T : Tx K mg a) : FnOk P w K mg base CX0 3 a.f_Lnumber a.d_Lnumber P_Lnumber (spNumber2 a.C_Ratio) := by
  refine def_ok0 T.F_Lnumber sc_Lnumber (fun vs H Q E h => ?_) (fun cdv A outer s H vs Q E hr h => ?_)
  · obtain ⟨l, rfl, _⟩ := h
    rfl
  · obtain ⟨l, rfl, hl, lo, z⟩ := h
    refine ⟨_, (pss_cons (ps_set (i := 1) sc_Lnumber.nd rfl (Or.inl rfl) (pe_ifExp (pt_cmpR op_eq (pe_slice sl_str (pv 0) po_none (po_some pe_int)) pe_str (nomark _)) (pe_slice sl_str (pv 0) (po_some pe_int) po_none) (pv 0))) (pss_cons (ps_set (i := 2) sc_Lnumber.nd rfl (Or.inl rfl) (pe_split (pv 1) pe_str)) (pss_cons (ps_for PassesOwn.never rfl (pi_list (pv 2)) (pg_name (i := 3) sc_Lnumber.nd rfl (Or.inl rfl)) (pss_one (ps_if (PW.pt (pw_or (pt_cmpR op_eq (pv 3) pe_str (nomark _)) (pw_or (pt_cmpR (op_neD hr.units) (pe_lc (own := [("_law_sign", 4)]) (g := (gName 4)) rfl sc_Lnumber.nd (pi_str (pv 3)) (blkOk_by (N := N_Lnumber) (sc := defScope s_Lnumber) (by decide +kernel)) (fun _ _ _ _ _ => pg_name (i := 4) sc_Lnumber.nd rfl (Or.inl rfl)) (fun _ _ _ _ _ => pts_one (pt_cmpR op_notInS (pv 4) pe_str (by rfl))) (fun _ _ _ _ _ => (pv 4))) (pe_lst pa_nil) (nomark _)) (pw_or1 (PW.pt (pw_and (pt_cmpR op_ne (pv 3) pe_str (nomark _)) (pw_and1 (pt_cmpR op_eq (pe_ix ix_str (pv 3) pe_int (fun _ _ => rfl)) pe_str (nomark _))))))))) (pss_one (ps_ret pe_non)) pss_nil))) (pss_cons (ps_if (PW.pt (pw_or (pt_cmpR op_gt (pe_callB call_lenQ (by rfl) T.b_len (by decide +kernel) (pa_cons (pv 2) pa_nil)) pe_int (nomark _)) (pw_or1 (PW.pt (pw_and (pt_cmpR op_eq (pe_ix ix_list (pv 2) pe_int (fun _ _ => rfl)) pe_str (nomark _)) (pw_and1 (PW.pt (pw_or (pt_cmpR op_eq (pe_callB call_lenQ (by rfl) T.b_len (by decide +kernel) (pa_cons (pv 2) pa_nil)) pe_int (nomark _)) (pw_or1 (pt_cmpR op_eq (pe_slice sl_str (pv 0) po_none (po_some pe_int)) pe_str (nomark _))))))))))) (pss_one (ps_ret pe_non)) pss_nil) (pss_cons (ps_par (i := 5) (j := 3) (by rfl) sc_Lnumber.nd rfl rfl (by decide) rfl rfl (pa_cons (pe_callTy cr_intS (by rfl) T.b_int (by decide +kernel) (pa_cons (pe_ix ix_list (pv 2) pe_int (fun _ _ => rfl)) pa_nil)) (pa_cons (pe_ifExp (pt_cmpR op_eq (pe_callB call_lenQ (by rfl) T.b_len (by decide +kernel) (pa_cons (pv 2) pa_nil)) pe_int (nomark _)) (pe_callTy cr_intS (by rfl) T.b_int (by decide +kernel) (pa_cons (pe_ix ix_list (pv 2) pe_int (fun _ _ => rfl)) pa_nil)) pe_int) pa_nil)) (by rfl)) (pss_cons (ps_if (PW.pt (pw_and (pt_cmpR op_eq (pe_callB call_lenQ (by rfl) T.b_len (by decide +kernel) (pa_cons (pv 2) pa_nil)) pe_int (nomark _)) (pw_and1 (pt_cmpR op_lt (pv 3) pe_int (nomark _))))) (pss_one (ps_ret pe_non)) pss_nil) (pss_cons (ps_par (i := 6) (j := 7) (by rfl) sc_Lnumber.nd rfl rfl (by decide) rfl rfl (pa_cons (pv 5) (pa_cons (pv 3) pa_nil)) (by rfl)) (pss_cons (ps_while PassesOwn.never (pt_cmpR op_gt (pv 7) pe_int (nomark _)) (pss_one (ps_par (i := 6) (j := 7) (by rfl) sc_Lnumber.nd rfl rfl (by decide) rfl rfl (pa_cons (pv 7) (pa_cons (pe_op op_mod (pv 6) (pv 7)) pa_nil)) (by rfl)))) (pss_cons (ps_if (PW.pt (pw_and (pt_cmpR op_ne (pv 6) pe_int (nomark _)) (pw_and1 (pt_cmpR op_eq (pe_callB call_lenQ (by rfl) T.b_len (by decide +kernel) (pa_cons (pv 2) pa_nil)) pe_int (nomark _))))) (pss_one (ps_ret pe_non)) pss_nil) (pss_one (ps_ret (pe_make T.mk_Ratio (ok_Ratio_init T) (hr.mono (by decide)) (by rfl) T.g_Ratio (bd_Ratio_init T) .nil pass0 (pa_cons (pe_ifExp (pt_cmpR op_eq (pe_slice sl_str (pv 0) po_none (po_some pe_int)) pe_str (nomark _)) (pe_op op_sub pe_int (pv 5)) (pv 5)) (pa_cons (pv 3) pa_nil)))))))))))))), ?_⟩
    walk_at "g"
    refine g_slS (m := l.take 1) (by omega) (cut_to l 1) ?_
    walk_at "g"
    have hb := body_len l
    refine g_iteQ (v := .str (S (body l))) (fun h Q' q' => ?_) (fun h Q' q' => ?_) ?_
    · have e : body l = l.drop 1 := by unfold body; rw [if_pos ((sign_iff l).mp h)]; simp
      walk_at "g"
      refine g_slS (m := l.drop 1) (by omega) (cut_from l 1) ?_
      rw [← e]
      exact q'
    · walk_at "g"
      rw [show body l = l from if_neg fun hh => h ((sign_iff l).mpr hh)] at q'
      exact q'
    walk_at "g"
    refine ⟨_, _, rfl, rfl, rfl, by rw [S_len]; exact Nat.le_trans (show _ ≤ 100 by omega) (by decide), fun p hp => ?_⟩
    rw [show (Str.ofString "/") = S [47] from rfl, split_S (by simp) rfl]
    have hj := join_spl (body l) []
    rw [List.nil_append] at hj
    obtain ⟨np, hparts⟩ := join_parts (TL.spl [47] 0 [] (body l))
    rw [hj] at np hparts
    have lob : ∀ c ∈ body l, c < 256 := fun c hc => lo c (by
      unfold body at hc
      split at hc
      · exact List.mem_of_mem_tail hc
      · exact hc)
    have hbad : ∀ q, q ∈ TL.spl [47] 0 [] (body l) → badPart q = true → rdL l = none := fun q h hb => rdL_bad h hb
    have hne := spl_ne (body l)
    generalize hps : TL.spl [47] 0 [] (body l) = parts at np hparts hbad hne
    have hL : SqL K (upd H p (.lst ((parts.map S).map V.str))) p ((parts.map S).map V.str) := SqL.of upd_same
    have ex0 : Ex H (upd H p (.lst ((parts.map S).map V.str))) := Ex.new hp
    generalize (upd H p (.lst ((parts.map S).map V.str))) = G at hL ex0 ⊢
    walk_at "g"
    have gi : ∀ i x, ((parts.map S).map V.str)[i]? = some x → ∃ q, parts[i]? = some q ∧ x = V.str (S q) := fun i x h => by
      rw [List.getElem?_map, List.getElem?_map] at h
      cases hq : parts[i]? with
      | none => rw [hq] at h; cases h
      | some q => rw [hq] at h; cases h; exact ⟨q, by first | rfl | exact hq, rfl⟩
    refine ⟨p, rfl, ⟨_, hL⟩, lp_L (xs := (parts.map S).map V.str) (fun i σ' H' => ∃ u, σ' = [some (.str (S l)), some (.str (S (body l))), some (.ref p), u, none, none, none, none] ∧ Ex G H' ∧ ∀ q ∈ parts.take i, badPart q = false) ⟨none, rfl, Ex.refl _, fun q h => by simp at h⟩ (fun i σ' H' _ ⟨_, _, ex, _⟩ => ex.sql hL) ?_ ?_⟩
    · rintro i x σ' H' hx ⟨u, rfl, ex, hok⟩
      obtain ⟨q, hq, rfl⟩ := gi i x hx
      have hm := List.mem_of_getElem? hq
      obtain ⟨lq, cq⟩ := hparts q hm
      have hbq := bad_eq q
      walk_at "g"
      have nobad : badPart q = true → ∀ H2, Ex H' H2 → Q .non H2 := fun hb H2 e2 => z _ _ ((ex0.trans ex).trans e2) (by rw [hbad q hm hb]; exact rfl)
      have okpart : badPart q = false → ∀ H2, Ex H' H2 → ∃ u', ([some (V.str (S l)), some (.str (S (body l))), some (.ref p), some (.str (S q)), none, none, none, none] : L2.St) = [some (.str (S l)), some (.str (S (body l))), some (.ref p), u', none, none, none, none] ∧ Ex G H2 ∧ ∀ r ∈ parts.take (i + 1), badPart r = false := fun hb H2 e2 =>
        ⟨_, rfl, ex.trans e2, fun r hr => by
          rw [take_succ_get hq] at hr
          rcases List.mem_append.mp hr with hr | hr
          · exact hok r hr
          · have e : r = q := by simpa using hr
            rw [e]; exact hb⟩
      rw [show decide (S q = Str.ofString "") = decide (q = []) from decide_eq_decide.mpr ⟨fun h => S_inj h, fun h => by rw [h]; rfl⟩]
      refine g_dec (fun h => ?_) (fun h => ?_)
      · walk_at "g"
        rw [decide_eq_true h, Bool.true_or] at hbq
        exact nobad hbq _ (Ex.refl _)
      rw [decide_eq_false h, Bool.false_or] at hbq
      walk_at "g"
      refine ⟨_, rfl, cp_S (fun D i H2 => H2 D = some (.lst ((((q.take i).filter fun c => !dg c).map fun c => S [c]).map V.str)) ∧ Ex H' H2) (fun D hD => ⟨upd_same, Ex.new hD⟩) (fun D hD i c H2 hc => ?_) (fun D hD H2 h2 => ?_)⟩
      · rintro ⟨hd, e2⟩
        refine ⟨rfl, ?_⟩
        walk_at "g"
        rw [show (Str.ofString "0123456789") = S [48, 49, 50, 51, 52, 53, 54, 55, 56, 57] from rfl]
        rw [show (S [48, 49, 50, 51, 52, 53, 54, 55, 56, 57]).1.toList = [48, 49, 50, 51, 52, 53, 54, 55, 56, 57] from rfl, digs_mem]
        walk_at "g"
        have ft : (q.take (i + 1)).filter (fun c => !dg c) = (q.take i).filter (fun c => !dg c) ++ (if (!dg c) = true then [c] else []) := by
          rw [take_succ_get hc, List.filter_append]
          congr 1
          by_cases h : (!dg c) = true <;> simp [h]
        refine g_ite (fun hg => ?_) (fun hg => ?_)
        · walk_at "g"
          refine ⟨_, hd, Nat.lt_of_le_of_lt (m := 100) ?_ (by decide), ?_, ?_⟩
          · rw [List.length_map, List.length_map]
            have := List.length_filter_le (fun c => !dg c) (q.take i)
            rw [List.length_take] at this
            omega
          · rw [upd_same, ft, if_pos hg, List.map_append, List.map_append]
            rfl
          · exact e2.mut hD
        · rw [ft, if_neg (by rw [hg]; decide), List.append_nil]
          exact ⟨hd, e2⟩
      · obtain ⟨hd, e2⟩ := h2
        rw [List.take_length] at hd
        walk_at "g"
        refine ⟨len_lit rfl, fun r hr => ?_⟩
        have hr2 : H2 D ≠ none := by rw [hd]; exact fun h => nomatch h
        have nDr : D ≠ r := fun h => hr2 (h ▸ hr)
        have sd : SqL K (upd H2 r (.lst [])) D (((q.filter fun c => !dg c).map fun c => S [c]).map V.str) := SqL.of (by rw [upd_ne nDr]; exact hd)
        refine g_neStrs (m := []) (fun x hx => ?_) (fun x hx => nomatch hx) sd (SqL.of upd_same) ?_
        · obtain ⟨c, hc, rfl⟩ := List.mem_map.mp hx
          have hc' := (List.mem_filter.mp hc).1
          exact strOk_S fun d hd' => by
            have e : d = c := by simpa using hd'
            rw [e]; exact lob c (cq c hc')
        have e3 : Ex H' (upd H2 r (.lst [])) := e2.trans (Ex.new hr)
        walk_at "g"
        refine g_ite (fun h2 => ?_) (fun h2 => ?_)
        · walk_at "g"
          rw [h2, Bool.true_or] at hbq
          exact nobad hbq _ e3
        rw [h2, Bool.false_or] at hbq
        walk_at "g"
        rw [show decide (S q = Str.ofString "0") = decide (q = [48]) from decide_eq_decide.mpr ⟨fun h => S_inj h, fun h => by rw [h]; rfl⟩]
        obtain ⟨c0, r0, rfl⟩ : ∃ c0 r0, q = c0 :: r0 := by
          cases q with
          | nil => exact absurd rfl h
          | cons c0 r0 => exact ⟨c0, r0, rfl⟩
        refine g_ite (fun h3 => ?_) (fun h3 => ?_)
        · rw [h3, Bool.true_and] at hbq
          walk_at "g"
          refine g_ixS (by omega) (c := c0) at_zero ?_
          walk_at "g"
          rw [head_48]
          rw [← hbq]
          refine g_ite (fun h4 => ?_) (fun h4 => ?_)
          · walk_at "g"
            exact nobad h4 _ e3
          · walk_at "g"
            exact okpart h4 _ e3
        · rw [h3, Bool.false_and] at hbq
          walk_at "g"
          exact okpart hbq _ e3
    · rintro σ' H' ⟨u, rfl, ex, hok⟩
      have hall : ∀ q ∈ parts, badPart q = false := fun q hq => hok q (by rw [List.length_map, List.length_map, List.take_length]; exact hq)
      have sp := ex.sql hL
      have ex1 := ex0.trans ex
      obtain ⟨u0, r, hur⟩ : ∃ u0 r, parts = u0 :: r := by
        cases parts with
        | nil => exact absurd rfl hne
        | cons u0 r => exact ⟨u0, r, rfl⟩
      subst hur
      obtain ⟨n, hn⟩ : ∃ n, n = (u0 :: r).length := ⟨_, rfl⟩
      have re := rdL_form hps hall hn
      have hlen : ((((u0 :: r).map S).map V.str).length : Int) = (n : Int) := by rw [List.length_map, List.length_map, hn]
      rw [re] at z
      clear re hbad
      have sz0 : ∀ σ1 : L2.St, σ1[0]? = some (some (.str (S l))) → ∀ W : Bool → Hp → Prop, ∀ H1, W (decide (l.head? = some 45)) H1 → tTest (tOp rEq (tSl rSlS (tVar 0) tNoPart (tPart (tC (V.int 1)))) (tC (V.str (Str.ofString "-")))) σ1 H1 W := fun σ1 hσ W H1 hW => by
        refine g_test (g_op (g_sl (g_var hσ ?_)))
        walk_at "g"
        refine g_slS (m := l.take 1) (by omega) (cut_to l 1) ?_
        walk_at "g"
        rw [show decide (S (l.take 1) = Str.ofString "-") = decide (l.head? = some 45) from decide_eq_decide.mpr (sign_iff l)]
        exact hW
      have du := (bad_ok (hall u0 (by simp))).1
      have lu := (hparts u0 (by simp)).1
      dsimp only
      with_reducible refine g_seq ?_
      with_reducible refine g_ifS ?_
      refine g_orB (b := decide (2 < (n : Int))) (c := decide (u0 = [48]) && (decide ((n : Int) = 2) || decide (l.head? = some 45))) (fun W q => ?_) (fun _ W q => ?_) ?_
      · walk_at "g"
        refine g_lenQ sp ?_
        rw [hlen]
        walk_at "g"
        exact q
      · refine g_andB (b := decide (u0 = [48])) (c := decide ((n : Int) = 2) || decide (l.head? = some 45)) (fun W q => ?_) (fun _ W q => ?_) q
        · walk_at "g"
          refine g_ixL sp at_zero ?_
          walk_at "g"
          rw [show decide (S u0 = Str.ofString "0") = decide (u0 = [48]) from decide_eq_decide.mpr ⟨fun h => S_inj h, fun h => by rw [h]; rfl⟩]
          exact q
        · refine g_orB (b := decide ((n : Int) = 2)) (c := decide (l.head? = some 45)) (fun W q => ?_) (fun _ W q => ?_) q
          · walk_at "g"
            refine g_lenQ sp ?_
            rw [hlen]
            walk_at "g"
            exact q
          · exact sz0 _ rfl _ _ q
      refine g_ite (fun hB => ?_) (fun hB => ?_)
      · rw [if_pos hB] at z
        walk_at "g"
        exact z _ _ ex1 rfl
      rw [if_neg (by rw [hB]; decide)] at z
      have hr01 : r = [] ∧ n = 1 ∨ (∃ d, r = [d]) ∧ n = 2 := by
        rw [Bool.or_eq_false_iff] at hB
        have h1 := of_decide_eq_false hB.1
        match r, hn with
        | [], hn => exact .inl ⟨rfl, hn⟩
        | [d], hn => exact .inr ⟨⟨d, rfl⟩, hn⟩
        | _ :: _ :: _, hn => simp only [List.length_cons] at hn; omega
      walk_at "g"
      refine g_ixL sp at_zero ?_
      walk_at "g"
      refine g_intS du (by omega) ?_
      walk_at "g"
      refine g_lenQ sp ?_
      rw [hlen]
      walk_at "g"
      refine g_iteQ (v := .int ((dnOf r : Nat) : Int)) (fun h Q' q' => ?_) (fun h Q' q' => ?_) ?_
      · rcases hr01 with ⟨_, h1⟩ | ⟨⟨d, rfl⟩, _⟩
        · omega
        walk_at "g"
        refine g_ixL sp at_one ?_
        walk_at "g"
        exact g_intS (bad_ok (hall d (by simp))).1 (by have := (hparts d (by simp)).1; omega) q'
      · rcases hr01 with ⟨rfl, h1⟩ | ⟨⟨d, rfl⟩, h1⟩
        · walk_at "g"
          exact q'
        · omega
      with_reducible refine g_nil ?_
      refine ⟨_, _, rfl, ?_⟩
      with_reducible refine g_seq ?_
      with_reducible refine g_ifS ?_
      refine g_andB (b := decide ((n : Int) = 2)) (c := decide (((dnOf r : Nat) : Int) < 2)) (fun W q => ?_) (fun _ W q => ?_) ?_
      · walk_at "g"
        refine g_lenQ sp ?_
        rw [hlen]
        walk_at "g"
        exact q
      · walk_at "g"
        exact q
      refine g_ite (fun hB => ?_) (fun hB2 => ?_)
      · rw [if_pos hB] at z
        walk_at "g"
        exact z _ _ ex1 rfl
      rw [if_neg (by rw [hB2]; decide)] at z
      walk_at "g"
      have dpos : 0 < dnOf r := by
        rcases hr01 with ⟨rfl, h1⟩ | ⟨⟨d, rfl⟩, h1⟩
        · exact Nat.one_pos
        · rw [decide_eq_true (show (n : Int) = 2 by omega), Bool.true_and] at hB2
          have := of_decide_eq_false hB2
          omega
      refine ⟨fun m σ' H2 => ∃ i j : Nat, m = j ∧ σ' = [some (.str (S l)), some (.str (S (body l))), some (.ref p), some (.int ((dnOf r : Nat) : Int)), none, some (.int ((dv u0 : Nat) : Int)), some (.int (i : Int)), some (.int (j : Int))] ∧ H2 = H' ∧ Nat.gcd i j = Nat.gcd (dv u0) (dnOf r), ⟨_, _, _, rfl, rfl, rfl, rfl⟩, ?_⟩
      rintro m σ' H2 ⟨i, j, rfl, rfl, rfl, hg⟩
      walk_at "g"
      refine g_dec (fun h => ?_) (fun h => ?_)
      · refine ⟨fun s2 H3 => s2 = [some (.str (S l)), some (.str (S (body l))), some (.ref p), some (.int ((dnOf r : Nat) : Int)), none, some (.int ((dv u0 : Nat) : Int)), some (.int (m : Int)), some (.int ((i % m : Nat) : Int))] ∧ H3 = H2, ?_, ?_⟩
        · rintro σ' H3 ⟨rfl, rfl⟩
          refine ⟨i % m, Nat.mod_lt _ (by omega), m, i % m, rfl, rfl, rfl, ?_⟩
          rw [← hg, Nat.gcd_comm m, ← Nat.gcd_rec, Nat.gcd_comm]
        · walk_at "g"
          refine g_I h ?_
          walk_at "g"
          exact ⟨by rw [Int.natCast_emod]; rfl, rfl⟩
      have e : m = 0 := by omega
      subst e
      rw [Nat.gcd_zero_right] at hg
      with_reducible refine g_seq ?_
      with_reducible refine g_ifS ?_
      refine g_andB (b := !decide ((i : Int) = 1)) (c := decide ((n : Int) = 2)) (fun W q => ?_) (fun _ W q => ?_) ?_
      · walk_at "g"
        exact q
      · walk_at "g"
        refine g_lenQ sp ?_
        rw [hlen]
        walk_at "g"
        exact q
      rw [← hg] at z
      refine g_ite (fun hB => ?_) (fun hB3 => ?_)
      · rw [if_pos hB] at z
        walk_at "g"
        exact z _ _ ex1 rfl
      rw [if_neg (by rw [hB3]; decide)] at z
      walk_at "g"
      refine g_slS (m := l.take 1) (by omega) (cut_to l 1) ?_
      walk_at "g"
      rw [show decide (S (l.take 1) = Str.ofString "-") = decide (l.head? = some 45) from decide_eq_decide.mpr (sign_iff l)]
      refine g_iteQ (v := .int (sgnOf l (dv u0))) (fun h Q' q' => ?_) (fun h Q' q' => ?_) ?_
      · unfold sgnOf at q'
        rw [if_pos h] at q'
        walk_at "g"
        exact q'
      · unfold sgnOf at q'
        rw [if_neg h] at q'
        walk_at "g"
        exact q'
      have b1 := dv_lt60 du (by omega)
      have b2 : dnOf r < 10 ^ 60 := by
        rcases hr01 with ⟨rfl, h1⟩ | ⟨⟨d, rfl⟩, h1⟩
        · exact (by decide : (1 : Nat) < 10 ^ 60)
        · exact dv_lt60 (bad_ok (hall d (by simp))).1 (by have := (hparts d (by simp)).1; omega)
      have b3 : (sgnOf l (dv u0)).natAbs < 10 ^ 60 := by unfold sgnOf; split <;> omega
      have big : (10 : Nat) ^ 60 ≤ 2 ^ 200 := by decide
      walk_at "g"
      refine use_initW (k := 200) (by omega) (by omega) (by rw [Int.natAbs_natCast]; omega) (by decide) fun vp H5 e5 hv => ?_
      walk_at "g"
      exact z _ _ (ex1.trans e5) hv
end
end Kx


set_option maxHeartbeats 4000000
namespace Kx
open PySem PySem.Spec PyProof.Rows L2 Fm SX
local macro_rules | `(tactic| walk_at "gv") => `(tactic| ((with_reducible refine' g_var ?gh ?_); (case gh => exact rfl)))
local macro_rules | `(tactic| walk_at "g1") => `(tactic| first
  | walk_at "gv"
  | with_reducible refine g_c ?_ | with_reducible refine g_op ?_ | with_reducible refine g_un ?_ | with_reducible refine g_I0 ?_ | with_reducible refine g_U ?_
  | with_reducible refine g_eqI ?_ | with_reducible refine g_neI ?_ | with_reducible refine g_eqS ?_ | with_reducible refine g_neS ?_
  | with_reducible refine g_test ?_ | with_reducible refine g_B ?_ | with_reducible refine g_bl ?_ | with_reducible refine g_not ?_ | with_reducible refine g_and ?_ | with_reducible refine g_or ?_
  | with_reducible refine g_andV ?_ | with_reducible refine g_orV ?_ | with_reducible refine g_notV ?_ | with_reducible refine g_chain ?_ | with_reducible refine g_if ?_ | with_reducible refine g_ifS ?_
  | with_reducible refine g_seq ?_ | with_reducible refine g_next ?_ | with_reducible refine g_break ?_ | with_reducible refine g_cont ?_ | with_reducible refine g_drop ?_ | with_reducible refine g_ret ?_ | with_reducible refine g_retN ?_
  | with_reducible refine g_asg ?_ | with_reducible refine g_name ?_ | with_reducible refine g_par ?_ | with_reducible refine g_par2 ?_ | with_reducible refine g_fld ?_ | with_reducible refine g_sfld ?_
  | with_reducible refine g_nil ?_ | with_reducible refine g_cons ?_ | with_reducible refine g_tup ?_ | with_reducible refine g_lst ?_ | with_reducible refine g_call ?_ | with_reducible refine g_meth ?_ | with_reducible refine g_make1 ?_ | with_reducible refine g_make ?_ | with_reducible refine g_cb ?_ | with_reducible refine g_sub ?_ | with_reducible refine g_m0 ?_ | with_reducible refine g_gcons ?_ | with_reducible refine g_gnil ?_ | with_reducible refine g_for ?_ | with_reducible refine g_lc ?_ | with_reducible refine g_ilist ?_ | with_reducible refine g_itup ?_ | with_reducible refine g_rng1 ?_ | with_reducible refine g_rng3 ?_ | with_reducible refine g_yes ?_ | with_reducible refine g_sl ?_ | with_reducible refine g_nopart ?_ | with_reducible refine g_part ?_ | with_reducible refine g_exI ?_ | with_reducible refine g_m1 ?_ | with_reducible refine g_isS ?_ | with_reducible refine g_bm ?_ | with_reducible refine g_revL ?_ | with_reducible refine g_istr ?_ | with_reducible refine g_notInS ?_ | with_reducible refine g_absI ?_ | with_reducible refine g_intI ?_
  | with_reducible refine iteT ?_ | with_reducible refine iteF ?_ | with_reducible refine g_gcd ?_)
local macro_rules | `(tactic| walk_at "g") => `(tactic| (repeat (first | walk_at "g1" | dsimp only [cx_K, cx_Kn, b_nt, b_nf])))
local macro_rules | `(tactic| walk_at "mul") => `(tactic| exact mulA (a := 200) (b := 200) (by omega) (by omega) (by decide))
local macro_rules | `(tactic| walk_at "pow") => `(tactic| exact ⟨by omega, by omega, by omega⟩)

def spTexts (C : Addr) : Sp := fun vs H Q _ => ∃ (p : Addr) (x : V) (q : Rat), vs = [.ref p, x] ∧ TapeAt H p ∧ RatV C H x q ∧ q.num.natAbs < 10 ^ 12 ∧ q.den < 10 ^ 12 ∧ ∀ H', Mo p H H' → TapeAt H' p → Q (.bl true) H'
abbrev menu1 : List V := [V.str (Str.ofString ""), V.str (Str.ofString "x"), V.str (Str.ofString " 3"), V.str (Str.ofString "3 "), V.str (Str.ofString "+3"), V.str (Str.ofString "-0"), V.str (Str.ofString "2/4"), V.str (Str.ofString "1/0"), V.str (Str.ofString "1/00"), V.str (Str.ofString "00"), V.str (Str.ofString "0/5"), V.str (Str.ofString "01"), V.str (Str.ofString "1/"), V.str (Str.ofString "/2"), V.str (Str.ofString "--1")]
abbrev menu2 : List V := [V.str (Str.ofString "1/-2"), V.str (Str.ofString "3/1"), V.str (Str.ofString "1/1"), V.str (Str.ofString "-")]
section
variable {P : Program} {w : World} {K : PySem.W.Frag} {mg : Str → Option Value} {base : Heap} {a : Ad}
theorem ok_Ltexts_right (T : Tx K mg a) : FnOk P w K mg base CX0 7 a.f_Ltexts_right a.d_Ltexts_right P_Ltexts_right (spTexts a.C_Ratio) := by
  refine def_ok0 T.F_Ltexts_right sc_Ltexts_right (fun vs H Q E h => ?_) (fun cdv A outer s H vs Q E hr h => ?_)
  · obtain ⟨p, x, q, rfl, _⟩ := h
    rfl
  · obtain ⟨p, x, q, rfl, ht, hx, h1, h2, z⟩ := h
    have big : (10 : Nat) ^ 12 < 10 ^ 60 := by decide
    have sz : Sz 200 q := ⟨Nat.lt_trans h1 (by decide), Nat.lt_trans h2 (by decide)⟩
    have ll := txR_len (k := 12) (by decide) h1 h2
    refine ⟨_, (pss_cons (ps_set (i := 2) sc_Ltexts_right.nd rfl (Or.inl rfl) (pe_meth0 (pv 1) T.R.cl T.m_Ratio_text (ok_Ratio_text T) (hr.mono (by decide)) (bd_Ratio_text T) .nil pass0)) (pss_cons (ps_if (PW.pt (pw_or (pt_cmpR (op_neOwn T.p_ne (ok_Ratio_eq T) (hr.mono (by decide)) (bd_Ratio_eq T) pass0) (pe_call (ok_Ltold T) (hr.mono (by decide)) (by rfl) T.g_Ltold T.F_Ltold.kp (bd_Ltold T) .nil pass0 (pa_cons (pv 2) pa_nil)) (pv 1) (nomark _)) (pw_or1 (pt_not (pt_val (pe_callB call_isi (by rfl) T.b_isinstance (by decide +kernel) (pa_cons (pe_call (ok_Ltold T) (hr.mono (by decide)) (by rfl) T.g_Ltold T.F_Ltold.kp (bd_Ltold T) .nil pass0 (pa_cons (pv 2) pa_nil)) (pa_cons (pe_glob (v := .ref a.C_Ratio) rfl T.g_Ratio rfl) pa_nil)))))))) (pss_one (ps_ret pe_bl)) pss_nil) (pss_cons (ps_set (i := 3) sc_Ltexts_right.nd rfl (Or.inl rfl) (pe_lst (pa_cons pe_str (pa_cons pe_str (pa_cons pe_str (pa_cons pe_str (pa_cons pe_str (pa_cons pe_str (pa_cons pe_str (pa_cons pe_str (pa_cons pe_str (pa_cons pe_str (pa_cons pe_str (pa_cons pe_str (pa_cons pe_str (pa_cons pe_str (pa_cons pe_str pa_nil))))))))))))))))) (pss_cons (ps_set (i := 3) sc_Ltexts_right.nd rfl (Or.inl rfl) (pe_op op_cat (pv 3) (pe_lst (pa_cons pe_str (pa_cons pe_str (pa_cons pe_str (pa_cons pe_str pa_nil))))))) (pss_cons (ps_set (i := 3) sc_Ltexts_right.nd rfl (Or.inl rfl) (pe_op op_cat (pv 3) (pe_lst (pa_cons pe_str (pa_cons pe_str (pa_cons (pe_op op_adS pe_str (pv 2)) (pa_cons (pe_slice sl_str (pv 2) (po_some pe_int) po_none) pa_nil))))))) (pss_cons (ps_set (i := 4) sc_Ltexts_right.nd rfl (Or.inl rfl) (pe_call (ok_Lpick T) (hr.mono (by decide)) (by rfl) T.g_Lpick T.F_Lpick.kp (bd_Lpick T) .nil pass0 (pa_cons (pv 0) (pa_cons (pe_op op_add (pe_callB call_lenS (by rfl) T.b_len (by decide +kernel) (pa_cons (pv 2) pa_nil)) pe_int) pa_nil)))) (pss_cons (ps_expr (pe_bm PySem.F.plainAttrs_list PySem.F.slot_list_append PySem.F.type_list_append mt_append (pv 3) (pa_cons (pe_op op_adS (pe_op op_adS (pe_slice sl_str (pv 2) po_none (po_some (pv 4))) (pe_ix ix_str pe_str (pe_call (ok_Lpick T) (hr.mono (by decide)) (by rfl) T.g_Lpick T.F_Lpick.kp (bd_Lpick T) .nil pass0 (pa_cons (pv 0) (pa_cons pe_int pa_nil))) (fun _ _ => rfl))) (pe_slice sl_str (pv 2) (po_some (pv 4)) po_none)) pa_nil))) (pss_cons (ps_for PassesOwn.never rfl (pi_list (pe_op op_cat (pv 3) (pe_lst (pa_cons pe_str (pa_cons pe_str (pa_cons (pe_op op_adS (pv 2) pe_str) pa_nil)))))) (pg_name (i := 5) sc_Ltexts_right.nd rfl (Or.inl rfl)) (pss_one (ps_if (pt_cmpR (OpR.or op_ne (op_neOwn T.p_ne (ok_Ratio_eq T) (hr.mono (by decide)) (bd_Ratio_eq T) pass0)) (pe_call (ok_Ltold T) (hr.mono (by decide)) (by rfl) T.g_Ltold T.F_Ltold.kp (bd_Ltold T) .nil pass0 (pa_cons (pv 5) pa_nil)) (pe_call (ok_Lnumber T) (hr.mono (by decide)) (by rfl) T.g_Lnumber T.F_Lnumber.kp (bd_Lnumber T) .nil pass0 (pa_cons (pv 5) pa_nil)) (nomark _)) (pss_one (ps_ret pe_bl)) pss_nil))) (pss_one (ps_ret pe_bl)))))))))), ?_⟩
    walk_at "g"
    refine g_methR hx (by decide +kernel) (by decide +kernel) ?_
    walk_at "g"
    refine ⟨_, _, rfl, hx, by omega, by omega, fun H1 e1 => ?_⟩
    walk_at "g"
    refine ⟨_, rfl, by omega, fun v1 H2 e2 hv1 => ?_⟩
    rw [rdL_of] at hv1
    have x2 := e1.trans e2
    walk_at "g"
    refine g_neN T.R hv1 (hx.mono x2).num sz (by decide) fun H3 e3 => ?_
    rw [decide_eq_true rfl]
    walk_at "g"
    have x3 := x2.trans e3
    refine ⟨_, rfl, by omega, fun v4 H4 e4 hv4 => ?_⟩
    rw [rdL_of] at hv4
    walk_at "g"
    refine g_isi (ty_rat T.R hv4) (.own _) (kit_own T.R .own) ?_
    walk_at "g"
    refine g_ite (fun h => by simp at h) (fun _ => ?_)
    have x4 := x3.trans e4
    walk_at "g"
    refine ⟨len_lit rfl, fun A nA => ?_⟩
    generalize hG5 : upd H4 A (.lst menu1) = H5
    obtain ⟨xs, oA, lA, e5, hA⟩ := lstFacts (k := 15) hG5 nA (by decide +kernel) (by decide)
    clear hG5
    walk_at "g"
    refine ⟨len_lit rfl, fun B nB => ?_⟩
    generalize hG6 : upd H5 B (.lst menu2) = H6
    obtain ⟨ys, oB, lB, e6, hB⟩ := lstFacts (k := 4) hG6 nB (by decide +kernel) (by decide)
    clear hG6
    walk_at "g"
    refine ⟨A, B, xs, ys, rfl, rfl, e6 _ _ hA, hB, Nat.le_trans (show _ ≤ 1000 by omega) (by decide), fun A2 nA2 => ?_⟩
    generalize hG7 : upd H6 A2 (.lst (xs ++ ys)) = H7
    obtain ⟨xs2, oA2, lA2, e7, hA2⟩ := lstFacts (k := 19) hG7 nA2 (by rw [List.all_append, oA, oB]; rfl) (by rw [List.length_append]; omega)
    clear hG7
    walk_at "g"
    rw [show (Str.ofString "-") = S [45] from rfl]
    refine g_adS (by show 1 + (txR q).length ≤ 100000; omega) ?_
    walk_at "g"
    refine g_slS (m := (txR q).drop 1) (by omega) (cut_from (txR q) 1) ?_
    walk_at "g"
    have okP : ∀ l : List Nat, l.length < 60 → (∀ c ∈ l, c < 256) → okV (.str (S l)) = true := fun l h1 h2 => okV_of h1 h2
    have m256 : ∀ c ∈ txR q, c < 256 := fun c hc => txR_256 hc
    have k1 : okV (.str (S ([45] ++ txR q))) = true := okP _ (by simp; omega) fun c hc => by
      rcases List.mem_append.mp hc with h | h
      · have : c = 45 := by simpa using h
        omega
      · exact m256 c h
    have k2 : okV (.str (S ((txR q).drop 1))) = true := okP _ (by rw [List.length_drop]; omega) fun c hc => m256 c (List.mem_of_mem_drop hc)
    refine ⟨len_lit rfl, fun B2 nB2 => ?_⟩
    generalize hG8 : upd H7 B2 (.lst [.str (Str.ofString "1_0"), .str (Str.ofString "3\n"), .str (S ([45] ++ txR q)), .str (S ((txR q).drop 1))]) = H8
    obtain ⟨ys2, oB2, lB2, e8, hB2⟩ := lstFacts (k := 4) hG8 nB2 (by simp only [List.all_cons, List.all_nil, k1, k2]; decide +kernel) (Nat.le_refl 4)
    clear hG8
    walk_at "g"
    refine ⟨A2, B2, xs2, ys2, rfl, rfl, e8 _ _ hA2, hB2, Nat.le_trans (show _ ≤ 1000 by omega) (by decide), fun L0 nL => ?_⟩
    generalize hG9 : upd H8 L0 (.lst (xs2 ++ ys2)) = H9
    obtain ⟨xs3, oL, lL, e9, hL⟩ := lstFacts (k := 23) hG9 nL (by rw [List.all_append, oA2, oB2]; rfl) (by rw [List.length_append]; omega)
    clear hG9
    have x9 : Ex H H9 := x4.trans (e5.trans (e6.trans (e7.trans (e8.trans e9))))
    have t9 := ht.mono x9
    have Lp' : L0 ≠ p := fun e => by
      obtain ⟨_, _, _, _, _, h⟩ := ht.mono (x4.trans (e5.trans (e6.trans (e7.trans e8))))
      rw [e] at nL
      rw [nL] at h
      cases h
    have nLH : H L0 = none := (x4.trans (e5.trans (e6.trans (e7.trans e8)))).free nL
    walk_at "g"
    refine g_lenS (by omega) ?_
    walk_at "g"
    refine use_pick (by omega) (by omega) t9 fun d Ha d0 d1 ma ta => ?_
    obtain ⟨k, rfl⟩ : ∃ k : Nat, d = k := ⟨d.toNat, by omega⟩
    walk_at "g"
    refine ⟨tyL (ma _ _ hL Lp'), ?_⟩
    have kle : k ≤ (txR q).length := by omega
    walk_at "g"
    refine g_slS (m := (txR q).take k) (by omega) (cut_to (txR q) k) ?_
    walk_at "g"
    refine use_pick (by decide) (by decide) ta fun d' Hb b0 b1 mb tb => ?_
    obtain ⟨c, hc, hc2⟩ : ∃ c : Nat, atI ([48, 49, 50, 51, 52, 53, 54, 55, 56, 57, 45, 43, 95, 32, 47, 46] : List Nat) d' = some c ∧ c < 256 := by
      have : d' = 0 ∨ d' = 1 ∨ d' = 2 ∨ d' = 3 ∨ d' = 4 ∨ d' = 5 ∨ d' = 6 ∨ d' = 7 ∨ d' = 8 ∨ d' = 9 ∨ d' = 10 ∨ d' = 11 ∨ d' = 12 ∨ d' = 13 ∨ d' = 14 ∨ d' = 15 := by omega
      rcases this with rfl | rfl | rfl | rfl | rfl | rfl | rfl | rfl | rfl | rfl | rfl | rfl | rfl | rfl | rfl | rfl <;> exact ⟨_, rfl, by decide⟩
    rw [show (Str.ofString "0123456789-+_ /.") = S [48, 49, 50, 51, 52, 53, 54, 55, 56, 57, 45, 43, 95, 32, 47, 46] from rfl]
    refine g_ixS (by decide) hc ?_
    refine g_adS (by rw [List.length_take]; show _ + 1 ≤ 100000; omega) ?_
    walk_at "g"
    refine g_slS (m := (txR q).drop k) (by omega) (cut_from (txR q) k) ?_
    refine g_adS (by rw [List.length_append, List.length_take, List.length_drop]; show (_ + 1) + _ ≤ 100000; omega) ?_
    have k3 : okV (.str (S (((txR q).take k ++ [c]) ++ (txR q).drop k))) = true := okP _ (by rw [List.length_append, List.length_append, List.length_take, List.length_drop]; show (_ + 1) + _ < 60; omega) fun c' hc' => by
      rcases List.mem_append.mp hc' with h | h
      · rcases List.mem_append.mp h with h | h
        · exact m256 _ (List.mem_of_mem_take h)
        · have : c' = c := by simpa using h
          rw [this]; exact hc2
      · exact m256 _ (List.mem_of_mem_drop h)
    walk_at "g"
    refine g_app (mb _ _ (ma _ _ hL Lp') Lp') (by omega) ?_
    have mo : Mo p H (upd Hb L0 (.lst (xs3 ++ [.str (S (((txR q).take k ++ [c]) ++ (txR q).drop k))]))) := fun b o h n => by
      rw [upd_ne (ne_of_none h nLH)]
      exact mb _ _ (ma _ _ (x9 _ _ h) n) n
    have tc : TapeAt (upd Hb L0 (.lst (xs3 ++ [.str (S (((txR q).take k ++ [c]) ++ (txR q).drop k))]))) p := by
      obtain ⟨t0, t1, a1, a2, a3, h⟩ := tb
      exact ⟨t0, t1, a1, a2, a3, by rw [upd_ne (Ne.symm Lp')]; exact h⟩
    generalize hGc : upd Hb L0 (.lst (xs3 ++ [.str (S (((txR q).take k ++ [c]) ++ (txR q).drop k))])) = Hc at mo tc ⊢
    have hLc : Hc L0 = some (.lst (xs3 ++ [.str (S (((txR q).take k ++ [c]) ++ (txR q).drop k))])) := by rw [← hGc]; exact upd_same
    have oLc : (xs3 ++ [V.str (S (((txR q).take k ++ [c]) ++ (txR q).drop k))]).all okV = true := by rw [List.all_append, oL, List.all_cons, k3]; rfl
    have lLc : (xs3 ++ [V.str (S (((txR q).take k ++ [c]) ++ (txR q).drop k))]).length ≤ 24 := by rw [List.length_append]; show _ + 1 ≤ 24; omega
    generalize (xs3 ++ [V.str (S (((txR q).take k ++ [c]) ++ (txR q).drop k))]) = xs4 at hLc oLc lLc
    clear hGc
    walk_at "g"
    rw [show (Str.ofString "/2") = S [47, 50] from rfl]
    refine g_adS (by show _ + 2 ≤ 100000; omega) ?_
    have k4 : okV (.str (S (txR q ++ [47, 50]))) = true := okP _ (by rw [List.length_append]; show _ + 2 < 60; omega) fun c' hc' => by
      rcases List.mem_append.mp hc' with h | h
      · exact m256 _ h
      · have : c' = 47 ∨ c' = 50 := by simpa using h
        omega
    walk_at "g"
    refine ⟨len_lit rfl, fun B3 nB3 => ?_⟩
    generalize hGd : upd Hc B3 (.lst [.str (Str.ofString "98765432109876543210"), .str (Str.ofString "-1/98765432109876543211"), .str (S (txR q ++ [47, 50]))]) = Hd
    obtain ⟨ys3, oB3, lB3, e3', hB3⟩ := lstFacts (k := 3) hGd nB3 (by simp only [List.all_cons, List.all_nil, k4]; decide +kernel) (Nat.le_refl 3)
    clear hGd
    refine ⟨L0, B3, xs4, ys3, rfl, rfl, e3' _ _ hLc, hB3, Nat.le_trans (show _ ≤ 1000 by omega) (by decide), fun M nM => ?_⟩
    generalize hGe : upd Hd M (.lst (xs4 ++ ys3)) = He
    obtain ⟨zs, oM, lM, e4', hM⟩ := lstFacts (k := 27) hGe nM (by rw [List.all_append, oLc, oB3]; rfl) (by rw [List.length_append]; omega)
    clear hGe
    have mE : Mo p H He := (mo.ex e3').ex e4'
    have tE : TapeAt He p := (tc.mono e3').mono e4'
    walk_at "g"
    refine ⟨M, rfl, ⟨zs, SqL.of hM⟩, lp_L (xs := zs) (fun i σ' H' => ∃ u, σ' = [some (.ref p), some x, some (.str (S (txR q))), some (.ref L0), some (.int (k : Int)), u] ∧ Ex He H') ⟨none, rfl, Ex.refl _⟩ (fun i σ' H' _ ⟨_, _, ex⟩ => SqL.of (ex _ _ hM)) ?_ ?_⟩
    · rintro i y σ' H' hy ⟨u, rfl, ex⟩
      obtain ⟨l, rfl, hl, lo⟩ := okV_S (List.all_eq_true.mp oM y (List.mem_of_getElem? hy))
      walk_at "g"
      refine ⟨l, rfl, hl, fun w1 Hf ef hw1 => ?_⟩
      walk_at "g"
      refine ⟨l, rfl, hl, lo, fun w2 Hg eg hw2 => ?_⟩
      cases hr2 : rdL l with
      | none =>
        rw [hr2] at hw1 hw2
        obtain rfl : w1 = .non := hw1
        obtain rfl : w2 = .non := hw2
        refine .inl ⟨rfl, ?_⟩
        walk_at "g"
        refine g_ite (fun h => absurd h (by decide)) (fun _ => ?_)
        walk_at "g"
        exact ⟨_, rfl, (ex.trans ef).trans eg⟩
      | some z0 =>
        rw [hr2] at hw1 hw2
        have hb := txR_big (rdL_text hr2) hl
        have sz0 : Sz 200 z0 := ⟨Nat.lt_trans hb.1 (by decide), Nat.lt_trans hb.2 (by decide)⟩
        refine .inr (g_neN T.R (RatV.mono eg hw1) (RatV.num hw2) sz0 (by decide) fun Hh eh => ?_)
        rw [decide_eq_true rfl]
        walk_at "g"
        exact ⟨_, rfl, ((ex.trans ef).trans eg).trans eh⟩
    · rintro σ' H' ⟨u, rfl, ex⟩
      walk_at "g"
      exact z H' (mE.ex ex) (tE.mono ex)
end
end Kx


set_option maxHeartbeats 4000000
namespace Kx
open PySem PySem.Spec PyProof.Rows L2 Fm SX
local macro_rules | `(tactic| walk_at "gv") => `(tactic| ((with_reducible refine' g_var ?gh ?_); (case gh => exact rfl)))
local macro_rules | `(tactic| walk_at "g1") => `(tactic| first
  | walk_at "gv"
  | with_reducible refine g_c ?_ | with_reducible refine g_op ?_ | with_reducible refine g_un ?_ | with_reducible refine g_I0 ?_ | with_reducible refine g_U ?_
  | with_reducible refine g_eqI ?_ | with_reducible refine g_neI ?_ | with_reducible refine g_eqS ?_ | with_reducible refine g_neS ?_
  | with_reducible refine g_test ?_ | with_reducible refine g_B ?_ | with_reducible refine g_bl ?_ | with_reducible refine g_not ?_ | with_reducible refine g_and ?_ | with_reducible refine g_or ?_
  | with_reducible refine g_andV ?_ | with_reducible refine g_orV ?_ | with_reducible refine g_notV ?_ | with_reducible refine g_chain ?_ | with_reducible refine g_if ?_ | with_reducible refine g_ifS ?_
  | with_reducible refine g_seq ?_ | with_reducible refine g_next ?_ | with_reducible refine g_break ?_ | with_reducible refine g_cont ?_ | with_reducible refine g_drop ?_ | with_reducible refine g_ret ?_ | with_reducible refine g_retN ?_
  | with_reducible refine g_asg ?_ | with_reducible refine g_name ?_ | with_reducible refine g_par ?_ | with_reducible refine g_par2 ?_ | with_reducible refine g_fld ?_ | with_reducible refine g_sfld ?_
  | with_reducible refine g_nil ?_ | with_reducible refine g_cons ?_ | with_reducible refine g_tup ?_ | with_reducible refine g_lst ?_ | with_reducible refine g_call ?_ | with_reducible refine g_meth ?_ | with_reducible refine g_make1 ?_ | with_reducible refine g_make ?_ | with_reducible refine g_cb ?_ | with_reducible refine g_sub ?_ | with_reducible refine g_m0 ?_ | with_reducible refine g_gcons ?_ | with_reducible refine g_gnil ?_ | with_reducible refine g_for ?_ | with_reducible refine g_lc ?_ | with_reducible refine g_ilist ?_ | with_reducible refine g_itup ?_ | with_reducible refine g_rng1 ?_ | with_reducible refine g_rng3 ?_ | with_reducible refine g_yes ?_ | with_reducible refine g_sl ?_ | with_reducible refine g_nopart ?_ | with_reducible refine g_part ?_ | with_reducible refine g_exI ?_ | with_reducible refine g_m1 ?_ | with_reducible refine g_isS ?_ | with_reducible refine g_bm ?_ | with_reducible refine g_revL ?_ | with_reducible refine g_istr ?_ | with_reducible refine g_notInS ?_ | with_reducible refine g_absI ?_ | with_reducible refine g_intI ?_
  | with_reducible refine iteT ?_ | with_reducible refine iteF ?_ | with_reducible refine g_gcd ?_)
local macro_rules | `(tactic| walk_at "g") => `(tactic| (repeat (first | walk_at "g1" | dsimp only [cx_K, cx_Kn, b_nt, b_nf])))
local macro_rules | `(tactic| walk_at "mul") => `(tactic| exact mulA (a := 200) (b := 200) (by omega) (by omega) (by decide))
local macro_rules | `(tactic| walk_at "pow") => `(tactic| exact ⟨by omega, by omega, by omega⟩)

def spInitX (B : Addr) : Sp := fun vs H Q E => ∃ (p : Addr) (t : Int), vs = [.ref p, .int t, .int 0] ∧ E (.ref B) none H
section
variable {P : Program} {w : World} {K : PySem.W.Frag} {mg : Str → Option Value} {base : Heap} {a : Ad}
theorem ok_Ratio_initX (T : Tx K mg a) : FnOk P w K mg base (L2.CX P w) 1 a.f_Ratio_init a.d_Ratio_init P_Ratio_init (spInitX a.C_ByZero) := by
  refine T.F_Ratio_init.ok sc_Ratio_init (fun vs H Q E h => ?_) (fun cdv A outer s H vs Q E hr h => ?_)
  · obtain ⟨p, t, rfl, _⟩ := h
    rfl
  · obtain ⟨p, t, rfl, q⟩ := h
    refine ⟨_, (pss_cons (ps_if (pt_cmpR op_eq (pv 2) pe_int (nomark _)) (pss_one (ps_raise0 rfl (takes_of rfl rfl rfl rfl) T.x_ByZero T.g_ByZero rfl)) pss_nil) (pss_cons (ps_set (i := 3) sc_Ratio_init.nd rfl (Or.inl rfl) (pe_callBfun cr_gcd (by rfl) T.g_gcd (pa_cons (pv 1) (pa_cons (pv 2) pa_nil)))) (pss_cons (ps_if (pt_cmpR op_lt (pv 2) pe_int (nomark _)) (pss_one (ps_set (i := 3) sc_Ratio_init.nd rfl (Or.inl rfl) (pe_un un_neg (pv 3)))) pss_nil) (pss_cons (ps_fld (pv 0) (pe_op op_fdivA (pv 1) (pv 3)) rfl) (pss_one (ps_fld (pv 0) (pe_op op_fdivA (pv 2) (pv 3)) rfl)))))), ?_⟩
    walk_at "g"
    refine g_dec (fun h => ?_) (fun h => absurd rfl h)
    walk_at "g"
    exact q
def spOverX (C B : Addr) : Sp := fun vs H Q E => ∃ (x y : V) (q : Rat), vs = [x, y] ∧ RatV C H x q ∧ NumV C H y 0 ∧ Sz 200 q ∧ ∀ H', Ex H H' → E (.ref B) none H'
theorem ok_Ratio_overX (T : Tx K mg a) : FnOk P w K mg base (L2.CX P w) 4 a.f_Ratio_over a.d_Ratio_over P_Ratio_over (spOverX a.C_Ratio a.C_ByZero) := by
  refine T.F_Ratio_over.ok sc_Ratio_over (fun vs H Q E h => ?_) (fun cdv A outer s H vs Q E hr h => ?_)
  · obtain ⟨x, y, q, rfl, _⟩ := h
    rfl
  · obtain ⟨x, y, q, rfl, hx, hy, sz, z⟩ := h
    refine ⟨_, (pss_cons (ps_set (i := 2) sc_Ratio_over.nd rfl (Or.inl rfl) (pe_call (ok_as_ratio T) (hr.mono (by decide)) (by rfl) T.g_as_ratio T.F_as_ratio.kp (bd_as_ratio T) .nil pass0 (pa_cons (pv 1) pa_nil))) (pss_one (ps_ret (pe_makeS T.mk_Ratio (ok_Ratio_initX T) (hr.mono (by decide)) (by rfl) T.g_Ratio (bd_Ratio_init T) (fun σ => passAt (takes_of rfl rfl rfl rfl) σ) (pa_cons (pe_op op_mulW (pe_fld (pv 0) rfl) (pe_fld (pv 2) rfl)) (pa_cons (pe_op op_mulW (pe_fld (pv 0) rfl) (pe_fld (pv 2) rfl)) pa_nil)))))), ?_⟩
    walk_at "g"
    have s0 : Sz 200 (0 : Rat) := sz_int (w := 0) (by decide) (by decide)
    refine ⟨y, 0, 200, rfl, hy, s0, by decide, fun u H1 e1 hu => ?_⟩
    walk_at "g"
    refine g_makeS ?_
    walk_at "g"
    refine g_top T.R.cl T.R.nT (hx.mono e1) ?_
    walk_at "g"
    refine g_bottom T.R.cl T.R.nB hu ?_
    refine g_I (mulA (a := 200) (b := 200) sz.1 (by decide) (by decide)) ?_
    walk_at "g"
    refine g_bottom T.R.cl T.R.nB (hx.mono e1) ?_
    walk_at "g"
    refine g_top T.R.cl T.R.nT hu ?_
    refine g_I (mulA (a := 200) (b := 200) (by have := sz.2; omega) (by decide) (by decide)) ?_
    walk_at "g"
    intro x1 dx h1 h2 h3
    refine ⟨x1, _, by rw [show ((0 : Rat).num) = 0 from rfl, Int.mul_zero], ?_⟩
    refine z _ (fun b o hb => ?_)
    rw [upd_ne (ne_of_none (e1 _ _ hb) h1), upd_ne (ne_of_none (e1 _ _ hb) h2)]
    exact e1 _ _ hb
def spBadInit (C : Addr) : Sp := fun vs H Q _ => ∃ (e : Addr) (v : V), vs = [.ref e, v] ∧ H e = some (exo e C none) ∧ ∀ d, H d = none → d ≠ e → Q .non (upd (upd H d (exd d [("given", v)])) e (exo e C (some d)))
theorem ok_BadNumber_init (T : Tx K mg a) : FnOk P w K mg base CX0 1 a.f_BadNumber_init a.d_BadNumber_init P_BadNumber_init (spBadInit a.C_BadNumber) := by
  refine def_ok0 T.F_BadNumber_init sc_BadNumber_init (fun vs H Q E h => ?_) (fun cdv A outer s H vs Q E hr h => ?_)
  · obtain ⟨e, v, rfl, _⟩ := h
    rfl
  · obtain ⟨e, v, rfl, he, z⟩ := h
    refine ⟨_, (pss_one (ps_ost (pv 0) (pv 1))), ?_⟩
    exact ⟨_, rfl, _, rfl, e, a.C_BadNumber, rfl, T.oc_BadNumber, T.xa_BadNumber_given, .inl ⟨he, fun d hd hn => z d hd hn⟩⟩
def spAsRatioX (C B : Addr) : Sp := fun vs H Q E => ∃ v : V, vs = [v] ∧ OddV H v ∧ ∀ d H', H d = none → Ex H H' → H' d = some (.xd [("given", v)]) → E (.ref B) (some d) H'
theorem ok_as_ratioX (T : Tx K mg a) : FnOk P w K mg base (L2.CX P w) 3 a.f_as_ratio a.d_as_ratio P_as_ratio (spAsRatioX a.C_Ratio a.C_BadNumber) := by
  refine T.F_as_ratio.ok sc_as_ratio (fun vs H Q E h => ?_) (fun cdv A outer s H vs Q E hr h => ?_)
  · obtain ⟨v, rfl, _⟩ := h
    rfl
  · obtain ⟨v, rfl, ov, z⟩ := h
    refine ⟨_, (pss_cons (ps_if (pt_val (pe_callB call_isi (by rfl) T.b_isinstance (by decide +kernel) (pa_cons (pv 0) (pa_cons (pe_glob (v := .ref a.C_Ratio) rfl T.g_Ratio rfl) pa_nil)))) (pss_one (ps_ret (pv 0))) pss_nil) (pss_cons (ps_if (pt_val (pe_call (ok_is_whole T) (hr.mono (by decide)) (by rfl) T.g_is_whole T.F_is_whole.kp (bd_is_whole T) .nil pass0 (pa_cons (pv 0) pa_nil))) (pss_one (ps_ret (pe_make T.mk_Ratio (ok_Ratio_init T) (hr.mono (by decide)) (by rfl) T.g_Ratio (bd1_Ratio_init T).choose_spec.2 (bd1_Ratio_init T).choose_spec.1 pass0 (pa_cons (pv 0) pa_nil)))) pss_nil) (pss_one (ps_raise rfl (takes_of rfl rfl rfl rfl) (pmk_oex T.oc_BadNumber T.fi_BadNumber T.ti_BadNumber (ok_BadNumber_init T) (hr.mono (by decide)) (bd_BadNumber_init T) .nil pass0 (by rfl) T.g_BadNumber (pa_cons (pv 0) pa_nil)))))), ?_⟩
    walk_at "g"
    obtain ⟨ty, hty, kty, hne⟩ := odd_ty (K := K) (C := a.C_Ratio) ov
    rw [Bool.or_eq_false_iff] at hne
    refine g_isi hty (.own _) (kit_own T.R kty) ?_
    rw [hne.1]
    walk_at "g"
    refine ⟨v, ty, rfl, hty, kty, fun H1 e1 => ?_⟩
    try rw [hne.2]
    walk_at "g"
    refine ⟨v, rfl, by show 1 ≤ 1000; decide, fun e he => ⟨e, v, rfl, upd_same, fun d hd hn => ⟨rfl, d, _, upd_same, by rw [upd_ne hn, upd_same], by rw [upd_ne hn] at hd; exact hd, ?_⟩⟩⟩
    have hd1 : H1 d = none := by rw [upd_ne hn] at hd; exact hd
    refine z d _ (e1.free hd1) (fun b o hb => ?_) upd_same
    have h1 := e1 _ _ hb
    rw [upd_ne (ne_of_none h1 hd1), del_ne (ne_of_none h1 he), upd_ne (ne_of_none h1 he), upd_ne (ne_of_none h1 hd1), upd_ne (ne_of_none h1 he)]
    exact h1
end
end Kx


set_option maxHeartbeats 4000000
namespace Kx
open PySem PySem.Spec PyProof.Rows L2 Fm SX
local macro_rules | `(tactic| walk_at "gv") => `(tactic| ((with_reducible refine' g_var ?gh ?_); (case gh => exact rfl)))
local macro_rules | `(tactic| walk_at "g1") => `(tactic| first
  | walk_at "gv"
  | with_reducible refine g_c ?_ | with_reducible refine g_op ?_ | with_reducible refine g_un ?_ | with_reducible refine g_I0 ?_ | with_reducible refine g_U ?_
  | with_reducible refine g_eqI ?_ | with_reducible refine g_neI ?_ | with_reducible refine g_eqS ?_ | with_reducible refine g_neS ?_
  | with_reducible refine g_test ?_ | with_reducible refine g_B ?_ | with_reducible refine g_bl ?_ | with_reducible refine g_not ?_ | with_reducible refine g_and ?_ | with_reducible refine g_or ?_
  | with_reducible refine g_andV ?_ | with_reducible refine g_orV ?_ | with_reducible refine g_notV ?_ | with_reducible refine g_chain ?_ | with_reducible refine g_if ?_ | with_reducible refine g_ifS ?_
  | with_reducible refine g_seq ?_ | with_reducible refine g_next ?_ | with_reducible refine g_break ?_ | with_reducible refine g_cont ?_ | with_reducible refine g_drop ?_ | with_reducible refine g_ret ?_ | with_reducible refine g_retN ?_
  | with_reducible refine g_asg ?_ | with_reducible refine g_name ?_ | with_reducible refine g_par ?_ | with_reducible refine g_par2 ?_ | with_reducible refine g_fld ?_ | with_reducible refine g_sfld ?_
  | with_reducible refine g_nil ?_ | with_reducible refine g_cons ?_ | with_reducible refine g_tup ?_ | with_reducible refine g_lst ?_ | with_reducible refine g_call ?_ | with_reducible refine g_meth ?_ | with_reducible refine g_make1 ?_ | with_reducible refine g_make ?_ | with_reducible refine g_cb ?_ | with_reducible refine g_sub ?_ | with_reducible refine g_m0 ?_ | with_reducible refine g_gcons ?_ | with_reducible refine g_gnil ?_ | with_reducible refine g_for ?_ | with_reducible refine g_lc ?_ | with_reducible refine g_ilist ?_ | with_reducible refine g_itup ?_ | with_reducible refine g_rng1 ?_ | with_reducible refine g_rng3 ?_ | with_reducible refine g_yes ?_ | with_reducible refine g_sl ?_ | with_reducible refine g_nopart ?_ | with_reducible refine g_part ?_ | with_reducible refine g_exI ?_ | with_reducible refine g_m1 ?_ | with_reducible refine g_isS ?_ | with_reducible refine g_bm ?_ | with_reducible refine g_revL ?_ | with_reducible refine g_istr ?_ | with_reducible refine g_notInS ?_ | with_reducible refine g_absI ?_ | with_reducible refine g_intI ?_
  | with_reducible refine iteT ?_ | with_reducible refine iteF ?_ | with_reducible refine g_gcd ?_)
local macro_rules | `(tactic| walk_at "g") => `(tactic| (repeat (first | walk_at "g1" | dsimp only [cx_K, cx_Kn, b_nt, b_nf])))
local macro_rules | `(tactic| walk_at "mul") => `(tactic| exact mulA (a := 200) (b := 200) (by omega) (by omega) (by decide))
local macro_rules | `(tactic| walk_at "pow") => `(tactic| exact ⟨by omega, by omega, by omega⟩)

theorem vals_app {vs zs : List V} {us ws : List Value} (r : Vals vs us) (q : Vals zs ws) : Vals (vs ++ zs) (us ++ ws) := by
  induction r with
  | nil => exact q
  | cons h _ ih => exact .cons h ih
theorem vals_rev {vs : List V} {us : List Value} (r : Vals vs us) : Vals vs.reverse us.reverse := by
  induction r with
  | nil => exact .nil
  | cons h _ ih =>
    rw [List.reverse_cons, List.reverse_cons]
    exact vals_app ih (.cons h .nil)
theorem kb_Ratio_init {K : PySem.W.Frag} {mg : Str → Option Value} {a : Ad} (T : Tx K mg a) : KBn K a.d_Ratio_init P_Ratio_init 1 ["bottom", "top"] (fun us ws => us ++ ws.reverse) (fun vs zs => vs ++ zs.reverse) :=
  (T.F_Ratio_init.kbindsD (ps := P_Ratio_init) 1 ["bottom", "top"] (fun us _ zs => us ++ zs.reverse) (by simp) (fun r _ q => vals_app r (vals_rev q)) fun T kV doc pm an cdv ct us its ws h1 h2 h3 => match us, its, ws, h1, h2, h3 with | [_], [_], [_, _], _, _, _ => ⟨_, rfl, rfl⟩).choose_spec
theorem kb_total {K : PySem.W.Frag} {mg : Str → Option Value} {a : Ad} (T : Tx K mg a) : KBn K a.d_total P_total 0 ["numbers"] (fun _ ws => ws) (fun _ zs => zs) :=
  kbN T.F_total 0 ["numbers"] (fun _ ws => ws) (fun _ rz => rz) fun kV doc pm an cdv ct us ws h1 h2 => match us, ws, h1, h2 with | [], [_], _, _ => rfl
theorem kb_as_ratio {K : PySem.W.Frag} {mg : Str → Option Value} {a : Ad} (T : Tx K mg a) : KBn K a.d_as_ratio P_as_ratio 0 ["given"] (fun _ ws => ws) (fun _ zs => zs) :=
  kbN T.F_as_ratio 0 ["given"] (fun _ ws => ws) (fun _ rz => rz) fun kV doc pm an cdv ct us ws h1 h2 => match us, ws, h1, h2 with | [], [_], _, _ => rfl
theorem kb_Ratio_over {K : PySem.W.Frag} {mg : Str → Option Value} {a : Ad} (T : Tx K mg a) : KBn K a.d_Ratio_over P_Ratio_over 1 ["number"] (fun us ws => us ++ ws) (fun vs zs => vs ++ zs) :=
  kbN T.F_Ratio_over 1 ["number"] (fun us ws => us ++ ws) (fun r q => vals_app r q) fun kV doc pm an cdv ct us ws h1 h2 => match us, ws, h1, h2 with | [_], [_], _, _ => rfl
def spRefused (K : PySem.W.Frag) (C : Addr) : Sp := fun vs H Q _ => ∃ (x v : V) (q : Rat), vs = [x, v] ∧ RatV C H x q ∧ OddV H v ∧ q.num.natAbs < 10 ^ 12 ∧ q.den < 10 ^ 12 ∧ ∀ H', Ex H H' → Q (.bl true) H'
section
variable {P : Program} {w : World} {K : PySem.W.Frag} {mg : Str → Option Value} {base : Heap} {a : Ad}
theorem ok_Lrefused (T : Tx K mg a) : FnOk P w K mg base CX0 6 a.f_Lrefused a.d_Lrefused P_Lrefused (spRefused K a.C_Ratio) := by
  refine def_ok0 T.F_Lrefused sc_Lrefused (fun vs H Q E h => ?_) (fun cdv A outer s H vs Q E hr h => ?_)
  · obtain ⟨x, v, q, rfl, _⟩ := h
    rfl
  · obtain ⟨x, v, q, rfl, hx, ov, n1, n2, z⟩ := h
    have hR0 := T.R
    refine ⟨_, pss_gd fun g => pss_cons (ps_set (i := 2) sc_Lrefused.nd rfl (Or.inl rfl) (pe_lst pa_nil))
      (pss_cons (ps_for PassesOwn.never rfl (pi_range1 (by rfl) T.b_range (pa_cons pe_int pa_nil)) (pg_name (i := 3) sc_Lrefused.nd rfl (Or.inl rfl))
        (pss_one (ps_try_cls (W := fun _ _ _ _ => False) (l := [⟨.ref a.C_ByZero, none, _⟩, ⟨.ref a.C_BadNumber, some 4, _⟩]) rfl rfl sc_Lrefused.nd takes0
          (fun V pn xe tk _ => pss_one (ps_if (pt_cmpR op_eq (pv 3) pe_int (nomark _))
            (pss_one (ps_expr (pe_makeS T.mk_Ratio (ok_Ratio_initX T) (gd_room (hr.mono (by decide))) (by rfl) T.g_Ratio (bd_Ratio_init T) (fun σ => passAt tk σ) (pa_cons (pe_fldK (K := K) rfl (pv 0) rfl) (pa_cons pe_int pa_nil)))))
            (pss_one (ps_if (pt_cmpR op_eq (pv 3) pe_int (nomark _))
              (pss_one (ps_expr (pe_methW (pv 0) T.R.cl T.m_Ratio_over (ok_Ratio_overX T) (gd_room (hr.mono (by decide))) (kb_Ratio_over T) (fun σ => passAt tk σ)
                (pk_cons (pe_ix (ix_listK (K := K) rfl) (pe_lst (pa_cons pe_int (pa_cons (pe_make T.mk_Ratio (ok_Ratio_init T) (gd_room (hr.mono (by decide))) (by rfl) T.g_Ratio (bd1_Ratio_init T).choose_spec.2 (bd1_Ratio_init T).choose_spec.1 pass0 (pa_cons pe_int pa_nil)) pa_nil)))
                  (pe_op op_mod (pe_callTy cr_intI (by rfl) T.b_int (by decide +kernel) (pa_cons (pe_fldK (K := K) rfl (pv 0) rfl) pa_nil)) pe_int) (fun _ _ => rfl)) pk_nil))))
              (pss_one (ps_expr (pe_callW (ok_as_ratioX T) (gd_room (hr.mono (by decide))) (by rfl) T.g_as_ratio T.F_as_ratio.kp (kb_as_ratio T) (fun σ => passAt tk σ) (pk_cons (pv 1) pk_nil))))))))
          (.cons trivial ⟨rfl, by decide, .inl T.g_ByZero⟩ (fun _ _ _ _ _ _ _ => pss_one (ps_expr (pe_appK (K := K) rfl (pv 2) pe_str)))
            (.cons ⟨rfl, rfl⟩ ⟨rfl, by decide, .inl T.g_BadNumber⟩ (fun _ _ _ _ _ hz hf => pss_one (ps_expr (pe_appK (K := K) rfl (pv 2)
              (pe_callB (cr_repr (g := g) rfl hr.units) (by rfl) T.b_repr (by decide +kernel) (pa_cons (pe_xf T.xf_BadNumber T.xa_BadNumber_given hz hf (pv 4)) pa_nil))))) .nil)))))
      (pss_one (ps_ret (pe_cmpR (op_eqD hr.units) (pv 2) (pe_lst (pa_cons pe_str (pa_cons pe_str (pa_cons (pe_callB (cr_repr (g := g) rfl hr.units) (by rfl) T.b_repr (by decide +kernel) (pa_cons (pv 1) pa_nil)) pa_nil)))) (nomark _))))), fun g => ?_⟩
    obtain ⟨t, ok⟩ := repr_odd (g := g) ov
    walk_at "g"
    refine ⟨len_lit rfl, fun f hf => ?_⟩
    have ef : Ex H (upd H f (.lst [])) := Ex.new hf
    have af : (upd H f (.lst [])) f = some (.lst []) := upd_same
    generalize (upd H f (.lst [])) = H1 at ef af ⊢
    walk_at "g"
    refine ⟨3, rfl, by decide, by decide, ?_⟩
    refine lp_R (n := 3) (fun i σ' H' => ∃ u3, σ' = [some x, some v, some (.ref f), u3, none] ∧ Ex H H' ∧ H' f = some (.lst (([V.str "zero", V.str "zero", V.str t] : List V).take i))) ⟨none, rfl, ef, af⟩ ?_ ?_
    · rintro i σ' H' hi ⟨u3, rfl, ex, hl⟩
      walk_at "g"
      have hi3 : i = 0 ∨ i = 1 ∨ i = 2 := by omega
      rcases hi3 with rfl | rfl | rfl
      · refine g_dec (fun _ => ?_) (fun h => absurd rfl h)
        walk_at "g"
        refine g_makeS ?_
        walk_at "g"
        refine g_top T.R.cl T.R.nT (hx.mono ex) ?_
        walk_at "g"
        intro x1 dx h1 h2 h3
        refine ⟨x1, _, rfl, ?_⟩
        refine ⟨true, exm_self T.x_ByZero, fun _ b hb => ?_, fun h => by cases h⟩
        have e2 : Ex H' (upd (upd H' dx (.own x1)) x1 (.ins a.C_Ratio dx [])) := fun p o hp => by
          rw [upd_ne (ne_of_none hp h1), upd_ne (ne_of_none hp h2)]
          exact hp
        generalize (upd (upd H' dx (.own x1)) x1 (.ins a.C_Ratio dx [])) = H2 at e2 hb ⊢
        have hl2 := e2 _ _ hl
        refine ⟨_, rfl, tyL hl2, ?_⟩
        walk_at "g"
        exact g_app hl2 (by show 0 ≤ 100000; decide) ⟨_, rfl, (ex.trans e2).mut hf, by rw [upd_same]; rfl⟩
      · refine g_dec (fun h => absurd h (by decide)) (fun _ => ?_)
        walk_at "g"
        refine g_dec (fun _ => ?_) (fun h => absurd rfl h)
        walk_at "g"
        refine g_methW ?_
        walk_at "g"
        refine g_methR (hx.mono ex) (by decide +kernel) (by decide +kernel) ?_
        walk_at "g"
        refine use_initW (k := 40) (by decide) (by decide) (by decide) (by decide) fun vp H5 e5 hv => ?_
        walk_at "g"
        refine ⟨len_lit rfl, fun m hm => ?_⟩
        have em : Ex H5 (upd H5 m (.lst [.int 0, .ref vp])) := Ex.new hm
        have am : (upd H5 m (.lst [.int 0, .ref vp])) m = some (.lst [.int 0, .ref vp]) := upd_same
        generalize (upd H5 m (.lst [.int 0, .ref vp])) = H6 at em am ⊢
        have e6 := e5.trans em
        walk_at "g"
        refine g_top T.R.cl T.R.nT (hx.mono (ex.trans e6)) ?_
        walk_at "g"
        refine g_I (by show (0 : Int) < 2; decide) ?_
        have num : ∃ y, atI [V.int 0, V.ref vp] (q.num % 2) = some y ∧ NumV a.C_Ratio H6 y 0 := by
          have h2 : q.num % 2 = 0 ∨ q.num % 2 = 1 := by omega
          rcases h2 with h2 | h2
          · rw [h2]; exact ⟨_, at_zero, NumV.int⟩
          · rw [h2]
            refine ⟨_, at_one, ?_⟩
            have := (hv.mono em).num
            rw [Rat.zero_divInt] at this
            exact this
        obtain ⟨y, hy, ny⟩ := num
        refine g_ixL (SqL.of am) hy ?_
        walk_at "g"
        have sq : Sz 200 q := ⟨Nat.lt_of_lt_of_le n1 (by decide), Nat.lt_of_lt_of_le n2 (by decide)⟩
        refine ⟨rfl, x, y, q, rfl, hx.mono (ex.trans e6), ny, sq, fun H7 e7 => ?_⟩
        refine ⟨true, exm_self T.x_ByZero, fun _ b hb => ?_, fun h => by cases h⟩
        have hl2 := e7 _ _ (e6 _ _ hl)
        refine ⟨_, rfl, tyL hl2, ?_⟩
        walk_at "g"
        exact g_app hl2 (by show 1 ≤ 100000; decide) ⟨_, rfl, ((ex.trans e6).trans e7).mut hf, by rw [upd_same]; rfl⟩
      · refine g_dec (fun h => absurd h (by decide)) (fun _ => ?_)
        walk_at "g"
        refine g_dec (fun h => absurd h (by decide)) (fun _ => ?_)
        walk_at "g"
        refine g_callW ?_
        walk_at "g"
        refine ⟨rfl, v, rfl, ov.mono ex, fun d H5 hd e5 xd => ?_⟩
        refine ⟨false, T.xo_BadNumber_ByZero, (fun h => by cases h), fun _ => ⟨true, T.xs_BadNumber, fun _ b hb => ?_, fun h => by cases h⟩⟩
        have hl5 := e5 _ _ hl
        refine ⟨_, rfl, tyL hl5, ?_⟩
        walk_at "g"
        refine ⟨_, rfl, rfl, rfl, d, _, v, rfl, xd, rfl, ?_⟩
        walk_at "g"
        refine g_repr ok (ex.trans e5) ?_
        walk_at "g"
        exact g_app hl5 (by show 2 ≤ 100000; decide) ⟨_, rfl, (ex.trans e5).mut hf, by rw [upd_same]; rfl⟩
    · rintro σ' H' ⟨u3, rfl, ex, hl⟩
      walk_at "g"
      refine g_repr ok ex ?_
      refine ⟨len_lit rfl, fun f2 hf2 => ?_⟩
      have so : ∀ y ∈ ([("zero" : Str), ("zero" : Str), t] : List Str), PyData.strOk y = true := fun y hy => by
        have h3 : y = "zero" ∨ y = "zero" ∨ y = t := by simpa using hy
        rcases h3 with rfl | rfl | rfl
        · decide +kernel
        · decide +kernel
        · exact ok.1
      refine g_eqStrs (l := ["zero", "zero", t]) (m := ["zero", "zero", t]) so so (SqL.of (Ex.new hf2 _ _ hl)) (SqL.of upd_same) ?_
      rw [decide_eq_true rfl]
      exact z _ (ex.trans (Ex.new hf2))
end
end Kx


set_option maxHeartbeats 4000000
namespace Kx
open PySem PySem.Spec PyProof.Rows L2 Fm SX
local macro_rules | `(tactic| walk_at "gv") => `(tactic| ((with_reducible refine' g_var ?gh ?_); (case gh => exact rfl)))
local macro_rules | `(tactic| walk_at "g1") => `(tactic| first
  | walk_at "gv"
  | with_reducible refine g_c ?_ | with_reducible refine g_op ?_ | with_reducible refine g_un ?_ | with_reducible refine g_I0 ?_ | with_reducible refine g_U ?_
  | with_reducible refine g_eqI ?_ | with_reducible refine g_neI ?_ | with_reducible refine g_eqS ?_ | with_reducible refine g_neS ?_
  | with_reducible refine g_test ?_ | with_reducible refine g_B ?_ | with_reducible refine g_bl ?_ | with_reducible refine g_not ?_ | with_reducible refine g_and ?_ | with_reducible refine g_or ?_
  | with_reducible refine g_andV ?_ | with_reducible refine g_orV ?_ | with_reducible refine g_notV ?_ | with_reducible refine g_chain ?_ | with_reducible refine g_if ?_ | with_reducible refine g_ifS ?_
  | with_reducible refine g_seq ?_ | with_reducible refine g_next ?_ | with_reducible refine g_break ?_ | with_reducible refine g_cont ?_ | with_reducible refine g_drop ?_ | with_reducible refine g_ret ?_ | with_reducible refine g_retN ?_
  | with_reducible refine g_asg ?_ | with_reducible refine g_name ?_ | with_reducible refine g_par ?_ | with_reducible refine g_par2 ?_ | with_reducible refine g_fld ?_ | with_reducible refine g_sfld ?_
  | with_reducible refine g_nil ?_ | with_reducible refine g_cons ?_ | with_reducible refine g_tup ?_ | with_reducible refine g_lst ?_ | with_reducible refine g_call ?_ | with_reducible refine g_meth ?_ | with_reducible refine g_make1 ?_ | with_reducible refine g_make ?_ | with_reducible refine g_cb ?_ | with_reducible refine g_sub ?_ | with_reducible refine g_m0 ?_ | with_reducible refine g_gcons ?_ | with_reducible refine g_gnil ?_ | with_reducible refine g_for ?_ | with_reducible refine g_lc ?_ | with_reducible refine g_ilist ?_ | with_reducible refine g_itup ?_ | with_reducible refine g_rng1 ?_ | with_reducible refine g_rng3 ?_ | with_reducible refine g_yes ?_ | with_reducible refine g_sl ?_ | with_reducible refine g_nopart ?_ | with_reducible refine g_part ?_ | with_reducible refine g_exI ?_ | with_reducible refine g_m1 ?_ | with_reducible refine g_isS ?_ | with_reducible refine g_bm ?_ | with_reducible refine g_revL ?_ | with_reducible refine g_istr ?_ | with_reducible refine g_notInS ?_ | with_reducible refine g_absI ?_ | with_reducible refine g_intI ?_
  | with_reducible refine iteT ?_ | with_reducible refine iteF ?_ | with_reducible refine g_gcd ?_)
local macro_rules | `(tactic| walk_at "g") => `(tactic| (repeat (first | walk_at "g1" | dsimp only [cx_K, cx_Kn, b_nt, b_nf])))
local macro_rules | `(tactic| walk_at "mul") => `(tactic| exact mulA (a := 200) (b := 200) (by omega) (by omega) (by decide))
local macro_rules | `(tactic| walk_at "pow") => `(tactic| exact ⟨by omega, by omega, by omega⟩)

/-- the statements of a lap of the law -/
def lapBody : List Stmt := match defBody s_law with
  | .For _ _ b _ _ :: _ => b
  | _ => []
/-- what a lap leaves -/
def LapEnd (p : Addr) (H0 : Hp) (D : Ends) : Prop := ∀ σ H, (∃ u1 u2 u3 u4 u5 u6 u7 u8 u9 u10 u11 u12 u13 u14 u15 u16 u17 u18 : Option V, σ = [some (.ref p), u1, u2, u3, u4, u5, u6, u7, u8, u9, u10, u11, u12, u13, u14, u15, u16, u17, u18]) → Ex H0 H → D.nx σ H
def tD (C : Addr) : TS := fun D σ H => ∃ (H0 : Hp) (p t L F : Addr) (c0 c1 c2 : Addr × Int × Int) (r0 r1 r2 : V), (∃ u1 u2 u3 u4 u5 u6 u7 u8 u9 u10 u11 u12 u13 u14 u15 u16 u17 u18 : Option V, σ = [some (.ref p), u1, some (.ref t), some (.ref L), u4, some (.ref F), u6, u7, u8, u9, u10, u11, u12, u13, u14, u15, u16, u17, u18]) ∧ Bn C H0 H t L F c0 c1 c2 r0 r1 r2 ∧ LapEnd p H0 D
def tC' (C : Addr) : TS := fun D σ H => ∃ (H0 : Hp) (p t L F : Addr) (c0 c1 c2 : Addr × Int × Int) (r0 r1 r2 : V), (∃ u1 u2 u3 u4 u5 u6 u7 u8 u9 u10 u11 u12 u13 u14 u15 u16 u17 u18 : Option V, σ = [some (.ref p), u1, some (.ref t), some (.ref L), u4, some (.ref F), u6, u7, u8, u9, u10, some (.int c1.2.1), u12, u13, u14, u15, u16, u17, u18]) ∧ Bn C H0 H t L F c0 c1 c2 r0 r1 r2 ∧ LapEnd p H0 D
section
variable {P : Program} {w : World} {K : PySem.W.Frag} {mg : Str → Option Value} {base : Heap} {a : Ad} {cdv : Value} {A : Around} {outer : List Env} {s : Shared} {H₀ : Hp} {E : XK}
theorem seg_D (T : Tx K mg a) (hr : Room 7 (A.deeper (envOfC (Str.ofString "law") (defScope s_law) s.heap.objs.size a.f_law cdv))) :
    PSs (cxOf CX0 P w K mg base N_law (Str.ofString "law") (defScope s_law) a.f_law cdv A outer s H₀ E).nox (lapBody.drop 21) (tD a.C_Ratio) := by
  refine pss_weak (pss_cons (ps_par (i := 16) (j := 17) (by rfl) sc_law.nd rfl rfl (by decide) rfl rfl (pa_cons (pe_ix ix_list (pv 5) pe_int (fun _ _ => rfl)) (pa_cons (pe_lc (own := [("_law_lap", 4)]) (g := (gName 4)) (tt := tYes) rfl sc_law.nd (pi_range1 (by rfl) T.b_range (pa_cons pe_int pa_nil)) (blkOk_by (N := N_law) (sc := defScope s_law) (by decide +kernel)) (fun _ _ _ _ _ => pg_name (i := 4) sc_law.nd rfl (Or.inl rfl)) (fun _ _ _ _ _ => pts_nil) (fun _ _ _ _ _ => (pe_make T.mk_Ratio (ok_Ratio_init T) (hr.mono (by decide)) (by rfl) T.g_Ratio (bd_Ratio_init T) .nil pass0 (pa_cons (pv 4) (pa_cons pe_int pa_nil))))) pa_nil)) (by rfl)) (pss_cons (ps_set (i := 16) sc_law.nd rfl (Or.inl rfl) (pe_op (op_own T.o_add (ok_Ratio_add T) (hr.mono (by decide)) (bd_Ratio_add T) pass0) (pv 16) pe_int)) (pss_cons (ps_if (PW.pt (pw_or (pt_cmpR (op_cmp (fun _ _ => rfl) T.p_eq (ok_Ratio_eq T) (hr.mono (by decide)) (bd_Ratio_eq T) pass0) (pv 16) (pe_ix ix_list (pv 5) pe_int (fun _ _ => rfl)) (nomark _)) (pw_or1 (pt_not (pt_val (pe_call (ok_Lis T) (hr.mono (by decide)) (by rfl) T.g_Lis T.F_Lis.kp (bd_Lis T) .nil pass0 (pa_cons (pe_call (ok_total T) (hr.mono (by decide)) (by rfl) T.g_total T.F_total.kp (bd_total T) .nil pass0 (pa_cons (pv 17) pa_nil)) (pa_cons pe_int (pa_cons pe_int pa_nil))))))))) (pss_one (ps_ret pe_bl)) pss_nil) (pss_cons (ps_if (pt_not (pt_val (pe_call (ok_Lis T) (hr.mono (by decide)) (by rfl) T.g_Lis T.F_Lis.kp (bd_Lis T) .nil pass0 (pa_cons (pe_ix ix_list (pv 5) pe_int (fun _ _ => rfl)) (pa_cons (pe_ix ix_tup (pe_ix ix_list (pv 3) pe_int (fun _ _ => rfl)) pe_int (fun _ _ => rfl)) (pa_cons (pe_ix ix_tup (pe_ix ix_list (pv 3) pe_int (fun _ _ => rfl)) pe_int (fun _ _ => rfl)) pa_nil)))))) (pss_one (ps_ret pe_bl)) pss_nil) (pss_cons (ps_set (i := 18) sc_law.nd rfl (Or.inl rfl) (pe_ix ix_list (pe_lst (pa_cons pe_non (pa_cons pe_bl (pa_cons pe_bl (pa_cons pe_str (pa_cons (pe_lst (pa_cons pe_int pa_nil)) (pa_cons (pe_tup (pa_cons pe_int (pa_cons pe_int pa_nil))) (pa_cons pe_dnewK pa_nil)))))))) (pe_call (ok_Lpick T) (hr.mono (by decide)) (by rfl) T.g_Lpick T.F_Lpick.kp (bd_Lpick T) .nil pass0 (pa_cons (pv 2) (pa_cons pe_int pa_nil))) (fun _ _ => rfl))) (pss_one (ps_if (PW.pt (pw_or (pt_cmpR (op_cmp (fun _ _ => rfl) T.p_eq (ok_Ratio_eq T) (hr.mono (by decide)) (bd_Ratio_eq T) pass0) (pe_ix ix_list (pv 5) pe_int (fun _ _ => rfl)) (pv 18) (nomark _)) (pw_or (pt_cmpR (op_cmp (fun _ _ => rfl) T.p_eq (ok_Ratio_eq T) (hr.mono (by decide)) (bd_Ratio_eq T) pass0) (pe_make T.mk_Ratio (ok_Ratio_init T) (hr.mono (by decide)) (by rfl) T.g_Ratio (bd1_Ratio_init T).choose_spec.2 (bd1_Ratio_init T).choose_spec.1 pass0 (pa_cons pe_int pa_nil)) (pv 18) (nomark _)) (pw_or (pt_cmpR (op_cmp (fun _ _ => rfl) T.p_eq (ok_Ratio_eq T) (hr.mono (by decide)) (bd_Ratio_eq T) pass0) (pe_make T.mk_Ratio (ok_Ratio_init T) (hr.mono (by decide)) (by rfl) T.g_Ratio (bd1_Ratio_init T).choose_spec.2 (bd1_Ratio_init T).choose_spec.1 pass0 (pa_cons pe_int pa_nil)) (pv 18) (nomark _)) (pw_or1 (pt_not (pt_val (pe_call (ok_Lrefused T) (hr.mono (by decide)) (by rfl) T.g_Lrefused T.F_Lrefused.kp (bd_Lrefused T) .nil pass0 (pa_cons (pe_ix ix_list (pv 5) pe_int (fun _ _ => rfl)) (pa_cons (pv 18) pa_nil)))))))))) (pss_one (ps_ret pe_bl)) pss_nil))))))) (fun D σ H h => ?_)
  obtain ⟨H0, p, t, L, F, c0, c1, c2, r0, r1, r2, ⟨u1, u2, u3, u4, u5, u6, u7, u8, u9, u10, u11, u12, u13, u14, u15, u16, u17, u18, rfl⟩, b0, z⟩ := h
  have c01 := b0.p0.l1
  have c02 := b0.p0.l2
  have c03 := b0.p0.l3
  have c04 := b0.p0.l4
  walk_at "g"
  refine g_ixL (SqL.of b0.hF) at_zero ?_
  walk_at "g"
  refine ⟨40, rfl, by decide, by decide, ?_⟩
  refine cp_R (n := 40) (fun G j H' => ∃ rs : List V, rs.length = j ∧ H' G = some (.lst rs) ∧ (∀ (k : Nat) (r : V), rs[k]? = some r → RatV a.C_Ratio H' r (Rat.divInt (k : Int) 7)) ∧ Ex H H') (fun G hG => ⟨[], rfl, upd_same, fun k r h => by simp at h, Ex.new hG⟩) (fun G hG j H' hj => ?_) (fun G hG H' => ?_)
  · rintro ⟨rs, hl2, hf, hr, ex⟩
    refine ⟨rfl, ?_⟩
    walk_at "g"
    refine use_initW (k := 40) (by decide) (by omega) (by decide) (by decide) fun vp H5 e5 hv => ?_
    have hf5 := e5 _ _ hf
    refine ⟨rs, hf5, Nat.lt_of_le_of_lt (m := 100) (by omega) (by decide), rs ++ [.ref vp], by rw [List.length_append, hl2]; rfl, upd_same, fun k r hr' => ?_, fun b o hb => ?_⟩
    · have keep : ∀ {v : V} {q : Rat}, RatV a.C_Ratio H5 v q → RatV a.C_Ratio (upd H5 G (.lst (rs ++ [.ref vp]))) v q := fun {v q} ⟨p', z, dx, h⟩ => ⟨p', z, dx, by
        rw [upd_ne fun w => by rw [w, hf5] at h; cases h]
        exact h⟩
      by_cases hkj : k < rs.length
      · rw [List.getElem?_append_left hkj] at hr'
        exact keep ((hr k r hr').mono e5)
      · rw [List.getElem?_append_right (by omega)] at hr'
        have hk0 : k = rs.length := by
          match h : k - rs.length, hr' with
          | 0, _ => omega
          | _ + 1, hr' => simp at hr'
        subst hk0
        rw [Nat.sub_self] at hr'
        cases hr'
        rw [hl2]
        rw [Int.zero_add] at hv
        exact keep hv
    · rw [upd_ne (ne_of_none hb hG)]
      exact e5 _ _ (ex _ _ hb)
  rintro ⟨rs, hl2, hf, hrs, ex⟩
  have b1 := b0.mono ex
  clear b0
  walk_at "g"
  have sq0 : Sz 200 (rtOf c0) := Sz.divInt (by omega) (by omega) (by omega)
  have s1 : Sz 200 ((1 : Int) : Rat) := sz_int (by decide) (by decide)
  refine g_num2 b1.q0 (.inl ⟨1, rfl, rfl⟩) sq0 s1 (by decide) fun vk Ha ea hvk => ?_
  have b2 := b1.mono ea
  have hG2 := ea _ _ hf
  clear b1
  walk_at "g"
  refine g_ixL (SqL.of b2.hF) at_zero ?_
  refine g_eqN T.R hvk b2.q0.num sq0 (by decide) fun Hb eb => ?_
  have b3 := b2.mono eb
  have hG3 := eb _ _ hG2
  clear b2
  rw [decide_eq_false (fun h => by
    have h2 : rtOf c0 + ((1 : Int) : Rat) - rtOf c0 = 0 := by rw [h, Rat.sub_self]
    rw [Rat.add_comm, Rat.add_sub_cancel] at h2
    exact absurd h2 (by decide))]
  walk_at "g"
  have hnum : Nums a.C_Ratio Hb rs ((List.range 40).map fun (i : Nat) => Rat.divInt (i : Int) 7) := by
    refine ⟨by rw [hl2, List.length_map, List.length_range], fun k v q hv hq => ?_⟩
    rw [List.getElem?_map] at hq
    cases hk : (List.range 40)[k]? with
    | none => rw [hk] at hq; cases hq
    | some j =>
      rw [hk] at hq
      cases hq
      obtain ⟨h1, h2⟩ := List.getElem?_eq_some_iff.mp hk
      rw [List.getElem_range] at h2
      subst h2
      exact (((hrs _ _ hv).mono ea).mono eb).num
  refine ⟨G, rs, _, 200, rfl, .inl (SqL.of hG3), hnum, fun k hk => sev_take (by rw [List.length_map, List.length_range] at hk; exact hk), sev_each, by decide, fun vc Hc ec hvc => ?_⟩
  have b4 := b3.mono ec
  clear b3
  walk_at "g"
  refine use_Lis hvc sev_sum (by decide) (by decide) (by decide) fun Hd ed => ?_
  have b5 := b4.mono ed
  clear b4
  walk_at "g"
  refine g_ixL (SqL.of b5.hF) at_zero ?_
  walk_at "g"
  refine g_ixL (SqL.of b5.hD) at_zero ?_
  walk_at "g"
  refine g_ixT (SqT.of b5.p0.at_) at_zero ?_
  walk_at "g"
  refine g_ixL (SqL.of b5.hD) at_zero ?_
  walk_at "g"
  refine g_ixT (SqT.of b5.p0.at_) at_one ?_
  walk_at "g"
  refine use_Lis b5.q0 rfl (by omega) (by omega) (by omega) fun He ee => ?_
  have b6 := b5.mono ee
  clear b5
  walk_at "g"
  refine ⟨len_lit rfl, fun a1 ha1 => ?_⟩
  have b7 := b6.mono (Ex.new (o := .lst [.int 1]) ha1)
  have o1 : (upd He a1 (.lst [.int 1])) a1 = some (.lst [.int 1]) := upd_same
  have n1 := b6.tp.new ha1
  clear b6
  generalize (upd He a1 (.lst [.int 1])) = Hf at b7 o1 ⊢
  walk_at "g"
  refine ⟨len_lit rfl, fun a2 ha2 => ?_⟩
  have b8 := b7.mono (Ex.new (o := .tup [.int 1, .int 2]) ha2)
  have o2 : (upd Hf a2 (.tup [.int 1, .int 2])) a2 = some (.tup [.int 1, .int 2]) := upd_same
  have o1b := Ex.new (o := .tup [.int 1, .int 2]) ha2 _ _ o1
  have n2 := b7.tp.new ha2
  clear b7 o1
  generalize (upd Hf a2 (.tup [.int 1, .int 2])) = Hg at b8 o1b o2 ⊢
  walk_at "g"
  refine g_dnew fun a3 ha3 => ?_
  have b9 := b8.mono (Ex.new (o := .dK []) ha3)
  have o3 : (upd Hg a3 (.dK [])) a3 = some (.dK []) := upd_same
  have o1c := Ex.new (o := .dK []) ha3 _ _ o1b
  have o2b := Ex.new (o := .dK []) ha3 _ _ o2
  have n3 := b8.tp.new ha3
  clear b8 o1b o2
  generalize (upd Hg a3 (.dK [])) = Hh at b9 o1c o2b o3 ⊢
  walk_at "g"
  refine ⟨len_lit rfl, fun a4 ha4 => ?_⟩
  have e10 : Ex Hh (upd Hh a4 (.lst [.non, .bl true, .bl false, .str (Str.ofString "1"), .ref a1, .ref a2, .ref a3])) := Ex.new ha4
  have b10 := b9.mono e10
  have o4 : (upd Hh a4 (.lst [.non, .bl true, .bl false, .str (Str.ofString "1"), .ref a1, .ref a2, .ref a3])) a4 = some (.lst [.non, .bl true, .bl false, .str (Str.ofString "1"), .ref a1, .ref a2, .ref a3]) := upd_same
  have n4 := b9.tp.new ha4
  have o1d := e10 _ _ o1c
  have o2c := e10 _ _ o2b
  have o3b := e10 _ _ o3
  clear b9 o1c o2b o3
  generalize (upd Hh a4 (.lst [.non, .bl true, .bl false, .str (Str.ofString "1"), .ref a1, .ref a2, .ref a3])) = Hi at b10 o1d o2c o3b o4 ⊢
  walk_at "g"
  refine use_pick (by decide) (by decide) b10.tp fun d Hj d0 d1 mj tj => ?_
  have b11 := b10.mo mj tj
  clear b10
  obtain ⟨v, hv, ov⟩ : ∃ v, atI [V.non, .bl true, .bl false, .str (Str.ofString "1"), .ref a1, .ref a2, .ref a3] d = some v ∧ OddV Hj v := by
    have : d = 0 ∨ d = 1 ∨ d = 2 ∨ d = 3 ∨ d = 4 ∨ d = 5 ∨ d = 6 := by omega
    rcases this with rfl | rfl | rfl | rfl | rfl | rfl | rfl
    · exact ⟨_, rfl, .inl rfl⟩
    · exact ⟨_, rfl, .inr (.inl ⟨_, rfl⟩)⟩
    · exact ⟨_, rfl, .inr (.inl ⟨_, rfl⟩)⟩
    · exact ⟨_, rfl, .inr (.inr (.inl rfl))⟩
    · exact ⟨_, rfl, .inr (.inr (.inr ⟨_, rfl, .inl (mj _ _ o1d n1)⟩))⟩
    · exact ⟨_, rfl, .inr (.inr (.inr ⟨_, rfl, .inr (.inl (mj _ _ o2c n2))⟩))⟩
    · exact ⟨_, rfl, .inr (.inr (.inr ⟨_, rfl, .inr (.inr (mj _ _ o3b n3))⟩))⟩
  refine g_ixL (SqL.of (mj _ _ o4 n4)) hv ?_
  walk_at "g"
  refine g_ixL (SqL.of b11.hF) at_zero ?_
  walk_at "g"
  obtain ⟨ty, hty, kty, hne⟩ := odd_ty (K := K) (C := a.C_Ratio) ov
  refine g_eqO T.R b11.q0 hty kty hne fun Hk ek => ?_
  have b12 := b11.mono ek
  have ov2 := ov.mono ek
  clear b11 ov hty
  walk_at "g"
  refine use_initW (k := 40) (by decide) (by decide) (by decide) (by decide) fun vl Hl el hvl => ?_
  have b13 := b12.mono el
  have ov3 := ov2.mono el
  clear b12 ov2
  walk_at "g"
  obtain ⟨ty2, hty2, kty2, hne2⟩ := odd_ty (K := K) (C := a.C_Ratio) ov3
  refine g_eqO T.R hvl hty2 kty2 hne2 fun Hm em => ?_
  have b14 := b13.mono em
  have ov4 := ov3.mono em
  clear b13 ov3 hty2
  walk_at "g"
  refine use_initW (k := 40) (by decide) (by decide) (by decide) (by decide) fun vn Hn en hvn => ?_
  have b15 := b14.mono en
  have ov5 := ov4.mono en
  clear b14 ov4
  walk_at "g"
  obtain ⟨ty3, hty3, kty3, hne3⟩ := odd_ty (K := K) (C := a.C_Ratio) ov5
  refine g_eqO T.R hvn hty3 kty3 hne3 fun Ho eo => ?_
  have b16 := b15.mono eo
  have ov6 := ov5.mono eo
  clear b15 ov5 hty3
  walk_at "g"
  refine g_ixL (SqL.of b16.hF) at_zero ?_
  walk_at "g"
  have nl := num_le (t := c0.2.1) (b := c0.2.2) (by omega)
  refine ⟨r0, v, rtOf c0, rfl, b16.q0, ov6, Nat.lt_of_le_of_lt nl.1 (by omega), Nat.lt_of_le_of_lt nl.2 (by omega), fun Hp ep => ?_⟩
  walk_at "g"
  exact z _ _ ⟨_, _, _, _, _, _, _, _, _, _, _, _, _, _, _, _, _, _, rfl⟩ (b16.mono ep).ex
theorem seg_C (T : Tx K mg a) (hr : Room 7 (A.deeper (envOfC (Str.ofString "law") (defScope s_law) s.heap.objs.size a.f_law cdv))) :
    PSs (cxOf CX0 P w K mg base N_law (Str.ofString "law") (defScope s_law) a.f_law cdv A outer s H₀ E).nox (lapBody.drop 16) (tC' a.C_Ratio) := by
  refine pss_weak (pss_cons (ps_asg (pe_ix ix_list (pv 3) pe_int (fun _ _ => rfl)) (pg_tup rfl (pgs_cons (pg_name (i := 6) sc_law.nd rfl (Or.inl rfl)) (pgs_cons (pg_name (i := 7) sc_law.nd rfl (Or.inl rfl)) pgs_nil)))) (pss_cons (ps_if (pt_not (pt_val (pe_call (ok_Lis T) (hr.mono (by decide)) (by rfl) T.g_Lis T.F_Lis.kp (bd_Lis T) .nil pass0 (pa_cons (pe_call (ok_total T) (hr.mono (by decide)) (by rfl) T.g_total T.F_total.kp (bd_total T) .nil pass0 (pa_cons (pe_lst (pa_cons (pv 11) pa_nil)) pa_nil)) (pa_cons (pv 11) (pa_cons pe_int pa_nil)))))) (pss_one (ps_ret pe_bl)) pss_nil) (pss_cons (ps_if (pt_not (pt_val (pe_call (ok_Lis T) (hr.mono (by decide)) (by rfl) T.g_Lis T.F_Lis.kp (bd_Lis T) .nil pass0 (pa_cons (pe_call (ok_total T) (hr.mono (by decide)) (by rfl) T.g_total T.F_total.kp (bd_total T) .nil pass0 (pa_cons (pe_lst (pa_cons (pv 11) (pa_cons (pe_ix ix_list (pv 5) pe_int (fun _ _ => rfl)) pa_nil))) pa_nil)) (pa_cons (pe_op op_add (pv 6) (pe_op op_mulW (pv 11) (pv 7))) (pa_cons (pv 7) pa_nil)))))) (pss_one (ps_ret pe_bl)) pss_nil) (pss_cons (ps_if (PW.pt (pw_or (pt_not (pt_val (pe_call (ok_Lis T) (hr.mono (by decide)) (by rfl) T.g_Lis T.F_Lis.kp (bd_Lis T) .nil pass0 (pa_cons (pe_callW (ok_total T) (hr.mono (by decide)) (by rfl) T.g_total T.F_total.kp (kb_total T) at0 (pk_cons (pe_tup pa_nil) pk_nil)) (pa_cons pe_int (pa_cons pe_int pa_nil)))))) (pw_or1 (pt_not (pt_val (pe_call (ok_Lis T) (hr.mono (by decide)) (by rfl) T.g_Lis T.F_Lis.kp (bd_Lis T) .nil pass0 (pa_cons (pe_call (ok_total T) (hr.mono (by decide)) (by rfl) T.g_total T.F_total.kp (bd_total T) .nil pass0 (pa_cons (pe_lst (pa_cons (pe_ix ix_list (pv 5) pe_int (fun _ _ => rfl)) pa_nil)) pa_nil)) (pa_cons (pe_ix ix_tup (pe_ix ix_list (pv 3) pe_int (fun _ _ => rfl)) pe_int (fun _ _ => rfl)) (pa_cons (pe_ix ix_tup (pe_ix ix_list (pv 3) pe_int (fun _ _ => rfl)) pe_int (fun _ _ => rfl)) pa_nil))))))))) (pss_one (ps_ret pe_bl)) pss_nil) (pss_cons (ps_if (pt_not (pt_val (pe_call (ok_Ltexts_right T) (hr.mono (by decide)) (by rfl) T.g_Ltexts_right T.F_Ltexts_right.kp (bd_Ltexts_right T) .nil pass0 (pa_cons (pv 2) (pa_cons (pe_ix ix_list (pv 5) pe_int (fun _ _ => rfl)) pa_nil))))) (pss_one (ps_ret pe_bl)) pss_nil) (seg_D T hr)))))) (fun D σ H h => ?_)
  obtain ⟨H0, p, t, L, F, c0, c1, c2, r0, r1, r2, ⟨u1, u2, u3, u4, u5, u6, u7, u8, u9, u10, u11, u12, u13, u14, u15, u16, u17, u18, rfl⟩, b21, z⟩ := h
  have c11 := b21.p1.l1
  have c12 := b21.p1.l2
  have c21 := b21.p2.l1
  have c22 := b21.p2.l2
  have c23 := b21.p2.l3
  have c24 := b21.p2.l4
  walk_at "g"
  refine g_ixL (SqL.of b21.hD) at_two ?_
  refine g_gtup (SqT.of b21.p2.at_) rfl ?_
  walk_at "g"
  have szw2 : Sz 200 ((c1.2.1 : Int) : Rat) := sz_int (by omega) (by decide)
  obtain ⟨x1, x2, x3⟩ := tot1 szw2
  refine ⟨len_lit rfl, fun m2 hm2 => ?_⟩
  have b22 := b21.mono (Ex.new (o := .lst [.int c1.2.1]) hm2)
  walk_at "g"
  refine ⟨m2, [.int c1.2.1], [(c1.2.1 : Rat)], 200, rfl, .inl (SqL.of upd_same), Nums.cons (.inl ⟨_, rfl, rfl⟩) Nums.nil, x1, x2, by decide, fun vn Hn en hvn => ?_⟩
  have b23 := b22.mono en
  clear b21 b22
  rw [x3] at hvn
  walk_at "g"
  refine use_Lis hvn (int_divInt _).symm (by omega) (by omega) (by omega) fun Ho eo => ?_
  have b24 := b23.mono eo
  clear b23 x1 x2 x3
  walk_at "g"
  refine g_ixL (SqL.of b24.hF) at_two ?_
  walk_at "g"
  refine ⟨len_lit rfl, fun m3 hm3 => ?_⟩
  obtain ⟨x1, x2, x3, x4⟩ := tot2 (p := c2.2.1) (q := c2.2.2) (w := c1.2.1) (by omega) (by omega) (by omega) (by omega)
  have b25 := b24.mono (Ex.new (o := .lst [.int c1.2.1, r2]) hm3)
  walk_at "g"
  refine ⟨m3, [.int c1.2.1, r2], [(c1.2.1 : Rat), rtOf c2], 200, rfl, .inl (SqL.of upd_same), Nums.cons (.inl ⟨_, rfl, rfl⟩) (Nums.cons b25.q2.num Nums.nil), x1, x2, by decide, fun vp Hp ep hvp => ?_⟩
  have b26 := b25.mono ep
  clear b24 b25
  walk_at "g"
  refine g_I (by walk_at "mul") ?_
  walk_at "g"
  refine use_Lis hvp x3 (by omega) x4 (by omega) fun Hq eq => ?_
  have b27 := b26.mono eq
  clear b26 x1 x2 x3 x4
  walk_at "g"
  refine g_callW ?_
  walk_at "g"
  refine ⟨len_lit rfl, fun m4 hm4 => ?_⟩
  have b28 := b27.mono (Ex.new (o := .tup []) hm4)
  walk_at "g"
  refine ⟨rfl, m4, [], [], 200, rfl, .inr (SqT.of upd_same), Nums.nil, tot0.1, tot0.2.1, by decide, fun vr Hr er hvr => ?_⟩
  have b29 := b28.mono er
  clear b27 b28
  walk_at "g"
  refine use_Lis hvr tot0.2.2 (by decide) (by decide) (by decide) fun Hs es => ?_
  have b30 := b29.mono es
  clear b29
  walk_at "g"
  refine g_ixL (SqL.of b30.hF) at_two ?_
  walk_at "g"
  refine ⟨len_lit rfl, fun m5 hm5 => ?_⟩
  have sz2 : Sz 200 (rtOf c2) := Sz.divInt (by omega) (by omega) (by omega)
  obtain ⟨x1, x2, x3⟩ := tot1 sz2
  have b31 := b30.mono (Ex.new (o := .lst [r2]) hm5)
  walk_at "g"
  refine ⟨m5, [r2], [rtOf c2], 200, rfl, .inl (SqL.of upd_same), Nums.cons b31.q2.num Nums.nil, x1, x2, by decide, fun vs Ht et hvs => ?_⟩
  have b32 := b31.mono et
  clear b30 b31
  rw [x3] at hvs
  walk_at "g"
  refine g_ixL (SqL.of b32.hD) at_two ?_
  walk_at "g"
  refine g_ixT (SqT.of b32.p2.at_) at_zero ?_
  walk_at "g"
  refine g_ixL (SqL.of b32.hD) at_two ?_
  walk_at "g"
  refine g_ixT (SqT.of b32.p2.at_) at_one ?_
  walk_at "g"
  refine use_Lis hvs rfl (by omega) (by omega) (by omega) fun Hu eu => ?_
  have b33 := b32.mono eu
  clear b32
  walk_at "g"
  refine g_ixL (SqL.of b33.hF) at_two ?_
  walk_at "g"
  have nl := num_le (t := c2.2.1) (b := c2.2.2) (by omega)
  refine ⟨t, r2, rtOf c2, rfl, b33.tp, b33.q2, Nat.lt_of_le_of_lt nl.1 (by omega), Nat.lt_of_le_of_lt nl.2 (by omega), fun Hv mv tv => ?_⟩
  walk_at "g"
  exact ⟨H0, p, t, L, F, c0, c1, c2, r0, r1, r2, ⟨_, none, none, _, none, _, _, _, _, _, _, _, _, _, _, _, _, _, rfl⟩, b33.mo mv tv, z⟩
end
end Kx


set_option maxHeartbeats 4000000
namespace Kx
open PySem PySem.Spec PyProof.Rows L2 Fm SX
local macro_rules | `(tactic| walk_at "gv") => `(tactic| ((with_reducible refine' g_var ?gh ?_); (case gh => exact rfl)))
local macro_rules | `(tactic| walk_at "g1") => `(tactic| first
  | walk_at "gv"
  | with_reducible refine g_c ?_ | with_reducible refine g_op ?_ | with_reducible refine g_un ?_ | with_reducible refine g_I0 ?_ | with_reducible refine g_U ?_
  | with_reducible refine g_eqI ?_ | with_reducible refine g_neI ?_ | with_reducible refine g_eqS ?_ | with_reducible refine g_neS ?_
  | with_reducible refine g_test ?_ | with_reducible refine g_B ?_ | with_reducible refine g_bl ?_ | with_reducible refine g_not ?_ | with_reducible refine g_and ?_ | with_reducible refine g_or ?_
  | with_reducible refine g_andV ?_ | with_reducible refine g_orV ?_ | with_reducible refine g_notV ?_ | with_reducible refine g_chain ?_ | with_reducible refine g_if ?_ | with_reducible refine g_ifS ?_
  | with_reducible refine g_seq ?_ | with_reducible refine g_next ?_ | with_reducible refine g_break ?_ | with_reducible refine g_cont ?_ | with_reducible refine g_drop ?_ | with_reducible refine g_ret ?_ | with_reducible refine g_retN ?_
  | with_reducible refine g_asg ?_ | with_reducible refine g_name ?_ | with_reducible refine g_par ?_ | with_reducible refine g_par2 ?_ | with_reducible refine g_fld ?_ | with_reducible refine g_sfld ?_
  | with_reducible refine g_nil ?_ | with_reducible refine g_cons ?_ | with_reducible refine g_tup ?_ | with_reducible refine g_lst ?_ | with_reducible refine g_call ?_ | with_reducible refine g_meth ?_ | with_reducible refine g_make1 ?_ | with_reducible refine g_make ?_ | with_reducible refine g_cb ?_ | with_reducible refine g_sub ?_ | with_reducible refine g_m0 ?_ | with_reducible refine g_gcons ?_ | with_reducible refine g_gnil ?_ | with_reducible refine g_for ?_ | with_reducible refine g_lc ?_ | with_reducible refine g_ilist ?_ | with_reducible refine g_itup ?_ | with_reducible refine g_rng1 ?_ | with_reducible refine g_rng3 ?_ | with_reducible refine g_yes ?_ | with_reducible refine g_sl ?_ | with_reducible refine g_nopart ?_ | with_reducible refine g_part ?_ | with_reducible refine g_exI ?_ | with_reducible refine g_m1 ?_ | with_reducible refine g_isS ?_ | with_reducible refine g_bm ?_ | with_reducible refine g_revL ?_ | with_reducible refine g_istr ?_ | with_reducible refine g_notInS ?_ | with_reducible refine g_absI ?_ | with_reducible refine g_intI ?_
  | with_reducible refine iteT ?_ | with_reducible refine iteF ?_ | with_reducible refine g_gcd ?_)
local macro_rules | `(tactic| walk_at "g") => `(tactic| (repeat (first | walk_at "g1" | dsimp only [cx_K, cx_Kn, b_nt, b_nf])))
local macro_rules | `(tactic| walk_at "mul") => `(tactic| exact mulA (a := 200) (b := 200) (by omega) (by omega) (by decide))
local macro_rules | `(tactic| walk_at "pow") => `(tactic| exact ⟨by omega, by omega, by omega⟩)

section
variable {P : Program} {w : World} {K : PySem.W.Frag} {mg : Str → Option Value} {base : Heap} {a : Ad} {cdv : Value} {A : Around} {outer : List Env} {s : Shared} {H₀ : Hp} {E : XK}
theorem seg_B (T : Tx K mg a) (hr : Room 7 (A.deeper (envOfC (Str.ofString "law") (defScope s_law) s.heap.objs.size a.f_law cdv))) :
    PSs (cxOf CX0 P w K mg base N_law (Str.ofString "law") (defScope s_law) a.f_law cdv A outer s H₀ E).nox (lapBody.drop 9) (tD a.C_Ratio) := by
  refine pss_weak (pss_cons (ps_set (i := 11) sc_law.nd rfl (Or.inl rfl) (pe_ix ix_tup (pe_ix ix_list (pv 3) pe_int (fun _ _ => rfl)) pe_int (fun _ _ => rfl))) (pss_cons (ps_if (pt_not (pt_val (pe_call (ok_Lpair_right T) (hr.mono (by decide)) (by rfl) T.g_Lpair_right T.F_Lpair_right.kp (bd_Lpair_right T) .nil pass0 (pa_cons (pe_ix ix_list (pv 5) pe_int (fun _ _ => rfl)) (pa_cons (pe_ix ix_list (pv 5) pe_int (fun _ _ => rfl)) (pa_cons (pe_ix ix_list (pv 3) pe_int (fun _ _ => rfl)) (pa_cons (pe_ix ix_list (pv 3) pe_int (fun _ _ => rfl)) pa_nil))))))) (pss_one (ps_ret pe_bl)) pss_nil) (pss_cons (ps_if (PW.pt (pw_or (pt_not (pt_val (pe_call (ok_Lpair_right T) (hr.mono (by decide)) (by rfl) T.g_Lpair_right T.F_Lpair_right.kp (bd_Lpair_right T) .nil pass0 (pa_cons (pe_ix ix_list (pv 5) pe_int (fun _ _ => rfl)) (pa_cons (pv 11) (pa_cons (pe_ix ix_list (pv 3) pe_int (fun _ _ => rfl)) (pa_cons (pe_tup (pa_cons (pv 11) (pa_cons pe_int pa_nil))) pa_nil))))))) (pw_or1 (pt_not (pt_val (pe_call (ok_Lis T) (hr.mono (by decide)) (by rfl) T.g_Lis T.F_Lis.kp (bd_Lis T) .nil pass0 (pa_cons (pe_make T.mk_Ratio (ok_Ratio_init T) (hr.mono (by decide)) (by rfl) T.g_Ratio (bd1_Ratio_init T).choose_spec.2 (bd1_Ratio_init T).choose_spec.1 pass0 (pa_cons (pv 11) pa_nil)) (pa_cons (pv 11) (pa_cons pe_int pa_nil))))))))) (pss_one (ps_ret pe_bl)) pss_nil) (pss_cons (ps_if (PW.pt (pw_or (pt_not (pt_val (pe_call (ok_Lis T) (hr.mono (by decide)) (by rfl) T.g_Lis T.F_Lis.kp (bd_Lis T) .nil pass0 (pa_cons (pe_call (ok_as_ratio T) (hr.mono (by decide)) (by rfl) T.g_as_ratio T.F_as_ratio.kp (bd_as_ratio T) .nil pass0 (pa_cons (pv 11) pa_nil)) (pa_cons (pv 11) (pa_cons pe_int pa_nil)))))) (pw_or1 (pt_cmpR (op_neOwn T.p_ne (ok_Ratio_eq T) (hr.mono (by decide)) (bd_Ratio_eq T) pass0) (pe_call (ok_as_ratio T) (hr.mono (by decide)) (by rfl) T.g_as_ratio T.F_as_ratio.kp (bd_as_ratio T) .nil pass0 (pa_cons (pe_ix ix_list (pv 5) pe_int (fun _ _ => rfl)) pa_nil)) (pe_ix ix_list (pv 5) pe_int (fun _ _ => rfl)) (nomark _))))) (pss_one (ps_ret pe_bl)) pss_nil) (pss_cons (ps_asg (pe_ix ix_list (pv 3) pe_int (fun _ _ => rfl)) (pg_tup rfl (pgs_cons (pg_name (i := 12) sc_law.nd rfl (Or.inl rfl)) (pgs_cons (pg_name (i := 13) sc_law.nd rfl (Or.inl rfl)) pgs_nil)))) (pss_cons (ps_asg (pe_ix ix_list (pv 3) pe_int (fun _ _ => rfl)) (pg_tup rfl (pgs_cons (pg_name (i := 14) sc_law.nd rfl (Or.inl rfl)) (pgs_cons (pg_name (i := 15) sc_law.nd rfl (Or.inl rfl)) pgs_nil)))) (pss_cons (ps_if (pt_not (pt_val (pe_call (ok_Lis T) (hr.mono (by decide)) (by rfl) T.g_Lis T.F_Lis.kp (bd_Lis T) .nil pass0 (pa_cons (pe_call (ok_total T) (hr.mono (by decide)) (by rfl) T.g_total T.F_total.kp (bd_total T) .nil pass0 (pa_cons (pe_lst (pa_cons (pe_ix ix_list (pv 5) pe_int (fun _ _ => rfl)) (pa_cons (pe_ix ix_list (pv 5) pe_int (fun _ _ => rfl)) (pa_cons (pv 11) pa_nil)))) pa_nil)) (pa_cons (pe_op op_add (pe_op op_add (pe_op op_mulW (pv 12) (pv 15)) (pe_op op_mulW (pv 14) (pv 13))) (pe_op op_mulW (pe_op op_mulW (pv 11) (pv 13)) (pv 15))) (pa_cons (pe_op op_mulW (pv 13) (pv 15)) pa_nil)))))) (pss_one (ps_ret pe_bl)) pss_nil) (seg_C T hr)))))))) (fun D σ H h => ?_)
  obtain ⟨H0, p, t, L, F, c0, c1, c2, r0, r1, r2, ⟨u1, u2, u3, u4, u5, u6, u7, u8, u9, u10, u11, u12, u13, u14, u15, u16, u17, u18, rfl⟩, b9, z⟩ := h
  have c01 := b9.p0.l1
  have c02 := b9.p0.l2
  have c03 := b9.p0.l3
  have c04 := b9.p0.l4
  have c11 := b9.p1.l1
  have c12 := b9.p1.l2
  have c13 := b9.p1.l3
  have c14 := b9.p1.l4
  have c21 := b9.p2.l1
  have c22 := b9.p2.l2
  have c23 := b9.p2.l3
  have c24 := b9.p2.l4
  walk_at "g"
  refine g_ixL (SqL.of b9.hD) at_one ?_
  refine g_ixT (SqT.of b9.p1.at_) at_zero ?_
  walk_at "g"
  refine g_ixL (SqL.of b9.hF) at_zero ?_
  walk_at "g"
  refine g_ixL (SqL.of b9.hF) at_one ?_
  walk_at "g"
  refine g_ixL (SqL.of b9.hD) at_zero ?_
  walk_at "g"
  refine g_ixL (SqL.of b9.hD) at_one ?_
  walk_at "g"
  refine use_pairR b9.q0 b9.q1.num (SqT.of b9.p0.at_) (SqT.of b9.p1.at_) (by omega) (by omega) (by omega) (by omega) (by omega) (by omega) fun Hc ec => ?_
  have b10 := b9.mono ec
  clear b9
  walk_at "g"
  refine g_ixL (SqL.of b10.hF) at_two ?_
  walk_at "g"
  refine g_ixL (SqL.of b10.hD) at_two ?_
  walk_at "g"
  refine ⟨len_lit rfl, fun n3 hn3 => ?_⟩
  have b11 := b10.mono (Ex.new (o := .tup [.int c1.2.1, .int 1]) hn3)
  have n3a : (upd Hc n3 (.tup [.int c1.2.1, .int 1])) n3 = some (.tup [.int c1.2.1, .int 1]) := upd_same
  clear b10
  generalize (upd Hc n3 (.tup [.int c1.2.1, .int 1])) = Hd at b11 n3a ⊢
  walk_at "g"
  refine use_pairR b11.q2 (r := c1.2.1) (s := 1) (.inl ⟨_, rfl, int_divInt _⟩) (SqT.of b11.p2.at_) (SqT.of n3a) (by omega) (by omega) (by omega) (by omega) (by omega) (by omega) fun He ee => ?_
  have b12 := b11.mono ee
  clear b11 n3a
  walk_at "g"
  refine use_initW (k := 40) (by omega) (by omega) (by omega) (by decide) fun vf Hf ef hvf => ?_
  have b13 := b12.mono ef
  clear b12
  walk_at "g"
  refine use_Lis hvf rfl (by omega) (by omega) (by omega) fun Hg eg => ?_
  have b14 := b13.mono eg
  clear b13
  walk_at "g"
  have szw : Sz 40 ((c1.2.1 : Int) : Rat) := sz_int (by omega) (by decide)
  have szq1 : Sz 40 (rtOf c1) := Sz.divInt (by omega) (by omega) (by omega)
  refine ⟨_, _, 40, rfl, .inl ⟨_, rfl, rfl⟩, szw, by decide, fun vg Hh eh hvg => ?_⟩
  have b15 := b14.mono eh
  clear b14
  walk_at "g"
  refine use_Lis hvg (int_divInt _).symm (by omega) (by omega) (by omega) fun Hi ei => ?_
  have b16 := b15.mono ei
  clear b15
  walk_at "g"
  refine g_ixL (SqL.of b16.hF) at_one ?_
  walk_at "g"
  refine ⟨_, _, 40, rfl, b16.q1.num, szq1, by decide, fun vi Hj ej hvi => ?_⟩
  have b17 := b16.mono ej
  clear b16
  walk_at "g"
  refine g_ixL (SqL.of b17.hF) at_one ?_
  refine g_neN T.R hvi b17.q1.num szq1 (by decide) fun Hk ek => ?_
  have b18 := b17.mono ek
  clear b17
  rw [decide_eq_true rfl]
  walk_at "g"
  refine g_ixL (SqL.of b18.hD) at_zero ?_
  refine g_gtup (SqT.of b18.p0.at_) rfl ?_
  walk_at "g"
  refine g_ixL (SqL.of b18.hD) at_one ?_
  refine g_gtup (SqT.of b18.p1.at_) rfl ?_
  walk_at "g"
  refine g_ixL (SqL.of b18.hF) at_zero ?_
  walk_at "g"
  refine g_ixL (SqL.of b18.hF) at_one ?_
  walk_at "g"
  refine ⟨len_lit rfl, fun m1 hm1 => ?_⟩
  obtain ⟨x1, x2, x3, x4, x5, x6⟩ := tot3 (p := c0.2.1) (q := c0.2.2) (r := c1.2.1) (s := c1.2.2) (w := c1.2.1) (by omega) (by omega) (by omega) (by omega) (by omega) (by omega) (by omega)
  have b19 := b18.mono (Ex.new (o := .lst [r0, r1, .int c1.2.1]) hm1)
  walk_at "g"
  refine ⟨m1, [r0, r1, .int c1.2.1], [rtOf c0, rtOf c1, (c1.2.1 : Rat)], 200, rfl, .inl (SqL.of upd_same), Nums.cons b19.q0.num (Nums.cons b19.q1.num (Nums.cons (.inl ⟨_, rfl, rfl⟩) Nums.nil)), x1, x2, by decide, fun vl Hl el hvl => ?_⟩
  have b20 := b19.mono el
  clear b18 b19
  have y1 : (c0.2.1 * c1.2.2).natAbs < 2 ^ 80 := abs_mul_lt (a := 40) (b := 40) (by omega) (by omega)
  have y2 : (c1.2.1 * c0.2.2).natAbs < 2 ^ 80 := abs_mul_lt (a := 40) (b := 40) (by omega) (by omega)
  have y3 : (c2.2.1).natAbs < 2 ^ 40 := by omega
  have y4 : (c1.2.1 * c2.2.2).natAbs < 2 ^ 80 := abs_mul_lt (a := 40) (b := 40) (by omega) (by omega)
  walk_at "g"
  refine g_I (by walk_at "mul") ?_
  walk_at "g"
  refine g_I (by walk_at "mul") ?_
  walk_at "g"
  refine g_I (by walk_at "mul") ?_
  walk_at "g"
  refine g_I (by walk_at "mul") ?_
  walk_at "g"
  refine g_I (by walk_at "mul") ?_
  walk_at "g"
  refine use_Lis hvl x3 x6 x4 x5 fun Hm em => ?_
  have b21 := b20.mono em
  clear b20 x1 x2 x3 x4 x5 x6
  walk_at "g"
  exact ⟨H0, p, t, L, F, c0, c1, c2, r0, r1, r2, ⟨_, none, none, _, none, _, _, _, _, _, none, _, _, _, _, _, _, _, rfl⟩, b21, z⟩
end
end Kx


set_option maxHeartbeats 4000000
namespace Kx
open PySem PySem.Spec PyProof.Rows L2 Fm SX
local macro_rules | `(tactic| walk_at "gv") => `(tactic| ((with_reducible refine' g_var ?gh ?_); (case gh => exact rfl)))
local macro_rules | `(tactic| walk_at "g1") => `(tactic| first
  | walk_at "gv"
  | with_reducible refine g_c ?_ | with_reducible refine g_op ?_ | with_reducible refine g_un ?_ | with_reducible refine g_I0 ?_ | with_reducible refine g_U ?_
  | with_reducible refine g_eqI ?_ | with_reducible refine g_neI ?_ | with_reducible refine g_eqS ?_ | with_reducible refine g_neS ?_
  | with_reducible refine g_test ?_ | with_reducible refine g_B ?_ | with_reducible refine g_bl ?_ | with_reducible refine g_not ?_ | with_reducible refine g_and ?_ | with_reducible refine g_or ?_
  | with_reducible refine g_andV ?_ | with_reducible refine g_orV ?_ | with_reducible refine g_notV ?_ | with_reducible refine g_chain ?_ | with_reducible refine g_if ?_ | with_reducible refine g_ifS ?_
  | with_reducible refine g_seq ?_ | with_reducible refine g_next ?_ | with_reducible refine g_break ?_ | with_reducible refine g_cont ?_ | with_reducible refine g_drop ?_ | with_reducible refine g_ret ?_ | with_reducible refine g_retN ?_
  | with_reducible refine g_asg ?_ | with_reducible refine g_name ?_ | with_reducible refine g_par ?_ | with_reducible refine g_par2 ?_ | with_reducible refine g_fld ?_ | with_reducible refine g_sfld ?_
  | with_reducible refine g_nil ?_ | with_reducible refine g_cons ?_ | with_reducible refine g_tup ?_ | with_reducible refine g_lst ?_ | with_reducible refine g_call ?_ | with_reducible refine g_meth ?_ | with_reducible refine g_make1 ?_ | with_reducible refine g_make ?_ | with_reducible refine g_cb ?_ | with_reducible refine g_sub ?_ | with_reducible refine g_m0 ?_ | with_reducible refine g_gcons ?_ | with_reducible refine g_gnil ?_ | with_reducible refine g_for ?_ | with_reducible refine g_lc ?_ | with_reducible refine g_ilist ?_ | with_reducible refine g_itup ?_ | with_reducible refine g_rng1 ?_ | with_reducible refine g_rng3 ?_ | with_reducible refine g_yes ?_ | with_reducible refine g_sl ?_ | with_reducible refine g_nopart ?_ | with_reducible refine g_part ?_ | with_reducible refine g_exI ?_ | with_reducible refine g_m1 ?_ | with_reducible refine g_isS ?_ | with_reducible refine g_bm ?_ | with_reducible refine g_revL ?_ | with_reducible refine g_istr ?_ | with_reducible refine g_notInS ?_ | with_reducible refine g_absI ?_ | with_reducible refine g_intI ?_
  | with_reducible refine iteT ?_ | with_reducible refine iteF ?_ | with_reducible refine g_gcd ?_)
local macro_rules | `(tactic| walk_at "g") => `(tactic| (repeat (first | walk_at "g1" | dsimp only [cx_K, cx_Kn, b_nt, b_nf])))
local macro_rules | `(tactic| walk_at "mul") => `(tactic| exact mulA (a := 200) (b := 200) (by omega) (by omega) (by decide))
local macro_rules | `(tactic| walk_at "pow") => `(tactic| exact ⟨by omega, by omega, by omega⟩)

def spLaw (K : PySem.W.Frag) : Sp := fun vs H Q _ => ∃ (p : Addr) (ns : List Int), vs = [.ref p] ∧ SqL K H p (ns.map V.int) ∧ ns.length ≤ 1000 ∧ ∀ H', Ex H H' → Q (.bl true) H'
section
variable {P : Program} {w : World} {K : PySem.W.Frag} {mg : Str → Option Value} {base : Heap} {a : Ad}
theorem ok_law (T : Tx K mg a) : FnOk P w K mg base CX0 8 a.f_law a.d_law P_law (spLaw K) := by
  refine def_ok0 T.F_law sc_law (fun vs H Q E h => ?_) (fun cdv A outer s H vs Q E hr h => ?_)
  · obtain ⟨p, ns, rfl, _⟩ := h
    rfl
  · obtain ⟨p, ns, rfl, hp, hns, z⟩ := h
    refine ⟨_, (pss_cons (ps_for PassesOwn.never rfl (pi_range1 (by rfl) T.b_range (pa_cons (pe_callB (cr_max2 rfl) (by rfl) T.b_max (by decide +kernel) (pa_cons pe_int (pa_cons (pe_callB (cr_min2 rfl) (by rfl) T.b_min (by decide +kernel) (pa_cons pe_int (pa_cons (pe_callB call_lenQ (by rfl) T.b_len (by decide +kernel) (pa_cons (pv 0) pa_nil)) pa_nil))) pa_nil))) pa_nil)) (pg_name (i := 1) sc_law.nd rfl (Or.inl rfl)) (pss_cons (ps_set (i := 2) sc_law.nd rfl (Or.inr rfl) (pe_call (ok_Ltape T) (hr.mono (by decide)) (by rfl) T.g_Ltape T.F_Ltape.kp (bd_Ltape T) .nil pass0 (pa_cons (pv 0) (pa_cons (pv 1) pa_nil)))) (pss_cons (ps_setLc (i := 3) (own := [("_law_lap", 4)]) (g := (gName 4)) (tt := tYes) rfl sc_law.nd rfl rfl (sw_true rfl rfl rfl (by decide +kernel)) (pi_range1 (by rfl) T.b_range (pa_cons pe_int pa_nil)) (blkOk_by (N := N_law) (sc := defScope s_law) (by decide +kernel)) (fun _ _ _ _ _ => pg_name (i := 4) sc_law.nd rfl (Or.inl rfl)) (fun _ _ _ _ _ => pts_nil) (fun _ _ _ _ _ => (pe_call (ok_Lpair T) (hr.mono (by decide)) (by rfl) T.g_Lpair T.F_Lpair.kp (bd_Lpair T) .nil pass0 (pa_cons (pv 2) pa_nil)))) (pss_cons (ps_setLc (i := 5) (own := [("_law_upper", 6), ("_law_part", 7)]) (g := (gTup K 2 (gCons (gName 6) (gCons (gName 7) gNil)))) (tt := tYes) rfl sc_law.nd rfl rfl (sw_true rfl rfl rfl (by decide +kernel)) (pi_list (pv 3)) (blkOk_by (N := N_law) (sc := defScope s_law) (by decide +kernel)) (fun _ _ _ _ _ => by exact (pg_tup rfl (pgs_cons (pg_name (i := 6) sc_law.nd rfl (Or.inl rfl)) (pgs_cons (pg_name (i := 7) sc_law.nd rfl (Or.inl rfl)) pgs_nil)))) (fun _ _ _ _ _ => pts_nil) (fun _ _ _ _ _ => (pe_make T.mk_Ratio (ok_Ratio_init T) (hr.mono (by decide)) (by rfl) T.g_Ratio (bd_Ratio_init T) .nil pass0 (pa_cons (pv 6) (pa_cons (pv 7) pa_nil))))) (pss_cons (ps_asg (pe_ix ix_list (pv 3) pe_int (fun _ _ => rfl)) (pg_tup rfl (pgs_cons (pg_name (i := 6) sc_law.nd rfl (Or.inl rfl)) (pgs_cons (pg_name (i := 7) sc_law.nd rfl (Or.inl rfl)) pgs_nil)))) (pss_cons (ps_if (pt_not (pt_val (pe_call (ok_Lis T) (hr.mono (by decide)) (by rfl) T.g_Lis T.F_Lis.kp (bd_Lis T) .nil pass0 (pa_cons (pe_ix ix_list (pv 5) pe_int (fun _ _ => rfl)) (pa_cons (pv 6) (pa_cons (pv 7) pa_nil)))))) (pss_one (ps_ret pe_bl)) pss_nil) (pss_cons (ps_if (pt_not (pt_val (pe_call (ok_Lis T) (hr.mono (by decide)) (by rfl) T.g_Lis T.F_Lis.kp (bd_Lis T) .nil pass0 (pa_cons (pe_makeK0 T.mk_Ratio (ok_Ratio_init T) (hr.mono (by decide)) (by rfl) T.g_Ratio (kb_Ratio_init T) pass0 (pk_cons (pe_op op_sub pe_int (pv 7)) (pk_cons (pv 6) pk_nil))) (pa_cons (pe_op op_sub pe_int (pv 6)) (pa_cons (pv 7) pa_nil)))))) (pss_one (ps_ret pe_bl)) pss_nil) (pss_cons (ps_set (i := 8) sc_law.nd rfl (Or.inl rfl) (pe_op op_add (pe_op op_pow pe_int pe_int) (pe_call (ok_Lpick T) (hr.mono (by decide)) (by rfl) T.g_Lpick T.F_Lpick.kp (bd_Lpick T) .nil pass0 (pa_cons (pv 2) (pa_cons pe_int pa_nil))))) (pss_cons (ps_par (i := 9) (j := 10) (by rfl) sc_law.nd rfl rfl (by decide) rfl rfl (pa_cons (pe_tup (pa_cons (pe_op op_add (pv 8) pe_int) (pa_cons (pv 8) pa_nil))) (pa_cons (pe_tup (pa_cons (pe_op op_add (pv 8) pe_int) (pa_cons (pe_op op_add (pv 8) pe_int) pa_nil))) pa_nil)) (by rfl)) (pss_cons (ps_if (pt_not (pt_val (pe_call (ok_Lpair_right T) (hr.mono (by decide)) (by rfl) T.g_Lpair_right T.F_Lpair_right.kp (bd_Lpair_right T) .nil pass0 (pa_cons (pe_make T.mk_Ratio (ok_Ratio_init T) (hr.mono (by decide)) (by rfl) T.g_Ratio (bd_Ratio_init T) .nil pass0 (pa_cons (pe_op op_add (pv 8) pe_int) (pa_cons (pv 8) pa_nil))) (pa_cons (pe_make T.mk_Ratio (ok_Ratio_init T) (hr.mono (by decide)) (by rfl) T.g_Ratio (bd_Ratio_init T) .nil pass0 (pa_cons (pe_op op_add (pv 8) pe_int) (pa_cons (pe_op op_add (pv 8) pe_int) pa_nil))) (pa_cons (pv 9) (pa_cons (pv 10) pa_nil))))))) (pss_one (ps_ret pe_bl)) pss_nil) (seg_B T hr))))))))))) (pss_one (ps_ret pe_bl))), ?_⟩
    walk_at "g"
    refine g_lenQ hp ?_
    walk_at "g"
    refine ⟨_, _, rfl, ?_⟩
    walk_at "g"
    refine ⟨_, _, rfl, ?_⟩
    walk_at "g"
    refine ⟨_, rfl, by split <;> split <;> omega, by split <;> split <;> omega, ?_⟩
    have hlap : (if (if (((ns.map V.int).length : Nat) : Int) < 3 then (((ns.map V.int).length : Nat) : Int) else 3) > 1 then (if (((ns.map V.int).length : Nat) : Int) < 3 then (((ns.map V.int).length : Nat) : Int) else 3) else 1).toNat ≤ 100 := by split <;> split <;> omega
    generalize (if (if (((ns.map V.int).length : Nat) : Int) < 3 then (((ns.map V.int).length : Nat) : Int) else 3) > 1 then (if (((ns.map V.int).length : Nat) : Int) < 3 then (((ns.map V.int).length : Nat) : Int) else 3) else 1).toNat = laps at hlap ⊢
    refine lp_R (fun i σ' H' => (∃ u1 u2 u3 u4 u5 u6 u7 u8 u9 u10 u11 u12 u13 u14 u15 u16 u17 u18, σ' = [some (.ref p), u1, u2, u3, u4, u5, u6, u7, u8, u9, u10, u11, u12, u13, u14, u15, u16, u17, u18]) ∧ Ex H H') ⟨⟨none, none, none, none, none, none, none, none, none, none, none, none, none, none, none, none, none, none, rfl⟩, Ex.refl _⟩ ?_ ?_
    · rintro i σ' H0 hi ⟨⟨u1, u2, u3, u4, u5, u6, u7, u8, u9, u10, u11, u12, u13, u14, u15, u16, u17, u18, rfl⟩, ex0⟩
      walk_at "g"
      refine ⟨p, ns, i, by rw [Int.zero_add], ex0.sql hp, by omega, fun t H1 hT e1 t1 => ?_⟩
      walk_at "g"
      refine ⟨3, rfl, by decide, by decide, ?_⟩
      refine cp_R (n := 3) (fun D j H' => ∃ prs : List (Addr × Int × Int), prs.length = j ∧ H' D = some (.lst (prs.map fun e => V.ref e.1)) ∧ (∀ e ∈ prs, PrOk H' t e) ∧ TapeAt H' t ∧ Mo t H1 H') (fun D hD => ⟨[], rfl, upd_same, fun e h => by simp at h, t1.mono (Ex.new hD), (Ex.new hD).mo⟩) (fun D hD j H' hj => ?_) (fun D hD H' => ?_)
      · rintro ⟨prs, hl, hd, hp, ht, hm⟩
        refine ⟨rfl, ?_⟩
        walk_at "g"
        have dt := t1.new hD
        refine ⟨t, rfl, ht, fun r u v H2 m2 t2 rt hr b1 b2 b3 b4 => ?_⟩
        have hd2 := m2 _ _ hd dt
        have nDr : r ≠ D := fun z => by rw [z, hd2] at hr; cases hr
        refine ⟨_, hd2, Nat.lt_of_le_of_lt (m := 100) (by rw [List.length_map]; omega) (by decide), prs ++ [(r, u, v)], by rw [List.length_append, hl]; rfl, by rw [upd_same, List.map_append]; rfl, fun e he => ?_, ?_, fun b o hb hn => ?_⟩
        · have nd : e.1 ≠ D := fun z => by
            rcases List.mem_append.mp he with h | h
            · have := (hp e h).at_
              rw [z, hd] at this
              cases this
            · have : e = (r, u, v) := by simpa using h
              rw [this] at z
              exact nDr z
          rcases List.mem_append.mp he with h | h
          · have q := (hp e h).mo m2
            exact ⟨q.ne, by rw [upd_ne nd]; exact q.at_, q.l1, q.l2, q.l3, q.l4⟩
          · have z : e = (r, u, v) := by simpa using h
            subst z
            exact ⟨rt, by rw [upd_ne nd]; exact hr, b1, b2, b3, b4⟩
        · obtain ⟨t0, t1', a1, a2, a3, h⟩ := t2
          exact ⟨t0, t1', a1, a2, a3, by rw [upd_ne (Ne.symm dt)]; exact h⟩
        · rw [upd_ne (ne_of_none hb hD)]
          exact m2 _ _ (hm _ _ hb hn) hn
      · rintro ⟨prs, hl, hd, hp, ht, hm⟩
        have dt := t1.new hD
        obtain ⟨c0, c1, c2, rfl⟩ : ∃ x y z, prs = [x, y, z] := by
          match prs, hl with
          | [x, y, z], _ => exact ⟨x, y, z, rfl⟩
        have exB : Ex H H' := (ex0.trans e1).mo_new (ex0.free hT) hm
        walk_at "g"
        refine ⟨D, rfl, ⟨_, SqL.of hd⟩, cp_L (xs := [V.ref c0.1, V.ref c1.1, V.ref c2.1]) (fun F j H2 => ∃ rs : List V, rs.length = j ∧ H2 F = some (.lst rs) ∧ (∀ (k : Nat) (e : Addr × Int × Int) (r : V), ([c0, c1, c2] : List (Addr × Int × Int))[k]? = some e → rs[k]? = some r → RatV a.C_Ratio H2 r (rtOf e)) ∧ Ex H' H2) (fun F hF => ⟨[], rfl, upd_same, fun k e r _ h => by simp at h, Ex.new hF⟩) (fun F hF j H2 _ ⟨_, _, _, _, ex⟩ => SqL.of (ex _ _ hd)) (fun F hF j x H2 hx => ?_) (fun F hF H2 => ?_)⟩
        · rintro ⟨rs, hl2, hf, hr, ex⟩
          obtain ⟨e, he, rfl⟩ : ∃ e, [c0, c1, c2][j]? = some e ∧ x = V.ref e.1 := by
            match j, hx with
            | 0, hx => exact ⟨c0, rfl, by simpa using hx.symm⟩
            | 1, hx => exact ⟨c1, rfl, by simpa using hx.symm⟩
            | 2, hx => exact ⟨c2, rfl, by simpa using hx.symm⟩
            | _ + 3, hx => simp at hx
          have pe := (hp e (List.mem_of_getElem? he)).mono ex
          refine g_gtup (SqT.of pe.at_) rfl ?_
          walk_at "g"
          refine ⟨rfl, ?_⟩
          walk_at "g"
          have l1 := pe.l1
          have l2 := pe.l2
          have l3 := pe.l3
          have l4 := pe.l4
          refine use_initW (k := 40) (by omega) (by omega) (by omega) (by decide) fun vp H5 e5 hv => ?_
          have hf5 := e5 _ _ hf
          have js : j < 3 := by
            match j, hx with
            | 0, _ | 1, _ | 2, _ => omega
            | _ + 3, hx => simp at hx
          refine ⟨rs, hf5, Nat.lt_of_le_of_lt (m := 100) (by omega) (by decide), rs ++ [.ref vp], by rw [List.length_append, hl2]; rfl, upd_same, fun k e' r hk hr' => ?_, fun b o hb => ?_⟩
          · have keep : ∀ {v : V} {q : Rat}, RatV a.C_Ratio H5 v q → RatV a.C_Ratio (upd H5 F (.lst (rs ++ [.ref vp]))) v q := fun {v q} ⟨p', z, dx, h⟩ => ⟨p', z, dx, by
              rw [upd_ne fun w => by rw [w, hf5] at h; cases h]
              exact h⟩
            by_cases hkj : k < rs.length
            · rw [List.getElem?_append_left hkj] at hr'
              exact keep ((hr k e' r hk hr').mono e5)
            · rw [List.getElem?_append_right (by omega)] at hr'
              have hk0 : k = rs.length := by
                match h : k - rs.length, hr' with
                | 0, _ => omega
                | _ + 1, hr' => simp at hr'
              subst hk0
              rw [hl2, he] at hk
              cases hk
              rw [Nat.sub_self] at hr'
              cases hr'
              exact keep hv
          · rw [upd_ne (ne_of_none hb hF)]
            exact e5 _ _ (ex _ _ hb)
        · rintro ⟨rs, hl2, hf, hr, ex⟩
          obtain ⟨r0, r1, r2, rfl⟩ : ∃ x y z, rs = [x, y, z] := by
            match rs, hl2 with
            | [x, y, z], _ => exact ⟨x, y, z, rfl⟩
          have tp2 := ht.mono ex
          have b0 : Bn a.C_Ratio H H2 t D F c0 c1 c2 r0 r1 r2 := ⟨exB.trans ex, ex0.free hT, tp2, ex _ _ hd, hf, dt, ht.new hF, (hp c0 (by simp)).mono ex, (hp c1 (by simp)).mono ex, (hp c2 (by simp)).mono ex, hr 0 _ _ rfl rfl, hr 1 _ _ rfl rfl, hr 2 _ _ rfl rfl⟩
          have c01 := b0.p0.l1
          have c02 := b0.p0.l2
          have c03 := b0.p0.l3
          have c04 := b0.p0.l4
          have c11 := b0.p1.l1
          have c12 := b0.p1.l2
          have c13 := b0.p1.l3
          have c14 := b0.p1.l4
          have c21 := b0.p2.l1
          have c22 := b0.p2.l2
          have c23 := b0.p2.l3
          have c24 := b0.p2.l4
          walk_at "g"
          refine g_ixL (SqL.of b0.hD) at_zero ?_
          refine g_gtup (SqT.of b0.p0.at_) rfl ?_
          walk_at "g"
          refine g_ixL (SqL.of b0.hF) at_zero ?_
          walk_at "g"
          refine use_Lis b0.q0 rfl (by omega) (by omega) (by omega) fun H3 e3 => ?_
          have b1 := b0.mono e3
          clear b0
          walk_at "g"
          refine g_makeK ?_
          walk_at "g"
          refine ⟨rfl, rfl, ?_⟩
          refine use_initW (k := 40) (by omega) (by omega) (by omega) (by decide) fun v4 H4 e4 hv4 => ?_
          have b2 := b1.mono e4
          clear b1
          walk_at "g"
          refine use_Lis hv4 (flip_divInt (by omega)) (by omega) (by omega) (by omega) fun H5 e5 => ?_
          have b3 := b2.mono e5
          clear b2
          walk_at "g"
          refine g_I (by walk_at "pow") ?_
          walk_at "g"
          refine use_pick (by decide) (by decide) b3.tp fun d H6 d0 d1 m6 t6 => ?_
          have b4 := b3.mo m6 t6
          clear b3
          walk_at "g"
          have hgb : 10 ^ 17 ≤ (10 : Int) ^ Int.toNat 17 + d ∧ (10 : Int) ^ Int.toNat 17 + d < 10 ^ 17 + 1000 := by
            rw [show ((10 : Int) ^ Int.toNat 17) = 10 ^ 17 from rfl]
            omega
          generalize (10 : Int) ^ Int.toNat 17 + d = gr at hgb ⊢
          refine ⟨len_lit rfl, fun n1 hn1 => ?_⟩
          have b5 := b4.mono (Ex.new (o := .tup [.int (gr + 1), .int gr]) hn1)
          have n1a : (upd H6 n1 (.tup [.int (gr + 1), .int gr])) n1 = some (.tup [.int (gr + 1), .int gr]) := upd_same
          clear b4
          generalize (upd H6 n1 (.tup [.int (gr + 1), .int gr])) = H7 at b5 n1a ⊢
          walk_at "g"
          refine ⟨len_lit rfl, fun n2 hn2 => ?_⟩
          have b6 := b5.mono (Ex.new (o := .tup [.int (gr + 2), .int (gr + 1)]) hn2)
          have n1b := Ex.new (o := .tup [.int (gr + 2), .int (gr + 1)]) hn2 _ _ n1a
          have n2b : (upd H7 n2 (.tup [.int (gr + 2), .int (gr + 1)])) n2 = some (.tup [.int (gr + 2), .int (gr + 1)]) := upd_same
          clear b5 n1a
          generalize (upd H7 n2 (.tup [.int (gr + 2), .int (gr + 1)])) = H8 at b6 n1b n2b ⊢
          walk_at "g"
          refine use_initW (k := 70) (by omega) (by omega) (by omega) (by decide) fun v9 H9 e9 hv9 => ?_
          have b7 := b6.mono e9
          clear b6
          walk_at "g"
          refine use_initW (k := 70) (by omega) (by omega) (by omega) (by decide) fun va Ha ea hva => ?_
          have b8 := b7.mono ea
          clear b7
          have ne := e9.trans ea
          walk_at "g"
          refine use_pairR (hv9.mono ea) hva.num (SqT.of (ne _ _ n1b)) (SqT.of (ne _ _ n2b)) (by omega) (by omega) (by omega) (by omega) (by omega) (by omega) fun Hb eb => ?_
          have b9 := b8.mono eb
          clear b8 n1b n2b
          walk_at "g"
          exact ⟨H, p, t, D, F, c0, c1, c2, r0, r1, r2, ⟨_, none, none, _, none, _, _, _, _, _, _, _, _, _, _, _, _, _, rfl⟩, b9, fun σ2 H2 h2 e2 => ⟨h2, e2⟩⟩
    · rintro σ' H' ⟨⟨u1, u2, u3, u4, u5, u6, u7, u8, u9, u10, u11, u12, u13, u14, u15, u16, u17, u18, rfl⟩, ex⟩
      walk_at "g"
      exact z H' ex
end
end Kx


set_option maxHeartbeats 4000000
namespace Kx
open PySem PySem.Spec PyProof.Rows L2 Fm SX
/-- whether an error of the class at A is what a clause of the class at B names -/
theorem exm_sub {K : PySem.W.Frag} {A B : Addr} {b : Bool} (h1 : PySem.W.subIn K (.ref B) (.type "BaseException") = some true) (h2 : PySem.W.isClsIn K B = true) (h3 : PySem.W.typeIn K (.ref B) = some (.type "type")) (h4 : PySem.W.subIn K (.ref A) (.ref B) = some b) : PySem.W.exmOne K (.ref A) (.ref B) = some b := by
  have c : (PySem.W.clsIn K B).isSome = true := h2
  unfold PySem.W.exmOne
  rw [h1]
  show PySem.W.kitCls K (.ref A) (.ref B) = some b
  show (if ((PySem.W.clsIn K B).isSome && PySem.W.typeIn K (.ref B) == some (.type "type")) = true then PySem.W.subIn K (.ref A) (.ref B) else none) = some b
  rw [c, h3, if_pos (by simp), h4]
theorem all_mk {l : PySem.W.OpenLaw} {w : World} {K : PySem.W.Frag} {h : Heap} {mg : Str → Option Value} {fa : Addr} (X : K.In h) (G : h.Ns mainGlobals mg) (hfa : mg "law" = some (.ref fa))
    {C_MeansError : Addr} {C_ByZero : Addr} {C_BadText : Addr} {C_BadNumber : Addr} {C_Ratio : Addr} {f_BadNumber_init : Addr} {kV_BadNumber_init : Value} {dc_BadNumber_init : Value} {pm_BadNumber_init : Value} {cd_BadNumber_init : Value} {ct_BadNumber_init : Value} {oc_BadNumber_init : Value}
    {od_BadNumber_init : Option Addr} {an_BadNumber_init : Option Addr} {sl_BadNumber_init : Array (Option Value)} {f_Ratio_init : Addr} {kV_Ratio_init : Value} {dc_Ratio_init : Value} {pm_Ratio_init : Value} {cd_Ratio_init : Value} {ct_Ratio_init : Value} {oc_Ratio_init : Value} {od_Ratio_init : Option Addr} {an_Ratio_init : Option Addr}
    {sl_Ratio_init : Array (Option Value)} {T_Ratio_init : Addr} {ocT_Ratio_init : Value} {odT_Ratio_init : Option Addr} {nT_Ratio_init : Nat} {slT_Ratio_init : Array (Option Value)} {tk0_Ratio_init : Tok} {f_Ratio_add : Addr} {kV_Ratio_add : Value} {dc_Ratio_add : Value} {pm_Ratio_add : Value} {cd_Ratio_add : Value}
    {ct_Ratio_add : Value} {oc_Ratio_add : Value} {od_Ratio_add : Option Addr} {an_Ratio_add : Option Addr} {sl_Ratio_add : Array (Option Value)} {f_Ratio_sub : Addr} {kV_Ratio_sub : Value} {dc_Ratio_sub : Value} {pm_Ratio_sub : Value} {cd_Ratio_sub : Value} {ct_Ratio_sub : Value} {oc_Ratio_sub : Value}
    {od_Ratio_sub : Option Addr} {an_Ratio_sub : Option Addr} {sl_Ratio_sub : Array (Option Value)} {f_Ratio_mul : Addr} {kV_Ratio_mul : Value} {dc_Ratio_mul : Value} {pm_Ratio_mul : Value} {cd_Ratio_mul : Value} {ct_Ratio_mul : Value} {oc_Ratio_mul : Value} {od_Ratio_mul : Option Addr} {an_Ratio_mul : Option Addr}
    {sl_Ratio_mul : Array (Option Value)} {f_Ratio_neg : Addr} {kV_Ratio_neg : Value} {dc_Ratio_neg : Value} {pm_Ratio_neg : Value} {cd_Ratio_neg : Value} {ct_Ratio_neg : Value} {oc_Ratio_neg : Value} {od_Ratio_neg : Option Addr} {an_Ratio_neg : Option Addr} {sl_Ratio_neg : Array (Option Value)} {f_Ratio_eq : Addr}
    {kV_Ratio_eq : Value} {dc_Ratio_eq : Value} {pm_Ratio_eq : Value} {cd_Ratio_eq : Value} {ct_Ratio_eq : Value} {oc_Ratio_eq : Value} {od_Ratio_eq : Option Addr} {an_Ratio_eq : Option Addr} {sl_Ratio_eq : Array (Option Value)} {f_Ratio_lt : Addr} {kV_Ratio_lt : Value} {dc_Ratio_lt : Value}
    {pm_Ratio_lt : Value} {cd_Ratio_lt : Value} {ct_Ratio_lt : Value} {oc_Ratio_lt : Value} {od_Ratio_lt : Option Addr} {an_Ratio_lt : Option Addr} {sl_Ratio_lt : Array (Option Value)} {f_Ratio_le : Addr} {kV_Ratio_le : Value} {dc_Ratio_le : Value} {pm_Ratio_le : Value} {cd_Ratio_le : Value}
    {ct_Ratio_le : Value} {oc_Ratio_le : Value} {od_Ratio_le : Option Addr} {an_Ratio_le : Option Addr} {sl_Ratio_le : Array (Option Value)} {f_Ratio_over : Addr} {kV_Ratio_over : Value} {dc_Ratio_over : Value} {pm_Ratio_over : Value} {cd_Ratio_over : Value} {ct_Ratio_over : Value} {oc_Ratio_over : Value}
    {od_Ratio_over : Option Addr} {an_Ratio_over : Option Addr} {sl_Ratio_over : Array (Option Value)} {f_Ratio_text : Addr} {kV_Ratio_text : Value} {dc_Ratio_text : Value} {pm_Ratio_text : Value} {cd_Ratio_text : Value} {ct_Ratio_text : Value} {oc_Ratio_text : Value} {od_Ratio_text : Option Addr} {an_Ratio_text : Option Addr}
    {sl_Ratio_text : Array (Option Value)} {f_is_whole : Addr} {kV_is_whole : Value} {dc_is_whole : Value} {pm_is_whole : Value} {cd_is_whole : Value} {ct_is_whole : Value} {oc_is_whole : Value} {od_is_whole : Option Addr} {an_is_whole : Option Addr} {sl_is_whole : Array (Option Value)} {f_is_number : Addr}
    {kV_is_number : Value} {dc_is_number : Value} {pm_is_number : Value} {cd_is_number : Value} {ct_is_number : Value} {oc_is_number : Value} {od_is_number : Option Addr} {an_is_number : Option Addr} {sl_is_number : Array (Option Value)} {f_as_ratio : Addr} {kV_as_ratio : Value} {dc_as_ratio : Value}
    {pm_as_ratio : Value} {cd_as_ratio : Value} {ct_as_ratio : Value} {oc_as_ratio : Value} {od_as_ratio : Option Addr} {an_as_ratio : Option Addr} {sl_as_ratio : Array (Option Value)} {f_total : Addr} {kV_total : Value} {dc_total : Value} {pm_total : Value} {cd_total : Value}
    {ct_total : Value} {oc_total : Value} {od_total : Option Addr} {an_total : Option Addr} {sl_total : Array (Option Value)} {f_read_ratio : Addr} {kV_read_ratio : Value} {dc_read_ratio : Value} {pm_read_ratio : Value} {cd_read_ratio : Value} {ct_read_ratio : Value} {oc_read_ratio : Value}
    {od_read_ratio : Option Addr} {an_read_ratio : Option Addr} {sl_read_ratio : Array (Option Value)} {f_has_digits_only : Addr} {kV_has_digits_only : Value} {dc_has_digits_only : Value} {pm_has_digits_only : Value} {cd_has_digits_only : Value} {ct_has_digits_only : Value} {oc_has_digits_only : Value} {od_has_digits_only : Option Addr} {an_has_digits_only : Option Addr}
    {sl_has_digits_only : Array (Option Value)} {f_numeral : Addr} {kV_numeral : Value} {dc_numeral : Value} {pm_numeral : Value} {cd_numeral : Value} {ct_numeral : Value} {oc_numeral : Value} {od_numeral : Option Addr} {an_numeral : Option Addr} {sl_numeral : Array (Option Value)} {f_from_numeral : Addr}
    {kV_from_numeral : Value} {dc_from_numeral : Value} {pm_from_numeral : Value} {cd_from_numeral : Value} {ct_from_numeral : Value} {oc_from_numeral : Value} {od_from_numeral : Option Addr} {an_from_numeral : Option Addr} {sl_from_numeral : Array (Option Value)} {f_Ltape : Addr} {kV_Ltape : Value} {dc_Ltape : Value}
    {pm_Ltape : Value} {cd_Ltape : Value} {ct_Ltape : Value} {oc_Ltape : Value} {od_Ltape : Option Addr} {an_Ltape : Option Addr} {sl_Ltape : Array (Option Value)} {f_Lpick : Addr} {kV_Lpick : Value} {dc_Lpick : Value} {pm_Lpick : Value} {cd_Lpick : Value}
    {ct_Lpick : Value} {oc_Lpick : Value} {od_Lpick : Option Addr} {an_Lpick : Option Addr} {sl_Lpick : Array (Option Value)} {f_Lpair : Addr} {kV_Lpair : Value} {dc_Lpair : Value} {pm_Lpair : Value} {cd_Lpair : Value} {ct_Lpair : Value} {oc_Lpair : Value}
    {od_Lpair : Option Addr} {an_Lpair : Option Addr} {sl_Lpair : Array (Option Value)} {f_Ldivisor : Addr} {kV_Ldivisor : Value} {dc_Ldivisor : Value} {pm_Ldivisor : Value} {cd_Ldivisor : Value} {ct_Ldivisor : Value} {oc_Ldivisor : Value} {od_Ldivisor : Option Addr} {an_Ldivisor : Option Addr}
    {sl_Ldivisor : Array (Option Value)} {f_Lis : Addr} {kV_Lis : Value} {dc_Lis : Value} {pm_Lis : Value} {cd_Lis : Value} {ct_Lis : Value} {oc_Lis : Value} {od_Lis : Option Addr} {an_Lis : Option Addr} {sl_Lis : Array (Option Value)} {f_Lpair_right : Addr}
    {kV_Lpair_right : Value} {dc_Lpair_right : Value} {pm_Lpair_right : Value} {cd_Lpair_right : Value} {ct_Lpair_right : Value} {oc_Lpair_right : Value} {od_Lpair_right : Option Addr} {an_Lpair_right : Option Addr} {sl_Lpair_right : Array (Option Value)} {f_Lrefused : Addr} {kV_Lrefused : Value} {dc_Lrefused : Value}
    {pm_Lrefused : Value} {cd_Lrefused : Value} {ct_Lrefused : Value} {oc_Lrefused : Value} {od_Lrefused : Option Addr} {an_Lrefused : Option Addr} {sl_Lrefused : Array (Option Value)} {f_Lnumber : Addr} {kV_Lnumber : Value} {dc_Lnumber : Value} {pm_Lnumber : Value} {cd_Lnumber : Value}
    {ct_Lnumber : Value} {oc_Lnumber : Value} {od_Lnumber : Option Addr} {an_Lnumber : Option Addr} {sl_Lnumber : Array (Option Value)} {f_Ltold : Addr} {kV_Ltold : Value} {dc_Ltold : Value} {pm_Ltold : Value} {cd_Ltold : Value} {ct_Ltold : Value} {oc_Ltold : Value}
    {od_Ltold : Option Addr} {an_Ltold : Option Addr} {sl_Ltold : Array (Option Value)} {f_Ltexts_right : Addr} {kV_Ltexts_right : Value} {dc_Ltexts_right : Value} {pm_Ltexts_right : Value} {cd_Ltexts_right : Value} {ct_Ltexts_right : Value} {oc_Ltexts_right : Value} {od_Ltexts_right : Option Addr} {an_Ltexts_right : Option Addr}
    {sl_Ltexts_right : Array (Option Value)} {f_law : Addr} {kV_law : Value} {dc_law : Value} {pm_law : Value} {cd_law : Value} {ct_law : Value} {oc_law : Value} {od_law : Option Addr} {an_law : Option Addr} {sl_law : Array (Option Value)} {onm_BadNumber : Str}
    {oq_BadNumber : Str} {oN_BadNumber : Addr} {obs_BadNumber : List Value} {obm_BadNumber : List Value} {osn_BadNumber : List Str} {osub_BadNumber : List Value} {oab_BadNumber : Bool} {ocol_BadNumber : Option Bool} {odd_BadNumber : Option Addr} {om0_BadNumber : Option Value} {om1_BadNumber : Option Value} {om2_BadNumber : Option Value}
    {om3_BadNumber : Option Value} {om5_BadNumber : Option Value} {vo_add : Option Value} {vr_add : Option Value} {vo_sub : Option Value} {vr_sub : Option Value} {vo_mul : Option Value} {vr_mul : Option Value}
    (aC_MeansError : PySem.W.nsIn K mainGlobals "MeansError" = some (some (.ref C_MeansError)))
    (aC_ByZero : PySem.W.nsIn K mainGlobals "ByZero" = some (some (.ref C_ByZero)))
    (aC_BadText : PySem.W.nsIn K mainGlobals "BadText" = some (some (.ref C_BadText)))
    (aC_BadNumber : PySem.W.nsIn K mainGlobals "BadNumber" = some (some (.ref C_BadNumber)))
    (aC_Ratio : PySem.W.nsIn K mainGlobals "Ratio" = some (some (.ref C_Ratio)))
    (a_BadNumber_init : PySem.W.findIn K (.ref C_BadNumber) "__init__" = some (some (.ref f_BadNumber_init)))
    (i_BadNumber_init : PySem.W.isFn K (.ref f_BadNumber_init) = true)
    (l_BadNumber_init : K.lookup f_BadNumber_init = some ⟨oc_BadNumber_init, od_BadNumber_init, .func (PySem.W.fnOf "__init__" "BadNumber.__init__" (defArgs s_BadNumber_init) (defBody s_BadNumber_init) (defScope s_BadNumber_init) .none kV_BadNumber_init dc_BadNumber_init pm_BadNumber_init an_BadNumber_init cd_BadNumber_init ct_BadNumber_init), sl_BadNumber_init⟩)
    (c_BadNumber_init : PySem.W.codeIn K cd_BadNumber_init "BadNumber.__init__" = true)
    (k_BadNumber_init : PySem.W.keepIn K (.ref f_BadNumber_init) = true)
    (a_Ratio_init : PySem.W.findIn K (.ref C_Ratio) "__init__" = some (some (.ref f_Ratio_init)))
    (i_Ratio_init : PySem.W.isFn K (.ref f_Ratio_init) = true)
    (l_Ratio_init : K.lookup f_Ratio_init = some ⟨oc_Ratio_init, od_Ratio_init, .func (PySem.W.fnOf "__init__" "Ratio.__init__" (defArgs s_Ratio_init) (defBody s_Ratio_init) (defScope s_Ratio_init) (.ref T_Ratio_init) kV_Ratio_init dc_Ratio_init pm_Ratio_init an_Ratio_init cd_Ratio_init ct_Ratio_init), sl_Ratio_init⟩)
    (lT_Ratio_init : K.lookup T_Ratio_init = some ⟨ocT_Ratio_init, odT_Ratio_init, .seq [Value.int 1 tk0_Ratio_init].toArray nT_Ratio_init, slT_Ratio_init⟩)
    (c_Ratio_init : PySem.W.codeIn K cd_Ratio_init "Ratio.__init__" = true)
    (k_Ratio_init : PySem.W.keepIn K (.ref f_Ratio_init) = true)
    (a_Ratio_add : PySem.W.findIn K (.ref C_Ratio) "__add__" = some (some (.ref f_Ratio_add)))
    (i_Ratio_add : PySem.W.isFn K (.ref f_Ratio_add) = true)
    (l_Ratio_add : K.lookup f_Ratio_add = some ⟨oc_Ratio_add, od_Ratio_add, .func (PySem.W.fnOf "__add__" "Ratio.__add__" (defArgs s_Ratio_add) (defBody s_Ratio_add) (defScope s_Ratio_add) .none kV_Ratio_add dc_Ratio_add pm_Ratio_add an_Ratio_add cd_Ratio_add ct_Ratio_add), sl_Ratio_add⟩)
    (c_Ratio_add : PySem.W.codeIn K cd_Ratio_add "Ratio.__add__" = true)
    (k_Ratio_add : PySem.W.keepIn K (.ref f_Ratio_add) = true)
    (a_Ratio_sub : PySem.W.findIn K (.ref C_Ratio) "__sub__" = some (some (.ref f_Ratio_sub)))
    (i_Ratio_sub : PySem.W.isFn K (.ref f_Ratio_sub) = true)
    (l_Ratio_sub : K.lookup f_Ratio_sub = some ⟨oc_Ratio_sub, od_Ratio_sub, .func (PySem.W.fnOf "__sub__" "Ratio.__sub__" (defArgs s_Ratio_sub) (defBody s_Ratio_sub) (defScope s_Ratio_sub) .none kV_Ratio_sub dc_Ratio_sub pm_Ratio_sub an_Ratio_sub cd_Ratio_sub ct_Ratio_sub), sl_Ratio_sub⟩)
    (c_Ratio_sub : PySem.W.codeIn K cd_Ratio_sub "Ratio.__sub__" = true)
    (k_Ratio_sub : PySem.W.keepIn K (.ref f_Ratio_sub) = true)
    (a_Ratio_mul : PySem.W.findIn K (.ref C_Ratio) "__mul__" = some (some (.ref f_Ratio_mul)))
    (i_Ratio_mul : PySem.W.isFn K (.ref f_Ratio_mul) = true)
    (l_Ratio_mul : K.lookup f_Ratio_mul = some ⟨oc_Ratio_mul, od_Ratio_mul, .func (PySem.W.fnOf "__mul__" "Ratio.__mul__" (defArgs s_Ratio_mul) (defBody s_Ratio_mul) (defScope s_Ratio_mul) .none kV_Ratio_mul dc_Ratio_mul pm_Ratio_mul an_Ratio_mul cd_Ratio_mul ct_Ratio_mul), sl_Ratio_mul⟩)
    (c_Ratio_mul : PySem.W.codeIn K cd_Ratio_mul "Ratio.__mul__" = true)
    (k_Ratio_mul : PySem.W.keepIn K (.ref f_Ratio_mul) = true)
    (a_Ratio_neg : PySem.W.findIn K (.ref C_Ratio) "__neg__" = some (some (.ref f_Ratio_neg)))
    (i_Ratio_neg : PySem.W.isFn K (.ref f_Ratio_neg) = true)
    (l_Ratio_neg : K.lookup f_Ratio_neg = some ⟨oc_Ratio_neg, od_Ratio_neg, .func (PySem.W.fnOf "__neg__" "Ratio.__neg__" (defArgs s_Ratio_neg) (defBody s_Ratio_neg) (defScope s_Ratio_neg) .none kV_Ratio_neg dc_Ratio_neg pm_Ratio_neg an_Ratio_neg cd_Ratio_neg ct_Ratio_neg), sl_Ratio_neg⟩)
    (c_Ratio_neg : PySem.W.codeIn K cd_Ratio_neg "Ratio.__neg__" = true)
    (k_Ratio_neg : PySem.W.keepIn K (.ref f_Ratio_neg) = true)
    (a_Ratio_eq : PySem.W.findIn K (.ref C_Ratio) "__eq__" = some (some (.ref f_Ratio_eq)))
    (i_Ratio_eq : PySem.W.isFn K (.ref f_Ratio_eq) = true)
    (l_Ratio_eq : K.lookup f_Ratio_eq = some ⟨oc_Ratio_eq, od_Ratio_eq, .func (PySem.W.fnOf "__eq__" "Ratio.__eq__" (defArgs s_Ratio_eq) (defBody s_Ratio_eq) (defScope s_Ratio_eq) .none kV_Ratio_eq dc_Ratio_eq pm_Ratio_eq an_Ratio_eq cd_Ratio_eq ct_Ratio_eq), sl_Ratio_eq⟩)
    (c_Ratio_eq : PySem.W.codeIn K cd_Ratio_eq "Ratio.__eq__" = true)
    (k_Ratio_eq : PySem.W.keepIn K (.ref f_Ratio_eq) = true)
    (a_Ratio_lt : PySem.W.findIn K (.ref C_Ratio) "__lt__" = some (some (.ref f_Ratio_lt)))
    (i_Ratio_lt : PySem.W.isFn K (.ref f_Ratio_lt) = true)
    (l_Ratio_lt : K.lookup f_Ratio_lt = some ⟨oc_Ratio_lt, od_Ratio_lt, .func (PySem.W.fnOf "__lt__" "Ratio.__lt__" (defArgs s_Ratio_lt) (defBody s_Ratio_lt) (defScope s_Ratio_lt) .none kV_Ratio_lt dc_Ratio_lt pm_Ratio_lt an_Ratio_lt cd_Ratio_lt ct_Ratio_lt), sl_Ratio_lt⟩)
    (c_Ratio_lt : PySem.W.codeIn K cd_Ratio_lt "Ratio.__lt__" = true)
    (k_Ratio_lt : PySem.W.keepIn K (.ref f_Ratio_lt) = true)
    (a_Ratio_le : PySem.W.findIn K (.ref C_Ratio) "__le__" = some (some (.ref f_Ratio_le)))
    (i_Ratio_le : PySem.W.isFn K (.ref f_Ratio_le) = true)
    (l_Ratio_le : K.lookup f_Ratio_le = some ⟨oc_Ratio_le, od_Ratio_le, .func (PySem.W.fnOf "__le__" "Ratio.__le__" (defArgs s_Ratio_le) (defBody s_Ratio_le) (defScope s_Ratio_le) .none kV_Ratio_le dc_Ratio_le pm_Ratio_le an_Ratio_le cd_Ratio_le ct_Ratio_le), sl_Ratio_le⟩)
    (c_Ratio_le : PySem.W.codeIn K cd_Ratio_le "Ratio.__le__" = true)
    (k_Ratio_le : PySem.W.keepIn K (.ref f_Ratio_le) = true)
    (a_Ratio_over : PySem.W.findIn K (.ref C_Ratio) "over" = some (some (.ref f_Ratio_over)))
    (i_Ratio_over : PySem.W.isFn K (.ref f_Ratio_over) = true)
    (l_Ratio_over : K.lookup f_Ratio_over = some ⟨oc_Ratio_over, od_Ratio_over, .func (PySem.W.fnOf "over" "Ratio.over" (defArgs s_Ratio_over) (defBody s_Ratio_over) (defScope s_Ratio_over) .none kV_Ratio_over dc_Ratio_over pm_Ratio_over an_Ratio_over cd_Ratio_over ct_Ratio_over), sl_Ratio_over⟩)
    (c_Ratio_over : PySem.W.codeIn K cd_Ratio_over "Ratio.over" = true)
    (k_Ratio_over : PySem.W.keepIn K (.ref f_Ratio_over) = true)
    (a_Ratio_text : PySem.W.findIn K (.ref C_Ratio) "text" = some (some (.ref f_Ratio_text)))
    (i_Ratio_text : PySem.W.isFn K (.ref f_Ratio_text) = true)
    (l_Ratio_text : K.lookup f_Ratio_text = some ⟨oc_Ratio_text, od_Ratio_text, .func (PySem.W.fnOf "text" "Ratio.text" (defArgs s_Ratio_text) (defBody s_Ratio_text) (defScope s_Ratio_text) .none kV_Ratio_text dc_Ratio_text pm_Ratio_text an_Ratio_text cd_Ratio_text ct_Ratio_text), sl_Ratio_text⟩)
    (c_Ratio_text : PySem.W.codeIn K cd_Ratio_text "Ratio.text" = true)
    (k_Ratio_text : PySem.W.keepIn K (.ref f_Ratio_text) = true)
    (a_is_whole : PySem.W.nsIn K mainGlobals "is_whole" = some (some (.ref f_is_whole)))
    (l_is_whole : K.lookup f_is_whole = some ⟨oc_is_whole, od_is_whole, .func (PySem.W.fnOf "is_whole" "is_whole" (defArgs s_is_whole) (defBody s_is_whole) (defScope s_is_whole) .none kV_is_whole dc_is_whole pm_is_whole an_is_whole cd_is_whole ct_is_whole), sl_is_whole⟩)
    (c_is_whole : PySem.W.codeIn K cd_is_whole "is_whole" = true)
    (k_is_whole : PySem.W.keepIn K (.ref f_is_whole) = true)
    (a_is_number : PySem.W.nsIn K mainGlobals "is_number" = some (some (.ref f_is_number)))
    (l_is_number : K.lookup f_is_number = some ⟨oc_is_number, od_is_number, .func (PySem.W.fnOf "is_number" "is_number" (defArgs s_is_number) (defBody s_is_number) (defScope s_is_number) .none kV_is_number dc_is_number pm_is_number an_is_number cd_is_number ct_is_number), sl_is_number⟩)
    (c_is_number : PySem.W.codeIn K cd_is_number "is_number" = true)
    (k_is_number : PySem.W.keepIn K (.ref f_is_number) = true)
    (a_as_ratio : PySem.W.nsIn K mainGlobals "as_ratio" = some (some (.ref f_as_ratio)))
    (l_as_ratio : K.lookup f_as_ratio = some ⟨oc_as_ratio, od_as_ratio, .func (PySem.W.fnOf "as_ratio" "as_ratio" (defArgs s_as_ratio) (defBody s_as_ratio) (defScope s_as_ratio) .none kV_as_ratio dc_as_ratio pm_as_ratio an_as_ratio cd_as_ratio ct_as_ratio), sl_as_ratio⟩)
    (c_as_ratio : PySem.W.codeIn K cd_as_ratio "as_ratio" = true)
    (k_as_ratio : PySem.W.keepIn K (.ref f_as_ratio) = true)
    (a_total : PySem.W.nsIn K mainGlobals "total" = some (some (.ref f_total)))
    (l_total : K.lookup f_total = some ⟨oc_total, od_total, .func (PySem.W.fnOf "total" "total" (defArgs s_total) (defBody s_total) (defScope s_total) .none kV_total dc_total pm_total an_total cd_total ct_total), sl_total⟩)
    (c_total : PySem.W.codeIn K cd_total "total" = true)
    (k_total : PySem.W.keepIn K (.ref f_total) = true)
    (a_read_ratio : PySem.W.nsIn K mainGlobals "read_ratio" = some (some (.ref f_read_ratio)))
    (l_read_ratio : K.lookup f_read_ratio = some ⟨oc_read_ratio, od_read_ratio, .func (PySem.W.fnOf "read_ratio" "read_ratio" (defArgs s_read_ratio) (defBody s_read_ratio) (defScope s_read_ratio) .none kV_read_ratio dc_read_ratio pm_read_ratio an_read_ratio cd_read_ratio ct_read_ratio), sl_read_ratio⟩)
    (c_read_ratio : PySem.W.codeIn K cd_read_ratio "read_ratio" = true)
    (k_read_ratio : PySem.W.keepIn K (.ref f_read_ratio) = true)
    (a_has_digits_only : PySem.W.nsIn K mainGlobals "has_digits_only" = some (some (.ref f_has_digits_only)))
    (l_has_digits_only : K.lookup f_has_digits_only = some ⟨oc_has_digits_only, od_has_digits_only, .func (PySem.W.fnOf "has_digits_only" "has_digits_only" (defArgs s_has_digits_only) (defBody s_has_digits_only) (defScope s_has_digits_only) .none kV_has_digits_only dc_has_digits_only pm_has_digits_only an_has_digits_only cd_has_digits_only ct_has_digits_only), sl_has_digits_only⟩)
    (c_has_digits_only : PySem.W.codeIn K cd_has_digits_only "has_digits_only" = true)
    (k_has_digits_only : PySem.W.keepIn K (.ref f_has_digits_only) = true)
    (a_numeral : PySem.W.nsIn K mainGlobals "numeral" = some (some (.ref f_numeral)))
    (l_numeral : K.lookup f_numeral = some ⟨oc_numeral, od_numeral, .func (PySem.W.fnOf "numeral" "numeral" (defArgs s_numeral) (defBody s_numeral) (defScope s_numeral) .none kV_numeral dc_numeral pm_numeral an_numeral cd_numeral ct_numeral), sl_numeral⟩)
    (c_numeral : PySem.W.codeIn K cd_numeral "numeral" = true)
    (k_numeral : PySem.W.keepIn K (.ref f_numeral) = true)
    (a_from_numeral : PySem.W.nsIn K mainGlobals "from_numeral" = some (some (.ref f_from_numeral)))
    (l_from_numeral : K.lookup f_from_numeral = some ⟨oc_from_numeral, od_from_numeral, .func (PySem.W.fnOf "from_numeral" "from_numeral" (defArgs s_from_numeral) (defBody s_from_numeral) (defScope s_from_numeral) .none kV_from_numeral dc_from_numeral pm_from_numeral an_from_numeral cd_from_numeral ct_from_numeral), sl_from_numeral⟩)
    (c_from_numeral : PySem.W.codeIn K cd_from_numeral "from_numeral" = true)
    (k_from_numeral : PySem.W.keepIn K (.ref f_from_numeral) = true)
    (a_Ltape : PySem.W.nsIn K mainGlobals "_law_tape" = some (some (.ref f_Ltape)))
    (l_Ltape : K.lookup f_Ltape = some ⟨oc_Ltape, od_Ltape, .func (PySem.W.fnOf "_law_tape" "_law_tape" (defArgs s_Ltape) (defBody s_Ltape) (defScope s_Ltape) .none kV_Ltape dc_Ltape pm_Ltape an_Ltape cd_Ltape ct_Ltape), sl_Ltape⟩)
    (c_Ltape : PySem.W.codeIn K cd_Ltape "_law_tape" = true)
    (k_Ltape : PySem.W.keepIn K (.ref f_Ltape) = true)
    (a_Lpick : PySem.W.nsIn K mainGlobals "_law_pick" = some (some (.ref f_Lpick)))
    (l_Lpick : K.lookup f_Lpick = some ⟨oc_Lpick, od_Lpick, .func (PySem.W.fnOf "_law_pick" "_law_pick" (defArgs s_Lpick) (defBody s_Lpick) (defScope s_Lpick) .none kV_Lpick dc_Lpick pm_Lpick an_Lpick cd_Lpick ct_Lpick), sl_Lpick⟩)
    (c_Lpick : PySem.W.codeIn K cd_Lpick "_law_pick" = true)
    (k_Lpick : PySem.W.keepIn K (.ref f_Lpick) = true)
    (a_Lpair : PySem.W.nsIn K mainGlobals "_law_pair" = some (some (.ref f_Lpair)))
    (l_Lpair : K.lookup f_Lpair = some ⟨oc_Lpair, od_Lpair, .func (PySem.W.fnOf "_law_pair" "_law_pair" (defArgs s_Lpair) (defBody s_Lpair) (defScope s_Lpair) .none kV_Lpair dc_Lpair pm_Lpair an_Lpair cd_Lpair ct_Lpair), sl_Lpair⟩)
    (c_Lpair : PySem.W.codeIn K cd_Lpair "_law_pair" = true)
    (k_Lpair : PySem.W.keepIn K (.ref f_Lpair) = true)
    (a_Ldivisor : PySem.W.nsIn K mainGlobals "_law_divisor" = some (some (.ref f_Ldivisor)))
    (l_Ldivisor : K.lookup f_Ldivisor = some ⟨oc_Ldivisor, od_Ldivisor, .func (PySem.W.fnOf "_law_divisor" "_law_divisor" (defArgs s_Ldivisor) (defBody s_Ldivisor) (defScope s_Ldivisor) .none kV_Ldivisor dc_Ldivisor pm_Ldivisor an_Ldivisor cd_Ldivisor ct_Ldivisor), sl_Ldivisor⟩)
    (c_Ldivisor : PySem.W.codeIn K cd_Ldivisor "_law_divisor" = true)
    (k_Ldivisor : PySem.W.keepIn K (.ref f_Ldivisor) = true)
    (a_Lis : PySem.W.nsIn K mainGlobals "_law_is" = some (some (.ref f_Lis)))
    (l_Lis : K.lookup f_Lis = some ⟨oc_Lis, od_Lis, .func (PySem.W.fnOf "_law_is" "_law_is" (defArgs s_Lis) (defBody s_Lis) (defScope s_Lis) .none kV_Lis dc_Lis pm_Lis an_Lis cd_Lis ct_Lis), sl_Lis⟩)
    (c_Lis : PySem.W.codeIn K cd_Lis "_law_is" = true)
    (k_Lis : PySem.W.keepIn K (.ref f_Lis) = true)
    (a_Lpair_right : PySem.W.nsIn K mainGlobals "_law_pair_right" = some (some (.ref f_Lpair_right)))
    (l_Lpair_right : K.lookup f_Lpair_right = some ⟨oc_Lpair_right, od_Lpair_right, .func (PySem.W.fnOf "_law_pair_right" "_law_pair_right" (defArgs s_Lpair_right) (defBody s_Lpair_right) (defScope s_Lpair_right) .none kV_Lpair_right dc_Lpair_right pm_Lpair_right an_Lpair_right cd_Lpair_right ct_Lpair_right), sl_Lpair_right⟩)
    (c_Lpair_right : PySem.W.codeIn K cd_Lpair_right "_law_pair_right" = true)
    (k_Lpair_right : PySem.W.keepIn K (.ref f_Lpair_right) = true)
    (a_Lrefused : PySem.W.nsIn K mainGlobals "_law_refused" = some (some (.ref f_Lrefused)))
    (l_Lrefused : K.lookup f_Lrefused = some ⟨oc_Lrefused, od_Lrefused, .func (PySem.W.fnOf "_law_refused" "_law_refused" (defArgs s_Lrefused) (defBody s_Lrefused) (defScope s_Lrefused) .none kV_Lrefused dc_Lrefused pm_Lrefused an_Lrefused cd_Lrefused ct_Lrefused), sl_Lrefused⟩)
    (c_Lrefused : PySem.W.codeIn K cd_Lrefused "_law_refused" = true)
    (k_Lrefused : PySem.W.keepIn K (.ref f_Lrefused) = true)
    (a_Lnumber : PySem.W.nsIn K mainGlobals "_law_number" = some (some (.ref f_Lnumber)))
    (l_Lnumber : K.lookup f_Lnumber = some ⟨oc_Lnumber, od_Lnumber, .func (PySem.W.fnOf "_law_number" "_law_number" (defArgs s_Lnumber) (defBody s_Lnumber) (defScope s_Lnumber) .none kV_Lnumber dc_Lnumber pm_Lnumber an_Lnumber cd_Lnumber ct_Lnumber), sl_Lnumber⟩)
    (c_Lnumber : PySem.W.codeIn K cd_Lnumber "_law_number" = true)
    (k_Lnumber : PySem.W.keepIn K (.ref f_Lnumber) = true)
    (a_Ltold : PySem.W.nsIn K mainGlobals "_law_told" = some (some (.ref f_Ltold)))
    (l_Ltold : K.lookup f_Ltold = some ⟨oc_Ltold, od_Ltold, .func (PySem.W.fnOf "_law_told" "_law_told" (defArgs s_Ltold) (defBody s_Ltold) (defScope s_Ltold) .none kV_Ltold dc_Ltold pm_Ltold an_Ltold cd_Ltold ct_Ltold), sl_Ltold⟩)
    (c_Ltold : PySem.W.codeIn K cd_Ltold "_law_told" = true)
    (k_Ltold : PySem.W.keepIn K (.ref f_Ltold) = true)
    (a_Ltexts_right : PySem.W.nsIn K mainGlobals "_law_texts_right" = some (some (.ref f_Ltexts_right)))
    (l_Ltexts_right : K.lookup f_Ltexts_right = some ⟨oc_Ltexts_right, od_Ltexts_right, .func (PySem.W.fnOf "_law_texts_right" "_law_texts_right" (defArgs s_Ltexts_right) (defBody s_Ltexts_right) (defScope s_Ltexts_right) .none kV_Ltexts_right dc_Ltexts_right pm_Ltexts_right an_Ltexts_right cd_Ltexts_right ct_Ltexts_right), sl_Ltexts_right⟩)
    (c_Ltexts_right : PySem.W.codeIn K cd_Ltexts_right "_law_texts_right" = true)
    (k_Ltexts_right : PySem.W.keepIn K (.ref f_Ltexts_right) = true)
    (a_law : PySem.W.nsIn K mainGlobals "law" = some (some (.ref f_law)))
    (l_law : K.lookup f_law = some ⟨oc_law, od_law, .func (PySem.W.fnOf "law" "law" (defArgs s_law) (defBody s_law) (defScope s_law) .none kV_law dc_law pm_law an_law cd_law ct_law), sl_law⟩)
    (c_law : PySem.W.codeIn K cd_law "law" = true)
    (k_law : PySem.W.keepIn K (.ref f_law) = true)
    (xex_ByZero : PySem.W.excIn K C_ByZero [.type "ValueError", .type "Exception", .type "BaseException", .type "object"] "ValueError.__new__" = true)
    (xkp_ByZero : PySem.W.keepIn K (.ref C_ByZero) = true)
    (xbx_ByZero : PySem.W.subIn K (.ref C_ByZero) (.type "BaseException") = some true)
    (xty_ByZero : PySem.W.typeIn K (.ref C_ByZero) = some (.type "type"))
    (xcls_ByZero : PySem.W.isClsIn K C_ByZero = true)
    (xsub_ByZero : PySem.W.subIn K (.ref C_ByZero) (.ref C_ByZero) = some true)
    (xex_BadText : PySem.W.excIn K C_BadText [.type "ValueError", .type "Exception", .type "BaseException", .type "object"] "ValueError.__new__" = true)
    (xkp_BadText : PySem.W.keepIn K (.ref C_BadText) = true)
    (xbx_BadText : PySem.W.subIn K (.ref C_BadText) (.type "BaseException") = some true)
    (xty_BadText : PySem.W.typeIn K (.ref C_BadText) = some (.type "type"))
    (xcls_BadText : PySem.W.isClsIn K C_BadText = true)
    (xsub_BadText : PySem.W.subIn K (.ref C_BadText) (.ref C_BadText) = some true)
    (olk_BadNumber : K.lookup C_BadNumber = some (excClassObj onm_BadNumber oq_BadNumber C_BadNumber oN_BadNumber obs_BadNumber obm_BadNumber true osn_BadNumber osub_BadNumber oab_BadNumber ocol_BadNumber odd_BadNumber om0_BadNumber om1_BadNumber om2_BadNumber om3_BadNumber om5_BadNumber "ValueError.__new__"))
    (orv_BadNumber : PySem.HandSPX.refsVE obm_BadNumber = true)
    (osa_BadNumber : PySem.W.findIn K (.ref C_BadNumber) "__setattr__" = some (some (.builtin "object.__setattr__")))
    (oex_BadNumber : PySem.W.subIn K (.ref C_BadNumber) (.type "BaseException") = some true)
    (oty_BadNumber : PySem.W.typeIn K (.ref C_BadNumber) = some (.type "type"))
    (okp_BadNumber : PySem.W.keepIn K (.ref C_BadNumber) = true)
    (oti_BadNumber : PySem.W.typeIn K (.ref f_BadNumber_init) = some (.type "function"))
    (oga_BadNumber : PySem.W.findIn K (.ref C_BadNumber) "__getattribute__" = some (some (.builtin "BaseException.__getattribute__")))
    (ogg_BadNumber : PySem.W.findIn K (.ref C_BadNumber) "__getattr__" = some none)
    (ohd_BadNumber : PySem.W.hasDictIn K C_BadNumber = true)
    (ois_BadNumber : PySem.W.isClsIn K C_BadNumber = true)
    (oss_BadNumber : PySem.W.subIn K (.ref C_BadNumber) (.ref C_BadNumber) = some true)
    (oxa_BadNumber_given : PySem.W.findIn K (.ref C_BadNumber) "given" = some none)
    (oso_BadNumber_ByZero : PySem.W.subIn K (.ref C_BadNumber) (.ref C_ByZero) = some false)
    (oso_BadNumber_BadText : PySem.W.subIn K (.ref C_BadNumber) (.ref C_BadText) = some false)
    (z_abs : PySem.W.nsIn K mainGlobals "abs" = some none)
    (z_bool : PySem.W.nsIn K mainGlobals "bool" = some none)
    (z_divmod : PySem.W.nsIn K mainGlobals "divmod" = some none)
    (z_int : PySem.W.nsIn K mainGlobals "int" = some none)
    (z_isinstance : PySem.W.nsIn K mainGlobals "isinstance" = some none)
    (z_len : PySem.W.nsIn K mainGlobals "len" = some none)
    (z_max : PySem.W.nsIn K mainGlobals "max" = some none)
    (z_min : PySem.W.nsIn K mainGlobals "min" = some none)
    (z_range : PySem.W.nsIn K mainGlobals "range" = some none)
    (z_repr : PySem.W.nsIn K mainGlobals "repr" = some none)
    (z_str : PySem.W.nsIn K mainGlobals "str" = some none)
    (r_gcd : PySem.W.nsIn K mainGlobals "gcd" = some (some (.builtin "math.gcd")))
    (r_pg : PySem.W.plainGet K C_Ratio Str.empty = true)
    (r_hd : PySem.W.hasDictIn K C_Ratio = true)
    (r_po : PySem.W.plainOver K C_Ratio = true)
    (r_sa : PySem.W.findIn K (.ref C_Ratio) "__setattr__" = some (some (.builtin "object.__setattr__")))
    (r_nT : PySem.W.findIn K (.ref C_Ratio) "top" = some none)
    (r_nB : PySem.W.findIn K (.ref C_Ratio) "bottom" = some none)
    (r_ha : PySem.W.findIn K (.ref C_Ratio) "__class__" = some (some (.builtin "object.__class__")))
    (r_hn : PySem.W.specialIn K (.builtin "object.__class__") "__get__" = some (some (.builtin "getset_descriptor.__get__")))
    (r_htk : PySem.W.takesIn K (.builtin "object.__class__") = some true)
    (r_hm : PySem.W.mroIn K C_Ratio (.type "object") = some true)
    (r_si : PySem.W.subIn K (.ref C_Ratio) (.type "int") = some false)
    (r_own : PySem.W.isClsIn K C_Ratio = true)
    (r_ty : PySem.W.typeIn K (.ref C_Ratio) = some (.type "type"))
    (r_mk : PySem.W.makesIn K C_Ratio = true)
    (r_kp : PySem.W.keepIn K (.ref C_Ratio) = true)
    (r_sf : PySem.W.selfFirst K C_Ratio = true)
    (r_sub : PySem.W.subIn K (.type "int") (.ref C_Ratio) = some false)
    (r_ne : PySem.W.findIn K (.ref C_Ratio) "__ne__" = some (some (.builtin "object.__ne__")))
    (r_ob : PySem.W.subIn K (.ref C_Ratio) (.type "object") = some true)
    (r_nbool : PySem.W.subIn K (.type "bool") (.ref C_Ratio) = some false)
    (r_nNoneType : PySem.W.subIn K (.type "NoneType") (.ref C_Ratio) = some false)
    (r_nstr : PySem.W.subIn K (.type "str") (.ref C_Ratio) = some false)
    (r_nlist : PySem.W.subIn K (.type "list") (.ref C_Ratio) = some false)
    (r_ntuple : PySem.W.subIn K (.type "tuple") (.ref C_Ratio) = some false)
    (r_ndict : PySem.W.subIn K (.type "dict") (.ref C_Ratio) = some false)
    (r_radd : PySem.W.findIn K (.ref C_Ratio) "__radd__" = some none)
    (r_iadd : PySem.W.findIn K (.type "int") "__add__" = some vo_add)
    (r_jadd : PySem.W.findIn K (.type "int") "__radd__" = some vr_add)
    (r_rsub : PySem.W.findIn K (.ref C_Ratio) "__rsub__" = some none)
    (r_isub : PySem.W.findIn K (.type "int") "__sub__" = some vo_sub)
    (r_jsub : PySem.W.findIn K (.type "int") "__rsub__" = some vr_sub)
    (r_rmul : PySem.W.findIn K (.ref C_Ratio) "__rmul__" = some none)
    (r_imul : PySem.W.findIn K (.type "int") "__mul__" = some vo_mul)
    (r_jmul : PySem.W.findIn K (.type "int") "__rmul__" = some vr_mul)
    : ∃ fd : FuncData, (∀ (s : Shared) (v : Value), BindsTo s fd ⟨[v], []⟩ [("_law_script", v)]) ∧ ∀ base : Heap, K.In base → base.Ns mainGlobals mg → FnOk l.prog w K mg base CX0 8 fa fd ["_law_script"] (spLaw K) := by
  have e := hfa.symm.trans (PySem.W.mg_of X G a_law)
  cases e
  have T : Tx K mg { C_MeansError := C_MeansError, C_ByZero := C_ByZero, C_BadText := C_BadText, C_BadNumber := C_BadNumber, C_Ratio := C_Ratio, f_BadNumber_init := f_BadNumber_init, d_BadNumber_init := (PySem.W.fnOf "__init__" "BadNumber.__init__" (defArgs s_BadNumber_init) (defBody s_BadNumber_init) (defScope s_BadNumber_init) .none kV_BadNumber_init dc_BadNumber_init pm_BadNumber_init an_BadNumber_init cd_BadNumber_init ct_BadNumber_init), f_Ratio_init := f_Ratio_init, d_Ratio_init := (PySem.W.fnOf "__init__" "Ratio.__init__" (defArgs s_Ratio_init) (defBody s_Ratio_init) (defScope s_Ratio_init) (.ref T_Ratio_init) kV_Ratio_init dc_Ratio_init pm_Ratio_init an_Ratio_init cd_Ratio_init ct_Ratio_init), f_Ratio_add := f_Ratio_add, d_Ratio_add := (PySem.W.fnOf "__add__" "Ratio.__add__" (defArgs s_Ratio_add) (defBody s_Ratio_add) (defScope s_Ratio_add) .none kV_Ratio_add dc_Ratio_add pm_Ratio_add an_Ratio_add cd_Ratio_add ct_Ratio_add), f_Ratio_sub := f_Ratio_sub, d_Ratio_sub := (PySem.W.fnOf "__sub__" "Ratio.__sub__" (defArgs s_Ratio_sub) (defBody s_Ratio_sub) (defScope s_Ratio_sub) .none kV_Ratio_sub dc_Ratio_sub pm_Ratio_sub an_Ratio_sub cd_Ratio_sub ct_Ratio_sub), f_Ratio_mul := f_Ratio_mul, d_Ratio_mul := (PySem.W.fnOf "__mul__" "Ratio.__mul__" (defArgs s_Ratio_mul) (defBody s_Ratio_mul) (defScope s_Ratio_mul) .none kV_Ratio_mul dc_Ratio_mul pm_Ratio_mul an_Ratio_mul cd_Ratio_mul ct_Ratio_mul), f_Ratio_neg := f_Ratio_neg, d_Ratio_neg := (PySem.W.fnOf "__neg__" "Ratio.__neg__" (defArgs s_Ratio_neg) (defBody s_Ratio_neg) (defScope s_Ratio_neg) .none kV_Ratio_neg dc_Ratio_neg pm_Ratio_neg an_Ratio_neg cd_Ratio_neg ct_Ratio_neg), f_Ratio_eq := f_Ratio_eq, d_Ratio_eq := (PySem.W.fnOf "__eq__" "Ratio.__eq__" (defArgs s_Ratio_eq) (defBody s_Ratio_eq) (defScope s_Ratio_eq) .none kV_Ratio_eq dc_Ratio_eq pm_Ratio_eq an_Ratio_eq cd_Ratio_eq ct_Ratio_eq), f_Ratio_lt := f_Ratio_lt, d_Ratio_lt := (PySem.W.fnOf "__lt__" "Ratio.__lt__" (defArgs s_Ratio_lt) (defBody s_Ratio_lt) (defScope s_Ratio_lt) .none kV_Ratio_lt dc_Ratio_lt pm_Ratio_lt an_Ratio_lt cd_Ratio_lt ct_Ratio_lt), f_Ratio_le := f_Ratio_le, d_Ratio_le := (PySem.W.fnOf "__le__" "Ratio.__le__" (defArgs s_Ratio_le) (defBody s_Ratio_le) (defScope s_Ratio_le) .none kV_Ratio_le dc_Ratio_le pm_Ratio_le an_Ratio_le cd_Ratio_le ct_Ratio_le), f_Ratio_over := f_Ratio_over, d_Ratio_over := (PySem.W.fnOf "over" "Ratio.over" (defArgs s_Ratio_over) (defBody s_Ratio_over) (defScope s_Ratio_over) .none kV_Ratio_over dc_Ratio_over pm_Ratio_over an_Ratio_over cd_Ratio_over ct_Ratio_over), f_Ratio_text := f_Ratio_text, d_Ratio_text := (PySem.W.fnOf "text" "Ratio.text" (defArgs s_Ratio_text) (defBody s_Ratio_text) (defScope s_Ratio_text) .none kV_Ratio_text dc_Ratio_text pm_Ratio_text an_Ratio_text cd_Ratio_text ct_Ratio_text), f_is_whole := f_is_whole, d_is_whole := (PySem.W.fnOf "is_whole" "is_whole" (defArgs s_is_whole) (defBody s_is_whole) (defScope s_is_whole) .none kV_is_whole dc_is_whole pm_is_whole an_is_whole cd_is_whole ct_is_whole), f_is_number := f_is_number, d_is_number := (PySem.W.fnOf "is_number" "is_number" (defArgs s_is_number) (defBody s_is_number) (defScope s_is_number) .none kV_is_number dc_is_number pm_is_number an_is_number cd_is_number ct_is_number), f_as_ratio := f_as_ratio, d_as_ratio := (PySem.W.fnOf "as_ratio" "as_ratio" (defArgs s_as_ratio) (defBody s_as_ratio) (defScope s_as_ratio) .none kV_as_ratio dc_as_ratio pm_as_ratio an_as_ratio cd_as_ratio ct_as_ratio), f_total := f_total, d_total := (PySem.W.fnOf "total" "total" (defArgs s_total) (defBody s_total) (defScope s_total) .none kV_total dc_total pm_total an_total cd_total ct_total), f_read_ratio := f_read_ratio, d_read_ratio := (PySem.W.fnOf "read_ratio" "read_ratio" (defArgs s_read_ratio) (defBody s_read_ratio) (defScope s_read_ratio) .none kV_read_ratio dc_read_ratio pm_read_ratio an_read_ratio cd_read_ratio ct_read_ratio), f_has_digits_only := f_has_digits_only, d_has_digits_only := (PySem.W.fnOf "has_digits_only" "has_digits_only" (defArgs s_has_digits_only) (defBody s_has_digits_only) (defScope s_has_digits_only) .none kV_has_digits_only dc_has_digits_only pm_has_digits_only an_has_digits_only cd_has_digits_only ct_has_digits_only), f_numeral := f_numeral, d_numeral := (PySem.W.fnOf "numeral" "numeral" (defArgs s_numeral) (defBody s_numeral) (defScope s_numeral) .none kV_numeral dc_numeral pm_numeral an_numeral cd_numeral ct_numeral), f_from_numeral := f_from_numeral, d_from_numeral := (PySem.W.fnOf "from_numeral" "from_numeral" (defArgs s_from_numeral) (defBody s_from_numeral) (defScope s_from_numeral) .none kV_from_numeral dc_from_numeral pm_from_numeral an_from_numeral cd_from_numeral ct_from_numeral), f_Ltape := f_Ltape, d_Ltape := (PySem.W.fnOf "_law_tape" "_law_tape" (defArgs s_Ltape) (defBody s_Ltape) (defScope s_Ltape) .none kV_Ltape dc_Ltape pm_Ltape an_Ltape cd_Ltape ct_Ltape), f_Lpick := f_Lpick, d_Lpick := (PySem.W.fnOf "_law_pick" "_law_pick" (defArgs s_Lpick) (defBody s_Lpick) (defScope s_Lpick) .none kV_Lpick dc_Lpick pm_Lpick an_Lpick cd_Lpick ct_Lpick), f_Lpair := f_Lpair, d_Lpair := (PySem.W.fnOf "_law_pair" "_law_pair" (defArgs s_Lpair) (defBody s_Lpair) (defScope s_Lpair) .none kV_Lpair dc_Lpair pm_Lpair an_Lpair cd_Lpair ct_Lpair), f_Ldivisor := f_Ldivisor, d_Ldivisor := (PySem.W.fnOf "_law_divisor" "_law_divisor" (defArgs s_Ldivisor) (defBody s_Ldivisor) (defScope s_Ldivisor) .none kV_Ldivisor dc_Ldivisor pm_Ldivisor an_Ldivisor cd_Ldivisor ct_Ldivisor), f_Lis := f_Lis, d_Lis := (PySem.W.fnOf "_law_is" "_law_is" (defArgs s_Lis) (defBody s_Lis) (defScope s_Lis) .none kV_Lis dc_Lis pm_Lis an_Lis cd_Lis ct_Lis), f_Lpair_right := f_Lpair_right, d_Lpair_right := (PySem.W.fnOf "_law_pair_right" "_law_pair_right" (defArgs s_Lpair_right) (defBody s_Lpair_right) (defScope s_Lpair_right) .none kV_Lpair_right dc_Lpair_right pm_Lpair_right an_Lpair_right cd_Lpair_right ct_Lpair_right), f_Lrefused := f_Lrefused, d_Lrefused := (PySem.W.fnOf "_law_refused" "_law_refused" (defArgs s_Lrefused) (defBody s_Lrefused) (defScope s_Lrefused) .none kV_Lrefused dc_Lrefused pm_Lrefused an_Lrefused cd_Lrefused ct_Lrefused), f_Lnumber := f_Lnumber, d_Lnumber := (PySem.W.fnOf "_law_number" "_law_number" (defArgs s_Lnumber) (defBody s_Lnumber) (defScope s_Lnumber) .none kV_Lnumber dc_Lnumber pm_Lnumber an_Lnumber cd_Lnumber ct_Lnumber), f_Ltold := f_Ltold, d_Ltold := (PySem.W.fnOf "_law_told" "_law_told" (defArgs s_Ltold) (defBody s_Ltold) (defScope s_Ltold) .none kV_Ltold dc_Ltold pm_Ltold an_Ltold cd_Ltold ct_Ltold), f_Ltexts_right := f_Ltexts_right, d_Ltexts_right := (PySem.W.fnOf "_law_texts_right" "_law_texts_right" (defArgs s_Ltexts_right) (defBody s_Ltexts_right) (defScope s_Ltexts_right) .none kV_Ltexts_right dc_Ltexts_right pm_Ltexts_right an_Ltexts_right cd_Ltexts_right ct_Ltexts_right), f_law := fa, d_law := (PySem.W.fnOf "law" "law" (defArgs s_law) (defBody s_law) (defScope s_law) .none kV_law dc_law pm_law an_law cd_law ct_law) } := {
    g_MeansError := PySem.W.mg_of X G aC_MeansError,
    g_ByZero := PySem.W.mg_of X G aC_ByZero,
    g_BadText := PySem.W.mg_of X G aC_BadText,
    g_BadNumber := PySem.W.mg_of X G aC_BadNumber,
    g_Ratio := PySem.W.mg_of X G aC_Ratio,
    F_BadNumber_init := ⟨⟨_, _, _, _, _, _, _, _, _, _, rfl, l_BadNumber_init, c_BadNumber_init, .inl ⟨rfl, rfl⟩, .inl rfl⟩, k_BadNumber_init⟩,
    F_Ratio_init := ⟨⟨_, _, _, _, _, _, _, _, _, _, rfl, l_Ratio_init, c_Ratio_init, .inr ⟨by simp, T_Ratio_init, _, _, _, rfl, lT_Ratio_init, rfl, (.cons ⟨_, rfl⟩ .nil)⟩, .inl rfl⟩, k_Ratio_init⟩,
    m_Ratio_init := ⟨a_Ratio_init, i_Ratio_init, k_Ratio_init⟩,
    F_Ratio_add := ⟨⟨_, _, _, _, _, _, _, _, _, _, rfl, l_Ratio_add, c_Ratio_add, .inl ⟨rfl, rfl⟩, .inl rfl⟩, k_Ratio_add⟩,
    m_Ratio_add := ⟨a_Ratio_add, i_Ratio_add, k_Ratio_add⟩,
    F_Ratio_sub := ⟨⟨_, _, _, _, _, _, _, _, _, _, rfl, l_Ratio_sub, c_Ratio_sub, .inl ⟨rfl, rfl⟩, .inl rfl⟩, k_Ratio_sub⟩,
    m_Ratio_sub := ⟨a_Ratio_sub, i_Ratio_sub, k_Ratio_sub⟩,
    F_Ratio_mul := ⟨⟨_, _, _, _, _, _, _, _, _, _, rfl, l_Ratio_mul, c_Ratio_mul, .inl ⟨rfl, rfl⟩, .inl rfl⟩, k_Ratio_mul⟩,
    m_Ratio_mul := ⟨a_Ratio_mul, i_Ratio_mul, k_Ratio_mul⟩,
    F_Ratio_neg := ⟨⟨_, _, _, _, _, _, _, _, _, _, rfl, l_Ratio_neg, c_Ratio_neg, .inl ⟨rfl, rfl⟩, .inl rfl⟩, k_Ratio_neg⟩,
    m_Ratio_neg := ⟨a_Ratio_neg, i_Ratio_neg, k_Ratio_neg⟩,
    F_Ratio_eq := ⟨⟨_, _, _, _, _, _, _, _, _, _, rfl, l_Ratio_eq, c_Ratio_eq, .inl ⟨rfl, rfl⟩, .inl rfl⟩, k_Ratio_eq⟩,
    m_Ratio_eq := ⟨a_Ratio_eq, i_Ratio_eq, k_Ratio_eq⟩,
    F_Ratio_lt := ⟨⟨_, _, _, _, _, _, _, _, _, _, rfl, l_Ratio_lt, c_Ratio_lt, .inl ⟨rfl, rfl⟩, .inl rfl⟩, k_Ratio_lt⟩,
    m_Ratio_lt := ⟨a_Ratio_lt, i_Ratio_lt, k_Ratio_lt⟩,
    F_Ratio_le := ⟨⟨_, _, _, _, _, _, _, _, _, _, rfl, l_Ratio_le, c_Ratio_le, .inl ⟨rfl, rfl⟩, .inl rfl⟩, k_Ratio_le⟩,
    m_Ratio_le := ⟨a_Ratio_le, i_Ratio_le, k_Ratio_le⟩,
    F_Ratio_over := ⟨⟨_, _, _, _, _, _, _, _, _, _, rfl, l_Ratio_over, c_Ratio_over, .inl ⟨rfl, rfl⟩, .inl rfl⟩, k_Ratio_over⟩,
    m_Ratio_over := ⟨a_Ratio_over, i_Ratio_over, k_Ratio_over⟩,
    F_Ratio_text := ⟨⟨_, _, _, _, _, _, _, _, _, _, rfl, l_Ratio_text, c_Ratio_text, .inl ⟨rfl, rfl⟩, .inl rfl⟩, k_Ratio_text⟩,
    m_Ratio_text := ⟨a_Ratio_text, i_Ratio_text, k_Ratio_text⟩,
    g_is_whole := PySem.W.mg_of X G a_is_whole,
    F_is_whole := ⟨⟨_, _, _, _, _, _, _, _, _, _, rfl, l_is_whole, c_is_whole, .inl ⟨rfl, rfl⟩, .inl rfl⟩, k_is_whole⟩,
    g_is_number := PySem.W.mg_of X G a_is_number,
    F_is_number := ⟨⟨_, _, _, _, _, _, _, _, _, _, rfl, l_is_number, c_is_number, .inl ⟨rfl, rfl⟩, .inl rfl⟩, k_is_number⟩,
    g_as_ratio := PySem.W.mg_of X G a_as_ratio,
    F_as_ratio := ⟨⟨_, _, _, _, _, _, _, _, _, _, rfl, l_as_ratio, c_as_ratio, .inl ⟨rfl, rfl⟩, .inl rfl⟩, k_as_ratio⟩,
    g_total := PySem.W.mg_of X G a_total,
    F_total := ⟨⟨_, _, _, _, _, _, _, _, _, _, rfl, l_total, c_total, .inl ⟨rfl, rfl⟩, .inl rfl⟩, k_total⟩,
    g_read_ratio := PySem.W.mg_of X G a_read_ratio,
    F_read_ratio := ⟨⟨_, _, _, _, _, _, _, _, _, _, rfl, l_read_ratio, c_read_ratio, .inl ⟨rfl, rfl⟩, .inl rfl⟩, k_read_ratio⟩,
    g_has_digits_only := PySem.W.mg_of X G a_has_digits_only,
    F_has_digits_only := ⟨⟨_, _, _, _, _, _, _, _, _, _, rfl, l_has_digits_only, c_has_digits_only, .inl ⟨rfl, rfl⟩, .inl rfl⟩, k_has_digits_only⟩,
    g_numeral := PySem.W.mg_of X G a_numeral,
    F_numeral := ⟨⟨_, _, _, _, _, _, _, _, _, _, rfl, l_numeral, c_numeral, .inl ⟨rfl, rfl⟩, .inl rfl⟩, k_numeral⟩,
    g_from_numeral := PySem.W.mg_of X G a_from_numeral,
    F_from_numeral := ⟨⟨_, _, _, _, _, _, _, _, _, _, rfl, l_from_numeral, c_from_numeral, .inl ⟨rfl, rfl⟩, .inl rfl⟩, k_from_numeral⟩,
    g_Ltape := PySem.W.mg_of X G a_Ltape,
    F_Ltape := ⟨⟨_, _, _, _, _, _, _, _, _, _, rfl, l_Ltape, c_Ltape, .inl ⟨rfl, rfl⟩, .inl rfl⟩, k_Ltape⟩,
    g_Lpick := PySem.W.mg_of X G a_Lpick,
    F_Lpick := ⟨⟨_, _, _, _, _, _, _, _, _, _, rfl, l_Lpick, c_Lpick, .inl ⟨rfl, rfl⟩, .inl rfl⟩, k_Lpick⟩,
    g_Lpair := PySem.W.mg_of X G a_Lpair,
    F_Lpair := ⟨⟨_, _, _, _, _, _, _, _, _, _, rfl, l_Lpair, c_Lpair, .inl ⟨rfl, rfl⟩, .inl rfl⟩, k_Lpair⟩,
    g_Ldivisor := PySem.W.mg_of X G a_Ldivisor,
    F_Ldivisor := ⟨⟨_, _, _, _, _, _, _, _, _, _, rfl, l_Ldivisor, c_Ldivisor, .inl ⟨rfl, rfl⟩, .inl rfl⟩, k_Ldivisor⟩,
    g_Lis := PySem.W.mg_of X G a_Lis,
    F_Lis := ⟨⟨_, _, _, _, _, _, _, _, _, _, rfl, l_Lis, c_Lis, .inl ⟨rfl, rfl⟩, .inl rfl⟩, k_Lis⟩,
    g_Lpair_right := PySem.W.mg_of X G a_Lpair_right,
    F_Lpair_right := ⟨⟨_, _, _, _, _, _, _, _, _, _, rfl, l_Lpair_right, c_Lpair_right, .inl ⟨rfl, rfl⟩, .inl rfl⟩, k_Lpair_right⟩,
    g_Lrefused := PySem.W.mg_of X G a_Lrefused,
    F_Lrefused := ⟨⟨_, _, _, _, _, _, _, _, _, _, rfl, l_Lrefused, c_Lrefused, .inl ⟨rfl, rfl⟩, .inl rfl⟩, k_Lrefused⟩,
    g_Lnumber := PySem.W.mg_of X G a_Lnumber,
    F_Lnumber := ⟨⟨_, _, _, _, _, _, _, _, _, _, rfl, l_Lnumber, c_Lnumber, .inl ⟨rfl, rfl⟩, .inl rfl⟩, k_Lnumber⟩,
    g_Ltold := PySem.W.mg_of X G a_Ltold,
    F_Ltold := ⟨⟨_, _, _, _, _, _, _, _, _, _, rfl, l_Ltold, c_Ltold, .inl ⟨rfl, rfl⟩, .inl rfl⟩, k_Ltold⟩,
    g_Ltexts_right := PySem.W.mg_of X G a_Ltexts_right,
    F_Ltexts_right := ⟨⟨_, _, _, _, _, _, _, _, _, _, rfl, l_Ltexts_right, c_Ltexts_right, .inl ⟨rfl, rfl⟩, .inl rfl⟩, k_Ltexts_right⟩,
    g_law := PySem.W.mg_of X G a_law,
    F_law := ⟨⟨_, _, _, _, _, _, _, _, _, _, rfl, l_law, c_law, .inl ⟨rfl, rfl⟩, .inl rfl⟩, k_law⟩,
    x_ByZero := ⟨xex_ByZero, xkp_ByZero, xbx_ByZero, xty_ByZero, xcls_ByZero, xsub_ByZero⟩,
    x_BadText := ⟨xex_BadText, xkp_BadText, xbx_BadText, xty_BadText, xcls_BadText, xsub_BadText⟩,
    oc_BadNumber := ⟨⟨_, _, _, _, _, _, _, _, _, _, _, _, _, _, _, olk_BadNumber, orv_BadNumber⟩, osa_BadNumber, oex_BadNumber, oty_BadNumber, okp_BadNumber⟩,
    ti_BadNumber := oti_BadNumber,
    fi_BadNumber := a_BadNumber_init,
    xf_BadNumber := ⟨oga_BadNumber, ogg_BadNumber, oex_BadNumber, ohd_BadNumber⟩,
    xs_BadNumber := exm_sub oex_BadNumber ois_BadNumber oty_BadNumber oss_BadNumber,
    xa_BadNumber_given := oxa_BadNumber_given,
    xo_BadNumber_ByZero := exm_sub xbx_ByZero xcls_ByZero xty_ByZero oso_BadNumber_ByZero,
    xo_BadNumber_BadText := exm_sub xbx_BadText xcls_BadText xty_BadText oso_BadNumber_BadText,
    b_abs := PySem.W.mg_none_of X G z_abs,
    b_bool := PySem.W.mg_none_of X G z_bool,
    b_divmod := PySem.W.mg_none_of X G z_divmod,
    b_int := PySem.W.mg_none_of X G z_int,
    b_isinstance := PySem.W.mg_none_of X G z_isinstance,
    b_len := PySem.W.mg_none_of X G z_len,
    b_max := PySem.W.mg_none_of X G z_max,
    b_min := PySem.W.mg_none_of X G z_min,
    b_range := PySem.W.mg_none_of X G z_range,
    b_repr := PySem.W.mg_none_of X G z_repr,
    b_str := PySem.W.mg_none_of X G z_str,
    g_gcd := PySem.W.mg_of X G r_gcd,
    R := ⟨⟨r_pg, r_hd, r_po, r_sa⟩, r_nT, r_nB, r_ha, r_hn, r_htk, r_hm, r_si, r_own, r_ty, List.forall_mem_cons.mpr ⟨r_sub, List.forall_mem_cons.mpr ⟨r_nbool, List.forall_mem_cons.mpr ⟨r_nNoneType, List.forall_mem_cons.mpr ⟨r_nstr, List.forall_mem_cons.mpr ⟨r_nlist, List.forall_mem_cons.mpr ⟨r_ntuple, List.forall_mem_cons.mpr ⟨r_ndict, List.forall_mem_nil _⟩⟩⟩⟩⟩⟩⟩⟩,
    mk_Ratio := ⟨r_mk, a_Ratio_init, i_Ratio_init, r_kp⟩,
    o_add := ⟨r_sf, a_Ratio_add, i_Ratio_add, r_radd, ⟨_, r_iadd⟩, ⟨_, r_jadd⟩, r_sub⟩,
    o_sub := ⟨r_sf, a_Ratio_sub, i_Ratio_sub, r_rsub, ⟨_, r_isub⟩, ⟨_, r_jsub⟩, r_sub⟩,
    o_mul := ⟨r_sf, a_Ratio_mul, i_Ratio_mul, r_rmul, ⟨_, r_imul⟩, ⟨_, r_jmul⟩, r_sub⟩,
    p_lt := ⟨a_Ratio_lt, i_Ratio_lt⟩,
    p_le := ⟨a_Ratio_le, i_Ratio_le⟩,
    p_eq := ⟨a_Ratio_eq, i_Ratio_eq⟩,
    p_ne := ⟨r_ne, a_Ratio_eq, i_Ratio_eq, r_ob⟩ }
  exact ⟨_, fun s v => .of_eq rfl, fun base _ _ => ok_law T⟩
theorem walk {l : PySem.W.OpenLaw} {q : Program} {loose : List Str} {XP : (Str → Option Value) → Heap → Prop} {YP : World → Heap → Prop} {d : DefRec} {KF : Params → PySem.W.Frag} (hn : l.most = some 63) (hdf : d.params.defaults = []) (hY : ∀ (w : World) (h : Heap), YP w h → (KF w.params).In h)
    (F : ∀ (w : World) (mg : Str → Option Value) (fa : Addr) (h : Heap), (KF w.params).In h → h.Ns mainGlobals mg → mg d.name = some (.ref fa) → ∃ fd : FuncData, (∀ (s : Shared) (u : Value), BindsTo s fd ⟨[u], []⟩ [("_law_script", u)]) ∧ ∀ base : Heap, (KF w.params).In base → base.Ns mainGlobals mg → FnOk l.prog w (KF w.params) mg base CX0 8 fa fd ["_law_script"] (spLaw (KF w.params))) :
    PySem.W.WalkO q loose XP YP l.row.toRowW d [] (fun f vs => PySem.call f vs) :=
  L2.walk_of (n := 63) (k := 8) (x := "_law_script") (CX := fun _ => CX0) (sp := fun w => spLaw (KF w.params)) hn (by decide) hdf ⟨rfl, by decide, by decide⟩ hY F (fun _ _ a ns hl _ hS => ⟨a, ns, rfl, hS, by omega, fun _ _ => rfl⟩) fun _ _ _ _ _ z => z
end Kx
open PySem PySem.W PyProof.Rows
set_option maxRecDepth 100000 in
set_option maxHeartbeats 0 in
theorem PySem.Challenge.cw_firstmeans_k02_ratios_holds : PySem.Challenge.rw_firstmeans_k02_ratios.Holds := by
  w_on; o_law; k_head; (case hw => w_witness2)
  k_fill
  refine Kx.walk (l := PySem.Challenge.rw_firstmeans_k02_ratios) rfl rfl (fun w h Y => PySem.W.kIn_of Y) ?F
  case F =>
    intro w mg fa h KX G hmg
    refine' Kx.all_mk KX G hmg ?aC_MeansError ?aC_ByZero ?aC_BadText ?aC_BadNumber ?aC_Ratio ?a_BadNumber_init ?i_BadNumber_init ?l_BadNumber_init ?c_BadNumber_init ?k_BadNumber_init ?a_Ratio_init ?i_Ratio_init ?l_Ratio_init ?lT_Ratio_init ?c_Ratio_init ?k_Ratio_init ?a_Ratio_add ?i_Ratio_add ?l_Ratio_add ?c_Ratio_add ?k_Ratio_add ?a_Ratio_sub ?i_Ratio_sub ?l_Ratio_sub ?c_Ratio_sub ?k_Ratio_sub ?a_Ratio_mul ?i_Ratio_mul ?l_Ratio_mul ?c_Ratio_mul ?k_Ratio_mul ?a_Ratio_neg ?i_Ratio_neg ?l_Ratio_neg ?c_Ratio_neg ?k_Ratio_neg ?a_Ratio_eq ?i_Ratio_eq ?l_Ratio_eq ?c_Ratio_eq ?k_Ratio_eq ?a_Ratio_lt ?i_Ratio_lt ?l_Ratio_lt ?c_Ratio_lt ?k_Ratio_lt ?a_Ratio_le ?i_Ratio_le ?l_Ratio_le ?c_Ratio_le ?k_Ratio_le ?a_Ratio_over ?i_Ratio_over ?l_Ratio_over ?c_Ratio_over ?k_Ratio_over ?a_Ratio_text ?i_Ratio_text ?l_Ratio_text ?c_Ratio_text ?k_Ratio_text ?a_is_whole ?l_is_whole ?c_is_whole ?k_is_whole ?a_is_number ?l_is_number ?c_is_number ?k_is_number ?a_as_ratio ?l_as_ratio ?c_as_ratio ?k_as_ratio ?a_total ?l_total ?c_total ?k_total ?a_read_ratio ?l_read_ratio ?c_read_ratio ?k_read_ratio ?a_has_digits_only ?l_has_digits_only ?c_has_digits_only ?k_has_digits_only ?a_numeral ?l_numeral ?c_numeral ?k_numeral ?a_from_numeral ?l_from_numeral ?c_from_numeral ?k_from_numeral ?a_Ltape ?l_Ltape ?c_Ltape ?k_Ltape ?a_Lpick ?l_Lpick ?c_Lpick ?k_Lpick ?a_Lpair ?l_Lpair ?c_Lpair ?k_Lpair ?a_Ldivisor ?l_Ldivisor ?c_Ldivisor ?k_Ldivisor ?a_Lis ?l_Lis ?c_Lis ?k_Lis ?a_Lpair_right ?l_Lpair_right ?c_Lpair_right ?k_Lpair_right ?a_Lrefused ?l_Lrefused ?c_Lrefused ?k_Lrefused ?a_Lnumber ?l_Lnumber ?c_Lnumber ?k_Lnumber ?a_Ltold ?l_Ltold ?c_Ltold ?k_Ltold ?a_Ltexts_right ?l_Ltexts_right ?c_Ltexts_right ?k_Ltexts_right ?a_law ?l_law ?c_law ?k_law ?xex_ByZero ?xkp_ByZero ?xbx_ByZero ?xty_ByZero ?xcls_ByZero ?xsub_ByZero ?xex_BadText ?xkp_BadText ?xbx_BadText ?xty_BadText ?xcls_BadText ?xsub_BadText ?olk_BadNumber ?orv_BadNumber ?osa_BadNumber ?oex_BadNumber ?oty_BadNumber ?okp_BadNumber ?oti_BadNumber ?oga_BadNumber ?ogg_BadNumber ?ohd_BadNumber ?ois_BadNumber ?oss_BadNumber ?oxa_BadNumber_given ?oso_BadNumber_ByZero ?oso_BadNumber_BadText ?z_abs ?z_bool ?z_divmod ?z_int ?z_isinstance ?z_len ?z_max ?z_min ?z_range ?z_repr ?z_str ?r_gcd ?r_pg ?r_hd ?r_po ?r_sa ?r_nT ?r_nB ?r_ha ?r_hn ?r_htk ?r_hm ?r_si ?r_own ?r_ty ?r_mk ?r_kp ?r_sf ?r_sub ?r_ne ?r_ob ?r_nbool ?r_nNoneType ?r_nstr ?r_nlist ?r_ntuple ?r_ndict ?r_radd ?r_iadd ?r_jadd ?r_rsub ?r_isub ?r_jsub ?r_rmul ?r_imul ?r_jmul
    (case aC_MeansError => k_is)
    (case aC_ByZero => k_is)
    (case aC_BadText => k_is)
    (case aC_BadNumber => k_is)
    (case aC_Ratio => k_is)
    (case a_BadNumber_init => k_is)
    (case i_BadNumber_init => k_is)
    (case l_BadNumber_init => k_is)
    (case c_BadNumber_init => k_is)
    (case k_BadNumber_init => k_is)
    (case a_Ratio_init => k_is)
    (case i_Ratio_init => k_is)
    (case l_Ratio_init => k_is)
    (case lT_Ratio_init => k_is)
    (case c_Ratio_init => k_is)
    (case k_Ratio_init => k_is)
    (case a_Ratio_add => k_is)
    (case i_Ratio_add => k_is)
    (case l_Ratio_add => k_is)
    (case c_Ratio_add => k_is)
    (case k_Ratio_add => k_is)
    (case a_Ratio_sub => k_is)
    (case i_Ratio_sub => k_is)
    (case l_Ratio_sub => k_is)
    (case c_Ratio_sub => k_is)
    (case k_Ratio_sub => k_is)
    (case a_Ratio_mul => k_is)
    (case i_Ratio_mul => k_is)
    (case l_Ratio_mul => k_is)
    (case c_Ratio_mul => k_is)
    (case k_Ratio_mul => k_is)
    (case a_Ratio_neg => k_is)
    (case i_Ratio_neg => k_is)
    (case l_Ratio_neg => k_is)
    (case c_Ratio_neg => k_is)
    (case k_Ratio_neg => k_is)
    (case a_Ratio_eq => k_is)
    (case i_Ratio_eq => k_is)
    (case l_Ratio_eq => k_is)
    (case c_Ratio_eq => k_is)
    (case k_Ratio_eq => k_is)
    (case a_Ratio_lt => k_is)
    (case i_Ratio_lt => k_is)
    (case l_Ratio_lt => k_is)
    (case c_Ratio_lt => k_is)
    (case k_Ratio_lt => k_is)
    (case a_Ratio_le => k_is)
    (case i_Ratio_le => k_is)
    (case l_Ratio_le => k_is)
    (case c_Ratio_le => k_is)
    (case k_Ratio_le => k_is)
    (case a_Ratio_over => k_is)
    (case i_Ratio_over => k_is)
    (case l_Ratio_over => k_is)
    (case c_Ratio_over => k_is)
    (case k_Ratio_over => k_is)
    (case a_Ratio_text => k_is)
    (case i_Ratio_text => k_is)
    (case l_Ratio_text => k_is)
    (case c_Ratio_text => k_is)
    (case k_Ratio_text => k_is)
    (case a_is_whole => k_is)
    (case l_is_whole => k_is)
    (case c_is_whole => k_is)
    (case k_is_whole => k_is)
    (case a_is_number => k_is)
    (case l_is_number => k_is)
    (case c_is_number => k_is)
    (case k_is_number => k_is)
    (case a_as_ratio => k_is)
    (case l_as_ratio => k_is)
    (case c_as_ratio => k_is)
    (case k_as_ratio => k_is)
    (case a_total => k_is)
    (case l_total => k_is)
    (case c_total => k_is)
    (case k_total => k_is)
    (case a_read_ratio => k_is)
    (case l_read_ratio => k_is)
    (case c_read_ratio => k_is)
    (case k_read_ratio => k_is)
    (case a_has_digits_only => k_is)
    (case l_has_digits_only => k_is)
    (case c_has_digits_only => k_is)
    (case k_has_digits_only => k_is)
    (case a_numeral => k_is)
    (case l_numeral => k_is)
    (case c_numeral => k_is)
    (case k_numeral => k_is)
    (case a_from_numeral => k_is)
    (case l_from_numeral => k_is)
    (case c_from_numeral => k_is)
    (case k_from_numeral => k_is)
    (case a_Ltape => k_is)
    (case l_Ltape => k_is)
    (case c_Ltape => k_is)
    (case k_Ltape => k_is)
    (case a_Lpick => k_is)
    (case l_Lpick => k_is)
    (case c_Lpick => k_is)
    (case k_Lpick => k_is)
    (case a_Lpair => k_is)
    (case l_Lpair => k_is)
    (case c_Lpair => k_is)
    (case k_Lpair => k_is)
    (case a_Ldivisor => k_is)
    (case l_Ldivisor => k_is)
    (case c_Ldivisor => k_is)
    (case k_Ldivisor => k_is)
    (case a_Lis => k_is)
    (case l_Lis => k_is)
    (case c_Lis => k_is)
    (case k_Lis => k_is)
    (case a_Lpair_right => k_is)
    (case l_Lpair_right => k_is)
    (case c_Lpair_right => k_is)
    (case k_Lpair_right => k_is)
    (case a_Lrefused => k_is)
    (case l_Lrefused => k_is)
    (case c_Lrefused => k_is)
    (case k_Lrefused => k_is)
    (case a_Lnumber => k_is)
    (case l_Lnumber => k_is)
    (case c_Lnumber => k_is)
    (case k_Lnumber => k_is)
    (case a_Ltold => k_is)
    (case l_Ltold => k_is)
    (case c_Ltold => k_is)
    (case k_Ltold => k_is)
    (case a_Ltexts_right => k_is)
    (case l_Ltexts_right => k_is)
    (case c_Ltexts_right => k_is)
    (case k_Ltexts_right => k_is)
    (case a_law => k_is)
    (case l_law => k_is)
    (case c_law => k_is)
    (case k_law => k_is)
    (case xex_ByZero => k_exc)
    (case xkp_ByZero => k_is)
    (case xbx_ByZero => k_is)
    (case xty_ByZero => k_is)
    (case xcls_ByZero => k_is)
    (case xsub_ByZero => first | rfl | k_is)
    (case xex_BadText => k_exc)
    (case xkp_BadText => k_is)
    (case xbx_BadText => k_is)
    (case xty_BadText => k_is)
    (case xcls_BadText => k_is)
    (case xsub_BadText => first | rfl | k_is)
    (case olk_BadNumber => k_is)
    (case orv_BadNumber => first | rfl | decide +kernel)
    (case osa_BadNumber => k_is)
    (case oex_BadNumber => k_is)
    (case oty_BadNumber => k_is)
    (case okp_BadNumber => k_is)
    (case oti_BadNumber => k_is)
    (case oga_BadNumber => k_is)
    (case ogg_BadNumber => k_is)
    (case ohd_BadNumber => k_is)
    (case ois_BadNumber => k_is)
    (case oss_BadNumber => first | rfl | k_is)
    (case oxa_BadNumber_given => k_is)
    (case oso_BadNumber_ByZero => k_is)
    (case oso_BadNumber_BadText => k_is)
    (case z_abs => k_is)
    (case z_bool => k_is)
    (case z_divmod => k_is)
    (case z_int => k_is)
    (case z_isinstance => k_is)
    (case z_len => k_is)
    (case z_max => k_is)
    (case z_min => k_is)
    (case z_range => k_is)
    (case z_repr => k_is)
    (case z_str => k_is)
    (case r_gcd => k_is)
    (case r_pg => k_is)
    (case r_hd => k_is)
    (case r_po => k_is)
    (case r_sa => k_is)
    (case r_nT => k_is)
    (case r_nB => k_is)
    (case r_ha => k_is)
    (case r_hn => k_is)
    (case r_htk => k_is)
    (case r_hm => k_is)
    (case r_si => k_is)
    (case r_own => k_is)
    (case r_ty => k_is)
    (case r_mk => k_is)
    (case r_kp => k_is)
    (case r_sf => k_is)
    (case r_sub => k_is)
    (case r_ne => k_is)
    (case r_ob => k_is)
    (case r_nbool => k_is)
    (case r_nNoneType => k_is)
    (case r_nstr => k_is)
    (case r_nlist => k_is)
    (case r_ntuple => k_is)
    (case r_ndict => k_is)
    (case r_radd => k_is)
    (case r_iadd => k_is)
    (case r_jadd => k_is)
    (case r_rsub => k_is)
    (case r_isub => k_is)
    (case r_jsub => k_is)
    (case r_rmul => k_is)
    (case r_imul => k_is)
    (case r_jmul => k_is)


