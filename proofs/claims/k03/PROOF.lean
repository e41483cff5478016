import PyProof.Rows.All
import Wide.All
import OpenK.AllK
import Wide.FinOn
import KE.KOpsOwn
import HandS.ForMost
import HandS.ForExc
import HandS.IsInst
import HandS.Gcd
import HandS.Wide
import HandS.Defaults
import HandS.MakeKw
import HandS.OwnEq
import HandS.Codes
import HandS.Style
import HandS.StrMore
import HandS.ExcInit
import PyProof.NeKinds
import HandS.MakeKwOnly
import HandS.TryMany
import HandS.Steps
import PyProof.P3Eq
import HandS.ExcField
import PySem.Challenge.RW_firstmeans_k03_scales
import HandS.More
import HandS.RaiseMore
import PyProof.CallFns
import HandS.Conv
import HandS.ExcCtx
import HandS.HotCalls
import HandS.Iter
set_option Elab.async false
set_option linter.all false
set_option maxRecDepth 100000
set_option maxHeartbeats 2000000
namespace Fm
open PySem PySem.Spec PyProof.Rows L2
section
variable {X : Cx} {CX : CXT} {k : Nat} {f C : Addr} {fd : FuncData} {ps : List Str} {sp : Sp} {E : XK}

theorem back_of {pins : List (Addr × Obj)} {σ : L2.St} {Q : VK} {v : Value} {s : Shared} (h : EP X pins σ Q v s) : PySem.W.CmpBack (EP X pins σ Q) v s := by
  cases v with
  | notImplemented =>
    obtain ⟨x, H, _, r, _⟩ := h
    cases x <;> first | exact nomatch r | (obtain ⟨t, e⟩ := r; exact nomatch e)
  | _ => exact h
theorem run_back {pins : List (Addr × Obj)} {σ : L2.St} {H : Hp} {s : Shared} {Q : VK} {us : List Value} {vs : List V} (F : FnOk X.prog X.w X.K X.mg X.base CX k f fd ps sp) (hr : Room k X.A) (hb : Binds X.K fd ps []) (hx : Passes CX X E)
    (I : Inv X pins σ H s) (r : Vals vs us) (h : sp vs H Q E) : wpAny (model X.prog X.w) X.A (call (.ref f) us) (PySem.W.CmpBack (EP X pins σ Q)) X.xe s :=
  thn (run_fn F hr hb .nil hx I r (by rw [List.append_nil]; exact h)) fun _ _ q => back_of q

/-- a value of the type that is known: an int, or another instance of the class at C -/
def NumLike (C : Addr) (y : V) (H : Hp) : Prop := (∃ j, y = .int j) ∨ ∃ b db gs, y = .ref b ∧ H b = some (.ins C db gs)
def rOwn (C : Addr) (sp : Sp) (E : XK) : R2 := fun x y H Q => (∃ a dx fs, x = .ref a ∧ H a = some (.ins C dx fs)) ∧ NumLike C y H ∧ sp [x, y] H Q E
theorem inst_of {pins : List (Addr × Obj)} {σ : L2.St} {H : Hp} {s : Shared} {a dx : Addr} {fs : List (Str × V)} (I : Inv X pins σ H s) (h : H a = some (.ins C dx fs)) : ∃ ox od, PySem.W.InstAt s.heap a ox C od := by
  obtain ⟨mA, J, _⟩ := ins_get I.hok h
  obtain ⟨od, J, _⟩ := J.look
  exact ⟨_, _, J⟩
/-- what the written part says of an own operator: name its dunder, rname the reflected one -/
structure OpFn (K : PySem.W.Frag) (C f : Addr) (op : Operator) : Prop where
  sf : PySem.W.selfFirst K C = true
  hs : PySem.W.findIn K (.ref C) (PySem.dunder op.info.2) = some (some (.ref f))
  fn : PySem.W.isFn K (.ref f) = true
  hr : PySem.W.findIn K (.ref C) (dunderR op.info.2) = some none
  h1 : ∃ fo, PySem.W.findIn K (.type "int") (PySem.dunder op.info.2) = some fo
  h2 : ∃ ro, PySem.W.findIn K (.type "int") (dunderR op.info.2) = some ro
  sub : PySem.W.subIn K (.type "int") (.ref C) = some false
theorem op_own {op : Operator} (T : OpFn X.K C f op) (F : FnOk X.prog X.w X.K X.mg X.base CX k f fd ps sp) (hr : Room k X.A) (hb : Binds X.K fd ps []) (hx : Passes CX X E) : OpR X (binaryOp op) (rOwn C sp E) := by
  intro pins s σ H x y v u Q I rx ry h
  obtain ⟨⟨a, dx, fs, rfl, ha⟩, hy, q⟩ := h
  cases rx
  obtain ⟨ox, od, J⟩ := inst_of I ha
  obtain ⟨m, hF⟩ := I.fr
  rcases hy with ⟨j, rfl⟩ | ⟨b, db, gs, rfl, hb'⟩
  · obtain ⟨t, rfl⟩ := ry
    obtain ⟨fo, e1⟩ := T.h1
    obtain ⟨ro, e2⟩ := T.h2
    exact PySem.W.ksp_binT (T := "int") hF I.ok.mod.kin J rfl T.sf T.hs T.fn T.hr (.inl rfl) e1 e2 T.sub (run_back (vs := [.ref a, .int j]) F hr hb hx I (.cons rfl (.cons ⟨t, rfl⟩ .nil)) q)
  · cases ry
    obtain ⟨oy, oyd, J'⟩ := inst_of I hb'
    exact PySem.W.binop_K hF I.ok.mod.kin J J'.type T.sf T.hs T.fn (run_back (vs := [.ref a, .ref b]) F hr hb hx I (.cons rfl (.cons rfl .nil)) q)
/-- -x -/
def rOwnU (C : Addr) (sp : Sp) (E : XK) : V → Hp → VK → Prop := fun x H Q => (∃ a dx fs, x = .ref a ∧ H a = some (.ins C dx fs)) ∧ sp [x] H Q E
theorem un_own (hs : PySem.W.findIn X.K (.ref C) "__neg__" = some (some (.ref f))) (hf : PySem.W.isFn X.K (.ref f) = true) (F : FnOk X.prog X.w X.K X.mg X.base CX k f fd ps sp) (hr : Room k X.A) (hb : Binds X.K fd ps []) (hx : Passes CX X E) :
    UnR X (unaryOp .USub) (rOwnU C sp E) := by
  intro pins s σ H x v Q I rx h
  obtain ⟨⟨a, dx, fs, rfl, ha⟩, q⟩ := h
  cases rx
  obtain ⟨ox, od, J⟩ := inst_of I ha
  obtain ⟨m, hF⟩ := I.fr
  exact PySem.W.ksp_neg hF I.ok.mod.kin J hs hf (run_fn (us := [.ref a]) (vs := [.ref a]) (dvs := []) (ds := []) F hr hb .nil hx I (.cons rfl .nil) q)
/-- comparisons: the left one an own instance, the right one of a known type -/
structure CmpFn (K : PySem.W.Frag) (C f : Addr) (op : CmpOp) : Prop where
  hs : PySem.W.findIn K (.ref C) (cmpInfo op).2.1 = some (some (.ref f))
  fn : PySem.W.isFn K (.ref f) = true
def rCmpOwn (K : PySem.W.Frag) (C : Addr) (sp : Sp) (E : XK) : R2 := fun x y H Q => (∃ a dx fs, x = .ref a ∧ H a = some (.ins C dx fs)) ∧ (∃ t, TyX K H y t ∧ PySem.W.notFirst K C t = true) ∧ sp [x, y] H Q E
theorem rel_kit {pins : List (Addr × Obj)} {σ : L2.St} {H : Hp} {s : Shared} {y : V} {u t : Value} (I : Inv X pins σ H s) (ry : RelV y u) (ty : TyX X.K H y t) : PySem.W.Looks (model X.prog X.w) s.heap (typeOf u) t := by
  obtain ⟨P, Z, p, _⟩ := kit_of I ry ty
  exact Z.ty _ _ I.kIn p
theorem op_cmp {op : CmpOp} (hop : ∀ v u : Value, compareOp op v u = richCompare op v u) (T : CmpFn X.K C f op) (F : FnOk X.prog X.w X.K X.mg X.base CX k f fd ps sp) (hr : Room k X.A) (hb : Binds X.K fd ps []) (hx : Passes CX X E) :
    OpR X (compareOp op) (rCmpOwn X.K C sp E) := by
  intro pins s σ H x y v u Q I rx ry h
  obtain ⟨⟨a, dx, fs, rfl, ha⟩, ⟨t, ty, hn⟩, q⟩ := h
  cases rx
  obtain ⟨ox, od, J⟩ := inst_of I ha
  obtain ⟨m, hF⟩ := I.fr
  rw [hop]
  exact PySem.W.cmp_K hr.units0 hF I.ok.mod.kin J (rel_kit I ry ty) hn T.hs T.fn (run_back (vs := [.ref a, y]) F hr hb hx I (.cons rfl (.cons ry .nil)) q)
/-- object.__ne__ over an own __eq__ -/
structure NeFn (K : PySem.W.Frag) (C f : Addr) : Prop where
  hn : PySem.W.findIn K (.ref C) "__ne__" = some (some (.builtin "object.__ne__"))
  hs : PySem.W.findIn K (.ref C) "__eq__" = some (some (.ref f))
  fn : PySem.W.isFn K (.ref f) = true
  ob : PySem.W.subIn K (.ref C) (.type "object") = some true
theorem ne_bind (self : Value) : bindSpecial (.builtin "object.__ne__") self = pure (.builtin "object.__ne__", [self]) := F.cmp_object.ne.bind self
theorem ne_entry {M : Model} {A : Around} {E : Value → Shared → Prop} {s : Shared} {K : PySem.W.Frag} {x C f : Addr} {ox : Obj} {od : Option Obj} {b : Value} (X : K.In s.heap) (I : PySem.W.InstAt s.heap x ox C od)
    (hs : PySem.W.findIn K (.ref C) "__eq__" = some (some (.ref f))) (hf : PySem.W.isFn K (.ref f) = true) (hu : A.units < cLine) {Q : Fin → Shared → Prop}
    (hcall : wpAny M A (call (.ref f) [.ref x, b]) (fun v s' => ∃ c, v = .bool c ∧ Q (.done (.ret (.bool (!c)))) s') E s) :
    wpAny M A (Builtin.«object.__ne__» ⟨[.ref x, b], []⟩) Q E s := by
  obtain ⟨h, g, d, t, os⟩ := s
  unfold Builtin.«object.__ne__»
  repeat (first
    | with_reducible refine wpAny_cRoomFor hu ?_
    | (refine wpAny_bind (m := callSpecialIfBound? (.ref x) (Str.ofString "__eq__") [b])
        (PySem.W.ifBound_K X I hs hf (wpAny_mono hcall (fun r s' hr => by
          obtain ⟨c, rfl, hq⟩ := hr
          repeat (first | exact hq | exact wpAny_pure hq | exact wpAny_truthy_bool hq | (refine wpAny_bind (m := truthy (.bool _)) (wpAny_truthy_bool ?_)) | wp_step)) fun _ _ e => e)))
    | wp_step)
theorem ne_own {prog : Program} {w : World} {A : Around} {E : Value → Shared → Prop} {s : Shared} {K : PySem.W.Frag} {x C f L : Addr} {h₀ : Heap} {m : Str → Option Value} {ox : Obj} {od : Option Obj} {b tb : Value} {Q : Value → Shared → Prop}
    (hu : A.units + 1 < cLine) (hF : Fr h₀ L s.heap m) (X₀ : K.In h₀) (I : PySem.W.InstAt s.heap x ox C od) (hb : PySem.W.Looks (model prog w) s.heap (typeOf b) tb) (hn : PySem.W.notFirst K C tb = true) (T : NeFn K C f)
    (h : wpAny (model prog w) A.in1 (call (.ref f) [.ref x, b]) (fun v s' => ∃ c, v = .bool c ∧ Q (.bool (!c)) s') E s) : wpAny (model prog w) A (compareOp .NotEq (.ref x) b) Q E s := by
  have X := X₀.keeps hF.keep
  have one : wpAny (model prog w) A (tryCompare (.ref x) "__ne__" b) (fun r s' => ∃ v, r = some v ∧ Q v s') E s := by
    unfold tryCompare
    have hc : wpAny (model prog w) A (call (.builtin "object.__ne__") [.ref x, b]) (fun v s' => ∃ c, v = .bool c ∧ Q (.bool c) s') E s := by
      refine wpAny_call (codeAny_call_builtin PySem.F.cmp_object.ne.plain PySem.F.cmpEntry_ne ?_)
      refine @PySem.W.check_slot (model prog w) _ _ s "object.__ne__" "object" "__ne__" (.ref x) [b] [] _ PySem.F.cmpKind_ne PySem.F.cmpSplit_ne (I.type.andThen (PySem.W.looks_subIn X T.ob)) (PySem.F.cmpArgs_ne _ _) ?_
      refine ne_entry (A := A.in1) X I T.hs T.fn hu (wpAny_mono h (fun v s' hv => ?_) fun _ _ e => e)
      obtain ⟨c, rfl, hq⟩ := hv
      exact ⟨c, rfl, _, rfl, hq⟩
    have fin : wpAny (model prog w) A (call (.builtin "object.__ne__") ([.ref x] ++ [b]) >>= fun v => pure (some v)) (fun r s' => ∃ c, r = some (Value.bool c) ∧ Q (.bool c) s') E s :=
      wpAny_bind (wpAny_mono hc (fun v s' h' => by
        obtain ⟨c, rfl, hq⟩ := h'
        exact wpAny_pure ⟨c, rfl, hq⟩) fun _ _ h' => h')
    have sp : wpAny (model prog w) A (callSpecialIfBound? (.ref x) "__ne__" [b]) (fun r s' => ∃ c, r = some (Value.bool c) ∧ Q (.bool c) s') E s := by
      simp only [callSpecialIfBound?, bindSpecialIfBound?]
      refine wpAny_holding (wpAny_bind (wpAny_bind (wpAny_bind (I.type.here ((PySem.W.looks_findIn X T.hn).here ?_)))))
      refine wpAny_bind (wpAny_askSetting (wpAny_ite ?_))
      simp only [ne_bind]
      split
      · exact wpAny_bind (wpAny_pure (wpAny_pure fin))
      · exact wpAny_tryCatch (wpAny_bind (wpAny_pure (wpAny_pure fin)))
    refine wpAny_bind (wpAny_mono sp (fun r s' z => ?_) fun _ _ e => e)
    obtain ⟨c, rfl, hq⟩ := z
    exact wpAny_pure ⟨_, rfl, hq⟩
  show wpAny (model prog w) A (richCompare .NotEq (.ref x) b) Q E s
  unfold richCompare
  simp only [oneThing_ref]
  refine wpAny_holding (wpAny_bind (wpAny_cRoomFor (Nat.lt_of_succ_lt hu) ?_))
  rw [cmpInfo_NotEq]
  dsimp only
  refine wpAny_bind (I.type.here (wpAny_bind (hb.here ?_)))
  split
  · rename_i q
    have e : PySem.W.subIn K tb (.ref C) = some false := by
      rcases Bool.or_eq_true_iff.mp hn with e | e
      · rw [beq_iff_eq.mp e] at q; simp at q
      · exact beq_iff_eq.mp e
    refine wpAny_bind ((PySem.W.looks_subIn X e).here ?_)
    simp only [Bool.false_eq_true, if_false]
    refine wpAny_bind (wpAny_mono one (fun r s' z => ?_) fun _ _ e => e)
    obtain ⟨v, rfl, hq⟩ := z
    exact wpAny_pure hq
  · refine wpAny_bind (wpAny_pure ?_)
    simp only [Bool.false_eq_true, if_false]
    refine wpAny_bind (wpAny_mono one (fun r s' z => ?_) fun _ _ e => e)
    obtain ⟨v, rfl, hq⟩ := z
    exact wpAny_pure hq
/-- x != y by the text's own ==: sp tells what == gives, a bool -/
def rNeOwn (K : PySem.W.Frag) (C : Addr) (sp : Sp) (E : XK) : R2 := fun x y H Q => (∃ a dx fs, x = .ref a ∧ H a = some (.ins C dx fs)) ∧ (∃ t, TyX K H y t ∧ PySem.W.notFirst K C t = true) ∧
  sp [x, y] H (fun v H' => ∃ b, v = .bl b ∧ Q (.bl (!b)) H') E
theorem op_neOwn (T : NeFn X.K C f) (hF' : FnOk X.prog X.w X.K X.mg X.base CX k f fd ps sp) (hr : Room (k + 1) X.A) (hb : Binds X.K fd ps []) (hx : Passes CX X E) : OpR X (compareOp .NotEq) (rNeOwn X.K C sp E) := by
  intro pins s σ H x y v u Q I rx ry h
  obtain ⟨⟨a, dx, fs, rfl, ha⟩, ⟨t, ty, hn⟩, q⟩ := h
  cases rx
  obtain ⟨ox, od, J⟩ := inst_of I ha
  obtain ⟨m, hF⟩ := I.fr
  refine ne_own (by have := hr.units0; have := hr.units; omega) hF I.ok.mod.kin J (rel_kit I ry ty) hn T ?_
  have e0 : Env0 X.prog X.w X.K X.mg X.base X.A.in1 X.stack s H := I.env0.in1
  have r : Vals [V.ref a, y] [Value.ref a, u] := .cons rfl (.cons ry .nil)
  have hl : ([Value.ref a, u] ++ []).length = ps.length := by
    rw [List.append_nil, ← r.length]; exact hF'.len _ _ _ _ q
  have hbb := hb s [Value.ref a, u] I.kIn hl
  rw [List.append_nil] at hbb
  refine wpAny_call (codeAny_mono (hF'.run X.A.in1 X.stack s H ⟨[.ref a, u], []⟩ [.ref a, u] [.ref a, y] _ E hr.in1 e0 hbb r q) fun r s' hq => ?_)
  cases r with
  | error e => exact hx pins σ H s e s' I hq
  | ok fl =>
    cases fl with
    | ret w =>
      obtain ⟨z, H', I', rz, b, ez, q'⟩ := I.after hq
      subst ez
      cases rz
      exact ⟨b, rfl, .bl (!b), H', I', rfl, q'⟩
    | next => exact False.elim hq
    | brk => exact False.elim hq
    | cont => exact False.elim hq
end
end Fm

set_option maxHeartbeats 2000000
namespace Fm
open PySem PySem.Spec PyProof.Rows L2

/-! ### quotients and their sizes -/
/-- what lowest terms divide by -/
def sg (t b : Int) : Int := if b < 0 then -((Nat.gcd t.natAbs b.natAbs : Nat) : Int) else ((Nat.gcd t.natAbs b.natAbs : Nat) : Int)
theorem gcd_pos {t b : Int} (hb : b ≠ 0) : 0 < Nat.gcd t.natAbs b.natAbs := Nat.gcd_pos_of_pos_right _ (Int.natAbs_pos.mpr hb)
theorem sg_ne {t b : Int} (hb : b ≠ 0) : sg t b ≠ 0 := by
  have := gcd_pos (t := t) hb
  unfold sg; split <;> omega
theorem sg_abs (t b : Int) : (sg t b).natAbs = Nat.gcd t.natAbs b.natAbs := by
  unfold sg; split <;> omega
theorem sg_sz {t b : Int} {k : Nat} (hb : b ≠ 0) (h : b.natAbs < 2 ^ k) : (sg t b).natAbs < 2 ^ k := by
  rw [sg_abs]
  exact Nat.lt_of_le_of_lt (Nat.gcd_le_right _ (Int.natAbs_pos.mpr hb)) h
theorem top_eq {t b : Int} (hb : b ≠ 0) : t.fdiv (sg t b) = (Rat.divInt t b).num := by
  rw [Rat.num_divInt]
  have g0 := gcd_pos (t := t) hb
  have hg : ((b.gcd t : Nat) : Int) = ((Nat.gcd t.natAbs b.natAbs : Nat) : Int) := by rw [Int.gcd_eq_natAbs_gcd_natAbs, Nat.gcd_comm]
  have hd : (((Nat.gcd t.natAbs b.natAbs : Nat)) : Int) ∣ t := Int.ofNat_dvd_left.mpr (Nat.gcd_dvd_left _ _)
  rw [hg]
  generalize hG : ((Nat.gcd t.natAbs b.natAbs : Nat) : Int) = G at hd
  have hG0 : 0 < G := by omega
  have hs : sg t b = if b < 0 then -G else G := by unfold sg; rw [hG]
  obtain ⟨c, rfl⟩ := hd
  rw [hs]
  split
  · rename_i h
    rw [Int.sign_eq_neg_one_of_neg h, show (-1 * (G * c)) = G * (-c) by rw [Int.mul_neg, Int.neg_one_mul] , Int.mul_ediv_cancel_left _ (by omega), show G * c = (-G) * (-c) by rw [Int.neg_mul_neg]]
    exact Int.mul_fdiv_cancel_left _ (by omega)
  · rename_i h
    rw [Int.sign_eq_one_of_pos (by omega), Int.one_mul, Int.mul_ediv_cancel_left _ (by omega)]
    exact Int.mul_fdiv_cancel_left _ (by omega)
theorem bot_eq {t b : Int} (hb : b ≠ 0) : b.fdiv (sg t b) = ((Rat.divInt t b).den : Int) := by
  rw [Rat.den_divInt, if_neg hb]
  have g0 := gcd_pos (t := t) hb
  have hg : b.gcd t = Nat.gcd t.natAbs b.natAbs := by rw [Int.gcd_eq_natAbs_gcd_natAbs, Nat.gcd_comm]
  have hd : (((Nat.gcd t.natAbs b.natAbs : Nat)) : Int) ∣ b := Int.ofNat_dvd_left.mpr (Nat.gcd_dvd_right _ _)
  rw [hg, Int.natCast_ediv]
  generalize hG : ((Nat.gcd t.natAbs b.natAbs : Nat) : Int) = G at hd
  have hG0 : 0 < G := by omega
  have hs : sg t b = if b < 0 then -G else G := by unfold sg; rw [hG]
  obtain ⟨c, hc⟩ := hd
  rw [hs]
  split
  · rename_i h
    have e : ((b.natAbs : Nat) : Int) = G * (-c) := by rw [Int.mul_neg, ← hc]; omega
    rw [e, Int.mul_ediv_cancel_left _ (by omega), hc, show G * c = (-G) * (-c) by rw [Int.neg_mul_neg]]
    exact Int.mul_fdiv_cancel_left _ (by omega)
  · rename_i h
    have e : ((b.natAbs : Nat) : Int) = G * c := by rw [← hc]; omega
    rw [e, Int.mul_ediv_cancel_left _ (by omega), hc]
    exact Int.mul_fdiv_cancel_left _ (by omega)
/-- k bits are enough for both parts -/
def Sz (k : Nat) (q : Rat) : Prop := q.num.natAbs < 2 ^ k ∧ q.den < 2 ^ k
theorem pw {a b : Nat} (h : a ≤ b) : 2 ^ a ≤ 2 ^ b := Nat.pow_le_pow_right (by decide) h
theorem Sz.mono {j k : Nat} {q : Rat} (h : Sz j q) (e : j ≤ k) : Sz k q := ⟨Nat.lt_of_lt_of_le h.1 (pw e), Nat.lt_of_lt_of_le h.2 (pw e)⟩
theorem Sz.divInt {k : Nat} {t b : Int} (ht : t.natAbs < 2 ^ k) (hb : b.natAbs < 2 ^ k) (h0 : b ≠ 0) : Sz k (Rat.divInt t b) := by
  have g0 := gcd_pos (t := t) h0
  have hg : b.gcd t = Nat.gcd t.natAbs b.natAbs := by rw [Int.gcd_eq_natAbs_gcd_natAbs, Nat.gcd_comm]
  constructor
  · rw [← top_eq h0]
    refine Nat.lt_of_le_of_lt ?_ ht
    have hd : sg t b ∣ t := by
      have : (((Nat.gcd t.natAbs b.natAbs : Nat)) : Int) ∣ t := Int.ofNat_dvd_left.mpr (Nat.gcd_dvd_left _ _)
      unfold sg; split
      · exact Int.neg_dvd.mpr this
      · exact this
    obtain ⟨c, hc⟩ := hd
    have hs := sg_ne (t := t) h0
    generalize sg t b = S at hc hs
    have h1 : 0 < S.natAbs := Int.natAbs_pos.mpr hs
    rw [hc, Int.mul_fdiv_cancel_left _ hs, Int.natAbs_mul]
    exact Nat.le_mul_of_pos_left _ h1
  · rw [Rat.den_divInt, if_neg h0]
    exact Nat.lt_of_le_of_lt (Nat.div_le_self _ _) hb
theorem abs_mul_lt {i j : Int} {a b : Nat} (ha : i.natAbs < 2 ^ a) (hb : j.natAbs < 2 ^ b) : (i * j).natAbs < 2 ^ (a + b) := wide_lt ha hb
theorem abs_add_lt {i j : Int} {a : Nat} (ha : i.natAbs < 2 ^ a) (hb : j.natAbs < 2 ^ a) : (i + j).natAbs < 2 ^ (a + 1) := by
  rw [Nat.pow_succ]; omega
theorem abs_sub_lt {i j : Int} {a : Nat} (ha : i.natAbs < 2 ^ a) (hb : j.natAbs < 2 ^ a) : (i - j).natAbs < 2 ^ (a + 1) := by
  rw [Nat.pow_succ]; omega
theorem lt_up {n a b : Nat} (h : n < 2 ^ a) (e : a ≤ b) : n < 2 ^ b := Nat.lt_of_lt_of_le h (pw e)
theorem den_abs (q : Rat) : ((q.den : Nat) : Int).natAbs = q.den := Int.natAbs_natCast _
theorem den_ne (q : Rat) : ((q.den : Nat) : Int) ≠ 0 := by have := q.den_pos; omega
theorem dd_ne (a b : Rat) : ((a.den : Nat) : Int) * ((b.den : Nat) : Int) ≠ 0 := by
  have := a.den_pos
  have := b.den_pos
  exact Int.mul_ne_zero (by omega) (by omega)
theorem add_divInt (a b : Rat) : Rat.divInt (a.num * b.den + b.num * a.den) ((a.den : Int) * (b.den : Int)) = a + b := by
  rw [Rat.add_def', ← Int.natCast_mul, Rat.divInt_ofNat]
theorem sub_divInt (a b : Rat) : Rat.divInt (a.num * b.den - b.num * a.den) ((a.den : Int) * (b.den : Int)) = a - b := by
  rw [Rat.sub_def', ← Int.natCast_mul, Rat.divInt_ofNat]
theorem mul_divInt (a b : Rat) : Rat.divInt (a.num * b.num) ((a.den : Int) * (b.den : Int)) = a * b := by
  rw [Rat.mul_def', ← Int.natCast_mul, Rat.divInt_ofNat]
theorem neg_divInt1 (a : Rat) : Rat.divInt (-a.num) ((a.den : Nat) : Int) = -a := by
  rw [← Rat.neg_divInt, Rat.num_divInt_den]
theorem over_divInt (a b : Rat) : Rat.divInt (a.num * b.den) ((a.den : Int) * b.num) = a / b := by
  rw [Rat.div_def, Rat.inv_def, ← Rat.divInt_mul_divInt, Rat.num_divInt_den]
theorem int_divInt (n : Int) : Rat.divInt n 1 = (n : Rat) := by
  have h := Rat.num_divInt_den (n : Rat)
  simpa using h
theorem Sz.add {k : Nat} {a b : Rat} (ha : Sz k a) (hb : Sz k b) : Sz (k + k + 1) (a + b) := by
  rw [← add_divInt]
  refine Sz.divInt (abs_add_lt (abs_mul_lt ha.1 (by rw [den_abs]; exact hb.2)) (abs_mul_lt hb.1 (by rw [den_abs]; exact ha.2))) (lt_up (abs_mul_lt (by rw [den_abs]; exact ha.2) (by rw [den_abs]; exact hb.2)) (by omega)) (dd_ne _ _)
theorem Sz.sub {k : Nat} {a b : Rat} (ha : Sz k a) (hb : Sz k b) : Sz (k + k + 1) (a - b) := by
  rw [← sub_divInt]
  refine Sz.divInt (abs_sub_lt (abs_mul_lt ha.1 (by rw [den_abs]; exact hb.2)) (abs_mul_lt hb.1 (by rw [den_abs]; exact ha.2))) (lt_up (abs_mul_lt (by rw [den_abs]; exact ha.2) (by rw [den_abs]; exact hb.2)) (by omega)) (dd_ne _ _)
theorem Sz.mul {k : Nat} {a b : Rat} (ha : Sz k a) (hb : Sz k b) : Sz (k + k) (a * b) := by
  rw [← mul_divInt]
  exact Sz.divInt (abs_mul_lt ha.1 hb.1) (abs_mul_lt (by rw [den_abs]; exact ha.2) (by rw [den_abs]; exact hb.2)) (dd_ne _ _)
theorem Sz.neg {k : Nat} {a : Rat} (ha : Sz k a) : Sz k (-a) := ⟨by rw [Rat.neg_num, Int.natAbs_neg]; exact ha.1, by rw [Rat.neg_den]; exact ha.2⟩
theorem Sz.int {k : Nat} {n : Int} (h : n.natAbs < 2 ^ k) (hk : 1 ≤ k) : Sz k (n : Rat) := ⟨by simpa using h, by simpa using (Nat.lt_of_lt_of_le (by decide : 1 < 2 ^ 1) (pw hk))⟩
theorem Sz.n {k : Nat} {a : Rat} (h : Sz k a) : a.num.natAbs < 2 ^ k := h.1
theorem Sz.d {k : Nat} {a : Rat} (h : Sz k a) : ((a.den : Nat) : Int).natAbs < 2 ^ k := by rw [den_abs]; exact h.2
theorem eq_iff_parts (a b : Rat) : (a = b) ↔ (a.num = b.num ∧ ((a.den : Nat) : Int) = ((b.den : Nat) : Int)) :=
  ⟨fun h => by subst h; exact ⟨rfl, rfl⟩, fun h => Rat.ext h.1 (by have := h.2; omega)⟩
end Fm

set_option maxHeartbeats 2000000
namespace Fm
open PySem PySem.Spec PyProof.Rows L2

/-! ### heaps that only grow -/
def Ex (H H' : Hp) : Prop := ∀ a o, H a = some o → H' a = some o
theorem Ex.refl (H : Hp) : Ex H H := fun _ _ h => h
theorem Ex.trans {H H1 H2 : Hp} (a : Ex H H1) (b : Ex H1 H2) : Ex H H2 := fun x o h => b x o (a x o h)
theorem Ex.new {H : Hp} {p : Addr} {o : HO} (h : H p = none) : Ex H (upd H p o) := fun a u e => by
  rw [upd_ne (ne_of_none e h)]
  exact e
theorem Ex.at {H H' : Hp} {p : Addr} {o : HO} (e : Ex H H') (h : H p = some o) : H' p = some o := e p o h
theorem Ex.mut {H H' : Hp} {p : Addr} {o : HO} (e : Ex H H') (h : H p = none) : Ex H (upd H' p o) := fun a u ha => by
  rw [upd_ne (ne_of_none ha h)]
  exact e a u ha
theorem Ex.free {H H' : Hp} {p : Addr} (e : Ex H H') (h : H' p = none) : H p = none := by
  cases h1 : H p with
  | none => rfl
  | some o =>
    rw [e p o h1] at h
    cases h
theorem Ex.sql {K : PySem.W.Frag} {H H' : Hp} {a : Addr} {xs : List V} (e : Ex H H') (h : SqL K H a xs) : SqL K H' a xs := SqL.ext h e
theorem Ex.sqt {K : PySem.W.Frag} {H H' : Hp} {a : Addr} {xs : List V} (e : Ex H H') (h : SqT K H a xs) : SqT K H' a xs := SqT.ext h e

/-! ### readings, a head at a time -/
section
variable {σ : L2.St} {H : Hp} {Q : VK} {D : Ends} {ta tb tc te : TE} {t u : TT} {ts tu : TS} {x y v : V} {r : R2} {i j : Int} {K : PySem.W.Frag} {W : Bool → Hp → Prop}
theorem g_var {n : Nat} (h : σ[n]? = some (some v)) (q : Q v H) : tVar n σ H Q := ⟨v, h, q⟩
theorem g_c (q : Q v H) : tC v σ H Q := q
theorem g_op (q : ta σ H fun x H1 => tb σ H1 fun y H2 => r x y H2 Q) : tOp r ta tb σ H Q := q
theorem g_un {r : V → Hp → VK → Prop} (q : ta σ H fun x H1 => r x H1 Q) : tUn r ta σ H Q := q
theorem g_I0 {g : Int → Int → V} (q : Q (g i j) H) : rI0 g (.int i) (.int j) H Q := ⟨i, j, rfl, rfl, q⟩
theorem g_I {C : Int → Int → Prop} {g : Int → Int → V} (c : C i j) (q : Q (g i j) H) : rI C g (.int i) (.int j) H Q := ⟨i, j, rfl, rfl, c, q⟩
theorem g_U {g : Int → V} (q : Q (g i) H) : rU g (.int i) H Q := ⟨i, rfl, q⟩
theorem g_eqI (q : Q (.bl (decide (i = j))) H) : rEq (.int i) (.int j) H Q := ⟨rfl, by
  rw [show decide (V.int i = V.int j) = decide (i = j) by by_cases h : i = j <;> simp [h]]; exact q⟩
theorem g_neI (q : Q (.bl (!decide (i = j))) H) : rNe (.int i) (.int j) H Q := ⟨rfl, by
  rw [show decide (V.int i = V.int j) = decide (i = j) by by_cases h : i = j <;> simp [h]]; exact q⟩
theorem g_eqS {a b : Str} (q : Q (.bl (decide (a = b))) H) : rEq (.str a) (.str b) H Q := ⟨rfl, by
  rw [show decide (V.str a = V.str b) = decide (a = b) by by_cases h : a = b <;> simp [h]]; exact q⟩
theorem g_neS {a b : Str} (q : Q (.bl (!decide (a = b))) H) : rNe (.str a) (.str b) H Q := ⟨rfl, by
  rw [show decide (V.str a = V.str b) = decide (a = b) by by_cases h : a = b <;> simp [h]]; exact q⟩
theorem g_test {W : Bool → Hp → Prop} (q : te σ H fun x H' => ∃ k, x = .bl k ∧ W k H') : tTest te σ H W := q
theorem g_B {W : Bool → Hp → Prop} (q : te σ H fun x H' => ∃ k, x = .bl k ∧ W k H') : tB te σ H W := q
theorem g_bl {W : Bool → Prop} {b : Bool} (q : W b) : ∃ k, V.bl b = .bl k ∧ W k := ⟨b, rfl, q⟩
theorem g_not (q : t σ H fun c H1 => W (!c) H1) : tNot t σ H W := q
theorem g_and (q : t σ H fun c H1 => if c = true then u σ H1 W else W false H1) : tAnd t u σ H W := q
theorem g_or (q : t σ H fun c H1 => if c = true then W true H1 else u σ H1 W) : tOr t u σ H W := q
theorem g_andV (q : ta σ H fun x H1 => ∃ c, x = .bl c ∧ if c = true then tb σ H1 Q else Q (.bl false) H1) : tAndV ta tb σ H Q := q
theorem g_orV (q : ta σ H fun x H1 => ∃ c, x = .bl c ∧ if c = true then Q (.bl true) H1 else tb σ H1 Q) : tOrV ta tb σ H Q := q
theorem g_notV (q : ta σ H fun x H1 => ∃ c, x = .bl c ∧ Q (.bl (!c)) H1) : tNotV ta σ H Q := q
theorem g_chain {r r' : R2} (q : ta σ H fun x H1 => tb σ H1 fun y H2 => r x y H2 fun z H3 => ∃ k, z = .bl k ∧ (if k = true then tc σ H3 fun w' H4 => r' y w' H4 Q else Q (.bl false) H3)) : tChain r r' ta tb tc σ H Q := q
theorem g_if (q : t σ H fun c H1 => if c = true then ta σ H1 Q else tb σ H1 Q) : tIf t ta tb σ H Q := q
theorem g_ifS (q : t σ H fun b H1 => if b = true then ts D σ H1 else tu D σ H1) : tIfS t ts tu D σ H := q
theorem g_seq (q : ts { D with nx := tu D } σ H) : tSeq ts tu D σ H := q
theorem g_next (q : D.nx σ H) : tNext D σ H := q
theorem g_break (q : D.bk σ H) : tBreak D σ H := q
theorem g_cont (q : D.ct σ H) : tCont D σ H := q
theorem g_drop (q : te σ H fun _ H1 => D.nx σ H1) : tDrop te D σ H := q
theorem g_ret (q : te σ H D.rt) : tRet te D σ H := q
theorem g_retN (q : D.rt .non H) : tRetN D σ H := q
theorem g_asg {g : TG} (q : te σ H fun x H1 => g x σ H1 D.nx) : tAsg te g D σ H := q
theorem g_name {n : Nat} {N : L2.St → Hp → Prop} (q : N (σ.set n (some v)) H) : gName n v σ H N := q
theorem g_par {n m : Nat} {t : TA} (q : t σ H fun vs H1 => ∃ v w, vs = [v, w] ∧ D.nx ((σ.set n (some v)).set m (some w)) H1) : tPar n m t D σ H := q
theorem g_par2 {v w : V} {N : V → V → Prop} (q : N v w) : ∃ v1 w1, [v, w] = [v1, w1] ∧ N v1 w1 := ⟨v, w, rfl, q⟩
theorem g_fld {f : Str} (q : ta σ H fun x H1 => ∃ a C dx fs v, x = .ref a ∧ H1 a = some (.ins C dx fs) ∧ Cls K C ∧ NoAttr K C f ∧ fs.lookup f = some v ∧ Q v H1) : tFld K ta f σ H Q := q
theorem g_sfld {f : Str} {tv : TE} (q : tv σ H fun y H1 => ta σ H1 fun x H2 => ∃ a C dx fs, x = .ref a ∧ H2 a = some (.ins C dx fs) ∧ Cls K C ∧ NoAttr K C f ∧ fs.length < 1000 ∧ D.nx σ (upd H2 a (.ins C dx (putF f y fs)))) : sFld K ta tv f D σ H := q
theorem g_nil {P : List V → Hp → Prop} (q : P [] H) : tNil σ H P := q
theorem g_cons {tr : TA} {P : List V → Hp → Prop} (q : ta σ H fun x H1 => tr σ H1 fun xs H2 => P (x :: xs) H2) : tCons ta tr σ H P := q
theorem g_tup {t : TA} (q : t σ H fun xs H1 => xs.length ≤ sizeLine ∧ ∀ p, H1 p = none → Q (.ref p) (upd H1 p (.tup xs))) : tTup t σ H Q := q
theorem g_lst {t : TA} (q : t σ H fun xs H1 => xs.length ≤ sizeLine ∧ ∀ p, H1 p = none → Q (.ref p) (upd H1 p (.lst xs))) : tLst t σ H Q := q
theorem g_call {sp : Sp} {E : XK} {t : TA} (q : t σ H fun vs H1 => sp vs H1 Q E) : tCall sp [] E t σ H Q := by
  unfold tCall
  have e : (fun vs H1 => sp (vs ++ []) H1 Q E) = fun vs H1 => sp vs H1 Q E := by funext vs H1; rw [List.append_nil]
  rw [e]; exact q
theorem g_meth {C : Addr} {m : Str} {sp : Sp} {E : XK} {t : TA} (q : ta σ H fun x H1 => ∃ a dx fs, x = .ref a ∧ H1 a = some (.ins C dx fs) ∧ fs.lookup m = none ∧ t σ H1 fun vs H2 => sp (x :: vs) H2 Q E) : tMeth C m sp [] E ta t σ H Q := by
  unfold tMeth
  have e : ∀ x H1, (t σ H1 fun vs H2 => sp (x :: (vs ++ [])) H2 Q E) = (t σ H1 fun vs H2 => sp (x :: vs) H2 Q E) := fun x H1 => by
    have : (fun vs H2 => sp (x :: (vs ++ [])) H2 Q E) = fun vs H2 => sp (x :: vs) H2 Q E := by funext vs H2; rw [List.append_nil]
    rw [this]
  simp only [e]
  exact q
theorem g_make {C : Addr} {sp : Sp} {E : XK} {t : TA} (q : t σ H fun vs H1 => ∀ x dx, H1 x = none → H1 dx = none → dx ≠ x → sp (.ref x :: vs) (upd (upd H1 dx (.own x)) x (.ins C dx [])) (fun v H2 => v = .non ∧ Q (.ref x) H2) E) : tMake C sp [] E t σ H Q := by
  unfold tMake
  have e : (fun vs H1 => ∀ x dx, H1 x = none → H1 dx = none → dx ≠ x → sp (.ref x :: (vs ++ [])) (upd (upd H1 dx (.own x)) x (.ins C dx [])) (fun v H2 => v = .non ∧ Q (.ref x) H2) E) = (fun vs H1 => ∀ x dx, H1 x = none → H1 dx = none → dx ≠ x → sp (.ref x :: vs) (upd (upd H1 dx (.own x)) x (.ins C dx [])) (fun v H2 => v = .non ∧ Q (.ref x) H2) E) := by funext vs H1; rw [List.append_nil]
  rw [e]; exact q
theorem g_make1 {C : Addr} {sp : Sp} {E : XK} {d : V} (q : te σ H fun z H1 => ∀ x dx, H1 x = none → H1 dx = none → dx ≠ x → sp [.ref x, z, d] (upd (upd H1 dx (.own x)) x (.ins C dx [])) (fun v H2 => v = .non ∧ Q (.ref x) H2) E) : tMake C sp [d] E (tCons te tNil) σ H Q := q
theorem g_sub {to ti : TE} {t : TSet} {N : L2.St → Hp → Prop} (q : to σ H fun o H1 => ti σ H1 fun i H2 => t o i v H2 fun H3 => N σ H3) : gSub to ti t v σ H N := q
theorem len_lit {α : Type} {xs : List α} (h : Nat.ble xs.length 1000 = true) : xs.length ≤ sizeLine := Nat.le_trans (Nat.le_of_ble_eq_true h) (by decide)
theorem g_cb {r : List V → Hp → VK → Prop} {t : TA} (q : t σ H fun vs H1 => r vs H1 Q) : tCB r t σ H Q := q
end
end Fm

set_option maxHeartbeats 2000000
namespace Fm
open PySem PySem.Spec PyProof.Rows L2

/-! ### operators on great ints -/
def CDivA (_ j : Int) : Prop := j ≠ 0 ∧ j.natAbs.log2 < 9000
theorem op_fdivA {X : Cx} : OpR X (binaryOp .FloorDiv) (rI CDivA fun i j => .int (i.fdiv j)) := opI fun i j _ _ _ _ _ hc q => floordiv_int hc.1 q (.inl (PyProof.noPylong_of_log2 hc.2))
theorem divA {i j : Int} {k : Nat} (h : j ≠ 0) (hb : j.natAbs < 2 ^ k) (h9 : k ≤ 8000) : CDivA i j := by
  refine ⟨h, Nat.lt_of_lt_of_le ((Nat.log2_lt (by omega)).mpr hb) (by omega)⟩
theorem mulA {i j : Int} {a b : Nat} (ha : i.natAbs < 2 ^ a) (hb : j.natAbs < 2 ^ b) (h : a + b ≤ 900000) : CMulW i j :=
  wide_mul (a := a + 1) (b := b + 1) (lt_up ha (by omega)) (lt_up hb (by omega)) (by omega) (by omega) (by omega)
def rGcd' := rGcd
theorem g_gcd {H : Hp} {Q : VK} {i j : Int} (q : Q (.int ((Nat.gcd i.natAbs j.natAbs : Nat) : Int)) H) : rGcd [.int i, .int j] H Q := ⟨i, j, rfl, q⟩
theorem g_ite {A B : Prop} {c : Bool} (h1 : c = true → A) (h2 : c = false → B) : if c = true then A else B := by
  cases c with
  | true => rw [if_pos rfl]; exact h1 rfl
  | false => rw [if_neg Bool.false_ne_true]; exact h2 rfl
theorem g_dec {p : Prop} [Decidable p] {A B : Prop} (h1 : p → A) (h2 : ¬ p → B) : if decide p = true then A else B := g_ite (fun h => h1 (of_decide_eq_true h)) (fun h => h2 (of_decide_eq_false h))

/-! ### quotients in the heap -/
theorem nTB : ¬ (("top" : Str) = "bottom") := by decide +kernel
def flR (q : Rat) : List (Str × V) := putF "bottom" (.int (q.den : Int)) (putF "top" (.int q.num) [])
theorem flR_top (q : Rat) : (flR q).lookup ("top" : Str) = some (.int q.num) := by
  unfold flR
  rw [lookup_putF, if_neg nTB, lookup_putF, if_pos rfl]
theorem flR_bottom (q : Rat) : (flR q).lookup ("bottom" : Str) = some (.int (q.den : Int)) := by
  unfold flR
  rw [lookup_putF, if_pos rfl]
theorem flR_no (q : Rat) {m : Str} (h1 : ¬ m = "bottom") (h2 : ¬ m = "top") : (flR q).lookup m = none := by
  unfold flR
  rw [lookup_putF, if_neg h1, lookup_putF, if_neg h2]
  all_goals rfl
/-- at p a Ratio that is q -/
def RatAt (C : Addr) (H : Hp) (p : Addr) (q : Rat) : Prop := ∃ dx, H p = some (.ins C dx (flR q))
def RatV (C : Addr) (H : Hp) (v : V) (q : Rat) : Prop := ∃ p, v = .ref p ∧ RatAt C H p q
/-- an int or a Ratio -/
def NumV (C : Addr) (H : Hp) (v : V) (q : Rat) : Prop := (∃ n : Int, v = .int n ∧ q = (n : Rat)) ∨ RatV C H v q
section
variable {C : Addr} {H H' : Hp} {p : Addr} {v : V} {q : Rat}
theorem RatAt.mono (e : Ex H H') (h : RatAt C H p q) : RatAt C H' p q := let ⟨dx, h⟩ := h; ⟨dx, e _ _ h⟩
theorem RatV.mono (e : Ex H H') (h : RatV C H v q) : RatV C H' v q := let ⟨p, a, h⟩ := h; ⟨p, a, h.mono e⟩
theorem NumV.mono (e : Ex H H') (h : NumV C H v q) : NumV C H' v q := h.elim .inl fun h => .inr (h.mono e)
theorem RatV.num (h : RatV C H v q) : NumV C H v q := .inr h
theorem NumV.int {n : Int} : NumV C H (.int n) (n : Rat) := .inl ⟨n, rfl, rfl⟩
theorem RatV.like (h : RatV C H v q) : NumLike C v H := let ⟨p, a, dx, h⟩ := h; .inr ⟨p, dx, _, a, h⟩
theorem NumV.like (h : NumV C H v q) : NumLike C v H := h.elim (fun ⟨n, a, _⟩ => .inl ⟨n, a⟩) RatV.like
theorem RatV.inst (h : RatV C H v q) : ∃ a dx fs, v = .ref a ∧ H a = some (.ins C dx fs) := let ⟨p, a, dx, h⟩ := h; ⟨p, dx, _, a, h⟩
end
section
variable {K : PySem.W.Frag} {C : Addr} {H : Hp} {Q : VK} {v : V} {q : Rat}
theorem g_top (c : Cls K C) (n : NoAttr K C "top") {W : V → Prop} (h : RatV C H v q) (k : W (.int q.num)) : ∃ a C dx fs w, v = .ref a ∧ H a = some (.ins C dx fs) ∧ Cls K C ∧ NoAttr K C "top" ∧ fs.lookup ("top" : Str) = some w ∧ W w := by
  obtain ⟨p, rfl, dx, h⟩ := h
  exact ⟨p, C, dx, _, _, rfl, h, c, n, flR_top q, k⟩
theorem g_bottom (c : Cls K C) (n : NoAttr K C "bottom") {W : V → Prop} (h : RatV C H v q) (k : W (.int (q.den : Int))) : ∃ a C dx fs w, v = .ref a ∧ H a = some (.ins C dx fs) ∧ Cls K C ∧ NoAttr K C "bottom" ∧ fs.lookup ("bottom" : Str) = some w ∧ W w := by
  obtain ⟨p, rfl, dx, h⟩ := h
  exact ⟨p, C, dx, _, _, rfl, h, c, n, flR_bottom q, k⟩
end

/-! ### promises that many defs make -/
/-- a new Ratio's __init__, no error -/
def spInit (C : Addr) : Sp := fun vs H Q _ => ∃ (p dx : Addr) (t b : Int) (k : Nat), vs = [.ref p, .int t, .int b] ∧ b ≠ 0 ∧ t.natAbs < 2 ^ k ∧ b.natAbs < 2 ^ k ∧ k ≤ 8000 ∧ H p = some (.ins C dx []) ∧
  ∀ H', (∀ a o, H a = some o → a ≠ p → H' a = some o) → H' p = some (.ins C dx (flR (Rat.divInt t b))) → Q .non H'
theorem use_init {C : Addr} {vs : List V} {H : Hp} {Q : VK} {E : XK} {t b : Int} {k : Nat} (hv : vs = [.int t, .int b]) (hb : b ≠ 0) (h1 : t.natAbs < 2 ^ k) (h2 : b.natAbs < 2 ^ k) (hk : k ≤ 8000)
    (q : ∀ v H', Ex H H' → RatV C H' v (Rat.divInt t b) → Q v H') : ∀ x dx, H x = none → H dx = none → dx ≠ x → spInit C (.ref x :: vs) (upd (upd H dx (.own x)) x (.ins C dx [])) (fun v H2 => v = .non ∧ Q (.ref x) H2) E := by
  intro x dx hx hdx hne
  refine ⟨x, dx, t, b, k, by rw [hv], hb, h1, h2, hk, upd_same, fun H' e hp => ⟨rfl, q _ _ (fun a o ha => ?_) ⟨x, rfl, dx, hp⟩⟩⟩
  refine e a o ?_ (ne_of_none ha hx)
  rw [upd_ne (ne_of_none ha hx), upd_ne (ne_of_none ha hdx)]
  exact ha
/-- x op y, a Ratio and a number -/
def spNum2 (C : Addr) (g : Rat → Rat → Rat) : Sp := fun vs H Q _ => ∃ (x y : V) (a b : Rat) (k : Nat), vs = [x, y] ∧ RatV C H x a ∧ NumV C H y b ∧ Sz k a ∧ Sz k b ∧ k ≤ 3000 ∧ ∀ v H', Ex H H' → RatV C H' v (g a b) → Q v H'
def spNum1 (C : Addr) (g : Rat → Rat) : Sp := fun vs H Q _ => ∃ (x : V) (a : Rat) (k : Nat), vs = [x] ∧ RatV C H x a ∧ Sz k a ∧ k ≤ 3000 ∧ ∀ v H', Ex H H' → RatV C H' v (g a) → Q v H'
def spRel2 (C : Addr) (g : Rat → Rat → Bool) : Sp := fun vs H Q _ => ∃ (x y : V) (a b : Rat) (k : Nat), vs = [x, y] ∧ RatV C H x a ∧ NumV C H y b ∧ Sz k a ∧ Sz k b ∧ k ≤ 3000 ∧ ∀ H', Ex H H' → Q (.bl (g a b)) H'
/-- the types that values have here: the class at C, or a built-in one -/
inductive KTy (C : Addr) : Value → Prop where
  | own : KTy C (.ref C)
  | int : KTy C (.type "int")
  | bool : KTy C (.type "bool")
  | non : KTy C (.type "NoneType")
  | str : KTy C (.type "str")
  | list : KTy C (.type "list")
  | tuple : KTy C (.type "tuple")
  | dict : KTy C (.type "dict")
def isT (t : Value) : Bool := t == .type "int"
def spWhole (K : PySem.W.Frag) (C : Addr) : Sp := fun vs H Q _ => ∃ (x : V) (t : Value), vs = [x] ∧ TyX K H x t ∧ KTy C t ∧ ∀ H', Ex H H' → Q (.bl (t == .type "int")) H'
def spNumber (K : PySem.W.Frag) (C : Addr) : Sp := fun vs H Q _ => ∃ (x : V) (t : Value), vs = [x] ∧ TyX K H x t ∧ KTy C t ∧ ∀ H', Ex H H' → Q (.bl (t == .ref C || t == .type "int")) H'
/-- what the written part says of the class -/
structure RC (K : PySem.W.Frag) (C : Addr) : Prop where
  cl : Cls K C
  nT : NoAttr K C "top"
  nB : NoAttr K C "bottom"
  ha : PySem.W.findIn K (.ref C) "__class__" = some (some (.builtin "object.__class__"))
  hn : PySem.W.specialIn K (.builtin "object.__class__") "__get__" = some (some (.builtin "getset_descriptor.__get__"))
  htk : PySem.W.takesIn K (.builtin "object.__class__") = some true
  hm : PySem.W.mroIn K C (.type "object") = some true
  si : PySem.W.subIn K (.ref C) (.type "int") = some false
  own : (PySem.W.clsIn K C).isSome = true
  ty : PySem.W.typeIn K (.ref C) = some (.type "type")
  noRef : ∀ n ∈ ["int", "bool", "NoneType", "str", "list", "tuple", "dict"], PySem.W.subIn K (.type n) (.ref C) = some false
theorem ty_rat {K : PySem.W.Frag} {C : Addr} {H : Hp} {v : V} {q : Rat} (R : RC K C) (h : RatV C H v q) : TyX K H v (.ref C) := by
  obtain ⟨p, rfl, dx, h⟩ := h
  exact .base (.ins h R.cl R.ha R.hn R.htk R.hm)
theorem ty_num {K : PySem.W.Frag} {C : Addr} {H : Hp} {v : V} {q : Rat} (R : RC K C) (h : NumV C H v q) : ∃ t, TyX K H v t ∧ KTy C t ∧ (t == .ref C || t == .type "int") = true := by
  rcases h with ⟨n, rfl, _⟩ | h
  · exact ⟨_, .base (.int n), .int, by simp⟩
  · exact ⟨_, ty_rat R h, .own, by simp⟩
theorem kit_int {K : PySem.W.Frag} {C : Addr} {t : Value} (R : RC K C) (k : KTy C t) : PySem.W.kitOne K t (.type "int") = some (t == .type "int" || t == .type "bool") := by
  have hm : PySem.W.kitMeta "int" = true := by decide +kernel
  cases k with
  | own =>
    show (if (Value.ref C == Value.type "int") = true then some true else PySem.W.kitCls K (.ref C) (.type "int")) = _
    rw [if_neg (by simp)]
    show (if PySem.W.kitMeta "int" = true then PySem.W.subIn K (.ref C) (.type "int") else none) = _
    rw [if_pos hm, R.si]
    simp
  | int => exact kit_ty (by decide +kernel)
  | bool => exact kit_ty (by decide +kernel)
  | non => exact kit_ty (by decide +kernel)
  | str => exact kit_ty (by decide +kernel)
  | list => exact kit_ty (by decide +kernel)
  | tuple => exact kit_ty (by decide +kernel)
  | dict => exact kit_ty (by decide +kernel)
theorem kit_bool {K : PySem.W.Frag} {C : Addr} {t : Value} (R : RC K C) (k : KTy C t) (h : (t == .type "int" || t == .type "bool") = true) : PySem.W.kitOne K t (.type "bool") = some (t == .type "bool") := by
  cases k with
  | own => simp at h
  | int => exact kit_ty (by decide +kernel)
  | bool => exact kit_ty (by decide +kernel)
  | non => simp at h
  | str => simp at h
  | list => simp at h
  | tuple => simp at h
  | dict => simp at h
theorem kit_own {K : PySem.W.Frag} {C : Addr} {t : Value} (R : RC K C) (k : KTy C t) : PySem.W.kitOne K t (.ref C) = some (t == .ref C) := by
  have base : ∀ n, n ∈ ["int", "bool", "NoneType", "str", "list", "tuple", "dict"] → PySem.W.kitOne K (.type n) (.ref C) = some (Value.type n == .ref C) := fun n hn => by
    have e : (Value.type n == Value.ref C) = false := by simp
    show (if (Value.type n == Value.ref C) = true then some true else PySem.W.kitCls K (.type n) (.ref C)) = _
    rw [e, if_neg Bool.false_ne_true]
    show (if ((PySem.W.clsIn K C).isSome && PySem.W.typeIn K (.ref C) == some (.type "type")) = true then PySem.W.subIn K (.type n) (.ref C) else none) = _
    rw [R.own, R.ty, if_pos (by simp), R.noRef n hn]
  cases k with
  | own =>
    show (if (Value.ref C == Value.ref C) = true then some true else _) = _
    rw [if_pos (by simp)]
    simp
  | int => exact base _ (by simp)
  | bool => exact base _ (by simp)
  | non => exact base _ (by simp)
  | str => exact base _ (by simp)
  | list => exact base _ (by simp)
  | tuple => exact base _ (by simp)
  | dict => exact base _ (by simp)
theorem not_first {K : PySem.W.Frag} {C : Addr} {t : Value} (R : RC K C) (k : KTy C t) : PySem.W.notFirst K C t = true := by
  have base : ∀ n, n ∈ ["int", "bool", "NoneType", "str", "list", "tuple", "dict"] → PySem.W.notFirst K C (.type n) = true := fun n hn => by
    unfold PySem.W.notFirst
    rw [R.noRef n hn]
    simp
  cases k with
  | own => unfold PySem.W.notFirst; simp
  | int => exact base _ (by simp)
  | bool => exact base _ (by simp)
  | non => exact base _ (by simp)
  | str => exact base _ (by simp)
  | list => exact base _ (by simp)
  | tuple => exact base _ (by simp)
  | dict => exact base _ (by simp)
def spAsRatio (C : Addr) : Sp := fun vs H Q _ => ∃ (x : V) (a : Rat) (k : Nat), vs = [x] ∧ NumV C H x a ∧ Sz k a ∧ k ≤ 3000 ∧ ∀ v H', Ex H H' → RatV C H' v a → Q v H'
theorem g_isi {K : PySem.W.Frag} {H : Hp} {Q : VK} {x c : V} {t u : Value} {b : Bool} (ty : TyX K H x t) (k : ClsV c u) (e : PySem.W.kitOne K t u = some b) (q : Q (.bl b) H) : rIsi K [x, c] H Q := ⟨x, c, t, u, b, rfl, k, ty, e, q⟩
theorem cx_K {CX : CXT} {P : Program} {w : World} {K : PySem.W.Frag} {mg : Str → Option Value} {base : Heap} {N : List Str} {q : Str} {sc : Scope} {f : Addr} {cdv : Value} {A : Around} {outer : List Env} {s : Shared} {H : Hp} {E : XK} :
    (cxOf CX P w K mg base N q sc f cdv A outer s H E).K = K := rfl
/-- a def without defaults as the top left it -/
abbrev Def (K : PySem.W.Frag) (x qual : Str) (st : Stmt) (f : Addr) (fd : FuncData) : Prop := FunD K x qual (defArgs st) (defBody st) (defScope st) [] [] f fd
/-- x == y for a Ratio and any value of a known type -/
def spEqV (K : PySem.W.Frag) (C : Addr) : Sp := fun vs H Q _ => ∃ (x y : V) (a : Rat) (r : Bool), vs = [x, y] ∧ RatV C H x a ∧
  ((∃ (c : Rat) (k : Nat), NumV C H y c ∧ Sz k c ∧ k ≤ 3000 ∧ r = decide (a = c)) ∨ (∃ t, TyX K H y t ∧ KTy C t ∧ (t == .ref C || t == .type "int") = false ∧ r = false)) ∧ ∀ H', Ex H H' → Q (.bl r) H'
theorem use_isnot {K : PySem.W.Frag} {C : Addr} {H : Hp} {Q : VK} {E : XK} {x : V} {t : Value} (ty : TyX K H x t) (kt : KTy C t) (e : (t == .ref C || t == .type "int") = false) (q : ∀ H', Ex H H' → Q (.bl false) H') : spNumber K C [x] H Q E :=
  ⟨x, t, rfl, ty, kt, fun H' z => by rw [e]; exact q H' z⟩
theorem use_eqN {K : PySem.W.Frag} {C : Addr} {H : Hp} {Q : VK} {E : XK} {x y : V} {a c : Rat} {k : Nat} (hx : RatV C H x a) (hy : NumV C H y c) (sc : Sz k c) (hk : k ≤ 3000) (q : ∀ H', Ex H H' → Q (.bl (decide (a = c))) H') : spEqV K C [x, y] H Q E :=
  ⟨x, y, a, _, rfl, hx, .inl ⟨c, k, hy, sc, hk, rfl⟩, q⟩
theorem use_eqO {K : PySem.W.Frag} {C : Addr} {H : Hp} {Q : VK} {E : XK} {x y : V} {a : Rat} {t : Value} (hx : RatV C H x a) (ty : TyX K H y t) (kt : KTy C t) (e : (t == .ref C || t == .type "int") = false) (q : ∀ H', Ex H H' → Q (.bl false) H') : spEqV K C [x, y] H Q E :=
  ⟨x, y, a, _, rfl, hx, .inr ⟨t, ty, kt, e, rfl⟩, q⟩
/-- x.over(y), y not 0 -/
def spOver (C : Addr) : Sp := fun vs H Q _ => ∃ (x y : V) (a b : Rat) (k : Nat), vs = [x, y] ∧ RatV C H x a ∧ NumV C H y b ∧ b ≠ 0 ∧ Sz k a ∧ Sz k b ∧ k ≤ 3000 ∧ ∀ v H', Ex H H' → RatV C H' v (a / b) → Q v H'
theorem Sz.div {k : Nat} {a b : Rat} (ha : Sz k a) (hb : Sz k b) (h0 : b ≠ 0) : Sz (k + k) (a / b) := by
  have h1 : b.num ≠ 0 := fun z => h0 (Rat.num_eq_zero.mp z)
  rw [← over_divInt]
  exact Sz.divInt (abs_mul_lt ha.n hb.d) (abs_mul_lt ha.d hb.n) (Int.mul_ne_zero (den_ne a) h1)
theorem dec_and (p q : Prop) [Decidable p] [Decidable q] : (decide p && decide q) = decide (p ∧ q) := by
  by_cases hp : p <;> by_cases hq : q <;> simp [hp, hq]
theorem dec_eqR (a b : Rat) : decide (a = b) = (decide (a.num = b.num) && decide (((a.den : Nat) : Int) = ((b.den : Nat) : Int))) := by
  rw [dec_and]
  exact decide_eq_decide.mpr (eq_iff_parts a b)
theorem dec_ltR (a b : Rat) : decide (a < b) = decide (a.num * b.den < b.num * a.den) := decide_eq_decide.mpr (Rat.lt_iff a b)
theorem dec_leR (a b : Rat) : decide (a ≤ b) = decide (a.num * b.den ≤ b.num * a.den) := decide_eq_decide.mpr (Rat.le_iff a b)
theorem b_nt : (!true) = false := rfl
theorem b_nf : (!false) = true := rfl
theorem use_num2 {C : Addr} {g : Rat → Rat → Rat} {H : Hp} {Q : VK} {E : XK} {x y : V} {a b : Rat} {k : Nat} (hx : RatV C H x a) (hy : NumV C H y b) (sa : Sz k a) (sb : Sz k b) (hk : k ≤ 3000) (q : ∀ v H', Ex H H' → RatV C H' v (g a b) → Q v H') : spNum2 C g [x, y] H Q E :=
  ⟨x, y, a, b, k, rfl, hx, hy, sa, sb, hk, q⟩
theorem use_num1 {C : Addr} {g : Rat → Rat} {H : Hp} {Q : VK} {E : XK} {x : V} {a : Rat} {k : Nat} (hx : RatV C H x a) (sa : Sz k a) (hk : k ≤ 3000) (q : ∀ v H', Ex H H' → RatV C H' v (g a) → Q v H') : spNum1 C g [x] H Q E :=
  ⟨x, a, k, rfl, hx, sa, hk, q⟩
theorem use_rel2 {C : Addr} {g : Rat → Rat → Bool} {H : Hp} {Q : VK} {E : XK} {x y : V} {a b : Rat} {k : Nat} (hx : RatV C H x a) (hy : NumV C H y b) (sa : Sz k a) (sb : Sz k b) (hk : k ≤ 3000) (q : ∀ H', Ex H H' → Q (.bl (g a b)) H') : spRel2 C g [x, y] H Q E :=
  ⟨x, y, a, b, k, rfl, hx, hy, sa, sb, hk, q⟩
theorem use_asr {C : Addr} {H : Hp} {Q : VK} {E : XK} {x : V} {a : Rat} {k : Nat} (hx : NumV C H x a) (sa : Sz k a) (hk : k ≤ 3000) (q : ∀ v H', Ex H H' → RatV C H' v a → Q v H') : spAsRatio C [x] H Q E := ⟨x, a, k, rfl, hx, sa, hk, q⟩
theorem use_isnum {K : PySem.W.Frag} {C : Addr} {H : Hp} {Q : VK} {E : XK} {x : V} {a : Rat} (R : RC K C) (hx : NumV C H x a) (q : ∀ H', Ex H H' → Q (.bl true) H') : spNumber K C [x] H Q E := by
  obtain ⟨t, ty, kt, e⟩ := ty_num R hx
  exact ⟨x, t, rfl, ty, kt, fun H' z => by rw [e]; exact q H' z⟩
theorem def_ok0 {P : Program} {w : World} {K : PySem.W.Frag} {mg : Str → Option Value} {base : Heap} {x qual : Str} {params : Arguments} {bd : List Stmt} {scope : Scope} {dvs : List V} {kws : List (Str × V)} {f : Addr} {fd : FuncData} {N ps : List Str} {k : Nat} {sp : Sp}
    (F : FunD K x qual params bd scope dvs kws f fd) (S : FnScope N ps scope) (len : ∀ vs H Q E, sp vs H Q E → vs.length = ps.length)
    (hbody : ∀ (cdv : Value) (A : Around) (outer : List Env) (s : Shared) (H : Hp) (vs : List V) (Q : VK) (E : XK), Room k (A.deeper (envOfC qual scope s.heap.objs.size f cdv)) → sp vs H Q E →
      ∃ t, PSs (cxOf CX0 P w K mg base N qual scope f cdv A outer s H E).nox bd t ∧ t { nx := fun _ H' => Q .non H', rt := Q } (L2.start N vs) H) : FnOk P w K mg base CX0 (k + 1) f fd ps sp :=
  F.ok S len fun cdv A outer s H vs Q E hr hsp => let ⟨t, h, q⟩ := hbody cdv A outer s H vs Q E hr hsp; ⟨t, h.nox, q⟩
theorem cx_Kn {CX : CXT} {P : Program} {w : World} {K : PySem.W.Frag} {mg : Str → Option Value} {base : Heap} {N : List Str} {q : Str} {sc : Scope} {f : Addr} {cdv : Value} {A : Around} {outer : List Env} {s : Shared} {H : Hp} {E : XK} :
    (cxOf CX P w K mg base N q sc f cdv A outer s H E).nox.K = K := rfl
/-! ### the law's draws -/
/-- at p a tape: two numbers from 0 on -/
def TapeAt (H : Hp) (p : Addr) : Prop := ∃ t0 t1 : Int, 0 ≤ t0 ∧ 0 ≤ t1 ∧ t1 < 2 ^ 40 ∧ H p = some (.lst [.int t0, .int t1])
/-- all but p is as it was -/
def Mo (p : Addr) (H H' : Hp) : Prop := ∀ a o, H a = some o → a ≠ p → H' a = some o
theorem Mo.refl (p : Addr) (H : Hp) : Mo p H H := fun _ _ h _ => h
theorem Mo.trans {p : Addr} {H H1 H2 : Hp} (a : Mo p H H1) (b : Mo p H1 H2) : Mo p H H2 := fun x o h n => b x o (a x o h n) n
theorem Mo.ex {p : Addr} {H H1 H2 : Hp} (a : Mo p H H1) (b : Ex H1 H2) : Mo p H H2 := fun x o h n => b x o (a x o h n)
theorem Ex.mo {p : Addr} {H H1 : Hp} (a : Ex H H1) : Mo p H H1 := fun x o h _ => a x o h
theorem Mo.set {p : Addr} {H : Hp} {o : HO} : Mo p H (upd H p o) := fun x u h n => by rw [upd_ne n]; exact h
theorem TapeAt.mono {H H' : Hp} {p : Addr} (e : Ex H H') (h : TapeAt H p) : TapeAt H' p := let ⟨t0, t1, a, b, c, h⟩ := h; ⟨t0, t1, a, b, c, e _ _ h⟩
def spTape (K : PySem.W.Frag) : Sp := fun vs H Q _ => ∃ (a : Addr) (ns : List Int) (k : Nat), vs = [.ref a, .int (k : Int)] ∧ SqL K H a (ns.map V.int) ∧ k ≤ 100 ∧ ∀ p H', H p = none → Ex H H' → TapeAt H' p → Q (.ref p) H'
def spPick : Sp := fun vs H Q _ => ∃ (p : Addr) (m : Int), vs = [.ref p, .int m] ∧ 0 < m ∧ m < 2 ^ 100 ∧ TapeAt H p ∧ ∀ d H', 0 ≤ d → d < m → Mo p H H' → TapeAt H' p → Q (.int d) H'
theorem use_pick {H : Hp} {Q : VK} {E : XK} {p : Addr} {m : Int} (h0 : 0 < m) (h1 : m < 2 ^ 100) (h : TapeAt H p) (q : ∀ d H', 0 ≤ d → d < m → Mo p H H' → TapeAt H' p → Q (.int d) H') : spPick [.ref p, .int m] H Q E := ⟨p, m, rfl, h0, h1, h, q⟩
theorem g_ixL {K : PySem.W.Frag} {H : Hp} {Q : VK} {p : Addr} {xs : List V} {i : Int} {v : V} (h : SqL K H p xs) (a : atI xs i = some v) (q : Q v H) : rIxL K (.ref p) (.int i) H Q := ⟨p, xs, i, v, rfl, rfl, h, a, q⟩
theorem g_ixT {K : PySem.W.Frag} {H : Hp} {Q : VK} {p : Addr} {xs : List V} {i : Int} {v : V} (h : SqT K H p xs) (a : atI xs i = some v) (q : Q v H) : rIxT K (.ref p) (.int i) H Q := ⟨p, xs, i, v, rfl, rfl, h, a, q⟩
def rLenQ (K : PySem.W.Frag) : List V → Hp → VK → Prop := fun xs H Q => ∃ p ys, xs = [.ref p] ∧ (SqL K H p ys ∨ SqT K H p ys) ∧ Q (.int ys.length) H
theorem call_lenQ {X : Cx} : CallR X (.builtin "len") (rLenQ X.K) := call_len_seq
theorem g_lenL {K : PySem.W.Frag} {H : Hp} {Q : VK} {p : Addr} {xs : List V} (h : SqL K H p xs) (q : Q (.int xs.length) H) : rLenQ K [.ref p] H Q := ⟨p, xs, rfl, .inl h, q⟩
theorem g_lenT {K : PySem.W.Frag} {H : Hp} {Q : VK} {p : Addr} {xs : List V} (h : SqT K H p xs) (q : Q (.int xs.length) H) : rLenQ K [.ref p] H Q := ⟨p, xs, rfl, .inr h, q⟩
def rAbsI : List V → Hp → VK → Prop := fun xs H Q => ∃ i, xs = [.int i] ∧ Q (.int (if i < 0 then -i else i)) H
theorem cr_absI {X : Cx} : CallR X (.builtin "abs") rAbsI := call_abs
theorem g_absI {H : Hp} {Q : VK} {i : Int} (q : Q (.int ((i.natAbs : Nat) : Int)) H) : rAbsI [.int i] H Q := ⟨i, rfl, by
  have e : (if i < 0 then -i else i) = ((i.natAbs : Nat) : Int) := by split <;> omega
  rw [e]; exact q⟩
def rIntI : List V → Hp → VK → Prop := fun xs H Q => (∃ i, xs = [.int i] ∧ Q (.int i) H) ∨ ∃ k, xs = [.bl k] ∧ Q (.int (if k then 1 else 0)) H
theorem cr_intI {X : Cx} : CallR X (.type "int") rIntI := call_int1
theorem g_intI {H : Hp} {Q : VK} {i : Int} (q : Q (.int i) H) : rIntI [.int i] H Q := .inl ⟨i, rfl, q⟩
def gSetL (N : Hp → Prop) (p : Addr) (xs : List V) (i : Int) (v : V) (H : Hp) : Prop := ∃ j, ixN xs.length i = some j ∧ N (upd H p (.lst (xs.set j v)))
theorem g_setL {H : Hp} {N : Hp → Prop} {p : Addr} {xs : List V} {i : Int} {v : V} {j : Nat} (h : H p = some (.lst xs)) (hj : ixN xs.length i = some j) (q : N (upd H p (.lst (xs.set j v)))) : rSetL (.ref p) (.int i) v H N := ⟨p, xs, i, j, rfl, rfl, h, hj, q⟩
end Fm

set_option maxHeartbeats 2000000
namespace Fm
open PySem PySem.Spec PyProof.Rows L2 SX

/-! ### texts of quotients -/
def dg (c : Nat) : Bool := decide (48 ≤ c) && decide (c ≤ 57)
def dig (l : List Nat) : Bool := !l.isEmpty && l.all dg
def body (l : List Nat) : List Nat := if l.head? = some 45 then l.tail else l
def txN (n : Int) : List Nat := if n < 0 then 45 :: TL.numL n.natAbs else TL.numL n.natAbs
def txR (q : Rat) : List Nat := txN q.num ++ (if q.den = 1 then [] else 47 :: TL.numL q.den)
def dv (l : List Nat) : Nat := NumText.digitsVal l
/-- as the package reads -/
def rdP (l : List Nat) : Option Rat :=
  let p := (TL.par [47] [] l).getD (l, [])
  let bottom := if (TL.par [47] [] l).isSome = true then p.2 else [49]
  if (dig (body p.1) && dig bottom && !decide (bottom.head? = some 48)) = true then
    let q := Rat.divInt (dv (body p.1)) (dv bottom)
    let q := if p.1.head? = some 45 then -q else q
    if txR q = l then some q else none
  else none
/-- as the law reads -/
def badPart (p : List Nat) : Bool := !dig p || (decide (p ≠ [48]) && decide (p.head? = some 48))
def rdL (l : List Nat) : Option Rat :=
  match TL.spl [47] 0 [] (body l) with
  | [u] => if badPart u = true then none else if u = [48] ∧ l.head? = some 45 then none else some ((if l.head? = some 45 then -(dv u : Int) else (dv u : Int) : Int) : Rat)
  | [u, d] => if (badPart u || badPart d) = true then none else if u = [48] then none else if dv d < 2 then none else if Nat.gcd (dv u) (dv d) ≠ 1 then none
      else some (Rat.divInt (if l.head? = some 45 then -(dv u : Int) else (dv u : Int)) (dv d : Int))
  | _ => none

theorem numL_dg (n : Nat) : (TL.numL n).all dg = true := by
  rw [List.all_eq_true]
  intro c hc
  have := TL.numL_digits n c hc
  unfold dg
  simp; omega
theorem dig_numL (n : Nat) : dig (TL.numL n) = true := by
  unfold dig
  rw [numL_dg]
  have := TL.numL_ne n
  cases h : TL.numL n with
  | nil => exact absurd h this
  | cons a r => rfl
theorem dv_numL (n : Nat) : dv (TL.numL n) = n := TL.numL_val n
theorem numL_head {n : Nat} (h : 0 < n) : (TL.numL n).head? ≠ some 48 := by
  induction n using Nat.strongRecOn with
  | _ n ih =>
    by_cases h10 : n < 10
    · rw [TL.numL_lt h10]
      simp
      omega
    · rw [TL.numL_step (by omega)]
      have h1 := ih (n / 10) (by omega) (by omega)
      have h2 := TL.numL_ne (n / 10)
      cases e : TL.numL (n / 10) with
      | nil => exact absurd e h2
      | cons a r =>
        rw [e] at h1
        simpa using h1
theorem numL_head45 (n : Nat) : (TL.numL n).head? ≠ some 45 := by
  intro h
  have h2 : 45 ∈ TL.numL n := by
    cases e : TL.numL n with
    | nil => rw [e] at h; simp at h
    | cons a r => rw [e] at h; simp at h; rw [h]; exact List.mem_cons_self ..
  exact TL.numL_free (n := n) (s := 45) (.inl (by decide)) h2
theorem numL_zero {n : Nat} (h : TL.numL n = [48]) : n = 0 := by
  have := dv_numL n
  rw [h] at this
  exact this.symm
theorem body_txN (n : Int) : body (txN n) = TL.numL n.natAbs := by
  unfold body txN
  by_cases h : n < 0
  · rw [if_pos h]; simp
  · rw [if_neg h, if_neg (numL_head45 _)]
theorem txN_head (n : Int) : ((txN n).head? = some 45) ↔ n < 0 := by
  unfold txN
  by_cases h : n < 0
  · rw [if_pos h]; simp [h]
  · rw [if_neg h]; simp [h, numL_head45]
theorem txN_ne (n : Int) : txN n ≠ [] := by
  unfold txN
  split
  · simp
  · exact TL.numL_ne _
theorem free47 (n : Int) : 47 ∉ txN n := by
  have h := TL.numL_free (n := n.natAbs) (s := 47) (.inl (by decide))
  unfold txN
  split
  · simp [h]
  · exact h
theorem free47N (n : Nat) : 47 ∉ TL.numL n := TL.numL_free (.inl (by decide))
theorem dv_app (l : List Nat) (c : Nat) : dv (l ++ [c]) = dv l * 10 + (c - 48) := by
  unfold dv NumText.digitsVal
  rw [List.foldl_append]
  rfl
theorem dv_pos : ∀ {l : List Nat}, dig l = true → l.head? ≠ some 48 → 0 < dv l := by
  intro l h hh
  cases l with
  | nil => simp [dig] at h
  | cons a r =>
    have ha : 49 ≤ a := by
      simp [dig, dg] at h
      simp at hh
      omega
    unfold dv NumText.digitsVal
    rw [List.foldl_cons]
    have key : ∀ (r : List Nat) (x : Nat), 0 < x → 0 < r.foldl (fun acc c => acc * 10 + (c - 48)) x := by
      intro r
      induction r with
      | nil => intro x h; exact h
      | cons b t ih => intro x h; exact ih _ (show 0 < x * 10 + (b - 48) by omega)
    exact key r _ (show 0 < 0 * 10 + (a - 48) by omega)
theorem canon {l : List Nat} (h : dig l = true) (hz : l = [48] ∨ l.head? ≠ some 48) : TL.numL (dv l) = l := by
  have key : ∀ (n : Nat) (l : List Nat), l.length = n → dig l = true → (l = [48] ∨ l.head? ≠ some 48) → TL.numL (dv l) = l := by
    intro n
    induction n with
    | zero =>
      intro l hl h _
      have := List.eq_nil_of_length_eq_zero hl
      subst this
      simp [dig] at h
    | succ n ih =>
      intro l hl h hz
      rcases List.eq_nil_or_concat l with e | ⟨r, c, e⟩
      · subst e; simp at hl
      · rw [List.concat_eq_append] at e
        subst e
        rw [dv_app]
        have hd : r.all dg = true ∧ dg c = true := by
          simp [dig] at h
          exact ⟨List.all_eq_true.mpr h.1, h.2⟩
        have hc : 48 ≤ c ∧ c ≤ 57 := by
          have := hd.2
          simp [dg] at this
          exact this
        cases r with
        | nil =>
          have : dv [] = 0 := rfl
          rw [this, TL.numL_lt (by omega)]
          simp; omega
        | cons a t =>
          have hh : (a :: t).head? ≠ some 48 := by
            rcases hz with hz | hz
            · simp at hz
            · simpa using hz
          have hdr : dig (a :: t) = true := by
            unfold dig
            rw [hd.1]; rfl
          have hpos := dv_pos hdr hh
          rw [TL.numL_step (by omega), show (dv (a :: t) * 10 + (c - 48)) / 10 = dv (a :: t) by omega, ih (a :: t) (by simpa using hl) hdr (.inr hh), show 48 + (dv (a :: t) * 10 + (c - 48)) % 10 = c by omega]
  exact key l.length l rfl h hz
theorem join_spl (l : List Nat) : ∀ acc, TL.joinL [47] (TL.spl [47] 0 acc l) = acc ++ l := by
  have ne : ∀ (l acc : List Nat), TL.spl [47] 0 acc l ≠ [] := by
    intro l
    induction l with
    | nil => intro acc; rw [TL.spl_nil]; simp
    | cons c r ih =>
      intro acc
      by_cases h : TL.pre [47] (c :: r) = true
      · rw [TL.spl_hit h]; simp
      · rw [TL.spl_miss (by simpa using h)]; exact ih _
  induction l with
  | nil => intro acc; rw [TL.spl_nil]; simp [TL.joinL]
  | cons c r ih =>
    intro acc
    by_cases h : TL.pre [47] (c :: r) = true
    · rw [TL.spl_hit h]
      have hc : c = 47 := by simpa [TL.pre] using h
      subst hc
      have h2 := ih []
      have h3 := ne r []
      show TL.joinL [47] (acc :: TL.spl [47] 0 [] r) = acc ++ 47 :: r
      cases e : TL.spl [47] 0 [] r with
      | nil => exact absurd e h3
      | cons x y =>
        rw [e] at h2
        show acc ++ ([47] ++ TL.joinL [47] (x :: y)) = acc ++ 47 :: r
        rw [h2]; simp
    · rw [TL.spl_miss (by simpa using h), ih]; simp
theorem body_join {l : List Nat} : l = (if l.head? = some 45 then [45] else []) ++ body l := by
  unfold body
  cases l with
  | nil => simp
  | cons a r =>
    by_cases h : a = 45
    · subst h; simp
    · have : (a :: r).head? ≠ some 45 := by simp [h]
      rw [if_neg this, if_neg this]; simp
theorem bad_ok {p : List Nat} (h : badPart p = false) : dig p = true ∧ (p = [48] ∨ p.head? ≠ some 48) := by
  unfold badPart at h
  rw [Bool.or_eq_false_iff] at h
  refine ⟨by simpa using h.1, ?_⟩
  by_cases e : p = [48]
  · exact .inl e
  · refine .inr fun hh => ?_
    have := h.2
    simp [e, hh] at this
theorem ok_bad {p : List Nat} (h : dig p = true) (h2 : p = [48] ∨ p.head? ≠ some 48) : badPart p = false := by
  unfold badPart
  rw [h]
  rcases h2 with rfl | h2
  · simp
  · simp [h2]
theorem bad_numL (n : Nat) : badPart (TL.numL n) = false := by
  refine ok_bad (dig_numL n) ?_
  by_cases h : n = 0
  · subst h; exact .inl (by rw [TL.numL_lt (by decide)])
  · exact .inr (numL_head (by omega))
theorem head_body {l u : List Nat} (h : dig u = true) (r : List Nat) (e : body l = u ++ r) (hn : l.head? ≠ some 45) : l = u ++ r := by
  have := body_join (l := l)
  rw [if_neg hn] at this
  rw [this, e]; rfl
/-- A: what the law reads has this text -/
theorem rdL_text {l : List Nat} {q : Rat} (h : rdL l = some q) : txR q = l := by
  have hj := join_spl (body l) []
  have hb := body_join (l := l)
  unfold rdL at h
  split at h
  · rename_i u hs
    rw [hs] at hj
    split at h
    · cases h
    · rename_i hbad
      split at h
      · cases h
      · rename_i hz
        cases h
        obtain ⟨h1, h2⟩ := bad_ok (by simpa using hbad)
        have hc := canon h1 h2
        have hu : u = body l := hj
        unfold txR
        rw [Rat.den_intCast, Rat.num_intCast, if_pos rfl, List.append_nil]
        unfold txN
        by_cases hn : l.head? = some 45
        · rw [if_pos hn]
          have hpos : 0 < dv u := by
            rcases h2 with e | e
            · exact absurd ⟨e, hn⟩ hz
            · exact dv_pos h1 e
          rw [if_pos (by omega), Int.natAbs_neg, Int.natAbs_natCast, hc, hb, if_pos hn, hu]; rfl
        · rw [if_neg hn, if_neg (by omega), Int.natAbs_natCast, hc, hb, if_neg hn, hu]; rfl
  · rename_i u d hs
    rw [hs] at hj
    split at h
    · cases h
    · rename_i hbad
      split at h
      · cases h
      · rename_i hz
        split at h
        · cases h
        · rename_i h2d
          split at h
          · cases h
          · rename_i hg
            cases h
            rw [Bool.not_eq_true, Bool.or_eq_false_iff] at hbad
            obtain ⟨u1, u2⟩ := bad_ok hbad.1
            obtain ⟨d1, d2⟩ := bad_ok hbad.2
            have cu := canon u1 u2
            have cd := canon d1 d2
            have upos : 0 < dv u := by
              rcases u2 with e | e
              · exact absurd e hz
              · exact dv_pos u1 e
            have hg' : Nat.gcd (dv u) (dv d) = 1 := by omega
            have hbody : u ++ ([47] ++ d) = body l := hj
            have core : ∀ n : Int, n.natAbs = dv u → (Rat.divInt n (dv d : Int)).num = n ∧ (Rat.divInt n (dv d : Int)).den = dv d := by
              intro n hn
              have hgg : Int.gcd (dv d : Int) n = 1 := by
                rw [Int.gcd_eq_natAbs_gcd_natAbs, hn, Int.natAbs_natCast, Nat.gcd_comm]; exact hg'
              constructor
              · rw [Rat.num_divInt, hgg, Int.sign_eq_one_of_pos (by omega)]; simp
              · rw [Rat.den_divInt, if_neg (by omega), hgg]; simp
            by_cases hn : l.head? = some 45
            · rw [if_pos hn]
              obtain ⟨e1, e2⟩ := core (-(dv u : Int)) (by omega)
              unfold txR
              rw [e1, e2, if_neg (by omega)]
              unfold txN
              rw [if_pos (by omega), Int.natAbs_neg, Int.natAbs_natCast, cu, cd, hb, if_pos hn, ← hbody]
              simp
            · rw [if_neg hn]
              obtain ⟨e1, e2⟩ := core (dv u : Int) (by omega)
              unfold txR
              rw [e1, e2, if_neg (by omega)]
              unfold txN
              rw [if_neg (by omega), Int.natAbs_natCast, cu, cd, hb, if_neg hn, ← hbody]
              simp
  · cases h
theorem par_app (n : Int) (r : List Nat) : TL.par [47] [] (txN n ++ 47 :: r) = some (txN n, r) := TL.par_part1 (s := 47) (S := []) (acc := []) (free47 n)
theorem sgn_abs (n : Int) : (if n < 0 then -((n.natAbs : Nat) : Int) else ((n.natAbs : Nat) : Int)) = n := by split <;> omega
theorem head_txR (q : Rat) : ((txR q).head? = some 45) ↔ q.num < 0 := by
  rw [← txN_head]
  unfold txR
  have := txN_ne q.num
  cases e : txN q.num with
  | nil => exact absurd e this
  | cons a r => simp
/-- B: the package reads what it writes -/
theorem rdP_text (q : Rat) : rdP (txR q) = some q := by
  by_cases h1 : q.den = 1
  · have e : txR q = txN q.num := by unfold txR; rw [if_pos h1, List.append_nil]
    have hp : TL.par [47] [] (txN q.num) = none := TL.par_none1 (s := 47) (S := []) (free47 _)
    have hq : Rat.divInt (dv (TL.numL q.num.natAbs) : Int) (dv [49] : Int) = ((q.num.natAbs : Nat) : Rat) := by
      rw [dv_numL]
      show Rat.divInt _ 1 = _
      rw [int_divInt]; rfl
    have hqq : (if (txN q.num).head? = some 45 then -((q.num.natAbs : Nat) : Rat) else ((q.num.natAbs : Nat) : Rat)) = q := by
      have hqn : q = ((q.num : Int) : Rat) := Rat.ext (by simp) (by simp [h1])
      by_cases hn : q.num < 0
      · rw [if_pos ((txN_head _).mpr hn)]
        conv => rhs; rw [hqn]
        rw [show q.num = -((q.num.natAbs : Nat) : Int) by omega]
        simp
        rfl
      · rw [if_neg (fun z => hn ((txN_head _).mp z))]
        conv => rhs; rw [hqn]
        rw [show q.num = ((q.num.natAbs : Nat) : Int) by omega]
        simp
        rfl
    unfold rdP
    rw [e, hp]
    simp only [Option.getD_none, Option.isSome_none, Bool.false_eq_true, if_false, body_txN, dig_numL, hq, hqq, e]
    simp [dig, dg]
  · have e : txR q = txN q.num ++ 47 :: TL.numL q.den := by unfold txR; rw [if_neg h1]
    have hp := par_app q.num (TL.numL q.den)
    have hd := numL_head q.den_pos
    have hq : Rat.divInt (dv (TL.numL q.num.natAbs) : Int) (dv (TL.numL q.den) : Int) = Rat.divInt ((q.num.natAbs : Nat) : Int) ((q.den : Nat) : Int) := by rw [dv_numL, dv_numL]
    have hqq : (if (txN q.num).head? = some 45 then -(Rat.divInt ((q.num.natAbs : Nat) : Int) ((q.den : Nat) : Int)) else Rat.divInt ((q.num.natAbs : Nat) : Int) ((q.den : Nat) : Int)) = q := by
      by_cases hn : q.num < 0
      · rw [if_pos ((txN_head _).mpr hn), Rat.neg_divInt, show -((q.num.natAbs : Nat) : Int) = q.num by omega, Rat.num_divInt_den]
      · rw [if_neg (fun z => hn ((txN_head _).mp z)), show ((q.num.natAbs : Nat) : Int) = q.num by omega, Rat.num_divInt_den]
    unfold rdP
    rw [e, hp]
    simp only [Option.getD_some, Option.isSome_some, if_true, body_txN, dig_numL, hq, hqq, e]
    simp [hd]
/-- D: so does the law -/
theorem rdL_of (q : Rat) : rdL (txR q) = some q := by
  have hh := head_txR q
  by_cases h1 : q.den = 1
  · have e : txR q = txN q.num := by unfold txR; rw [if_pos h1, List.append_nil]
    have hs : TL.spl [47] 0 [] (body (txR q)) = [TL.numL q.num.natAbs] := by
      rw [e, body_txN]
      exact TL.spl_last1 (s := 47) (S := []) (free47N _)
    unfold rdL
    rw [hs]
    simp only [bad_numL, Bool.false_eq_true, if_false]
    have hz : ¬ (TL.numL q.num.natAbs = [48] ∧ (txR q).head? = some 45) := fun z => by
      have := numL_zero z.1
      have := hh.mp z.2
      omega
    rw [if_neg hz, dv_numL]
    have hqn : q = ((q.num : Int) : Rat) := Rat.ext (by simp) (by simp [h1])
    congr 1
    conv => rhs; rw [hqn]
    congr 1
    by_cases hn : q.num < 0
    · rw [if_pos (hh.mpr hn)]; omega
    · rw [if_neg (fun z => hn (hh.mp z))]; omega
  · have e : txR q = txN q.num ++ 47 :: TL.numL q.den := by unfold txR; rw [if_neg h1]
    have hb : body (txR q) = TL.numL q.num.natAbs ++ 47 :: TL.numL q.den := by
      rw [e]
      unfold body txN
      by_cases hn : q.num < 0
      · rw [if_pos hn]; simp
      · rw [if_neg hn]
        have h2 := TL.numL_ne q.num.natAbs
        have h3 := numL_head45 q.num.natAbs
        cases ee : TL.numL q.num.natAbs with
        | nil => exact absurd ee h2
        | cons x r =>
          rw [ee] at h3
          rw [if_neg (by simpa using h3)]
    have hs : TL.spl [47] 0 [] (body (txR q)) = [TL.numL q.num.natAbs, TL.numL q.den] := by
      rw [hb]
      have s1 := TL.spl_part1 (s := 47) (S := []) (acc := []) (rest := TL.numL q.den) (free47N q.num.natAbs)
      have s2 := TL.spl_last1 (s := 47) (S := []) (acc := []) (free47N q.den)
      rw [s2] at s1
      exact s1
    unfold rdL
    rw [hs]
    simp only [bad_numL, Bool.or_self, Bool.false_eq_true, if_false]
    have hz : ¬ TL.numL q.num.natAbs = [48] := fun z => by
      have h0 : q.num = 0 := by have := numL_zero z; omega
      have hr := q.reduced
      rw [h0] at hr
      simp at hr
      exact h1 hr
    have hd2 : ¬ dv (TL.numL q.den) < 2 := by rw [dv_numL]; have := q.den_pos; omega
    have hg : ¬ Nat.gcd (dv (TL.numL q.num.natAbs)) (dv (TL.numL q.den)) ≠ 1 := by rw [dv_numL, dv_numL]; exact fun z => z q.reduced
    rw [if_neg hz, if_neg hd2, if_neg hg, dv_numL, dv_numL]
    congr 1
    conv => rhs; rw [← Rat.num_divInt_den q]
    congr 1
    by_cases hn : q.num < 0
    · rw [if_pos (hh.mpr hn)]; omega
    · rw [if_neg (fun z => hn (hh.mp z))]; omega
theorem rdP_some {l : List Nat} {q : Rat} (h : rdP l = some q) : txR q = l := by
  unfold rdP at h
  dsimp only at h
  rw [Option.ite_none_right_eq_some] at h
  obtain ⟨_, h⟩ := h
  rw [Option.ite_none_right_eq_some] at h
  obtain ⟨e, h⟩ := h
  cases h
  exact e
theorem rd_eq (l : List Nat) : rdP l = rdL l := by
  cases h : rdL l with
  | some q => rw [← rdL_text h]; exact rdP_text q
  | none =>
    cases h2 : rdP l with
    | none => rfl
    | some q =>
      have := rdP_some h2
      rw [← this, rdL_of] at h
      cases h
/-! ### texts in the readings -/
def rAdS : R2 := fun x y H Q => ∃ i j, x = .str i ∧ y = .str j ∧ i.length + j.length ≤ sizeLine ∧ Q (.str (i ++ j)) H
theorem op_adS {X : Cx} : OpR X (binaryOp .Add) rAdS := op_add_str
def rStrI : List V → Hp → VK → Prop := fun xs H Q => ∃ i, xs = [.int i] ∧ i.natAbs.log2 < 1920 ∧ Q (.str (toString i)) H
theorem cr_strI {X : Cx} : CallR X (.type "str") rStrI := call_str_int
def rIntS : List V → Hp → VK → Prop := fun xs H Q => ∃ a n, xs = [.str a] ∧ PySem.intText? a = some n ∧ a.length ≤ 640 ∧ Q (.int n) H
theorem cr_intS {X : Cx} : CallR X (.type "int") rIntS := call_int_str
def rLenS : List V → Hp → VK → Prop := fun xs H Q => ∃ z, xs = [.str z] ∧ z.length ≤ sizeLine ∧ Q (.int z.length) H
theorem call_lenS {X : Cx} : CallR X (.builtin "len") rLenS := by
  intro pins s σ H xs us Q I r h
  obtain ⟨z, e, hz, q⟩ := h
  exact call_len_str pins s σ H xs us Q I r ⟨z, e, hz, q⟩
theorem str_S (n : Int) : (toString n : String).toList.map Char.toNat = txN n := by
  cases n with
  | ofNat m =>
    have h := congrArg (fun x : Str => x.cps.toList) (num_S m)
    have h2 : (Str.ofString (toString ((m : Nat) : Int))).cps.toList = (toString ((m : Nat) : Int) : String).toList.map Char.toNat := PyProof.Rows.signs_ofString _
    unfold txN
    show (toString ((m : Nat) : Int) : String).toList.map Char.toNat = if ((m : Nat) : Int) < 0 then 45 :: TL.numL (Int.natAbs ((m : Nat) : Int)) else TL.numL (Int.natAbs ((m : Nat) : Int))
    rw [if_neg (show ¬ ((m : Nat) : Int) < 0 by omega)]
    rw [← h2, Int.natAbs_natCast]
    exact h
  | negSucc m =>
    have h := congrArg (fun x : Str => x.cps.toList) (num_S (m + 1))
    have h2 : (Str.ofString (toString (((m + 1 : Nat)) : Int))).cps.toList = (toString (((m + 1 : Nat)) : Int) : String).toList.map Char.toNat := PyProof.Rows.signs_ofString _
    have e : (toString (Int.negSucc m) : String) = "-" ++ (toString (((m + 1 : Nat)) : Int) : String) := rfl
    unfold txN
    rw [if_pos (by omega), e, String.toList_append, List.map_append, ← h2]
    have h3 : (Str.ofString (toString (((m + 1 : Nat)) : Int))).cps.toList = TL.numL (m + 1) := h
    rw [h3]
    rfl
theorem strS (n : Int) : (Str.ofString (toString n) : Str) = S (txN n) := TL.ext_tl ((PyProof.Rows.signs_ofString _).trans (str_S n))
section
variable {K : PySem.W.Frag} {σ : L2.St} {H : Hp} {Q : VK} {D : Ends} {ta te : TE}
theorem g_m0 {r : V → List V → Hp → VK → Prop} (q : te σ H fun x H1 => (∃ a, x = .str a) ∧ r x [] H1 Q) : tM0 r te σ H Q := q
theorem g_m1 {r : V → List V → Hp → VK → Prop} (q : ta σ H fun x H1 => (∃ a, x = .str a) ∧ te σ H1 fun y H2 => r x [y] H2 Q) : tM1 r ta te σ H Q := q
theorem g_isS {z : Str} {A : Prop} (q : A) : (∃ a, V.str z = .str a) ∧ A := ⟨⟨z, rfl⟩, q⟩
theorem g_adS {a b : List Nat} (h : a.length + b.length ≤ 100000) (q : Q (.str (S (a ++ b))) H) : rAdS (.str (S a)) (.str (S b)) H Q :=
  ⟨S a, S b, rfl, rfl, by rw [S_len, S_len]; exact Nat.le_trans h (by decide), by rw [S_cat]; exact q⟩
theorem g_strI {n : Int} (h : n.natAbs < 2 ^ 240) (q : Q (.str (S (txN n))) H) : rStrI [.int n] H Q :=
  ⟨n, rfl, by
    by_cases h0 : n.natAbs = 0
    · rw [h0]; decide
    · exact Nat.lt_of_lt_of_le ((Nat.log2_lt h0).mpr h) (by decide), by
    have e := strS n
    show Q (.str (Str.ofString (toString n))) H
    rw [e]; exact q⟩
theorem g_intS {l : List Nat} (h : dig l = true) (hl : l.length ≤ 600) (q : Q (.int ((dv l : Nat) : Int)) H) : rIntS [.str (S l)] H Q := by
  have hne : l ≠ [] := fun e => by subst e; simp [dig] at h
  have ha : l.all dg = true := by
    unfold dig at h
    rw [Bool.and_eq_true] at h
    exact h.2
  exact ⟨S l, _, rfl, int_S ha hne (by omega), by rw [S_len]; omega, q⟩
theorem g_lenS {l : List Nat} (hl : l.length ≤ 100000) (q : Q (.int (l.length : Int)) H) : rLenS [.str (S l)] H Q :=
  ⟨S l, rfl, by rw [S_len]; exact Nat.le_trans hl (by decide), by rw [S_len]; exact q⟩
theorem g_app {p : Addr} {xs : List V} {y : V} (h : H p = some (.lst xs)) (hl : xs.length ≤ 100000) (q : Q .non (upd H p (.lst (xs ++ [y])))) : rAppend (.ref p) [y] H Q := ⟨p, xs, y, rfl, rfl, h, Nat.lt_of_le_of_lt hl (by decide), q⟩
theorem g_bm {T : String} {r : V → List V → Hp → VK → Prop} {t : TA} (q : te σ H fun x H1 => tyV K T x H1 ∧ t σ H1 fun xs H2 => r x xs H2 Q) : tBM K T r te t σ H Q := q
theorem tyL {p : Addr} {xs : List V} (h : H p = some (.lst xs)) : tyV K "list" (.ref p) H := .inl ⟨rfl, _, SqL.of h⟩
theorem g_revL (q : te σ H fun x H1 => ∃ a xs, x = .ref a ∧ SqL K H1 a xs ∧ ∀ p, H1 p = none → Q (.ref p) (upd H1 p (.lst xs.reverse))) : tRevL K te σ H Q := q
theorem while_no {c : TT} {tb : TS} (h : c σ H fun b H1 => b = false ∧ H1 = H) (mono : ∀ σ H (Q Q' : Bool → Hp → Prop), (∀ b H1, Q b H1 → Q' b H1) → c σ H Q → c σ H Q') (q : D.nx σ H) : tWhile c tb D σ H := by
  refine ⟨fun m σ' H' => σ' = σ ∧ H' = H, ⟨0, rfl, rfl⟩, ?_⟩
  rintro m σ' H' ⟨rfl, rfl⟩
  refine mono _ _ _ _ (fun b H1 hb => ?_) h
  obtain ⟨rfl, rfl⟩ := hb
  rw [if_neg Bool.false_ne_true]
  exact q
end
theorem isDigit_ascii : ∀ c, c < 128 → Unicode.isDigit c = dg c := by decide +kernel
theorem isdig_eq (l : List Nat) : (if Txt.isascii (S l) = true then Txt.isdigit (S l) else false) = dig l := by
  have ea : Txt.isascii (S l) = l.all (· < 128) := by unfold Txt.isascii; rw [← Array.all_toList]
  have ed : Txt.isdigit (S l) = (decide (0 < l.length) && l.all Unicode.isDigit) := by unfold Txt.isdigit; rw [← Array.all_toList, S_len]
  rw [ea, ed]
  have en : decide (0 < l.length) = !l.isEmpty := by cases l <;> simp
  rw [en]
  by_cases h : l.all (· < 128) = true
  · rw [if_pos h]
    unfold dig
    congr 1
    rw [List.all_eq_true] at h
    have : ∀ c ∈ l, Unicode.isDigit c = dg c := fun c hc => isDigit_ascii c (by simpa using h c hc)
    clear h ea ed en
    induction l with
    | nil => rfl
    | cons a r ih =>
      rw [List.all_cons, List.all_cons, this a (List.mem_cons_self ..), ih fun c hc => this c (List.mem_cons_of_mem _ hc)]
  · rw [if_neg h]
    unfold dig
    have : l.all dg = false := by
      cases e : l.all dg with
      | false => rfl
      | true =>
        refine absurd ?_ h
        rw [List.all_eq_true] at e ⊢
        intro c hc
        have := e c hc
        simp [dg] at this
        simp; omega
    rw [this]; simp
theorem remove_S (l : List Nat) : Txt.removeprefix (S l) (S [45]) = S (body l) := by
  rw [StrLaws.removeprefix_eq]
  have e : (decide (0 + (S [45]).length ≤ (S l).length) && Builtin.Str.subAt (S l) (S [45]) 0) = decide (l.head? = some 45) := by
    cases l with
    | nil => rfl
    | cons a r =>
      rw [S_len, S_len]
      have h1 : decide (0 + [45].length ≤ (a :: r).length) = true := by simp
      rw [h1, Bool.true_and]
      unfold Builtin.Str.subAt
      show ((S (a :: r)).cps.extract 0 (0 + 1) == #[45]) = _
      have : (S (a :: r)).cps.extract 0 (0 + 1) = #[a] := by
        show (a :: r).toArray.extract 0 1 = #[a]
        simp
      rw [this]
      by_cases h : a = 45
      · subst h; simp
      · simp [h]
  rw [e]
  unfold body
  by_cases h : l.head? = some 45
  · rw [if_pos (by simp [h]), if_pos h]
    rw [S_len, S_len]
    cases l with
    | nil => simp at h
    | cons a r => simp
  · rw [if_neg (by simp [h]), if_neg h]
theorem starts_S (l : List Nat) (c : Nat) : Txt.startswith (S l) (S [c]) = decide (l.head? = some c) := by
  cases l with
  | nil => rfl
  | cons a r =>
    unfold Txt.startswith
    rw [S_len, S_len]
    have h1 : decide (0 + [c].length ≤ (a :: r).length) = true := by simp
    rw [h1, Bool.true_and]
    unfold Builtin.Str.subAt
    show ((S (a :: r)).cps.extract 0 (0 + 1) == #[c]) = _
    have : (S (a :: r)).cps.extract 0 (0 + 1) = #[a] := by
      show (a :: r).toArray.extract 0 1 = #[a]
      simp
    rw [this]
    by_cases h : a = c
    · subst h; simp
    · simp [h]
theorem cut_to (l : List Nat) (k : Nat) : cutS (S l) none (some (k : Int)) = S (l.take k) := by
  unfold cutS
  rw [HT.sIx_none, HT.sIx_nat, S_len]
  show S ((l.drop 0).take (min k l.length - 0)) = S (l.take k)
  have e : List.take (min k l.length) l = List.take k l := List.take_eq_take_iff.mpr (by omega)
  rw [List.drop_zero, Nat.sub_zero, e]
theorem cut_from (l : List Nat) (k : Nat) : cutS (S l) (some (k : Int)) none = S (l.drop k) := by
  unfold cutS
  rw [HT.sIx_none, HT.sIx_nat, S_len]
  show S ((l.drop (min k l.length)).take (l.length - min k l.length)) = S (l.drop k)
  by_cases h : k ≤ l.length
  · rw [Nat.min_eq_left h, List.take_of_length_le (by rw [List.length_drop]; omega)]
  · rw [Nat.min_eq_right (by omega), List.drop_of_length_le (by omega), List.drop_of_length_le (by omega), List.take_nil]
section
variable {K : PySem.W.Frag} {σ : L2.St} {H : Hp} {Q : VK} {D : Ends} {ta te : TE} {tl th : TO}
theorem g_sl {r : V → Option Int → Option Int → Hp → VK → Prop} (q : te σ H fun x H1 => tl σ H1 fun l H2 => th σ H2 fun u H3 => r x l u H3 Q) : tSl r te tl th σ H Q := q
theorem g_nopart {W : Option Int → Hp → Prop} (q : W none H) : tNoPart σ H W := q
theorem g_part {W : Option Int → Hp → Prop} (q : te σ H fun x H1 => ∃ i, x = .int i ∧ W (some i) H1) : tPart te σ H W := q
theorem g_exI {W : Int → Prop} {i : Int} (q : W i) : ∃ j, V.int i = .int j ∧ W j := ⟨i, rfl, q⟩
theorem g_slS {l m : List Nat} {lo hi : Option Int} (hl : l.length ≤ 100000) (e : cutS (S l) lo hi = S m) (q : Q (.str (S m)) H) : rSlS (.str (S l)) lo hi H Q :=
  ⟨S l, rfl, by rw [S_len]; exact Nat.le_trans hl (by decide), by rw [e]; exact q⟩
theorem g_iteC {p : Prop} [Decidable p] {v w u : V} (h1 : p → v = u) (h2 : ¬ p → w = u) (q : Q u H) : if decide p = true then tC v σ H Q else tC w σ H Q := by
  by_cases h : p
  · rw [decide_eq_true h, if_pos rfl, h1 h]; exact q
  · rw [decide_eq_false h, if_neg Bool.false_ne_true, h2 h]; exact q
end
theorem rg_none : ∀ n, n < 60 → RgC (n : Nat) (n : Nat) 60 0 := fun n hn => by
  have h : ∀ n, n < 60 → (Builtin.Range.small ((n : Nat) : Int) ((n : Nat) : Int) 60 = true ∧ Builtin.Range.rangeSize ((n : Nat) : Int) ((n : Nat) : Int) 60 = ((0 : Nat) : Int)) := by decide
  exact ⟨by decide, by decide, (h n hn).1, (h n hn).2⟩
theorem txR_one {q : Rat} (h : ((q.den : Nat) : Int) = 1) : txR q = txN q.num := by unfold txR; rw [if_pos (by omega), List.append_nil]
theorem txR_more {q : Rat} (h : ¬ ((q.den : Nat) : Int) = 1) : txR q = txN q.num ++ 47 :: TL.numL q.den := by unfold txR; rw [if_neg (by omega)]
theorem txN_abs (n : Int) : (if n < 0 then [45] else []) ++ TL.numL n.natAbs = txN n := by unfold txN; split <;> rfl
theorem dig0 {l : List Nat} (h : dig l = true) : dig (48 :: l) = true := by
  unfold dig at h ⊢
  rw [Bool.and_eq_true] at h
  rw [List.all_cons, h.2]; rfl
theorem dv0 (l : List Nat) : dv (48 :: l) = dv l := rfl
end Fm

set_option maxHeartbeats 2000000
namespace Fm
open PySem PySem.Spec PyProof.Rows L2
/-! ### loops and comprehensions by named parts -/
/-- what a for asks once its iterator J stands -/
def Lp (J : It) (g : TG) (tb : TS) (D : Ends) (σ : L2.St) (H : Hp) : Prop := tFor (fun _ H R => R J H) g tb D σ H
/-- what a comprehension asks once its iterator J stands -/
def Cp (J : It) (g : TG) (tt : TT) (te : TE) (vs : List Nat) (σ : L2.St) (H : Hp) (Q : VK) : Prop := tLc (fun _ H R => R J H) g tt te vs σ H Q
section
variable {K : PySem.W.Frag} {σ : L2.St} {H : Hp} {Q : VK} {D : Ends} {g : TG} {tb : TS} {tt : TT} {te tl : TE} {ta : TA} {vs : List Nat} {wi : TI} {R : It → Hp → Prop}
theorem g_for (q : wi σ H fun J H1 => Lp J g tb D σ H1) : tFor wi g tb D σ H := q
theorem g_lc (q : wi σ H fun J H1 => Cp J g tt te vs σ H1 Q) : tLc wi g tt te vs σ H Q := q
theorem g_ilist (q : tl σ H fun x H1 => ∃ a, x = .ref a ∧ (∃ xs, SqL K H1 a xs) ∧ R (Itl K a) H1) : iList K tl σ H R := q
theorem g_itup (q : tl σ H fun x H1 => ∃ a, x = .ref a ∧ (∃ xs, SqT K H1 a xs) ∧ R (Itt K a) H1) : iTup K tl σ H R := q
theorem g_rng1 (q : ta σ H fun vs H1 => ∃ j : Int, vs = [.int j] ∧ -(2 ^ 62) ≤ j ∧ j < 2 ^ 62 ∧ R (Itr 0 j.toNat) H1) : iRng1 ta σ H R := q
theorem g_rng3 (q : ta σ H fun vs H1 => ∃ (i j c : Int) (n : Nat), vs = [.int i, .int j, .int c] ∧ RgC i j c n ∧ R (Itc i c n) H1) : iRng3 ta σ H R := q
theorem g_rng1k {n : Nat} (h : n ≤ 1000000) {W : Nat → Prop} (q : W n) : ∃ j : Int, [V.int (n : Int)] = [.int j] ∧ -(2 ^ 62) ≤ j ∧ j < 2 ^ 62 ∧ W j.toNat := ⟨n, rfl, by omega, by omega, by rw [Int.toNat_natCast]; exact q⟩
theorem lp_C {lo c : Int} {n : Nat} (Pv : Nat → L2.St → Hp → Prop) (h0 : Pv 0 σ H)
    (hs : ∀ i σ H, i < n → Pv i σ H → g (.int (lo + (i : Nat) * c)) σ H fun s2 H2 => tb { D with nx := Pv (i + 1), ct := Pv (i + 1), bk := D.nx } s2 H2) (hd : ∀ σ H, Pv n σ H → D.nx σ H) : Lp (Itc lo c n) g tb D σ H := for_rangeC Pv h0 hs hd
theorem lp_R {lo : Int} {n : Nat} (Pv : Nat → L2.St → Hp → Prop) (h0 : Pv 0 σ H)
    (hs : ∀ i σ H, i < n → Pv i σ H → g (.int (lo + i)) σ H fun s2 H2 => tb { D with nx := Pv (i + 1), ct := Pv (i + 1), bk := D.nx } s2 H2) (hd : ∀ σ H, Pv n σ H → D.nx σ H) : Lp (Itr lo n) g tb D σ H := for_range Pv h0 hs hd
theorem lp_L {a : Addr} {xs : List V} (Pv : Nat → L2.St → Hp → Prop) (h0 : Pv 0 σ H) (hl : ∀ i σ H, i ≤ xs.length → Pv i σ H → SqL K H a xs)
    (hs : ∀ i x σ H, xs[i]? = some x → Pv i σ H → g x σ H fun s2 H2 => tb { D with nx := Pv (i + 1), ct := Pv (i + 1), bk := D.nx } s2 H2) (hd : ∀ σ H, Pv xs.length σ H → D.nx σ H) : Lp (Itl K a) g tb D σ H := for_list Pv h0 hl hs hd
theorem lp_T {a : Addr} {xs : List V} (Pv : Nat → L2.St → Hp → Prop) (h0 : Pv 0 σ H) (hl : ∀ i σ H, i ≤ xs.length → Pv i σ H → SqT K H a xs)
    (hs : ∀ i x σ H, xs[i]? = some x → Pv i σ H → g x σ H fun s2 H2 => tb { D with nx := Pv (i + 1), ct := Pv (i + 1), bk := D.nx } s2 H2) (hd : ∀ σ H, Pv xs.length σ H → D.nx σ H) : Lp (Itt K a) g tb D σ H := for_tup Pv h0 hl hs hd
/-- one turn of a comprehension: the item x is taken, the element put behind -/
def Turn (g : TG) (tt : TT) (te : TE) (vs : List Nat) (σ : L2.St) (D : Addr) (N : Hp → Prop) (x : V) (H : Hp) : Prop := g x (wipe σ vs) H fun s2 H2 => wipe s2 vs = wipe σ vs ∧ tt s2 H2 fun b H3 =>
  if b = true then te s2 H3 fun y H4 => ∃ acc, H4 D = some (.lst acc) ∧ acc.length < sizeLine ∧ N (upd H4 D (.lst (acc ++ [y]))) else N H3
theorem cp_R {lo : Int} {n : Nat} (Pv : Addr → Nat → Hp → Prop) (h0 : ∀ D, H D = none → Pv D 0 (upd H D (.lst [])))
    (hs : ∀ D, H D = none → ∀ i H', i < n → Pv D i H' → Turn g tt te vs σ D (Pv D (i + 1)) (.int (lo + i)) H') (hd : ∀ D, H D = none → ∀ H', Pv D n H' → Q (.ref D) H') : Cp (Itr lo n) g tt te vs σ H Q :=
  fun D hD => lc_range (Pv D) (h0 D hD) (hs D hD) (hd D hD)
theorem cp_L {a : Addr} {xs : List V} (Pv : Addr → Nat → Hp → Prop) (h0 : ∀ D, H D = none → Pv D 0 (upd H D (.lst []))) (hl : ∀ D, H D = none → ∀ i H', i ≤ xs.length → Pv D i H' → SqL K H' a xs)
    (hs : ∀ D, H D = none → ∀ i x H', xs[i]? = some x → Pv D i H' → Turn g tt te vs σ D (Pv D (i + 1)) x H') (hd : ∀ D, H D = none → ∀ H', Pv D xs.length H' → Q (.ref D) H') : Cp (Itl K a) g tt te vs σ H Q :=
  fun D hD => lc_list (Pv D) (h0 D hD) (hl D hD) (hs D hD) (hd D hD)
theorem g_yes {W : Bool → Hp → Prop} (q : W true H) : tYes σ H W := q
end
/-- a walk of what may be a list or a tuple -/
theorem pi_seq {X : Cx} {tg l : Expr} {tl : TE} (hl : PE X l tl) : PI X tg l (fun σ H R => iList X.K tl σ H R ∨ iTup X.K tl σ H R) := by
  refine ⟨fun pins s σ H R I h => ?_⟩
  rcases h with h | h
  · exact (pi_list hl).run pins s σ H R I h
  · exact (pi_tup hl).run pins s σ H R I h
end Fm

set_option maxHeartbeats 2000000
namespace Fm
open PySem PySem.Spec PyProof.Rows L2
/-! ### own errors -/
def veMro : List Value := [.type "ValueError", .type "Exception", .type "BaseException", .type "object"]
/-- an error class of the text without an own __init__ -/
structure XC (K : PySem.W.Frag) (C : Addr) : Prop where
  ex : PySem.W.excIn K C [.type "ValueError", .type "Exception", .type "BaseException", .type "object"] "ValueError.__new__" = true
  kp : PySem.W.keepIn K (.ref C) = true
  bx : PySem.W.subIn K (.ref C) (.type "BaseException") = some true
  ty : PySem.W.typeIn K (.ref C) = some (.type "type")
  cls : PySem.W.isClsIn K C = true
  sub : PySem.W.subIn K (.ref C) (.ref C) = some true
/-- X() -/
theorem pmk_own0 {X : Cx} {C : Addr} {bmB : List Value} {B newId initId : String} {x : Str} {p pos : Pos} (F : ExcBaseFacts B newId initId bmB) (q : PySem.W.excIn X.K C bmB newId = true) (gC : X.mg x = some (.ref C))
    (kC : PySem.W.keepIn X.K (.ref C) = true) (r : Raises X (.ref C)) (hg : Gl X x) (hdb : (x == ("__debug__" : Str)) = false := by decide) : PMk X (.Call (.Name x p) [] [] pos) (fun _ H Q => Q (.ref C) none H) := by
  intro pins s σ H Q I h
  refine wpAny_Call_Name_kw (ld_glob I hg gC ?_ hdb)
  refine PySem.W.callWith_K0 I.kIn kC ?_
  obtain ⟨bm, N, nm, qn, bs, hdct, sn, sub, ab, col, dd, k0, k1, k2, k3, k5, mN, hC, hN, hni, T⟩ := exc_obj I.kIn q
  refine wpAny_call_exc_subT F T hC hN hni (fun h' e hm => ?_) (by show 0 ≤ sizeLine; exact Nat.zero_le _)
  exact mk_of I hm r h (I.hok.gone hm.new)
theorem ps_raise0 {X : Cx} {W : WX} {C : Addr} {x : Str} {p pos pos2 : Pos} (hc : X.calm = true) (tk : Takes X W) (T : XC X.K C) (gC : X.mg x = some (.ref C)) (hg : Gl X x) (hdb : (x == ("__debug__" : Str)) = false := by decide) :
    PS X (.Raise (some (.Call (.Name x p) [] [] pos)) none pos2) (fun _ σ H => W (.ref C) none σ H) :=
  ps_raise hc tk (pmk_own0 PySem.F.excBase_ValueError T.ex gC T.kp (raises_own T.bx T.ty) hg hdb)
section
variable {K : PySem.W.Frag} {σ : L2.St} {H : Hp} {Q : VK} {C : Addr} {v : V} {q : Rat} {N : L2.St → Hp → Prop} {E : XK}
theorem g_gtup {n : Nat} {t : TGs} {p : Addr} {xs : List V} (h : SqT K H p xs) (hl : xs.length = n) (k : t xs σ H N) : gTup K n t (.ref p) σ H N := ⟨p, xs, rfl, h, hl, k⟩
theorem g_gcons {t : TG} {u : TGs} {r : List V} (k : t v σ H fun s1 H1 => u r s1 H1 N) : gCons t u (v :: r) σ H N := ⟨v, r, rfl, k⟩
theorem g_gnil (k : N σ H) : gNil [] σ H N := ⟨rfl, k⟩
theorem g_methR {m : Str} {W : Prop} (h : RatV C H v q) (h1 : ¬ m = "bottom") (h2 : ¬ m = "top") (k : W) : ∃ a dx fs, v = .ref a ∧ H a = some (.ins C dx fs) ∧ fs.lookup m = none ∧ W := by
  obtain ⟨p, rfl, dx, hp⟩ := h
  exact ⟨p, dx, _, rfl, hp, flR_no q h1 h2, k⟩
theorem g_neg {k : Nat} (h : RatV C H v q) (sz : Sz k q) (hk : k ≤ 3000) (z : ∀ u H', Ex H H' → RatV C H' u (-q) → Q u H') : rOwnU C (spNum1 C (- ·)) E v H Q := ⟨h.inst, use_num1 h sz hk z⟩
theorem g_own {sp : Sp} {y : V} (h : RatV C H v q) (hy : NumLike C y H) (z : sp [v, y] H Q E) : rOwn C sp E v y H Q := ⟨h.inst, hy, z⟩
theorem g_num2 {g : Rat → Rat → Rat} {y : V} {b : Rat} {k : Nat} (hx : RatV C H v q) (hy : NumV C H y b) (sa : Sz k q) (sb : Sz k b) (hk : k ≤ 3000) (z : ∀ u H', Ex H H' → RatV C H' u (g q b) → Q u H') : rOwn C (spNum2 C g) E v y H Q :=
  ⟨hx.inst, hy.like, use_num2 hx hy sa sb hk z⟩
theorem g_rel2 {g : Rat → Rat → Bool} {y : V} {b : Rat} {k : Nat} (R : RC K C) (hx : RatV C H v q) (hy : NumV C H y b) (sa : Sz k q) (sb : Sz k b) (hk : k ≤ 3000) (z : ∀ H', Ex H H' → Q (.bl (g q b)) H') : rCmpOwn K C (spRel2 C g) E v y H Q := by
  obtain ⟨t, ty, kt, _⟩ := ty_num R hy
  exact ⟨hx.inst, ⟨t, ty, not_first R kt⟩, use_rel2 hx hy sa sb hk z⟩
theorem g_eqN {y : V} {b : Rat} {k : Nat} (R : RC K C) (hx : RatV C H v q) (hy : NumV C H y b) (sb : Sz k b) (hk : k ≤ 3000) (z : ∀ H', Ex H H' → Q (.bl (decide (q = b))) H') : rCmpOwn K C (spEqV K C) E v y H Q := by
  obtain ⟨t, ty, kt, _⟩ := ty_num R hy
  exact ⟨hx.inst, ⟨t, ty, not_first R kt⟩, use_eqN hx hy sb hk z⟩
theorem g_eqO {y : V} {t : Value} (R : RC K C) (hx : RatV C H v q) (ty : TyX K H y t) (kt : KTy C t) (e : (t == .ref C || t == .type "int") = false) (z : ∀ H', Ex H H' → Q (.bl false) H') : rCmpOwn K C (spEqV K C) E v y H Q :=
  ⟨hx.inst, ⟨t, ty, not_first R kt⟩, use_eqO hx ty kt e z⟩
theorem g_neN {y : V} {b : Rat} {k : Nat} (R : RC K C) (hx : RatV C H v q) (hy : NumV C H y b) (sb : Sz k b) (hk : k ≤ 3000) (z : ∀ H', Ex H H' → Q (.bl (!decide (q = b))) H') : rNeOwn K C (spEqV K C) E v y H Q := by
  obtain ⟨t, ty, kt, _⟩ := ty_num R hy
  exact ⟨hx.inst, ⟨t, ty, not_first R kt⟩, use_eqN hx hy sb hk fun H' e => ⟨_, rfl, z H' e⟩⟩
end
theorem num_le {t b : Int} (h0 : b ≠ 0) : (Rat.divInt t b).num.natAbs ≤ t.natAbs ∧ (Rat.divInt t b).den ≤ b.natAbs := by
  have hg : b.gcd t = Nat.gcd t.natAbs b.natAbs := by rw [Int.gcd_eq_natAbs_gcd_natAbs, Nat.gcd_comm]
  have hp := gcd_pos (t := t) h0
  constructor
  · rw [← top_eq h0]
    have hd : sg t b ∣ t := by
      have : (((Nat.gcd t.natAbs b.natAbs : Nat)) : Int) ∣ t := Int.ofNat_dvd_left.mpr (Nat.gcd_dvd_left _ _)
      unfold sg; split
      · exact Int.neg_dvd.mpr this
      · exact this
    obtain ⟨c, hc⟩ := hd
    have hs := sg_ne (t := t) h0
    generalize sg t b = S at hc hs
    have h1 : 0 < S.natAbs := Int.natAbs_pos.mpr hs
    rw [hc, Int.mul_fdiv_cancel_left _ hs, Int.natAbs_mul]
    exact Nat.le_mul_of_pos_left _ h1
  · rw [Rat.den_divInt, if_neg h0]
    exact Nat.div_le_self _ _
theorem dv_lt : ∀ {l : List Nat}, dig l = true → dv l < 10 ^ l.length := by
  have key : ∀ (n : Nat) (l : List Nat), l.length = n → l.all dg = true → dv l < 10 ^ n := by
    intro n
    induction n with
    | zero =>
      intro l hl _
      have := List.eq_nil_of_length_eq_zero hl
      subst this
      exact (by decide : 0 < 10 ^ 0)
    | succ n ih =>
      intro l hl h
      rcases List.eq_nil_or_concat l with e | ⟨r, c, e⟩
      · subst e; simp at hl
      · rw [List.concat_eq_append] at e
        subst e
        have hr : r.all dg = true ∧ dg c = true := by simpa using h
        have hc : c ≤ 57 := by have := hr.2; simp [dg] at this; exact this.2
        have h1 := ih r (by simpa using hl) hr.1
        rw [dv_app, Nat.pow_succ]
        omega
  intro l h
  unfold dig at h
  rw [Bool.and_eq_true] at h
  exact key _ l rfl h.2
theorem dv_lt60 {l : List Nat} (h : dig l = true) (hl : l.length ≤ 60) : dv l < 10 ^ 60 := Nat.lt_of_lt_of_le (dv_lt h) (Nat.pow_le_pow_right (by decide) hl)
theorem neS {a b : List Nat} : decide (SX.S a = SX.S b) = decide (a = b) := decide_eq_decide.mpr ⟨SX.S_inj, fun h => by rw [h]⟩
theorem par_split {l p q : List Nat} : ∀ {acc : List Nat}, TL.par [47] acc l = some (p, q) → p ++ 47 :: q = acc ++ l := by
  induction l with
  | nil => intro acc h; cases h
  | cons c r ih =>
    intro acc h
    by_cases hc : TL.pre [47] (c :: r) = true
    · rw [TL.par_hit hc] at h
      have e : c = 47 := by simpa [TL.pre] using hc
      subst e
      cases h
      rfl
    · rw [TL.par_miss (by simpa using hc)] at h
      have := ih h
      rw [this]; simp
/-- the parts that the package reads: head, whether a stroke stands behind it, tail -/
def hd (l : List Nat) : List Nat := ((TL.par [47] [] l).getD (l, [])).1
def tlp (l : List Nat) : List Nat := ((TL.par [47] [] l).getD (l, [])).2
def strk (l : List Nat) : Bool := (TL.par [47] [] l).isSome
def bot (l : List Nat) : List Nat := if strk l = true then tlp l else [49]
theorem part_S (l : List Nat) : Txt.partition (SX.S l) (SX.S [47]) = (SX.S (hd l), SX.S (if strk l = true then [47] else []), SX.S (tlp l)) := by
  unfold hd tlp strk
  cases h : TL.par [47] [] l with
  | none => rw [SX.partition_none (by simp) h]; rfl
  | some pq =>
    obtain ⟨p, q⟩ := pq
    rw [SX.partition_some (by simp) h]; rfl
theorem part_len (l : List Nat) : (hd l).length ≤ l.length ∧ (tlp l).length ≤ l.length := by
  unfold hd tlp
  cases h : TL.par [47] [] l with
  | none => simp
  | some pq =>
    obtain ⟨p, q⟩ := pq
    have := congrArg List.length (par_split h)
    simp at this
    simp; omega
theorem body_len (l : List Nat) : (body l).length ≤ l.length := by
  unfold body; split
  · rw [List.length_tail]; omega
  · omega
theorem bot_len {l : List Nat} (h : l.length < 60) : (bot l).length < 60 := by
  have := (part_len l).2
  unfold bot; split
  · omega
  · decide
theorem rdP_eq (l : List Nat) : rdP l = if (dig (body (hd l)) && dig (bot l) && !decide ((bot l).head? = some 48)) = true then
    (let q := (if (hd l).head? = some 45 then -(Rat.divInt (dv (body (hd l))) (dv (bot l))) else Rat.divInt (dv (body (hd l))) (dv (bot l))); if txR q = l then some q else none) else none := rfl
theorem strk_dec (l : List Nat) : decide (SX.S (if strk l = true then [47] else []) = SX.S [47]) = strk l := by
  cases strk l with
  | true => simp
  | false =>
    rw [neS]; simp
theorem g_iteVC {σ : L2.St} {H : Hp} {Q : VK} {n : Nat} {b : Bool} {v w : V} (h : σ[n]? = some (some v)) (q : Q (if b = true then v else w) H) : if b = true then tVar n σ H Q else tC w σ H Q := by
  cases b with
  | true => exact ⟨v, h, q⟩
  | false => exact q
theorem use_initW {C : Addr} {H : Hp} {W : Addr → Hp → Prop} {E : XK} {t b : Int} {k : Nat} (hb : b ≠ 0) (h1 : t.natAbs < 2 ^ k) (h2 : b.natAbs < 2 ^ k) (hk : k ≤ 8000)
    (q : ∀ p H', Ex H H' → RatV C H' (.ref p) (Rat.divInt t b) → W p H') : ∀ x dx, H x = none → H dx = none → dx ≠ x → spInit C [.ref x, .int t, .int b] (upd (upd H dx (.own x)) x (.ins C dx [])) (fun v H2 => v = .non ∧ W x H2) E := by
  intro x dx hx hdx hne
  refine ⟨x, dx, t, b, k, rfl, hb, h1, h2, hk, upd_same, fun H' e hp => ⟨rfl, q _ _ (fun a o ha => ?_) ⟨x, rfl, dx, hp⟩⟩⟩
  refine e a o ?_ (ne_of_none ha hx)
  rw [upd_ne (ne_of_none ha hx), upd_ne (ne_of_none ha hdx)]
  exact ha
end Fm

set_option maxHeartbeats 2000000
/-! lists whose items have an own ==: equal or not, the heap may grow -/
namespace GQ
open PySem PySem.SeqAt
open AutoSeq1 (wpAny_loadPart')
open MeetsSeq MeetsSeq2 MeetsSeq3 SeqRoads2
section
variable {prog : Program} {w : World} {A : Around} {R : Result → Shared → Prop}
/-- two lists of N items each, read anew at each turn; the i-th two are equal as e i says -/
def LsB (prog : Program) (w : World) (A : Around) (E : Value → Shared → Prop) (l m : Addr) (N : Nat) (e : Nat → Bool) (J : Nat → Shared → Prop) : Prop :=
  ∀ i s, J i s → ∃ (xs ys : Array Value) (k j : Nat), s.heap.get? l = some { cls := .type "list", data := .seq xs k } ∧ s.heap.get? m = some { cls := .type "list", data := .seq ys j } ∧ xs.size = N ∧ ys.size = N ∧
    ∀ (h1 : i < xs.size) (h2 : i < ys.size), wpAny (model prog w) A.in1 (eqBool xs[i] ys[i]) (fun r s' => r = e i ∧ J (i + 1) s') E s
/-- whether the items from the i-th on are equal -/
def fromB (e : Nat → Bool) (N : Nat) : Nat → Nat → Bool
  | 0, _ => true
  | k + 1, i => e i && fromB e N k (i + 1)
theorem lb_eq {l m : Addr} {N : Nat} {e : Nat → Bool} {J : Nat → Shared → Prop} (hl : LsB prog w A (fun v s' => R (.error v) s') l m N e J) (k : Nat) : ∀ i : Nat, N - i = k → i ≤ N → ∀ s, J i s → (∀ t j, J j t → R (.ok (.ret (.bool (fromB e N k i)))) t) →
    wpAny (model prog w) A.in1 (Builtin.«list.__eq__.loop» ⟨[.ref l, .ref m, rawInt i, rawInt 2], []⟩) (FinOf prog w A R) (fun v s' => R (.error v) s') s := by
  induction k with
  | zero =>
    intro i hk hi s hJ fin
    obtain ⟨xs, ys, a, b, g1, g2, z1, z2, _⟩ := hl _ _ hJ
    have hR : R (.ok (.ret (.bool true))) s := fin s i hJ
    obtain ⟨h0, gn, dd, tk, os⟩ := s
    wp_walk using wpAny_loadPart' g1, wpAny_loadPart' g2
    have o1 : xs[((i : Nat) : Int).toNat]? = none := by simp; omega
    have o2 : ys[((i : Nat) : Int).toNat]? = none := by simp; omega
    rw [o1, o2]
    wp_walk using wpAny_loadPart' g1, wpAny_loadPart' g2
    show R (.ok (.ret (.bool (xs.size == ys.size)))) _
    rw [z1, z2, beq_self_eq_true]
    exact hR
  | succ k ih =>
    intro i hk hi s hJ fin
    obtain ⟨xs, ys, a, b, g1, g2, z1, z2, turn⟩ := hl _ _ hJ
    have l1 : i < xs.size := by omega
    have l2 : i < ys.size := by omega
    have ht := turn l1 l2
    obtain ⟨h0, gn, dd, tk, os⟩ := s
    wp_walk using wpAny_loadPart' g1, wpAny_loadPart' g2
    have o1 : xs[((i : Nat) : Int).toNat]? = some xs[i] := by simp [l1]
    have o2 : ys[((i : Nat) : Int).toNat]? = some ys[i] := by simp [l2]
    rw [o1, o2]
    refine wpAny_bind (wpAny_mono ht (fun r s2 q => ?_) fun _ _ x => x)
    obtain ⟨hr, q⟩ := q
    cases he : e i with
    | true =>
      rw [he] at hr
      subst hr
      have next := ih (i + 1) (by omega) (by omega) s2 q fun t j hj => by
        have f0 := fin t j hj
        unfold fromB at f0
        rw [he, Bool.true_and] at f0
        exact f0
      obtain ⟨h2, gn2, dd2, tk2, os2⟩ := s2
      wp_walk
      rw [show ((i : Int) + 1) = ((i + 1 : Nat) : Int) by omega]
      exact ⟨plainId_quiet plain_eq_loop _, codeAny_builtin entry_eq_loop (by rw [Around.under_plainId plain_eq_loop _]; exact next)⟩
    | false =>
      rw [he] at hr
      subst hr
      have f0 := fin s2 _ q
      unfold fromB at f0
      rw [he, Bool.false_and] at f0
      obtain ⟨xs2, ys2, a2, b2, g3, g4, z3, z4, _⟩ := hl _ _ q
      obtain ⟨h2, gn2, dd2, tk2, os2⟩ := s2
      wp_walk using wpAny_loadPart' g3, wpAny_loadPart' g4
      have o3 : xs2[((i : Nat) : Int).toNat]? = some (xs2[i]'(by omega)) := by simp
      have o4 : ys2[((i : Nat) : Int).toNat]? = some (ys2[i]'(by omega)) := by simp
      rw [o3, o4]
      wp_walk
      exact f0
theorem lb_ne {l m : Addr} {N : Nat} {e : Nat → Bool} {J : Nat → Shared → Prop} (hl : LsB prog w A (fun v s' => R (.error v) s') l m N e J) (k : Nat) : ∀ i : Nat, N - i = k → i ≤ N → ∀ s, J i s → (∀ t j, J j t → R (.ok (.ret (.bool (!fromB e N k i)))) t) →
    wpAny (model prog w) A.in1 (Builtin.«list.__eq__.loop» ⟨[.ref l, .ref m, rawInt i, rawInt 3], []⟩) (FinOf prog w A R) (fun v s' => R (.error v) s') s := by
  induction k with
  | zero =>
    intro i hk hi s hJ fin
    obtain ⟨xs, ys, a, b, g1, g2, z1, z2, _⟩ := hl _ _ hJ
    have hR : R (.ok (.ret (.bool false))) s := fin s i hJ
    obtain ⟨h0, gn, dd, tk, os⟩ := s
    wp_walk using wpAny_loadPart' g1, wpAny_loadPart' g2
    have o1 : xs[((i : Nat) : Int).toNat]? = none := by simp; omega
    have o2 : ys[((i : Nat) : Int).toNat]? = none := by simp; omega
    rw [o1, o2]
    wp_walk using wpAny_loadPart' g1, wpAny_loadPart' g2
    show R (.ok (.ret (.bool (xs.size != ys.size)))) _
    rw [z1, z2, bne_self_eq_false]
    exact hR
  | succ k ih =>
    intro i hk hi s hJ fin
    obtain ⟨xs, ys, a, b, g1, g2, z1, z2, turn⟩ := hl _ _ hJ
    have l1 : i < xs.size := by omega
    have l2 : i < ys.size := by omega
    have ht := turn l1 l2
    obtain ⟨h0, gn, dd, tk, os⟩ := s
    wp_walk using wpAny_loadPart' g1, wpAny_loadPart' g2
    have o1 : xs[((i : Nat) : Int).toNat]? = some xs[i] := by simp [l1]
    have o2 : ys[((i : Nat) : Int).toNat]? = some ys[i] := by simp [l2]
    rw [o1, o2]
    refine wpAny_bind (wpAny_mono ht (fun r s2 q => ?_) fun _ _ x => x)
    obtain ⟨hr, q⟩ := q
    cases he : e i with
    | true =>
      rw [he] at hr
      subst hr
      have next := ih (i + 1) (by omega) (by omega) s2 q fun t j hj => by
        have f0 := fin t j hj
        unfold fromB at f0
        rw [he, Bool.true_and] at f0
        exact f0
      obtain ⟨h2, gn2, dd2, tk2, os2⟩ := s2
      wp_walk
      rw [show ((i : Int) + 1) = ((i + 1 : Nat) : Int) by omega]
      exact ⟨plainId_quiet plain_eq_loop _, codeAny_builtin entry_eq_loop (by rw [Around.under_plainId plain_eq_loop _]; exact next)⟩
    | false =>
      rw [he] at hr
      subst hr
      have f0 := fin s2 _ q
      unfold fromB at f0
      rw [he, Bool.false_and] at f0
      obtain ⟨xs2, ys2, a2, b2, g3, g4, z3, z4, _⟩ := hl _ _ q
      obtain ⟨h2, gn2, dd2, tk2, os2⟩ := s2
      wp_walk using wpAny_loadPart' g3, wpAny_loadPart' g4
      have o3 : xs2[((i : Nat) : Int).toNat]? = some (xs2[i]'(by omega)) := by simp
      have o4 : ys2[((i : Nat) : Int).toNat]? = some (ys2[i]'(by omega)) := by simp
      rw [o3, o4]
      wp_walk
      exact f0
theorem lb_list {l m : Addr} {N : Nat} {e : Nat → Bool} {J : Nat → Shared → Prop} (hl : LsB prog w A (fun v s' => R (.error v) s') l m N e J) (fin : ∀ t j, J j t → R (.ok (.ret (.bool (fromB e N N 0)))) t) {s : Shared} (h : J 0 s) :
    wpAny (model prog w) A.in1 (Builtin.«list.__eq__» ⟨[.ref l, .ref m], []⟩) (FinOf prog w A R) (fun v s' => R (.error v) s') s := by
  obtain ⟨xs, ys, a, b, g1, g2, z1, z2, _⟩ := hl _ _ h
  have lap := lb_eq (A := A) (R := R) hl N 0 (by omega) (Nat.zero_le _) s h fin
  obtain ⟨h0, gn, dd, tk, os⟩ := s
  have f3 := AutoSeq1.sub_list_list
  have same : ¬ (xs.size != ys.size) = true := by simp [z1, z2]
  wp_walk using wpAny_loadPart' g1, wpAny_loadPart' g2
  exact ⟨plainId_quiet plain_eq_loop _, codeAny_builtin entry_eq_loop (by rw [Around.under_plainId plain_eq_loop _]; exact lap)⟩
theorem lb_listN {l m : Addr} {N : Nat} {e : Nat → Bool} {J : Nat → Shared → Prop} (hl : LsB prog w A (fun v s' => R (.error v) s') l m N e J) (fin : ∀ t j, J j t → R (.ok (.ret (.bool (!fromB e N N 0)))) t) {s : Shared} (h : J 0 s) :
    wpAny (model prog w) A.in1 (Builtin.«list.__ne__» ⟨[.ref l, .ref m], []⟩) (FinOf prog w A R) (fun v s' => R (.error v) s') s := by
  obtain ⟨xs, ys, a, b, g1, g2, z1, z2, _⟩ := hl _ _ h
  have lap := lb_ne (A := A) (R := R) hl N 0 (by omega) (Nat.zero_le _) s h fin
  obtain ⟨h0, gn, dd, tk, os⟩ := s
  have f3 := AutoSeq1.sub_list_list
  have same : ¬ (xs.size != ys.size) = true := by simp [z1, z2]
  wp_walk using wpAny_loadPart' g1, wpAny_loadPart' g2
  exact ⟨plainId_quiet plain_eq_loop _, codeAny_builtin entry_eq_loop (by rw [Around.under_plainId plain_eq_loop _]; exact lap)⟩
theorem lb_short {l m : Addr} {xs ys : Array Value} {k j : Nat} {s : Shared} (g1 : s.heap.get? l = some { cls := .type "list", data := .seq xs k }) (g2 : s.heap.get? m = some { cls := .type "list", data := .seq ys j }) (hz : (xs.size != ys.size) = true) (fin : R (.ok (.ret (.bool false))) s) :
    wpAny (model prog w) A.in1 (Builtin.«list.__eq__» ⟨[.ref l, .ref m], []⟩) (FinOf prog w A R) (fun v s' => R (.error v) s') s := by
  obtain ⟨h0, gn, dd, tk, os⟩ := s
  have f3 := AutoSeq1.sub_list_list
  wp_walk using wpAny_loadPart' g1, wpAny_loadPart' g2
  exact fin
theorem lb_shortN {l m : Addr} {xs ys : Array Value} {k j : Nat} {s : Shared} (g1 : s.heap.get? l = some { cls := .type "list", data := .seq xs k }) (g2 : s.heap.get? m = some { cls := .type "list", data := .seq ys j }) (hz : (xs.size != ys.size) = true) (fin : R (.ok (.ret (.bool true))) s) :
    wpAny (model prog w) A.in1 (Builtin.«list.__ne__» ⟨[.ref l, .ref m], []⟩) (FinOf prog w A R) (fun v s' => R (.error v) s') s := by
  obtain ⟨h0, gn, dd, tk, os⟩ := s
  have f3 := AutoSeq1.sub_list_list
  wp_walk using wpAny_loadPart' g1, wpAny_loadPart' g2
  exact fin
end
section
variable {prog : Program} {w : World} {A : Around} {E : Value → Shared → Prop} {s : Shared}
theorem rcB_eq {l m : Addr} {N : Nat} {e : Nat → Bool} {J : Nat → Shared → Prop} {Q : Value → Shared → Prop} (hu : A.units < cLine) (hl : LsB prog w A E l m N e J) (fin : ∀ t j, J j t → Q (.bool (fromB e N N 0)) t) (h : J 0 s) : wpAny (model prog w) A (richCompare .Eq (.ref l) (.ref m)) Q E s := by
  obtain ⟨xs, ys, a, b, g1, g2, _, _, _⟩ := hl _ _ h
  refine wpAny_richCompare_same_room (op := .Eq) ⟨_, g1, rfl⟩ ⟨_, g2, rfl⟩ F.slot_list_eq (call_here F.slot_list_eq ⟨_, g1, rfl⟩ F.entry_list_eq (F.args_list_eq_2 _ _) ?_) hu
  exact lb_list (R := wants (fun v s' => v ≠ .notImplemented ∧ Q v s') E) hl (fun t j hj => ⟨(fun x => nomatch x), fin t j hj⟩) h
theorem rcB_ne {l m : Addr} {N : Nat} {e : Nat → Bool} {J : Nat → Shared → Prop} {Q : Value → Shared → Prop} (hu : A.units < cLine) (hl : LsB prog w A E l m N e J) (fin : ∀ t j, J j t → Q (.bool (!fromB e N N 0)) t) (h : J 0 s) : wpAny (model prog w) A (richCompare .NotEq (.ref l) (.ref m)) Q E s := by
  obtain ⟨xs, ys, a, b, g1, g2, _, _, _⟩ := hl _ _ h
  refine wpAny_richCompare_same_room (op := .NotEq) ⟨_, g1, rfl⟩ ⟨_, g2, rfl⟩ F.slot_list_ne (call_here F.slot_list_ne ⟨_, g1, rfl⟩ F.entry_list_ne (F.args_list_ne_2 _ _) ?_) hu
  exact lb_listN (R := wants (fun v s' => v ≠ .notImplemented ∧ Q v s') E) hl (fun t j hj => ⟨(fun x => nomatch x), fin t j hj⟩) h
theorem rcB_eqS {l m : Addr} {xs ys : Array Value} {k j : Nat} {Q : Value → Shared → Prop} (hu : A.units < cLine) (g1 : s.heap.get? l = some { cls := .type "list", data := .seq xs k }) (g2 : s.heap.get? m = some { cls := .type "list", data := .seq ys j }) (hz : (xs.size != ys.size) = true) (fin : Q (.bool false) s) :
    wpAny (model prog w) A (richCompare .Eq (.ref l) (.ref m)) Q E s := by
  refine wpAny_richCompare_same_room (op := .Eq) ⟨_, g1, rfl⟩ ⟨_, g2, rfl⟩ F.slot_list_eq (call_here F.slot_list_eq ⟨_, g1, rfl⟩ F.entry_list_eq (F.args_list_eq_2 _ _) ?_) hu
  exact lb_short (R := wants (fun v s' => v ≠ .notImplemented ∧ Q v s') E) g1 g2 hz ⟨(fun x => nomatch x), fin⟩
theorem rcB_neS {l m : Addr} {xs ys : Array Value} {k j : Nat} {Q : Value → Shared → Prop} (hu : A.units < cLine) (g1 : s.heap.get? l = some { cls := .type "list", data := .seq xs k }) (g2 : s.heap.get? m = some { cls := .type "list", data := .seq ys j }) (hz : (xs.size != ys.size) = true) (fin : Q (.bool true) s) :
    wpAny (model prog w) A (richCompare .NotEq (.ref l) (.ref m)) Q E s := by
  refine wpAny_richCompare_same_room (op := .NotEq) ⟨_, g1, rfl⟩ ⟨_, g2, rfl⟩ F.slot_list_ne (call_here F.slot_list_ne ⟨_, g1, rfl⟩ F.entry_list_ne (F.args_list_ne_2 _ _) ?_) hu
  exact lb_shortN (R := wants (fun v s' => v ≠ .notImplemented ∧ Q v s') E) g1 g2 hz ⟨(fun x => nomatch x), fin⟩
end
end GQ
namespace Fm
open PySem PySem.Spec PyProof.Rows L2
/-- a context one C call deeper -/
abbrev in1X (X : Cx) : Cx := { X with A := X.A.in1 }
theorem in1_inv {X : Cx} {pins : List (Addr × Obj)} {σ : L2.St} {H : Hp} {s : Shared} (I : Inv X pins σ H s) : Inv (in1X X) pins σ H s := by
  obtain ⟨⟨a1, a2, a3, a4, a5, a6, a7, a8, a9, a10, a11, a12, a13, a14, a15, a16, a17, a18⟩, b2, b3, b4, b5, b6, b7, b8, b9, b10, b11⟩ := I
  exact ⟨⟨a1, a2, a3, a4, a5, a6, a7, a8, a9, a10, a11, a12, a13, a14, a15, a16, a17, a18⟩, b2, b3, b4, b5, b6, b7, b8, b9, b10, b11⟩
theorem un_in1 {X : Cx} {pins : List (Addr × Obj)} {σ : L2.St} {H : Hp} {s : Shared} (I : Inv (in1X X) pins σ H s) : Inv X pins σ H s := by
  obtain ⟨⟨a1, a2, a3, a4, a5, a6, a7, a8, a9, a10, a11, a12, a13, a14, a15, a16, a17, a18⟩, b2, b3, b4, b5, b6, b7, b8, b9, b10, b11⟩ := I
  exact ⟨⟨a1, a2, a3, a4, a5, a6, a7, a8, a9, a10, a11, a12, a13, a14, a15, a16, a17, a18⟩, b2, b3, b4, b5, b6, b7, b8, b9, b10, b11⟩
theorem flR_inj {p q : Rat} (h : flR p = flR q) : p = q := by
  have h1 := flR_top p
  have h2 := flR_bottom p
  rw [h, flR_top] at h1
  rw [h, flR_bottom] at h2
  refine (eq_iff_parts p q).mpr ⟨?_, ?_⟩
  · have := Option.some.inj h1; injection this with e; exact e.symm
  · have := Option.some.inj h2; injection this with e; exact e.symm
abbrev RatsV (C : Addr) (H : Hp) : List V → List Rat → Prop := Paired (RatV C H)
abbrev NumsV (C : Addr) (H : Hp) : List V → List Rat → Prop := Paired (NumV C H)
theorem RatsV.mono {C : Addr} {H H' : Hp} (e : Ex H H') {xs : List V} {qs : List Rat} (h : RatsV C H xs qs) : RatsV C H' xs qs := Paired.mapP h fun _ _ r => r.mono e
theorem NumsV.mono {C : Addr} {H H' : Hp} (e : Ex H H') {xs : List V} {qs : List Rat} (h : NumsV C H xs qs) : NumsV C H' xs qs := Paired.mapP h fun _ _ r => r.mono e
theorem RatsV.nums {C : Addr} {H : Hp} {xs : List V} {qs : List Rat} (h : RatsV C H xs qs) : NumsV C H xs qs := Paired.mapP h fun _ _ r => r.num
theorem Prd.at {α β : Type} {F : α → β → Prop} : ∀ {xs : List α} {ys : List β} {i : Nat}, Paired F xs ys → ∀ {x : α} {y : β}, xs[i]? = some x → ys[i]? = some y → F x y
  | _, _, _, .nil, _, _, h, _ => by simp at h
  | _, _, 0, .cons r _, x, y, h1, h2 => by simp at h1 h2; subst h1 h2; exact r
  | _, _, _ + 1, .cons _ t, x, y, h1, h2 => Prd.at t (by simpa using h1) (by simpa using h2)
theorem eqB_item {X : Cx} {C : Addr} (R : RC X.K C) (ho : OpR (in1X X) (compareOp .Eq) (rCmpOwn X.K C (spEqV X.K C) E0)) {pins : List (Addr × Obj)} {s : Shared} {σ : L2.St} {H : Hp} {x y : V} {u v : Value} {q c : Rat} (I : Inv X pins σ H s) (rx : RelV x u) (ry : RelV y v)
    (hx : RatV C H x q) (hy : NumV C H y c) (sc : Sz 3000 c) : wpAny (model X.prog X.w) X.A.in1 (eqBool u v) (fun r s' => r = decide (q = c) ∧ ∃ H', Inv X pins σ H' s' ∧ Ex H H') X.xe s := by
  have go : ∀ a : Addr, u = .ref a → v ≠ .ref a → wpAny (model X.prog X.w) X.A.in1 (eqBool u v) (fun r s' => r = decide (q = c) ∧ ∃ H', Inv X pins σ H' s' ∧ Ex H H') X.xe s := fun a hu hv => by
    subst hu
    have h := ho pins s σ H x y (.ref a) v (fun z H' => z = .bl (decide (q = c)) ∧ Ex H H') (in1_inv I) rx ry (g_eqN R hx hy sc (by decide) fun H' e => ⟨rfl, e⟩)
    unfold eqBool
    refine wpAny_holding (wpAny_ite_split (fun e => absurd (eq_of_beq e).symm hv) fun _ => wpAny_bind (wpAny_mono h (fun z s' hz => ?_) fun _ _ e => e))
    obtain ⟨z', H', J, rz, ez, ex⟩ := hz
    subst ez
    cases rz
    exact wpAny_truthy_bool ⟨rfl, H', un_in1 J, ex⟩
  obtain ⟨p, rfl, dx, hp⟩ := id hx
  cases rx
  rcases id hy with ⟨n, rfl, _⟩ | ⟨p2, rfl, dx2, hp2⟩
  · obtain ⟨t, rfl⟩ := ry
    exact go p rfl (by simp)
  · cases ry
    by_cases e : p2 = p
    · subst e
      rw [hp] at hp2
      injection hp2 with e1
      injection e1 with _ _ e2
      have e3 := flR_inj e2
      subst e3
      exact SeqAt.EqAt.same (A := X.A.in1) (s := s) (.ref p2) X.prog X.w X.xe _ ⟨by rw [decide_eq_true rfl], H, I, Ex.refl H⟩
    · exact go p rfl fun h => e (by injection h)
theorem fromB_all {e : Nat → Bool} : ∀ {N k i : Nat}, GQ.fromB e N k i = true ↔ ∀ j, j < k → e (i + j) = true
  | N, 0, i => by simp [GQ.fromB]
  | N, k + 1, i => by
    unfold GQ.fromB
    rw [Bool.and_eq_true, fromB_all]
    constructor
    · rintro ⟨h0, h1⟩ j hj
      cases j with
      | zero => exact h0
      | succ j => have := h1 j (by omega); rw [show i + (j + 1) = i + 1 + j by omega]; exact this
    · intro h
      exact ⟨h 0 (by omega), fun j hj => by have := h (j + 1) (by omega); rw [show i + 1 + j = i + (j + 1) by omega]; exact this⟩
theorem fromB_lists {qs cs : List Rat} (h : qs.length = cs.length) : GQ.fromB (fun i => decide (qs[i]? = cs[i]?)) qs.length qs.length 0 = decide (qs = cs) := by
  rw [Bool.eq_iff_iff, fromB_all, decide_eq_true_iff]
  constructor
  · intro hh
    refine List.ext_getElem? fun i => ?_
    by_cases hi : i < qs.length
    · have := hh i hi
      rw [Nat.zero_add] at this
      exact of_decide_eq_true this
    · rw [List.getElem?_eq_none (by omega), List.getElem?_eq_none (by omega)]
  · rintro rfl j _
    exact decide_eq_true rfl
/-- two lists, Ratios and numbers: equal, or not -/
def rLsR (C : Addr) (ne : Bool) : R2 := fun x y H Q => ∃ (a b : Addr) (xs ys : List V) (qs cs : List Rat), x = .ref a ∧ y = .ref b ∧ H a = some (.lst xs) ∧ H b = some (.lst ys) ∧ RatsV C H xs qs ∧ NumsV C H ys cs ∧ (∀ c ∈ cs, Sz 3000 c) ∧ ∀ H', Ex H H' → Q (.bl (if ne = true then !decide (qs = cs) else decide (qs = cs))) H'
theorem lsB_of {X : Cx} {C : Addr} (R : RC X.K C) (ho : OpR (in1X X) (compareOp .Eq) (rCmpOwn X.K C (spEqV X.K C) E0)) {pins : List (Addr × Obj)} {σ : L2.St} {H : Hp} {a b : Addr} {xs ys : List V} {qs cs : List Rat} (ha : H a = some (.lst xs)) (hb : H b = some (.lst ys)) (hx : RatsV C H xs qs)
    (hy : NumsV C H ys cs) (sz : ∀ c ∈ cs, Sz 3000 c) (hl : qs.length = cs.length) : GQ.LsB X.prog X.w X.A X.xe a b qs.length (fun i => decide (qs[i]? = cs[i]?)) (fun _ s' => ∃ H', Inv X pins σ H' s' ∧ Ex H H') := by
  rintro i s ⟨H1, I1, e1⟩
  obtain ⟨_, its, k, r, g1⟩ := I1.hok a _ (e1 _ _ ha)
  obtain ⟨_, its2, k2, r2, g2⟩ := I1.hok b _ (e1 _ _ hb)
  have n1 : its.length = qs.length := by rw [← r.length, hx.length]
  have n2 : its2.length = qs.length := by rw [← r2.length, hy.length, hl]
  refine ⟨its.toArray, its2.toArray, k, k2, g1, g2, by simpa using n1, by simpa using n2, fun h1 h2 => ?_⟩
  have i1 : i < its.length := by simpa using h1
  have i2 : i < its2.length := by simpa using h2
  obtain ⟨u, hu, ru⟩ := r.get (List.getElem?_eq_getElem (show i < xs.length by rw [r.length]; exact i1))
  obtain ⟨v, hv, rv⟩ := r2.get (List.getElem?_eq_getElem (show i < ys.length by rw [r2.length]; exact i2))
  have w1 : its.toArray[i] = u := by
    rw [List.getElem?_eq_getElem i1] at hu
    simpa using Option.some.inj hu
  have w2 : its2.toArray[i] = v := by
    rw [List.getElem?_eq_getElem i2] at hv
    simpa using Option.some.inj hv
  rw [w1, w2]
  have q1 : qs[i]? = some (qs[i]'(by omega)) := List.getElem?_eq_getElem _
  have q2 : cs[i]? = some (cs[i]'(by omega)) := List.getElem?_eq_getElem _
  have rr := Prd.at hx (List.getElem?_eq_getElem (show i < xs.length by rw [r.length]; exact i1)) q1
  have nn := Prd.at hy (List.getElem?_eq_getElem (show i < ys.length by rw [r2.length]; exact i2)) q2
  refine wpAny_mono (eqB_item R ho I1 ru rv (rr.mono e1) (nn.mono e1) (sz _ (List.mem_of_getElem? q2))) (fun t s' z => ?_) fun _ _ z => z
  obtain ⟨ht, H2, I2, e2⟩ := z
  refine ⟨?_, H2, I2, e1.trans e2⟩
  rw [ht]
  show _ = decide (qs[i]? = cs[i]?)
  rw [q1, q2]
  simp
theorem op_lsR {X : Cx} {C : Addr} (hu : X.A.units < cLine) (R : RC X.K C) (ho : OpR (in1X X) (compareOp .Eq) (rCmpOwn X.K C (spEqV X.K C) E0)) : OpR X (compareOp .Eq) (rLsR C false) := by
  intro pins s σ H x y v u Q I rx ry h
  obtain ⟨a, b, xs, ys, qs, cs, rfl, rfl, ha, hb, hx, hy, sz, q⟩ := h
  cases rx
  cases ry
  show wpAny _ _ (richCompare .Eq _ _) _ _ s
  by_cases hl : qs.length = cs.length
  · refine GQ.rcB_eq hu (lsB_of R ho ha hb hx hy sz hl) (fun t j hj => ?_) ⟨H, I, Ex.refl H⟩
    obtain ⟨H', J, e⟩ := hj
    rw [fromB_lists hl]
    exact ⟨.bl _, H', J, rfl, q H' e⟩
  · obtain ⟨_, its, k, r, g1⟩ := I.hok a _ ha
    obtain ⟨_, its2, k2, r2, g2⟩ := I.hok b _ hb
    have hn : qs ≠ cs := fun e => hl (by rw [e])
    have q' := q H (Ex.refl H)
    rw [decide_eq_false hn] at q'
    refine GQ.rcB_eqS hu g1 g2 ?_ ⟨.bl false, H, I, rfl, q'⟩
    simp only [List.size_toArray, bne_iff_ne, ne_eq]
    rw [← r.length, ← r2.length, hx.length, hy.length]
    exact hl
theorem op_lsRN {X : Cx} {C : Addr} (hu : X.A.units < cLine) (R : RC X.K C) (ho : OpR (in1X X) (compareOp .Eq) (rCmpOwn X.K C (spEqV X.K C) E0)) : OpR X (compareOp .NotEq) (rLsR C true) := by
  intro pins s σ H x y v u Q I rx ry h
  obtain ⟨a, b, xs, ys, qs, cs, rfl, rfl, ha, hb, hx, hy, sz, q⟩ := h
  cases rx
  cases ry
  show wpAny _ _ (richCompare .NotEq _ _) _ _ s
  by_cases hl : qs.length = cs.length
  · refine GQ.rcB_ne hu (lsB_of R ho ha hb hx hy sz hl) (fun t j hj => ?_) ⟨H, I, Ex.refl H⟩
    obtain ⟨H', J, e⟩ := hj
    rw [fromB_lists hl]
    exact ⟨.bl _, H', J, rfl, q H' e⟩
  · obtain ⟨_, its, k, r, g1⟩ := I.hok a _ ha
    obtain ⟨_, its2, k2, r2, g2⟩ := I.hok b _ hb
    have hn : qs ≠ cs := fun e => hl (by rw [e])
    have q' := q H (Ex.refl H)
    rw [decide_eq_false hn] at q'
    refine GQ.rcB_neS hu g1 g2 ?_ ⟨.bl true, H, I, rfl, q'⟩
    simp only [List.size_toArray, bne_iff_ne, ne_eq]
    rw [← r.length, ← r2.length, hx.length, hy.length]
    exact hl
end Fm

set_option maxHeartbeats 2000000
namespace Fm
open PySem PySem.Spec PyProof.Rows L2
/-! ### calls with keywords alone, calls whose errors are wished for at the caller's slots -/
/-- a def without defaults, n values in front, the names ks behind -/
theorem kbN {K : PySem.W.Frag} {x qual : Str} {params : Arguments} {bd : List Stmt} {scope : Scope} {f : Addr} {fd : FuncData} {ps : List Str} (F : FunD K x qual params bd scope [] [] f fd) (n : Nat) (ks : List Str) (g : {α : Type} → List α → List α → List α)
    (hrel : ∀ {vs zs : List V} {us ws : List Value}, Vals vs us → Vals zs ws → Vals (g vs zs) (g us ws))
    (h : ∀ (kV doc pm : Value) (an : Option Addr) (cdv ct : Value) (us ws : List Value), us.length = n → ws.length = ks.length → bindArgs (PySem.W.fnOf x qual params bd scope .none kV doc pm an cdv ct) ⟨us, ks.zip ws⟩ = pure (ps.zip (g us ws))) :
    KBn K fd ps n ks (fun us ws => g us ws) (fun vs zs => g vs zs) := by
  obtain ⟨oc, od, dV, kV, doc, pm, an, cdv, ct, osl, rfl, lk, hcd, hD, hK⟩ := F.ex
  rcases hD with ⟨_, rfl⟩ | ⟨e, _⟩
  · exact ⟨fun s us ws _ l1 l2 => .of_eq (h kV doc pm an cdv ct us ws l1 l2), fun r1 r2 => hrel r1 r2⟩
  · exact absurd rfl e
section
variable {X : Cx} {CX : CXT} {k n : Nat} {f C : Addr} {fd : FuncData} {ps ks : List Str} {sp : Sp} {E : L2.St → XK} {x m : Str} {p pos apos : Pos} {e o : Expr} {es : List Expr} {kws : List Keyword} {t tk : TA} {ta : TE} {g : List Value → List Value → List Value} {gV : List V → List V → List V}
theorem run_kwS {pins : List (Addr × Obj)} {σ : L2.St} {H : Hp} {s : Shared} {Q : VK} {us ws : List Value} {vs zs : List V} (F : FnOk X.prog X.w X.K X.mg X.base CX k f fd ps sp) (hr : Room k X.A) (hb : KBn X.K fd ps n ks g gV) (hx : PassesAt CX X σ (E σ))
    (I : Inv X pins σ H s) (r : Vals vs us) (rz : Vals zs ws) (l1 : vs.length = n) (l2 : zs.length = ks.length) (h : sp (gV vs zs) H Q (E σ)) : wpAny (model X.prog X.w) X.A (call (.ref f) us (ks.zip ws)) (EP X pins σ Q) X.xe s := by
  have bb := hb.to s us ws I.kIn (r.length.symm.trans l1) (rz.length.symm.trans l2)
  refine wpAny_call (codeAny_mono (F.run X.A X.stack s H _ _ _ Q (E σ) hr I.env0 bb (hb.rel r rz) h) fun rr s' hq => ?_)
  cases rr with
  | error ee => exact hx pins H s ee s' I hq
  | ok fl =>
    cases fl with
    | ret u => exact I.after hq
    | next => exact False.elim hq
    | brk => exact False.elim hq
    | cont => exact False.elim hq
/-- f(k = v, ..) -/
def tCallW (sp : Sp) (gV : List V → List V → List V) (m : Nat) (E : L2.St → XK) (tk : TA) : TE := fun σ H Q => tk σ H fun zs H2 => zs.length = m ∧ sp (gV [] zs) H2 Q (E σ)
theorem pe_callW (F : FnOk X.prog X.w X.K X.mg X.base CX k f fd ps sp) (hr : Room k X.A) (hg : Gl X x) (hm : X.mg x = some (.ref f)) (hk : PySem.W.keepIn X.K (.ref f) = true) (hb : KBn X.K fd ps 0 ks g gV) (hx : ∀ σ, PassesAt CX X σ (E σ)) (hkw : PK X kws tk)
    (hall : (backToKw pos (keywordEach kws X.env)).all (·.1.isSome) = true := by rfl) (hks : (backToKw pos (keywordEach kws X.env)).filterMap (·.1) = ks := by rfl) (hdb : (x == ("__debug__" : Str)) = false := by decide)
    (hpl : ((backTo pos (starEach [] X.env)).any (·.1) || (backToKw pos (keywordEach kws X.env)).any (·.1.isNone)) = false := by rfl) : PE X (.Call (.Name x p) [] kws pos) (tCallW sp gV ks.length E tk) := by
  refine ⟨fun pins s σ H Q I h => ?_⟩
  refine wpAny_Call_Name_kw (ld_glob I hg hm ?_ hdb)
  refine PySem.W.callWith_KW0 (h₀ := X.base) I.ok.mod.kin hk hall ?_ hpl
  refine thn (hkw.run pos pins s σ H _ I h) fun ws s2 hh => ?_
  obtain ⟨zs, H2, I2, rz, l2, q2⟩ := hh
  refine ⟨I2.kIn, ?_⟩
  rw [hks]
  exact run_kwS (us := []) (vs := []) F hr hb (hx σ) I2 .nil rz rfl l2 q2
/-- o.m(k = v, ..) -/
def tMethW (C : Addr) (m : Str) (sp : Sp) (gV : List V → List V → List V) (j : Nat) (E : L2.St → XK) (ta : TE) (tk : TA) : TE := fun σ H Q => ta σ H fun x H1 => ∃ a dx fs, x = .ref a ∧ H1 a = some (.ins C dx fs) ∧ fs.lookup m = none ∧
  tk σ H1 fun zs H2 => zs.length = j ∧ sp (gV [x] zs) H2 Q (E σ)
theorem pe_methW {pl : Sem Bool} (he : PE X o ta) (c : Cls X.K C) (hm : Meth X.K C m f) (F : FnOk X.prog X.w X.K X.mg X.base CX k f fd ps sp) (hr : Room k X.A) (hb : KBn X.K fd ps 1 ks g gV) (hx : ∀ σ, PassesAt CX X σ (E σ)) (hkw : PK X kws tk)
    (hall : (backToKw pos (keywordEach kws X.env)).all (·.1.isSome) = true := by rfl) (hks : (backToKw pos (keywordEach kws X.env)).filterMap (·.1) = ks := by rfl)
    (hpl : ((backTo pos (starEach [] X.env)).any (·.1) || (backToKw pos (keywordEach kws X.env)).any (·.1.isNone)) = false := by rfl)
    (ht : eval (.Call (.Attribute o m apos) [] kws pos) X.env = (do
      let ov ← eval o X.env
      standAt apos.atName
      let (f, first) ← holding [ov] (getMethod ov m pl)
      callWith pos f first (backTo pos (starEach [] X.env)) (backToKw pos (keywordEach kws X.env))) := by rfl) :
    PE X (.Call (.Attribute o m apos) [] kws pos) (tMethW C m sp gV ks.length E ta tk) := by
  refine ⟨fun pins s σ H Q I h => ?_⟩
  refine PySem.W.methodCall_KW (pl := pl) (thn (he.run pins s σ H _ I h) fun u s1 hh => ?_) ht
  obtain ⟨x, H1, I1, rx, a, dx, fs, ex, ea, l, q⟩ := hh
  subst ex
  cases rx
  refine getmeth_ok I1 ea c hm l ?_
  refine PySem.W.callWith_KW0 (first := [.ref a]) (h₀ := X.base) I.ok.mod.kin hm.kp hall ?_ hpl
  refine thn (hkw.run pos pins s1 σ H1 _ I1 q) fun ws s2 hh => ?_
  obtain ⟨zs, H2, I2, rz, l2, q2⟩ := hh
  refine ⟨I2.kIn, ?_⟩
  rw [hks]
  exact run_kwS (us := [.ref a]) (vs := [.ref a]) F hr hb (hx σ) I2 (.cons rfl .nil) rz rfl l2 q2
/-- C(e, ..), the errors of its __init__ wished for at the slots -/
def tMakeS (C : Addr) (sp : Sp) (E : L2.St → XK) (t : TA) : TE := fun σ H Q => t σ H fun vs H1 => ∀ x dx, H1 x = none → H1 dx = none → dx ≠ x → sp (.ref x :: vs) (upd (upd H1 dx (.own x)) x (.ins C dx [])) (fun v H2 => v = .non ∧ Q (.ref x) H2) (E σ)
theorem pe_makeS (M : Mk X.K C f) (F : FnOk X.prog X.w X.K X.mg X.base CX k f fd ps sp) (hr : Room (k + 1) X.A) (hg : Gl X x) (hm : X.mg x = some (.ref C)) (hb : Binds X.K fd ps []) (hx : ∀ σ, PassesAt CX X σ (E σ))
    (ha : PA X (e :: es) t) (hdb : (x == ("__debug__" : Str)) = false := by decide) (he : starEach (e :: es) X.env = (false, eval e X.env) :: starEach es X.env := by rfl) (hpl : (backTo pos (starEach es X.env)).any (·.1) = false := by rfl) :
    PE X (.Call (.Name x p) (e :: es) [] pos) (tMakeS C sp E t) := by
  refine ⟨fun pins s σ H Q I h => ?_⟩
  refine wpAny_Call_Name_kw (ld_glob I hg hm ?_ hdb)
  refine PySem.W.callWith_K (h₀ := X.base) I.ok.mod.kin M.kp (thn (ha.run pos pins s σ H _ I h) fun us s1 hh => ?_) he hpl
  obtain ⟨vs, H1, I1, r, q⟩ := hh
  refine ⟨I1.kIn, ?_⟩
  have hq := q (s1.heap.objs.size + 1) s1.heap.objs.size (I1.hok.fresh (Nat.le_succ _)) (I1.hok.fresh (Nat.le_refl _)) (Nat.ne_of_lt (Nat.lt_succ_self _))
  have I2 := Inv.made (C := C) I1
  have r2 : Vals (V.ref (s1.heap.objs.size + 1) :: vs) (Value.ref (s1.heap.objs.size + 1) :: us) := .cons rfl r
  have hl : (Value.ref (s1.heap.objs.size + 1) :: us ++ []).length = ps.length := by
    have e0 := r2.length
    rw [F.len _ _ _ _ hq] at e0
    rw [List.append_nil]
    exact e0.symm
  have hbb := hb _ (Value.ref (s1.heap.objs.size + 1) :: us) I2.kIn hl
  rw [List.append_nil] at hbb
  show wpAny _ _ (call (.ref C) us) _ _ _
  refine wpAny_call (make_map (f := f) I1.kIn M.makes M.init (beq_iff_eq.mp M.fn) (codeAny_mono (F.run _ X.stack _ _ ⟨Value.ref (s1.heap.objs.size + 1) :: us, []⟩ _ _ _ (E σ) (hr.make C us []) (I2.env0.make C us []) hbb r2 hq) fun rr s' hq' => ?_))
  cases rr with
  | error ee => exact hx σ pins _ _ ee s' I2 hq'
  | ok fl =>
    cases fl with
    | ret u =>
      obtain ⟨v, H', I3, rv, ev, q3⟩ := I2.after hq'
      subst ev
      exact ⟨rv, ⟨V.ref (s1.heap.objs.size + 1), H', I3, rfl, q3⟩⟩
    | next => exact False.elim hq'
    | brk => exact False.elim hq'
    | cont => exact False.elim hq'
end
theorem at0 {X : Cx} : ∀ σ : L2.St, PassesAt CX0 X σ ((fun _ => E0) σ) := fun _ _ _ _ _ _ _ h => h.elim
section
variable {σ : L2.St} {H : Hp} {Q : VK} {sp : Sp} {gV : List V → List V → List V} {E : L2.St → XK} {tk t : TA} {ta : TE} {m : Nat} {C : Addr} {nm : Str}
theorem g_callW (q : tk σ H fun zs H2 => zs.length = m ∧ sp (gV [] zs) H2 Q (E σ)) : tCallW sp gV m E tk σ H Q := q
theorem g_methW (q : ta σ H fun x H1 => ∃ a dx fs, x = .ref a ∧ H1 a = some (.ins C dx fs) ∧ fs.lookup nm = none ∧ tk σ H1 fun zs H2 => zs.length = m ∧ sp (gV [x] zs) H2 Q (E σ)) : tMethW C nm sp gV m E ta tk σ H Q := q
theorem g_makeS (q : t σ H fun vs H1 => ∀ x dx, H1 x = none → H1 dx = none → dx ≠ x → sp (.ref x :: vs) (upd (upd H1 dx (.own x)) x (.ins C dx [])) (fun v H2 => v = .non ∧ Q (.ref x) H2) (E σ)) : tMakeS C sp E t σ H Q := q
theorem g_callS (q : t σ H fun vs H1 => sp vs H1 Q (E σ)) : tCallS sp E t σ H Q := q
end
end Fm

set_option maxHeartbeats 2000000
namespace Fm
open PySem PySem.Spec PyProof.Rows L2
/-! ### lists of numbers -/
def sumR (qs : List Rat) : Rat := qs.foldl (· + ·) 0
theorem sumR_take {qs : List Rat} {i : Nat} {q : Rat} (h : qs[i]? = some q) : sumR (qs.take (i + 1)) = sumR (qs.take i) + q := by
  have e : qs.take (i + 1) = qs.take i ++ [q] := by
    rw [List.take_add_one, h]; rfl
  unfold sumR
  rw [e, List.foldl_append]
  rfl
def Nums (C : Addr) (H : Hp) (xs : List V) (qs : List Rat) : Prop := xs.length = qs.length ∧ ∀ (i : Nat) (v : V) (q : Rat), xs[i]? = some v → qs[i]? = some q → NumV C H v q
theorem Nums.mono {C : Addr} {H H' : Hp} {xs : List V} {qs : List Rat} (e : Ex H H') (h : Nums C H xs qs) : Nums C H' xs qs := ⟨h.1, fun i v q a b => (h.2 i v q a b).mono e⟩
theorem Nums.nil {C : Addr} {H : Hp} : Nums C H [] [] := ⟨rfl, fun i v q a => by simp at a⟩
theorem Nums.cons {C : Addr} {H : Hp} {x : V} {q : Rat} {xs : List V} {qs : List Rat} (h : NumV C H x q) (t : Nums C H xs qs) : Nums C H (x :: xs) (q :: qs) := by
  refine ⟨by rw [List.length_cons, List.length_cons, t.1], fun i v r a b => ?_⟩
  cases i with
  | zero => simp at a b; subst a; subst b; exact h
  | succ i => exact t.2 i v r (by simpa using a) (by simpa using b)
def spTotal (K : PySem.W.Frag) (C : Addr) : Sp := fun vs H Q _ => ∃ (p : Addr) (xs : List V) (qs : List Rat) (k : Nat), vs = [.ref p] ∧ (SqL K H p xs ∨ SqT K H p xs) ∧ Nums C H xs qs ∧ (∀ i, i ≤ qs.length → Sz k (sumR (qs.take i))) ∧ (∀ q, q ∈ qs → Sz k q) ∧ k ≤ 3000 ∧
  ∀ v H', Ex H H' → RatV C H' v (sumR qs) → Q v H'
end Fm

set_option maxHeartbeats 2000000
namespace Fm
open PySem PySem.Spec PyProof.Rows L2
/-! ### what the laws reckon -/
theorem parts_of {z : Rat} {t b : Int} (hb : b ≠ 0) (e : z = Rat.divInt t b) : z.num * b = t * z.den := by
  refine (Rat.divInt_eq_divInt_iff (den_ne z) hb).mp ?_
  rw [Rat.num_divInt_den, e]
theorem divInt_lt {p q r s : Int} (hq : 0 < q) (hs : 0 < s) : Rat.divInt p q < Rat.divInt r s ↔ p * s < r * q := by
  rw [Rat.divInt_eq_div, Rat.divInt_eq_div]
  have hq' : (0 : Rat) < (q : Rat) := by
    have := Rat.lt_iff 0 (q : Rat)
    rw [this]; simp; exact hq
  have hs' : (0 : Rat) < (s : Rat) := by
    have := Rat.lt_iff 0 (s : Rat)
    rw [this]; simp; exact hs
  rw [Rat.div_lt_iff hq', Rat.div_def, Rat.mul_assoc, Rat.mul_comm (s : Rat)⁻¹, ← Rat.mul_assoc, ← Rat.div_def, Rat.lt_div_iff hs', ← Rat.intCast_mul, ← Rat.intCast_mul]
  rw [Rat.lt_iff, Rat.num_intCast, Rat.num_intCast, Rat.den_intCast, Rat.den_intCast]; simp
theorem divInt_eq {p q r s : Int} (hq : 0 < q) (hs : 0 < s) : Rat.divInt p q = Rat.divInt r s ↔ p * s = r * q := Rat.divInt_eq_divInt_iff (by omega) (by omega)
theorem divInt_le {p q r s : Int} (hq : 0 < q) (hs : 0 < s) : Rat.divInt p q ≤ Rat.divInt r s ↔ p * s ≤ r * q := by
  rw [← Rat.not_lt, divInt_lt hs hq]; omega
theorem add_div2 {p q r s : Int} (hq : q ≠ 0) (hs : s ≠ 0) : Rat.divInt p q + Rat.divInt r s = Rat.divInt (p * s + r * q) (q * s) := Rat.divInt_add_divInt _ _ hq hs
theorem sub_div2 {p q r s : Int} (hq : q ≠ 0) (hs : s ≠ 0) : Rat.divInt p q - Rat.divInt r s = Rat.divInt (p * s - r * q) (q * s) := Rat.divInt_sub_divInt _ _ hq hs
theorem mul_div2 {p q r s : Int} : Rat.divInt p q * Rat.divInt r s = Rat.divInt (p * r) (q * s) := Rat.divInt_mul_divInt _ _
theorem over_div2 {p q r s : Int} : Rat.divInt p q / Rat.divInt r s = Rat.divInt (p * s) (q * r) := by
  rw [Rat.div_def, Rat.inv_divInt, Rat.divInt_mul_divInt]
theorem divInt_zero' {r s : Int} (hs : s ≠ 0) : Rat.divInt r s = 0 ↔ r = 0 := by
  constructor
  · intro h
    have := parts_of hs h.symm
    simp at this
    exact this.symm ▸ rfl
  · intro h; rw [h, Rat.zero_divInt]
section
variable {H : Hp} {Q : VK}
theorem g_eqB {a b : Bool} (q : Q (.bl (decide (a = b))) H) : rEq (.bl a) (.bl b) H Q := ⟨rfl, by
  rw [show decide (V.bl a = V.bl b) = decide (a = b) by cases a <;> cases b <;> rfl]; exact q⟩
theorem g_neB {a b : Bool} (q : Q (.bl (!decide (a = b))) H) : rNe (.bl a) (.bl b) H Q := ⟨rfl, by
  rw [show decide (V.bl a = V.bl b) = decide (a = b) by cases a <;> cases b <;> rfl]; exact q⟩
end
def spLis (C : Addr) : Sp := fun vs H Q _ => ∃ (x : V) (q : Rat) (u p : Int), vs = [x, .int u, .int p] ∧ RatV C H x q ∧ q.num * p = u * q.den ∧ q.num.natAbs < 10 ^ 60 ∧ q.den < 10 ^ 60 ∧ u.natAbs < 2 ^ 250 ∧ p.natAbs < 2 ^ 250 ∧ ∀ H', Ex H H' → Q (.bl true) H'
theorem use_Lis {C : Addr} {H : Hp} {Q : VK} {E : XK} {x : V} {z : Rat} {u p : Int} (hx : RatV C H x z) (e : z = Rat.divInt u p) (hp : p ≠ 0) (h1 : u.natAbs < 2 ^ 150) (h2 : p.natAbs < 2 ^ 150) (q : ∀ H', Ex H H' → Q (.bl true) H') : spLis C [x, .int u, .int p] H Q E := by
  have hle := num_le (t := u) hp
  rw [← e] at hle
  have b1 : (2 : Nat) ^ 150 < 10 ^ 60 := by decide
  have b2 : (2 : Nat) ^ 150 < 2 ^ 250 := by decide
  exact ⟨x, z, u, p, rfl, hx, parts_of hp e, by omega, by omega, by omega, by omega, q⟩
def spPairR (K : PySem.W.Frag) (C : Addr) : Sp := fun vs H Q _ => ∃ (x y : V) (ta tb : Addr) (p q r s : Int), vs = [x, y, .ref ta, .ref tb] ∧ RatV C H x (Rat.divInt p q) ∧ NumV C H y (Rat.divInt r s) ∧ SqT K H ta [.int p, .int q] ∧ SqT K H tb [.int r, .int s] ∧
  0 < q ∧ 0 < s ∧ p.natAbs < 2 ^ 60 ∧ q.natAbs < 2 ^ 60 ∧ r.natAbs < 2 ^ 60 ∧ s.natAbs < 2 ^ 60 ∧ ∀ H', Ex H H' → Q (.bl true) H'
theorem g_guard {c : Bool} {tc : TE} {σ : L2.St} {H : Hp} {A B : Hp → Prop} {Z : Prop} (h : c = true → ∀ Q : VK, (∀ H', Ex H H' → Q (.bl true) H') → tc σ H Q) (hz : B H → Z) (next : ∀ H', Ex H H' → B H') :
    if c = true then tNot (tB tc) σ H (fun b H1 => if b = true then A H1 else B H1) else Z := by
  cases c with
  | true =>
    rw [if_pos rfl]
    exact h rfl _ fun H' e => ⟨true, rfl, by show (if (!true) = true then A H' else B H'); rw [if_neg (by decide)]; exact next H' e⟩
  | false =>
    rw [if_neg Bool.false_ne_true]
    exact hz (next H (Ex.refl H))
end Fm

set_option maxHeartbeats 2000000
namespace Fm
open PySem PySem.Spec PyProof.Rows L2 SX
/-! ### texts: walks, lists of texts -/
section
variable {K : PySem.W.Frag} {σ : L2.St} {H : Hp} {Q : VK} {D : Ends} {g : TG} {tb : TS} {tt : TT} {te t1 t2 : TE} {ta : TA} {vs : List Nat} {wi : TI} {R : It → Hp → Prop} {v x y : V}
theorem g_istr (q : te σ H fun v H1 => ∃ x, v = .str x ∧ R (Its x) H1) : iStr te σ H R := q
theorem cp_S {l : List Nat} (Pv : Addr → Nat → Hp → Prop) (h0 : ∀ D, H D = none → Pv D 0 (upd H D (.lst [])))
    (hs : ∀ D, H D = none → ∀ i c H', l[i]? = some c → Pv D i H' → Turn g tt te vs σ D (Pv D (i + 1)) (.str (S [c])) H') (hd : ∀ D, H D = none → ∀ H', Pv D l.length H' → Q (.ref D) H') : Cp (Its (S l)) g tt te vs σ H Q := by
  intro D hD
  refine ⟨fun i m H => m = l.length - i ∧ i ≤ l.length ∧ Pv D i H, ⟨l.length, by simp, Nat.zero_le _, h0 D hD⟩, ?_⟩
  rintro i m H' ⟨rfl, hi, p⟩
  by_cases hlt : i < l.length
  · refine .inr ⟨by show i < (S l).cps.size; simpa using hlt, Pv D (i + 1), fun H' p' => ⟨l.length - (i + 1), by omega, rfl, hlt, p'⟩, fun x H2 y => ?_⟩
    obtain ⟨e, c, hc, e2⟩ := y
    subst e
    subst e2
    exact hs D hD i c _ (by simpa using hc) p
  · have e : i = l.length := by omega
    subst e
    exact .inl ⟨by show (S l).cps.size ≤ l.length; simp, hd D hD _ p⟩
theorem g_iteQ {p : Prop} [Decidable p] (h1 : p → ∀ Q : VK, Q v H → t1 σ H Q) (h2 : ¬ p → ∀ Q : VK, Q v H → t2 σ H Q) (q : Q v H) : if decide p = true then t1 σ H Q else t2 σ H Q := g_dec (fun h => h1 h Q q) (fun h => h2 h Q q)
theorem g_ixS {l : List Nat} {i : Int} {c : Nat} (hl : l.length ≤ 100000) (h : atI l i = some c) (q : Q (.str (S [c])) H) : rIxS (.str (S l)) (.int i) H Q :=
  ⟨S l, i, c, rfl, rfl, by rw [S_len]; exact Nat.le_trans hl (by decide), h, q⟩
theorem g_notInS {c : Nat} {l : List Nat} (q : Q (.bl (!decide (c ∈ l))) H) : rNotInS (.str (S [c])) (.str (S l)) H Q := ⟨c, S l, rfl, rfl, q⟩
end
theorem canLay_strs : ∀ l : List Str, (∀ x ∈ l, PyData.strOk x = true) → PyData.canLayAll0 (l.map PyData.str) = true
  | [], _ => by simp [PyData.canLayAll0]
  | n :: r, h => by simp [PyData.canLayAll0, PyData.canLay0, h n (List.mem_cons_self ..), canLay_strs r fun x hx => h x (List.mem_cons_of_mem _ hx)]
theorem strOk_S {l : List Nat} (h : ∀ c ∈ l, c < 256) : PyData.strOk (S l) = true := by
  show (S l).cps.all (· < 0x110000) = true
  rw [Array.all_eq_true_iff_forall_mem]
  intro c hc
  have := h c (by simpa using hc)
  exact decide_eq_true (by omega)
theorem depth_strs : ∀ l : List Str, PyData.depthAll (l.map PyData.str) ≤ 1
  | [] => by simp [PyData.depthAll]
  | n :: r => by
    have := depth_strs r
    simp only [List.map_cons, PyData.depthAll, PyData.depth]
    omega
theorem shaped_strs (l : List Str) (h : ∀ x ∈ l, PyData.strOk x = true) : SeqAt.shaped (.list (l.map PyData.str)) = true := by
  have h1 := depth_strs l
  have h2 : PyData.depth (.list (l.map PyData.str)) ≤ 64 := by simp only [PyData.depth]; omega
  show (PyData.canLay0 (.list (l.map PyData.str)) && decide (PyData.depth (.list (l.map PyData.str)) ≤ 64)) = true
  rw [Bool.and_eq_true]
  exact ⟨by simp only [PyData.canLay0]; exact canLay_strs l h, decide_eq_true h2⟩
theorem eqv_strs : ∀ l r : List Str, PyData.eqvAll (l.map PyData.str) (r.map PyData.str) = decide (l = r)
  | [], [] => by simp [PyData.eqvAll]
  | [], _ :: _ => by simp [PyData.eqvAll]
  | _ :: _, [] => by simp [PyData.eqvAll]
  | a :: r, b :: q => by
    simp only [List.map_cons, PyData.eqvAll, PyData.eqv, eqv_strs r q]
    by_cases h : a = b <;> simp [h]
section
variable {K : PySem.W.Frag} {H : Hp} {Q : VK}
theorem dpAll_strs : ∀ l : List Str, DpAll K H (l.map V.str) (l.map PyData.str)
  | [] => .nil
  | _ :: r => .cons (.str _) (dpAll_strs r)
theorem dp_strs {p : Addr} {l : List Str} (h : SqL K H p (l.map V.str)) : Dp K H (.ref p) (.list (l.map PyData.str)) := .lst h (dpAll_strs l)
theorem g_neStrs {p r : Addr} {l m : List Str} (o1 : ∀ x ∈ l, PyData.strOk x = true) (o2 : ∀ x ∈ m, PyData.strOk x = true) (h1 : SqL K H p (l.map V.str)) (h2 : SqL K H r (m.map V.str)) (q : Q (.bl (!decide (l = m))) H) : rNeD K (.ref p) (.ref r) H Q :=
  ⟨_, _, dp_strs h1, dp_strs h2, shaped_strs l o1, shaped_strs m o2, by rw [show PyData.eqv (.list (l.map PyData.str)) (.list (m.map PyData.str)) = decide (l = m) by simp only [PyData.eqv]; exact eqv_strs l m]; exact q⟩
theorem g_eqStrs {p r : Addr} {l m : List Str} (o1 : ∀ x ∈ l, PyData.strOk x = true) (o2 : ∀ x ∈ m, PyData.strOk x = true) (h1 : SqL K H p (l.map V.str)) (h2 : SqL K H r (m.map V.str)) (q : Q (.bl (decide (l = m))) H) : rEqD K (.ref p) (.ref r) H Q :=
  ⟨_, _, dp_strs h1, dp_strs h2, shaped_strs l o1, shaped_strs m o2, by rw [show PyData.eqv (.list (l.map PyData.str)) (.list (m.map PyData.str)) = decide (l = m) by simp only [PyData.eqv]; exact eqv_strs l m]; exact q⟩
end
end Fm
namespace Fm
open PySem PySem.Spec PyProof.Rows L2 SX
theorem sign_iff (l : List Nat) : (S (l.take 1) = (Str.ofString "-" : Str)) ↔ l.head? = some 45 := by
  rw [show (Str.ofString "-" : Str) = S [45] from rfl]
  constructor
  · intro h
    have := S_inj h
    cases l with
    | nil => simp at this
    | cons c r => simpa using this
  · intro h
    cases l with
    | nil => simp at h
    | cons c r =>
      simp at h
      subst h
      rfl
theorem join_parts : ∀ ps : List (List Nat), ps.length ≤ (TL.joinL [47] ps).length + 1 ∧ ∀ p ∈ ps, p.length ≤ (TL.joinL [47] ps).length ∧ ∀ c ∈ p, c ∈ TL.joinL [47] ps
  | [] => ⟨Nat.zero_le _, fun _ h => nomatch h⟩
  | [p] => ⟨by simp, fun q h => by
      have e : q = p := by simpa using h
      subst e
      exact ⟨by simp [TL.joinL], fun c hc => by simpa [TL.joinL] using hc⟩⟩
  | p :: q :: r => by
    obtain ⟨h1, h2⟩ := join_parts (q :: r)
    have e : TL.joinL [47] (p :: q :: r) = p ++ ([47] ++ TL.joinL [47] (q :: r)) := rfl
    rw [e]
    refine ⟨by simp at h1 ⊢; omega, fun x hx => ?_⟩
    rcases List.mem_cons.mp hx with rfl | hx
    · exact ⟨by simp, fun c hc => by simp [hc]⟩
    · obtain ⟨h3, h4⟩ := h2 x hx
      exact ⟨by simp; omega, fun c hc => by simp [h4 c hc]⟩
theorem digs_mem (c : Nat) : (!decide (c ∈ [48, 49, 50, 51, 52, 53, 54, 55, 56, 57])) = !dg c := by
  congr 1
  unfold dg
  rw [Bool.eq_iff_iff]
  simp
  omega
theorem take_succ_get {α : Type} {l : List α} {i : Nat} {x : α} (h : l[i]? = some x) : l.take (i + 1) = l.take i ++ [x] := by
  rw [List.take_add_one, h]; rfl
theorem bad_eq (p : List Nat) : badPart p = (decide (p = []) || (!decide ((p.filter fun c => !dg c).map (fun c => S [c]) = []) || (!decide (p = [48]) && decide (p.head? = some 48)))) := by
  unfold badPart dig
  cases p with
  | nil => rfl
  | cons c r =>
    rw [Bool.eq_iff_iff]
    simp
end Fm
namespace Fm
open PySem PySem.Spec PyProof.Rows L2 SX
theorem rdL_bad {l q : List Nat} (h : q ∈ TL.spl [47] 0 [] (body l)) (hb : badPart q = true) : rdL l = none := by
  unfold rdL
  generalize TL.spl [47] 0 [] (body l) = parts at h ⊢
  match parts, h with
  | [u], h =>
    have e : q = u := by simpa using h
    subst e
    simp only [hb, if_true]
  | [u, d], h =>
    have e : q = u ∨ q = d := by simpa using h
    have : (badPart u || badPart d) = true := by
      rcases e with rfl | rfl
      · rw [hb]; rfl
      · rw [hb, Bool.or_true]
    simp only [this, if_true]
  | _ :: _ :: _ :: _, _ => rfl
theorem spl_ne (l : List Nat) : TL.spl [47] 0 [] l ≠ [] := by
  intro h
  have := join_spl l []
  rw [h] at this
  have e : l = [] := by simpa [TL.joinL] using this.symm
  subst e
  cases h
end Fm
namespace Fm
open PySem PySem.Spec PyProof.Rows L2 SX
theorem g_lenQ {K : PySem.W.Frag} {H : Hp} {Q : VK} {p : Addr} {xs : List V} (h : SqL K H p xs) (q : Q (.int (xs.length : Int)) H) : rLenQ K [.ref p] H Q := ⟨p, xs, rfl, .inl h, q⟩
theorem at_zero {α : Type} {c : α} {r : List α} : atI (c :: r) 0 = some c := by
  unfold atI ixN
  simp
theorem at_one {α : Type} {b c : α} {r : List α} : atI (b :: c :: r) 1 = some c := by
  unfold atI ixN
  simp
  rw [if_pos (by omega)]
  rfl
theorem head_48 {c : Nat} {r : List Nat} : decide (S [c] = Str.ofString "0") = decide ((c :: r).head? = some 48) := by
  refine decide_eq_decide.mpr ⟨fun h => ?_, fun h => ?_⟩
  · have := S_inj (b := [48]) h
    simpa using this
  · have e : c = 48 := by simpa using h
    rw [e]
    rfl
end Fm
namespace Fm
open PySem PySem.Spec PyProof.Rows L2 SX
section
variable {σ : L2.St} {H : Hp} {t u : TT} {W : Bool → Hp → Prop} {b c : Bool}
theorem g_orB (h1 : ∀ W : Bool → Hp → Prop, W b H → t σ H W) (h2 : b = false → ∀ W : Bool → Hp → Prop, W c H → u σ H W) (q : W (b || c) H) : tOr t u σ H W := by
  refine g_or (h1 _ ?_)
  cases b with
  | true => exact q
  | false => exact h2 rfl _ q
theorem g_andB (h1 : ∀ W : Bool → Hp → Prop, W b H → t σ H W) (h2 : b = true → ∀ W : Bool → Hp → Prop, W c H → u σ H W) (q : W (b && c) H) : tAnd t u σ H W := by
  refine g_and (h1 _ ?_)
  cases b with
  | true => exact h2 rfl _ q
  | false => exact q
end
def dnOf : List (List Nat) → Nat
  | [d] => dv d
  | _ => 1
def sgnOf (l : List Nat) (n : Nat) : Int := if l.head? = some 45 then 0 - (n : Int) else n
theorem rdL_form {l u : List Nat} {r : List (List Nat)} (h : TL.spl [47] 0 [] (body l) = u :: r) (hall : ∀ q ∈ u :: r, badPart q = false) {n : Nat} (hn : n = (u :: r).length) :
    rdL l = if (decide (2 < (n : Int)) || (decide (u = [48]) && (decide ((n : Int) = 2) || decide (l.head? = some 45)))) = true then none
      else if (decide ((n : Int) = 2) && decide (((dnOf r : Nat) : Int) < 2)) = true then none
      else if (!decide (((Nat.gcd (dv u) (dnOf r) : Nat) : Int) = 1) && decide ((n : Int) = 2)) = true then none
      else some (Rat.divInt (sgnOf l (dv u)) ((dnOf r : Nat) : Int)) := by
  subst hn
  unfold rdL
  rw [h]
  match r, hall with
  | [], hall =>
    have b := hall u (by simp)
    simp only [b, dnOf, sgnOf]
    by_cases h1 : u = [48] <;> by_cases h2 : l.head? = some 45 <;> simp [h1, h2, int_divInt]
  | [d], hall =>
    have b := hall u (by simp)
    have b2 := hall d (by simp)
    have e : ((dv d : Nat) : Int) < 2 ↔ dv d < 2 := by omega
    have e3 : (((Nat.gcd (dv u) (dv d) : Nat) : Int) = 1) ↔ Nat.gcd (dv u) (dv d) = 1 := by omega
    simp only [b, b2, dnOf, sgnOf]
    by_cases h1 : u = [48] <;> by_cases h2 : l.head? = some 45 <;> by_cases h3 : dv d < 2 <;> by_cases h4 : Nat.gcd (dv u) (dv d) = 1 <;> simp [h1, h2, h3, h4, e, e3]
  | x :: y :: m, _ =>
    have e : (decide (2 < (((u :: x :: y :: m : List (List Nat)).length : Nat) : Int))) = true := decide_eq_true (by simp only [List.length_cons]; omega)
    simp only [e, Bool.true_or, if_true]
end Fm
namespace Fm
open PySem PySem.Spec PyProof.Rows L2 SX
/-! ### phrases: short texts of plain signs -/
def okS (s : Str) : Bool := decide (s.cps.toList.length < 60) && s.cps.toList.all (· < 256)
def okV : V → Bool
  | .str s => okS s
  | _ => false
theorem S_cps (s : Str) : S s.cps.toList = s := by
  show (⟨s.cps.toList.toArray⟩ : Str) = s
  rw [Array.toArray_toList]
theorem okV_S {x : V} (h : okV x = true) : ∃ l, x = .str (S l) ∧ l.length < 60 ∧ ∀ c ∈ l, c < 256 := by
  cases x with
  | str s =>
    have h' : okS s = true := h
    unfold okS at h'
    rw [Bool.and_eq_true] at h'
    exact ⟨s.cps.toList, by rw [S_cps], of_decide_eq_true h'.1, fun c hc => by have := List.all_eq_true.mp h'.2 c hc; simpa using this⟩
  | _ => cases h
theorem okV_of {l : List Nat} (h : l.length < 60) (h2 : ∀ c ∈ l, c < 256) : okV (.str (S l)) = true := by
  show okS (S l) = true
  unfold okS
  rw [Bool.and_eq_true]
  exact ⟨decide_eq_true h, List.all_eq_true.mpr fun c hc => decide_eq_true (h2 c hc)⟩
theorem numL_256 {n c : Nat} (h : c ∈ TL.numL n) : c < 256 := by
  have := List.all_eq_true.mp (numL_dg n) c h
  unfold dg at this
  rw [Bool.and_eq_true] at this
  have := of_decide_eq_true this.2
  omega
theorem txN_256 {n : Int} {c : Nat} (h : c ∈ txN n) : c < 256 := by
  unfold txN at h
  split at h
  · rcases List.mem_cons.mp h with rfl | h
    · omega
    · exact numL_256 h
  · exact numL_256 h
theorem txR_256 {q : Rat} {c : Nat} (h : c ∈ txR q) : c < 256 := by
  unfold txR at h
  rcases List.mem_append.mp h with h | h
  · exact txN_256 h
  · split at h
    · cases h
    · rcases List.mem_cons.mp h with rfl | h
      · omega
      · exact numL_256 h
theorem txR_len {q : Rat} {k : Nat} (hk : 0 < k) (h1 : q.num.natAbs < 10 ^ k) (h2 : q.den < 10 ^ k) : (txR q).length ≤ 2 * k + 2 := by
  have l1 := TL.numL_len hk h1
  have l2 := TL.numL_len hk h2
  have l3 : (txN q.num).length ≤ k + 1 := by rw [← txN_abs]; split <;> simp <;> omega
  unfold txR
  split
  · simp; omega
  · simp; omega
theorem numL_lt (n : Nat) : n < 10 ^ (TL.numL n).length := by
  have := dv_lt (dig_numL n)
  rw [dv_numL] at this
  exact this
theorem txR_big {q : Rat} {l : List Nat} (h : txR q = l) (hl : l.length < 60) : q.num.natAbs < 10 ^ 60 ∧ q.den < 10 ^ 60 := by
  have e1 : (TL.numL q.num.natAbs).length ≤ 60 := by
    have e : (txN q.num).length ≤ l.length := by rw [← h]; unfold txR; simp
    have e2 : (TL.numL q.num.natAbs).length ≤ (txN q.num).length := by unfold txN; split <;> simp
    omega
  refine ⟨Nat.lt_of_lt_of_le (numL_lt _) (Nat.pow_le_pow_right (by decide) e1), ?_⟩
  by_cases hd : q.den = 1
  · rw [hd]; decide
  · have e2 : (TL.numL q.den).length ≤ 60 := by
      have e : (TL.numL q.den).length ≤ l.length := by rw [← h]; unfold txR; rw [if_neg hd]; simp; omega
      omega
    exact Nat.lt_of_lt_of_le (numL_lt _) (Nat.pow_le_pow_right (by decide) e2)
end Fm
namespace Fm
open PySem PySem.Spec PyProof.Rows L2 SX
section
variable {H : Hp} {Q : VK} {m n : Addr} {xs ys : List V} {k j : Nat}
theorem g_lstOk (k : Nat) (h : xs.all okV = true) (hl : xs.length ≤ k) (hk : k ≤ 1000) (q : ∀ p ys H', ys.all okV = true → ys.length ≤ k → H p = none → Ex H H' → H' p = some (.lst ys) → Q (.ref p) H') :
    xs.length ≤ sizeLine ∧ ∀ p, H p = none → Q (.ref p) (upd H p (.lst xs)) :=
  ⟨Nat.le_trans (Nat.le_trans hl hk) (by decide), fun p hp => q p xs _ h hl hp (Ex.new hp) upd_same⟩
theorem g_catOk (hm : H m = some (.lst xs)) (hn : H n = some (.lst ys)) (h1 : xs.all okV = true) (h2 : ys.all okV = true) (l1 : xs.length ≤ k) (l2 : ys.length ≤ j) (hk : k + j ≤ 1000)
    (q : ∀ p zs H', zs.all okV = true → zs.length ≤ k + j → H p = none → Ex H H' → H' p = some (.lst zs) → Q (.ref p) H') : rCat (.ref m) (.ref n) H Q :=
  ⟨m, n, xs, ys, rfl, rfl, hm, hn, Nat.le_trans (show _ ≤ 1000 by omega) (by decide), fun p hp => q p _ _ (by rw [List.all_append, h1, h2]; rfl) (by rw [List.length_append]; omega) hp (Ex.new hp) upd_same⟩
end
end Fm
namespace Fm
open PySem PySem.Spec PyProof.Rows L2 SX
theorem lstFacts {H G : Hp} {p : Addr} {xs : List V} {k : Nat} (hG : upd H p (.lst xs) = G) (hp : H p = none) (h : xs.all okV = true) (hl : xs.length ≤ k) : ∃ ys, ys.all okV = true ∧ ys.length ≤ k ∧ Ex H G ∧ G p = some (.lst ys) := by
  subst hG
  exact ⟨xs, h, hl, Ex.new hp, upd_same⟩
theorem catFacts {H : Hp} {m n : Addr} {xs ys : List V} {k j : Nat} {W : Addr → Hp → Prop} (hm : H m = some (.lst xs)) (hn : H n = some (.lst ys)) (l1 : xs.length ≤ k) (l2 : ys.length ≤ j) (hk : k + j ≤ 1000)
    (q : ∀ p, H p = none → W p (upd H p (.lst (xs ++ ys)))) : ∃ l b xs zs, V.ref m = .ref l ∧ V.ref n = .ref b ∧ H l = some (.lst xs) ∧ H b = some (.lst zs) ∧ xs.length + zs.length ≤ sizeLine ∧ ∀ p, H p = none → W p (upd H p (.lst (xs ++ zs))) :=
  ⟨m, n, xs, ys, rfl, rfl, hm, hn, Nat.le_trans (show _ ≤ 1000 by omega) (by decide), q⟩
end Fm
namespace Fm
open PySem PySem.Spec PyProof.Rows L2 SX
theorem Ex.mo_new {H H1 H2 : Hp} {t : Addr} (e : Ex H H1) (h : H t = none) (m : Mo t H1 H2) : Ex H H2 := fun a o ha => m a o (e a o ha) (ne_of_none ha h)
theorem TapeAt.ne {H : Hp} {t x : Addr} {o : HO} (h : TapeAt H t) (hx : H x = some o) (hl : ∀ l, o ≠ .lst l) : x ≠ t := fun e => by
  obtain ⟨_, _, _, _, _, z⟩ := h
  rw [e, z] at hx
  exact hl _ (by cases hx; rfl)
theorem TapeAt.new {H : Hp} {t x : Addr} (h : TapeAt H t) (hx : H x = none) : x ≠ t := fun e => by
  obtain ⟨_, _, _, _, _, z⟩ := h
  rw [e, z] at hx
  cases hx
theorem RatV.mo {C : Addr} {H H' : Hp} {v : V} {q : Rat} {t : Addr} (h : TapeAt H t) (m : Mo t H H') (r : RatV C H v q) : RatV C H' v q := by
  obtain ⟨p, rfl, dx, hp⟩ := r
  exact ⟨p, rfl, dx, m _ _ hp (h.ne hp fun l => by intro z; cases z)⟩
end Fm
namespace Fm
open PySem PySem.Spec PyProof.Rows L2 SX
def rMaxI : List V → Hp → VK → Prop := fun xs H Q => ∃ i j, xs = [.int i, .int j] ∧ Q (.int (if j > i then j else i)) H
def rMinI : List V → Hp → VK → Prop := fun xs H Q => ∃ i j, xs = [.int i, .int j] ∧ Q (.int (if j < i then j else i)) H
theorem cr_max2 {X : Cx} (hc : X.calm = true) : CallR X (.builtin "max") rMaxI := call_max2 hc
theorem cr_min2 {X : Cx} (hc : X.calm = true) : CallR X (.builtin "min") rMinI := call_min2 hc
end Fm
namespace Fm
open PySem PySem.Spec PyProof.Rows L2 SX
/-- a pair that the law drew, at its place -/
structure PrOk (H : Hp) (t : Addr) (e : Addr × Int × Int) : Prop where
  ne : e.1 ≠ t
  at_ : H e.1 = some (.tup [.int e.2.1, .int e.2.2])
  l1 : -(10 ^ 11) ≤ e.2.1
  l2 : e.2.1 ≤ 10 ^ 11
  l3 : 1 ≤ e.2.2
  l4 : e.2.2 ≤ 10 ^ 11
theorem PrOk.mono {H H' : Hp} {t : Addr} {e : Addr × Int × Int} (x : Ex H H') (h : PrOk H t e) : PrOk H' t e := ⟨h.ne, x _ _ h.at_, h.l1, h.l2, h.l3, h.l4⟩
theorem PrOk.mo {H H' : Hp} {t : Addr} {e : Addr × Int × Int} (x : Mo t H H') (h : PrOk H t e) : PrOk H' t e := ⟨h.ne, x _ _ h.at_ h.ne, h.l1, h.l2, h.l3, h.l4⟩
def rtOf (e : Addr × Int × Int) : Rat := Rat.divInt e.2.1 e.2.2
/-- what stands in a lap of the law -/
structure Bn (C : Addr) (H0 H : Hp) (t D F : Addr) (e0 e1 e2 : Addr × Int × Int) (r0 r1 r2 : V) : Prop where
  ex : Ex H0 H
  nw : H0 t = none
  tp : TapeAt H t
  hD : H D = some (.lst [.ref e0.1, .ref e1.1, .ref e2.1])
  hF : H F = some (.lst [r0, r1, r2])
  dt : D ≠ t
  ft : F ≠ t
  p0 : PrOk H t e0
  p1 : PrOk H t e1
  p2 : PrOk H t e2
  q0 : RatV C H r0 (rtOf e0)
  q1 : RatV C H r1 (rtOf e1)
  q2 : RatV C H r2 (rtOf e2)
section
variable {C : Addr} {H0 H H' : Hp} {t D F : Addr} {e0 e1 e2 : Addr × Int × Int} {r0 r1 r2 : V}
theorem Bn.mono (b : Bn C H0 H t D F e0 e1 e2 r0 r1 r2) (e : Ex H H') : Bn C H0 H' t D F e0 e1 e2 r0 r1 r2 :=
  ⟨b.ex.trans e, b.nw, b.tp.mono e, e _ _ b.hD, e _ _ b.hF, b.dt, b.ft, b.p0.mono e, b.p1.mono e, b.p2.mono e, b.q0.mono e, b.q1.mono e, b.q2.mono e⟩
theorem Bn.mo (b : Bn C H0 H t D F e0 e1 e2 r0 r1 r2) (m : Mo t H H') (h : TapeAt H' t) : Bn C H0 H' t D F e0 e1 e2 r0 r1 r2 :=
  ⟨b.ex.mo_new b.nw m, b.nw, h, m _ _ b.hD b.dt, m _ _ b.hF b.ft, b.dt, b.ft, b.p0.mo m, b.p1.mo m, b.p2.mo m, b.q0.mo b.tp m, b.q1.mo b.tp m, b.q2.mo b.tp m⟩
end
end Fm
namespace Fm
open PySem PySem.Spec PyProof.Rows L2 SX
theorem g_makeK {C : Addr} {n m : Nat} {sp : Sp} {gV : List V → List V → List V} {E : XK} {t tk : TA} {σ : L2.St} {H : Hp} {Q : VK} (q : t σ H fun vs H1 => tk σ H1 fun zs H2 => vs.length = n ∧ zs.length = m ∧ ∀ x dx, H2 x = none → H2 dx = none → dx ≠ x →
  sp (gV (.ref x :: vs) zs) (upd (upd H2 dx (.own x)) x (.ins C dx [])) (fun v H3 => v = .non ∧ Q (.ref x) H3) E) : tMakeK C n m sp gV E t tk σ H Q := q
theorem flip_divInt {u p : Int} (hp : p ≠ 0) : Rat.divInt u (0 - p) = Rat.divInt (0 - u) p := by
  rw [Rat.divInt_eq_divInt_iff (by omega) hp, Int.zero_sub, Int.zero_sub, Int.neg_mul_neg]
theorem use_pairR {K : PySem.W.Frag} {C : Addr} {H : Hp} {Q : VK} {E : XK} {x y : V} {ta tb : Addr} {p q r s : Int} (hx : RatV C H x (Rat.divInt p q)) (hy : NumV C H y (Rat.divInt r s)) (ha : SqT K H ta [.int p, .int q]) (hb : SqT K H tb [.int r, .int s])
    (hq : 0 < q) (hs : 0 < s) (b1 : p.natAbs < 2 ^ 60) (b2 : q.natAbs < 2 ^ 60) (b3 : r.natAbs < 2 ^ 60) (b4 : s.natAbs < 2 ^ 60) (z : ∀ H', Ex H H' → Q (.bl true) H') : spPairR K C [x, y, .ref ta, .ref tb] H Q E :=
  ⟨x, y, ta, tb, p, q, r, s, rfl, hx, hy, ha, hb, hq, hs, b1, b2, b3, b4, z⟩
theorem sumR1 {x : Rat} : sumR [x] = x := by
  show 0 + x = x
  exact Rat.zero_add x
theorem sumR2 {x y : Rat} : sumR [x, y] = x + y := by
  show 0 + x + y = x + y
  rw [Rat.zero_add]
theorem sumR3 {x y z : Rat} : sumR [x, y, z] = x + y + z := by
  show 0 + x + y + z = x + y + z
  rw [Rat.zero_add]
theorem add_int {p q w : Int} (hq : q ≠ 0) : Rat.divInt p q + (w : Rat) = Rat.divInt (p + w * q) q := by
  rw [← int_divInt w, Rat.divInt_add_divInt _ _ hq (by decide), Int.mul_one, Int.mul_one]
end Fm

set_option maxHeartbeats 2000000
namespace Fm
open PySem PySem.Spec PyProof.Rows L2
/-! ### any value that is handed in: of None, bools, ints, texts, Ratios, lists, tuples, dicts of texts -/
inductive Da where
  | non | bl (b : Bool) | int (i : Int) | str (s : Str) | rat (q : Rat) | lst (l : List Da) | tup (l : List Da) | dic (l : List (Str × Da))
mutual
/-- what the law shows of it -/
def Da.sh : Da → PyData
  | .non => .str "None"
  | .bl b => .str (if b then "True" else "False" : String)
  | .int i => .str (toString i)
  | .str s => .str (reprText s)
  | .rat q => .list [.str "ratio", .int q.num, .int (q.den : Int)]
  | .lst l => .list [.str "list", .list (shL l)]
  | .tup l => .list [.str "tuple", .list (shL l)]
  | .dic l => .list [.str "dict", .list (shD l)]
def shL : List Da → List PyData
  | [] => []
  | d :: r => d.sh :: shL r
def shD : List (Str × Da) → List PyData
  | [] => []
  | (s, d) :: r => .tuple [.str (reprText s), d.sh] :: shD r
end
mutual
/-- how deep -/
def Da.dp : Da → Nat
  | .lst l => dpL l + 1
  | .tup l => dpL l + 1
  | .dic l => dpD l + 1
  | _ => 0
def dpL : List Da → Nat
  | [] => 0
  | d :: r => max d.dp (dpL r)
def dpD : List (Str × Da) → Nat
  | [] => 0
  | (_, d) :: r => max d.dp (dpD r)
end
/-- a plain text -/
def fineS (s : Str) : Bool := decide (s.cps.toList.length ≤ 200) && PyData.strOk (reprText s) && decide ((reprText s).length ≤ sizeLine)
mutual
/-- no dict in it -/
def Da.noDic : Da → Bool
  | .lst l => noDicL l
  | .tup l => noDicL l
  | .dic _ => false
  | _ => true
def noDicL : List Da → Bool
  | [] => true
  | d :: r => d.noDic && noDicL r
end
mutual
/-- of moderate size -/
def Da.fine : Da → Bool
  | .int i => decide (i.natAbs < 2 ^ 200)
  | .str s => fineS s
  | .rat q => decide (q.num.natAbs < 2 ^ 200) && decide (q.den < 2 ^ 200)
  | .lst l => decide (l.length ≤ 1000) && fineL l
  | .tup l => decide (l.length ≤ 1000) && fineL l
  | .dic l => decide (l.length ≤ 1) && fineD l
  | _ => true
def fineL : List Da → Bool
  | [] => true
  | d :: r => d.fine && fineL r
def fineD : List (Str × Da) → Bool
  | [] => true
  | (s, d) :: r => fineS s && d.fine && d.noDic && fineD r
end
mutual
inductive DaV (C : Addr) (H : Hp) : V → Da → Prop
  | non : DaV C H .non .non
  | bl (b : Bool) : DaV C H (.bl b) (.bl b)
  | int (i : Int) : DaV C H (.int i) (.int i)
  | str (s : Str) : DaV C H (.str s) (.str s)
  | rat {v : V} {q : Rat} (h : RatV C H v q) : DaV C H v (.rat q)
  | lst {p : Addr} {xs : List V} {ds : List Da} (h : H p = some (.lst xs)) (r : DaVs C H xs ds) : DaV C H (.ref p) (.lst ds)
  | tup {p : Addr} {xs : List V} {ds : List Da} (h : H p = some (.tup xs)) (r : DaVs C H xs ds) : DaV C H (.ref p) (.tup ds)
  | dic {p : Addr} {ks : List (Key × V)} {ds : List (Str × Da)} (h : H p = some (.dK ks)) (r : DaKs C H ks ds) : DaV C H (.ref p) (.dic ds)
inductive DaVs (C : Addr) (H : Hp) : List V → List Da → Prop
  | nil : DaVs C H [] []
  | cons {v : V} {d : Da} {vs : List V} {ds : List Da} (h : DaV C H v d) (r : DaVs C H vs ds) : DaVs C H (v :: vs) (d :: ds)
inductive DaKs (C : Addr) (H : Hp) : List (Key × V) → List (Str × Da) → Prop
  | nil : DaKs C H [] []
  | cons {s : Str} {v : V} {d : Da} {vs : List (Key × V)} {ds : List (Str × Da)} (h : DaV C H v d) (r : DaKs C H vs ds) : DaKs C H ((.inr s, v) :: vs) ((s, d) :: ds)
end
section
variable {C : Addr} {H H' : Hp}
mutual
theorem DaV.mono (e : Ex H H') : ∀ {v : V} {d : Da}, DaV C H v d → DaV C H' v d
  | _, _, .non => .non
  | _, _, .bl b => .bl b
  | _, _, .int i => .int i
  | _, _, .str s => .str s
  | _, _, .rat h => .rat (h.mono e)
  | _, _, .lst h r => .lst (e _ _ h) (DaVs.mono e r)
  | _, _, .tup h r => .tup (e _ _ h) (DaVs.mono e r)
  | _, _, .dic h r => .dic (e _ _ h) (DaKs.mono e r)
theorem DaVs.mono (e : Ex H H') : ∀ {vs : List V} {ds : List Da}, DaVs C H vs ds → DaVs C H' vs ds
  | _, _, .nil => .nil
  | _, _, .cons h r => .cons (DaV.mono e h) (DaVs.mono e r)
theorem DaKs.mono (e : Ex H H') : ∀ {vs : List (Key × V)} {ds : List (Str × Da)}, DaKs C H vs ds → DaKs C H' vs ds
  | _, _, .nil => .nil
  | _, _, .cons h r => .cons (DaV.mono e h) (DaKs.mono e r)
end
theorem DaVs.length : ∀ {vs : List V} {ds : List Da}, DaVs C H vs ds → vs.length = ds.length
  | _, _, .nil => rfl
  | _, _, .cons _ r => congrArg Nat.succ r.length
theorem DaVs.at : ∀ {vs : List V} {ds : List Da} {i : Nat} {v : V}, DaVs C H vs ds → vs[i]? = some v → ∃ d, ds[i]? = some d ∧ DaV C H v d
  | _, _, _, _, .nil, h => by simp at h
  | _, _, 0, _, .cons h _, e => by simp at e; subst e; exact ⟨_, rfl, h⟩
  | _, _, i + 1, v, .cons _ r, e => by
    obtain ⟨d, h1, h2⟩ := DaVs.at (i := i) (v := v) r (by simpa using e)
    exact ⟨d, by simpa using h1, h2⟩
theorem RatsV.da {vs : List V} {qs : List Rat} (h : RatsV C H vs qs) : DaVs C H vs (qs.map .rat) := by
  unfold RatsV at h
  induction h with
  | nil => exact .nil
  | cons h _ ih => exact .cons (.rat h) ih
/-- its type -/
def Da.ty (C : Addr) : Da → Value
  | .non => .type "NoneType"
  | .bl _ => .type "bool"
  | .int _ => .type "int"
  | .str _ => .type "str"
  | .rat _ => .ref C
  | .lst _ => .type "list"
  | .tup _ => .type "tuple"
  | .dic _ => .type "dict"
theorem Da.kty (d : Da) : KTy C (d.ty C) := by
  cases d
  · exact .non
  · exact .bool
  · exact .int
  · exact .str
  · exact .own
  · exact .list
  · exact .tuple
  · exact .dict
theorem DaV.tyx {K : PySem.W.Frag} (R : RC K C) {v : V} {d : Da} (h : DaV C H v d) : TyX K H v (d.ty C) := by
  cases h with
  | non => exact .base .non
  | bl b => exact .base (.bl b)
  | int i => exact .base (.int i)
  | str s => exact .base (.str s)
  | rat h => exact ty_rat R h
  | lst h _ => exact .base (.lst h)
  | tup h _ => exact .base (.tup h)
  | dic h _ => exact .base (.dK h)
/-- a number -/
def Da.isNum : Da → Bool
  | .int _ => true
  | .rat _ => true
  | _ => false
def Da.num : Da → Rat
  | .int i => (i : Rat)
  | .rat q => q
  | _ => 0
theorem Da.ty_num (d : Da) : (d.ty C == .ref C || d.ty C == .type "int") = d.isNum := by
  cases d <;> simp [Da.ty, Da.isNum]
theorem DaV.num {v : V} {d : Da} (h : DaV C H v d) (n : d.isNum = true) : NumV C H v d.num := by
  cases h with
  | int i => exact .inl ⟨i, rfl, rfl⟩
  | rat h => exact .inr h
  | _ => cases n
theorem Da.numSz {d : Da} (h : d.fine = true) : Sz 201 d.num := by
  cases d with
  | int i =>
    have h1 : i.natAbs < 2 ^ 200 := by unfold Da.fine at h; exact of_decide_eq_true h
    show Sz 201 (i : Rat)
    rw [← int_divInt]
    exact Sz.divInt (by omega) (by decide) (by decide)
  | rat q =>
    have h1 : q.num.natAbs < 2 ^ 200 ∧ q.den < 2 ^ 200 := by
      unfold Da.fine at h
      simpa using h
    show Sz 201 q
    exact ⟨by omega, by omega⟩
  | _ => exact (⟨by decide, by decide⟩ : Sz 201 (0 : Rat))
/-- a list of numbers, perhaps of none -/
def Da.nums : Da → Bool
  | .lst l => l.all Da.isNum
  | .tup l => l.all Da.isNum
  | _ => false
end
end Fm
namespace Fm
open PySem PySem.Spec PyProof.Rows L2
/-! ### isinstance, len -/
def kinds : List String := ["int", "bool", "NoneType", "str", "list", "tuple", "dict"]
/-- the class of the Ratios is no list, tuple or dict -/
structure RC2 (K : PySem.W.Frag) (C : Addr) : Prop where
  lst : PySem.W.subIn K (.ref C) (.type "list") = some false
  tup : PySem.W.subIn K (.ref C) (.type "tuple") = some false
  dic : PySem.W.subIn K (.ref C) (.type "dict") = some false
/-- the class of the scales at CS, beside that of the Ratios at C -/
structure SC (K : PySem.W.Frag) (CS C : Addr) : Prop where
  cl : Cls K CS
  nM : NoAttr K CS "_marks"
  ha : PySem.W.findIn K (.ref CS) "__class__" = some (some (.builtin "object.__class__"))
  hm : PySem.W.mroIn K CS (.type "object") = some true
  own : (PySem.W.clsIn K CS).isSome = true
  ty : PySem.W.typeIn K (.ref CS) = some (.type "type")
  noRef : ∀ n ∈ kinds, PySem.W.subIn K (.type n) (.ref CS) = some false
  rat : PySem.W.subIn K (.ref C) (.ref CS) = some false
theorem kit_meta {n : String} (h : n = "list" ∨ n = "tuple" ∨ n = "dict") : PySem.W.kitMeta n = true := by
  rcases h with rfl | rfl | rfl <;> decide +kernel
theorem kit_ref {K : PySem.W.Frag} {C : Addr} {n : String} {b : Bool} (hm : PySem.W.kitMeta n = true) (h : PySem.W.subIn K (.ref C) (.type n) = some b) : PySem.W.kitOne K (.ref C) (.type n) = some b := by
  show (if (Value.ref C == Value.type n) = true then some true else PySem.W.kitCls K (.ref C) (.type n)) = _
  rw [if_neg (by simp)]
  show (if PySem.W.kitMeta n = true then PySem.W.subIn K (.ref C) (.type n) else none) = _
  rw [if_pos hm, h]
def Da.isLst : Da → Bool
  | .lst _ => true
  | _ => false
def Da.isTup : Da → Bool
  | .tup _ => true
  | _ => false
def Da.isDic : Da → Bool
  | .dic _ => true
  | _ => false
section
variable {K : PySem.W.Frag} {C CS : Addr}
theorem kit_lst (R : RC2 K C) (d : Da) : PySem.W.kitOne K (d.ty C) (.type "list") = some d.isLst := by
  cases d <;> first | exact kit_ref (kit_meta (.inl rfl)) R.lst | exact kit_ty (r := true) (by decide +kernel) | exact kit_ty (r := false) (by decide +kernel)
theorem kit_tup (R : RC2 K C) (d : Da) : PySem.W.kitOne K (d.ty C) (.type "tuple") = some d.isTup := by
  cases d <;> first | exact kit_ref (kit_meta (.inr (.inl rfl))) R.tup | exact kit_ty (r := true) (by decide +kernel) | exact kit_ty (r := false) (by decide +kernel)
theorem kit_dic (R : RC2 K C) (d : Da) : PySem.W.kitOne K (d.ty C) (.type "dict") = some d.isDic := by
  cases d <;> first | exact kit_ref (kit_meta (.inr (.inr rfl))) R.dic | exact kit_ty (r := true) (by decide +kernel) | exact kit_ty (r := false) (by decide +kernel)
theorem kit_lt (R : RC2 K C) (d : Da) : PySem.W.kitAny K (d.ty C) [.type "list", .type "tuple"] = some (d.isLst || d.isTup) := by
  unfold PySem.W.kitAny
  rw [kit_lst R d]
  cases d.isLst with
  | true => rfl
  | false =>
    unfold PySem.W.kitAny
    rw [kit_tup R d]
    cases d.isTup <;> rfl
theorem kit_rat (R : RC K C) (d : Da) : PySem.W.kitOne K (d.ty C) (.ref C) = some (d.ty C == .ref C) := kit_own R d.kty
theorem kit_sc0 (S : SC K CS C) {n : String} (h : n ∈ kinds) : PySem.W.kitOne K (.type n) (.ref CS) = some false := by
  show (if (Value.type n == Value.ref CS) = true then some true else PySem.W.kitCls K (.type n) (.ref CS)) = _
  rw [if_neg (by simp)]
  show (if ((PySem.W.clsIn K CS).isSome && PySem.W.typeIn K (.ref CS) == some (.type "type")) = true then PySem.W.subIn K (.type n) (.ref CS) else none) = _
  rw [S.own, S.ty, if_pos (by simp), S.noRef n h]
theorem kit_sc (S : SC K CS C) (hne : C ≠ CS) (d : Da) : PySem.W.kitOne K (d.ty C) (.ref CS) = some false := by
  cases d <;> first | exact kit_sc0 S (by decide) | skip
  show (if (Value.ref C == Value.ref CS) = true then some true else PySem.W.kitCls K (.ref C) (.ref CS)) = _
  rw [if_neg (by simpa using hne)]
  show (if ((PySem.W.clsIn K CS).isSome && PySem.W.typeIn K (.ref CS) == some (.type "type")) = true then PySem.W.subIn K (.ref C) (.ref CS) else none) = _
  rw [S.own, S.ty, if_pos (by simp), S.rat]
theorem kit_scS : PySem.W.kitOne K (.ref CS) (.ref CS) = some true := by
  show (if (Value.ref CS == Value.ref CS) = true then some true else _) = _
  rw [if_pos (by simp)]
theorem first_sc (S : SC K CS C) (d : Da) : PySem.W.notFirst K CS (d.ty C) = true := by
  cases d
  case rat =>
    unfold PySem.W.notFirst Da.ty
    rw [S.rat]
    simp
  all_goals
    unfold PySem.W.notFirst Da.ty
    rw [S.noRef _ (by decide)]
    simp
theorem ty_sc (R : RC K C) (S : SC K CS C) {H : Hp} {p dx : Addr} {fs : List (Str × V)} (h : H p = some (.ins CS dx fs)) : TyX K H (.ref p) (.ref CS) := .base (.ins h S.cl S.ha R.hn R.htk S.hm)
end
theorem g_isiT {K : PySem.W.Frag} {H : Hp} {Q : VK} {x : V} {tp : Addr} {cs : List V} {t : Value} {us : List Value} {b : Bool} (ht : H tp = some (.tup cs)) (hc : Paired ClsV cs us) (ty : TyX K H x t) (e : PySem.W.kitAny K t us = some b) (q : Q (.bl b) H) : rIsiT K [x, .ref tp] H Q := ⟨x, tp, cs, t, us, b, rfl, ht, hc, ty, e, q⟩
/-- len of an own instance -/
def rLenOwn (C : Addr) (sp : Sp) (E : XK) : List V → Hp → VK → Prop := fun xs H Q => ∃ (a dx : Addr) (fs : List (Str × V)), xs = [.ref a] ∧ H a = some (.ins C dx fs) ∧ sp [.ref a] H (fun v H' => ∃ n : Nat, v = .int (n : Int) ∧ n < 2 ^ 62 ∧ Q (.int (n : Int)) H') E
theorem cr_lenOwn {X : Cx} {CX : CXT} {k : Nat} {f C : Addr} {fd : FuncData} {ps : List Str} {sp : Sp} {E : XK} (hs : PySem.W.findIn X.K (.ref C) "__len__" = some (some (.ref f))) (hf : PySem.W.isFn X.K (.ref f) = true)
    (F : FnOk X.prog X.w X.K X.mg X.base CX k f fd ps sp) (hr : Room (k + 1) X.A) (hb : Binds X.K fd ps []) (hx : Passes CX (in1X X) E) : CallR X (.builtin "len") (rLenOwn C sp E) := by
  intro pins s σ H xs us Q I r h
  obtain ⟨a, dx, fs, rfl, ha, q⟩ := h
  obtain ⟨u, rfl, hv⟩ := vals1 r
  cases hv
  obtain ⟨ox, od, J⟩ := inst_of I ha
  obtain ⟨m, hF⟩ := I.fr
  have R := run_fn (X := in1X X) (us := [.ref a]) (vs := [.ref a]) (dvs := []) (ds := []) F hr.in1 hb .nil hx (in1_inv I) (.cons rfl .nil) q
  refine PySem.W.len_K hF I.ok.mod.kin J hs hf (wpAny_mono R (fun v s' z => ?_) fun _ _ e => e)
  obtain ⟨w, H', J2, rv, n, e, hn, q2⟩ := z
  subst e
  obtain ⟨t, rfl⟩ := rv
  exact ⟨⟨by omega, by omega⟩, .int _, H', (un_in1 J2).tok _, ⟨_, rfl⟩, q2⟩
end Fm
namespace Fm
open PySem PySem.Spec PyProof.Rows L2
/-! ### own errors that keep what was passed -/
def spBadInit (fld : Str) (C : Addr) : Sp := fun vs H Q _ => ∃ (e : Addr) (v : V), vs = [.ref e, v] ∧ H e = some (exo e C none) ∧ ∀ d, H d = none → d ≠ e → Q .non (upd (upd H d (exd d [(fld, v)])) e (exo e C (some d)))
theorem g_oex {C : Addr} {fld : Str} {v : V} {H : Hp} {Q : XK} (z : ∀ d H', H d = none → Ex H H' → H' d = some (.xd [(fld, v)]) → Q (.ref C) (some d) H') : [v].length ≤ 1000 ∧ ∀ e, H e = none → spBadInit fld C (.ref e :: ([v] ++ [])) (upd H e (exo e C none))
    (fun v2 H2 => v2 = .non ∧ ∃ d fs, H2 e = some (exo e C (some d)) ∧ H2 d = some (exd d fs) ∧ H d = none ∧ Q (.ref C) (some d) (upd (del H2 e) d (.xd fs))) (fun _ _ _ => False) := by
  refine ⟨by show 1 ≤ 1000; decide, fun e he => ⟨e, v, rfl, upd_same, fun d hd hn => ⟨rfl, d, _, upd_same, by rw [upd_ne hn, upd_same], by rw [upd_ne hn] at hd; exact hd, ?_⟩⟩⟩
  have hd1 : H d = none := by rw [upd_ne hn] at hd; exact hd
  refine z d _ hd1 (fun b o hb => ?_) upd_same
  rw [upd_ne (ne_of_none hb hd1), del_ne (ne_of_none hb he), upd_ne (ne_of_none hb he), upd_ne (ne_of_none hb hd1), upd_ne (ne_of_none hb he)]
  exact hb
end Fm

set_option maxHeartbeats 4000000
namespace Kx
open PySem PySem.Spec PyProof.Rows L2 Fm
def top (i : Nat) : Stmt := PySem.Challenge.pw_firstmeans_k03_scales.main.body.getD i (.Pass ⟨0, 0, 0, 0⟩)
abbrev s_BadNumber_init : Stmt := inClass (top 6) 0
abbrev N_BadNumber_init : List Str := ["self", "given"]
abbrev P_BadNumber_init : List Str := ["self", "given"]
theorem sc_BadNumber_init : FnScope N_BadNumber_init P_BadNumber_init (defScope s_BadNumber_init) := ⟨rfl, rfl, rfl, by decide +kernel, rfl, by decide +kernel, by decide +kernel⟩
abbrev s_BadValues_init : Stmt := inClass (top 7) 0
abbrev N_BadValues_init : List Str := ["self", "given"]
abbrev P_BadValues_init : List Str := ["self", "given"]
theorem sc_BadValues_init : FnScope N_BadValues_init P_BadValues_init (defScope s_BadValues_init) := ⟨rfl, rfl, rfl, by decide +kernel, rfl, by decide +kernel, by decide +kernel⟩
abbrev s_NoValue_init : Stmt := inClass (top 8) 0
abbrev N_NoValue_init : List Str := ["self", "given"]
abbrev P_NoValue_init : List Str := ["self", "given"]
theorem sc_NoValue_init : FnScope N_NoValue_init P_NoValue_init (defScope s_NoValue_init) := ⟨rfl, rfl, rfl, by decide +kernel, rfl, by decide +kernel, by decide +kernel⟩
abbrev s_Ratio_init : Stmt := inClass (top 10) 0
abbrev N_Ratio_init : List Str := ["self", "top", "bottom", "shared"]
abbrev P_Ratio_init : List Str := ["self", "top", "bottom"]
theorem sc_Ratio_init : FnScope N_Ratio_init P_Ratio_init (defScope s_Ratio_init) := ⟨rfl, rfl, rfl, by decide +kernel, rfl, by decide +kernel, by decide +kernel⟩
abbrev s_Ratio_add : Stmt := inClass (top 10) 1
abbrev N_Ratio_add : List Str := ["self", "other", "number"]
abbrev P_Ratio_add : List Str := ["self", "other"]
theorem sc_Ratio_add : FnScope N_Ratio_add P_Ratio_add (defScope s_Ratio_add) := ⟨rfl, rfl, rfl, by decide +kernel, rfl, by decide +kernel, by decide +kernel⟩
abbrev s_Ratio_sub : Stmt := inClass (top 10) 2
abbrev N_Ratio_sub : List Str := ["self", "other", "number"]
abbrev P_Ratio_sub : List Str := ["self", "other"]
theorem sc_Ratio_sub : FnScope N_Ratio_sub P_Ratio_sub (defScope s_Ratio_sub) := ⟨rfl, rfl, rfl, by decide +kernel, rfl, by decide +kernel, by decide +kernel⟩
abbrev s_Ratio_mul : Stmt := inClass (top 10) 3
abbrev N_Ratio_mul : List Str := ["self", "other", "number"]
abbrev P_Ratio_mul : List Str := ["self", "other"]
theorem sc_Ratio_mul : FnScope N_Ratio_mul P_Ratio_mul (defScope s_Ratio_mul) := ⟨rfl, rfl, rfl, by decide +kernel, rfl, by decide +kernel, by decide +kernel⟩
abbrev s_Ratio_neg : Stmt := inClass (top 10) 4
abbrev N_Ratio_neg : List Str := ["self"]
abbrev P_Ratio_neg : List Str := ["self"]
theorem sc_Ratio_neg : FnScope N_Ratio_neg P_Ratio_neg (defScope s_Ratio_neg) := ⟨rfl, rfl, rfl, by decide +kernel, rfl, by decide +kernel, by decide +kernel⟩
abbrev s_Ratio_eq : Stmt := inClass (top 10) 5
abbrev N_Ratio_eq : List Str := ["self", "other", "number"]
abbrev P_Ratio_eq : List Str := ["self", "other"]
theorem sc_Ratio_eq : FnScope N_Ratio_eq P_Ratio_eq (defScope s_Ratio_eq) := ⟨rfl, rfl, rfl, by decide +kernel, rfl, by decide +kernel, by decide +kernel⟩
abbrev s_Ratio_lt : Stmt := inClass (top 10) 6
abbrev N_Ratio_lt : List Str := ["self", "other", "number"]
abbrev P_Ratio_lt : List Str := ["self", "other"]
theorem sc_Ratio_lt : FnScope N_Ratio_lt P_Ratio_lt (defScope s_Ratio_lt) := ⟨rfl, rfl, rfl, by decide +kernel, rfl, by decide +kernel, by decide +kernel⟩
abbrev s_Ratio_le : Stmt := inClass (top 10) 7
abbrev N_Ratio_le : List Str := ["self", "other", "number"]
abbrev P_Ratio_le : List Str := ["self", "other"]
theorem sc_Ratio_le : FnScope N_Ratio_le P_Ratio_le (defScope s_Ratio_le) := ⟨rfl, rfl, rfl, by decide +kernel, rfl, by decide +kernel, by decide +kernel⟩
abbrev s_is_whole : Stmt := top 11
abbrev N_is_whole : List Str := ["value"]
abbrev P_is_whole : List Str := ["value"]
theorem sc_is_whole : FnScope N_is_whole P_is_whole (defScope s_is_whole) := ⟨rfl, rfl, rfl, by decide +kernel, rfl, by decide +kernel, by decide +kernel⟩
abbrev s_is_number : Stmt := top 12
abbrev N_is_number : List Str := ["value"]
abbrev P_is_number : List Str := ["value"]
theorem sc_is_number : FnScope N_is_number P_is_number (defScope s_is_number) := ⟨rfl, rfl, rfl, by decide +kernel, rfl, by decide +kernel, by decide +kernel⟩
abbrev s_are_numbers : Stmt := top 13
abbrev N_are_numbers : List Str := ["value", "item"]
abbrev P_are_numbers : List Str := ["value"]
theorem sc_are_numbers : FnScope N_are_numbers P_are_numbers (defScope s_are_numbers) := ⟨rfl, rfl, rfl, by decide +kernel, rfl, by decide +kernel, by decide +kernel⟩
abbrev s_as_ratio : Stmt := top 14
abbrev N_as_ratio : List Str := ["given"]
abbrev P_as_ratio : List Str := ["given"]
theorem sc_as_ratio : FnScope N_as_ratio P_as_ratio (defScope s_as_ratio) := ⟨rfl, rfl, rfl, by decide +kernel, rfl, by decide +kernel, by decide +kernel⟩
abbrev s_Scale_init : Stmt := inClass (top 21) 0
abbrev N_Scale_init : List Str := ["self", "values"]
abbrev P_Scale_init : List Str := ["self", "values"]
theorem sc_Scale_init : FnScope N_Scale_init P_Scale_init (defScope s_Scale_init) := ⟨rfl, rfl, rfl, by decide +kernel, rfl, by decide +kernel, by decide +kernel⟩
abbrev s_Scale_len : Stmt := inClass (top 21) 1
abbrev N_Scale_len : List Str := ["self"]
abbrev P_Scale_len : List Str := ["self"]
theorem sc_Scale_len : FnScope N_Scale_len P_Scale_len (defScope s_Scale_len) := ⟨rfl, rfl, rfl, by decide +kernel, rfl, by decide +kernel, by decide +kernel⟩
abbrev s_Scale_eq : Stmt := inClass (top 21) 2
abbrev N_Scale_eq : List Str := ["self", "other"]
abbrev P_Scale_eq : List Str := ["self", "other"]
theorem sc_Scale_eq : FnScope N_Scale_eq P_Scale_eq (defScope s_Scale_eq) := ⟨rfl, rfl, rfl, by decide +kernel, rfl, by decide +kernel, by decide +kernel⟩
abbrev s_Scale_marks : Stmt := inClass (top 21) 3
abbrev N_Scale_marks : List Str := ["self"]
abbrev P_Scale_marks : List Str := ["self"]
theorem sc_Scale_marks : FnScope N_Scale_marks P_Scale_marks (defScope s_Scale_marks) := ⟨rfl, rfl, rfl, by decide +kernel, rfl, by decide +kernel, by decide +kernel⟩
abbrev s_Scale_place : Stmt := inClass (top 21) 4
abbrev N_Scale_place : List Str := ["self", "value", "place", "mark"]
abbrev P_Scale_place : List Str := ["self", "value"]
theorem sc_Scale_place : FnScope N_Scale_place P_Scale_place (defScope s_Scale_place) := ⟨rfl, rfl, rfl, by decide +kernel, rfl, by decide +kernel, by decide +kernel⟩
abbrev s_Scale_led : Stmt := inClass (top 21) 5
abbrev N_Scale_led : List Str := ["self", "factor", "add", "mark"]
abbrev P_Scale_led : List Str := ["self", "factor", "add"]
theorem sc_Scale_led : FnScope N_Scale_led P_Scale_led (defScope s_Scale_led) := ⟨rfl, rfl, rfl, by decide +kernel, rfl, by decide +kernel, by decide +kernel⟩
abbrev s_insert_new : Stmt := top 22
abbrev N_insert_new : List Str := ["ordered", "item", "place"]
abbrev P_insert_new : List Str := ["ordered", "item"]
theorem sc_insert_new : FnScope N_insert_new P_insert_new (defScope s_insert_new) := ⟨rfl, rfl, rfl, by decide +kernel, rfl, by decide +kernel, by decide +kernel⟩
abbrev s_distinct : Stmt := top 23
abbrev N_distinct : List Str := ["numbers", "found", "number"]
abbrev P_distinct : List Str := ["numbers"]
theorem sc_distinct : FnScope N_distinct P_distinct (defScope s_distinct) := ⟨rfl, rfl, rfl, by decide +kernel, rfl, by decide +kernel, by decide +kernel⟩
abbrev s_climbs : Stmt := top 24
abbrev N_climbs : List Str := ["ratios", "before", "behind"]
abbrev P_climbs : List Str := ["ratios"]
theorem sc_climbs : FnScope N_climbs P_climbs (defScope s_climbs) := ⟨rfl, rfl, rfl, by decide +kernel, rfl, by decide +kernel, by decide +kernel⟩
abbrev s_Ltape : Stmt := top 26
abbrev N_Ltape : List Str := ["_law_script", "_law_k", "_law_spot"]
abbrev P_Ltape : List Str := ["_law_script", "_law_k"]
theorem sc_Ltape : FnScope N_Ltape P_Ltape (defScope s_Ltape) := ⟨rfl, rfl, rfl, by decide +kernel, rfl, by decide +kernel, by decide +kernel⟩
abbrev s_Lpick : Stmt := top 27
abbrev N_Lpick : List Str := ["_law_tape_here", "_law_many", "_law_digit", "_law_blend"]
abbrev P_Lpick : List Str := ["_law_tape_here", "_law_many"]
theorem sc_Lpick : FnScope N_Lpick P_Lpick (defScope s_Lpick) := ⟨rfl, rfl, rfl, by decide +kernel, rfl, by decide +kernel, by decide +kernel⟩
abbrev s_Lmixed : Stmt := top 28
abbrev N_Lmixed : List Str := ["_law_tape_here", "_law_items", "_law_rest", "_law_found", "_law_k"]
abbrev P_Lmixed : List Str := ["_law_tape_here", "_law_items"]
theorem sc_Lmixed : FnScope N_Lmixed P_Lmixed (defScope s_Lmixed) := ⟨rfl, rfl, rfl, by decide +kernel, rfl, by decide +kernel, by decide +kernel⟩
abbrev s_Lshown : Stmt := top 29
abbrev N_Lshown : List Str := ["_law_mark", "_law_key", "_law_item"]
abbrev P_Lshown : List Str := ["_law_mark"]
theorem sc_Lshown : FnScope N_Lshown P_Lshown (defScope s_Lshown) := ⟨rfl, rfl, rfl, by decide +kernel, rfl, by decide +kernel, by decide +kernel⟩
abbrev s_Lvalues : Stmt := top 30
abbrev N_Lvalues : List Str := ["_law_tape_here", "_law_most", "_law_one", "_law_other", "_law_many", "_law_part", "_law_at", "_law_found", "_law_k"]
abbrev P_Lvalues : List Str := ["_law_tape_here", "_law_most"]
theorem sc_Lvalues : FnScope N_Lvalues P_Lvalues (defScope s_Lvalues) := ⟨rfl, rfl, rfl, by decide +kernel, rfl, by decide +kernel, by decide +kernel⟩
abbrev s_Lmade : Stmt := top 31
abbrev N_Lmade : List Str := ["_law_tape_here", "_law_marks", "_law_handed", "_law_mark"]
abbrev P_Lmade : List Str := ["_law_tape_here", "_law_marks"]
theorem sc_Lmade : FnScope N_Lmade P_Lmade (defScope s_Lmade) := ⟨rfl, rfl, rfl, by decide +kernel, rfl, by decide +kernel, by decide +kernel⟩
abbrev s_Lis : Stmt := top 32
abbrev N_Lis : List Str := ["_law_scale", "_law_marks", "_law_mark"]
abbrev P_Lis : List Str := ["_law_scale", "_law_marks"]
theorem sc_Lis : FnScope N_Lis P_Lis (defScope s_Lis) := ⟨rfl, rfl, rfl, by decide +kernel, rfl, by decide +kernel, by decide +kernel⟩
abbrev s_Lrefused : Stmt := top 33
abbrev N_Lrefused : List Str := ["_law_door", "_law_scale", "_law_one", "_law_other", "e"]
abbrev P_Lrefused : List Str := ["_law_door", "_law_scale", "_law_one", "_law_other"]
theorem sc_Lrefused : FnScope N_Lrefused P_Lrefused (defScope s_Lrefused) := ⟨rfl, rfl, rfl, by decide +kernel, rfl, by decide +kernel, by decide +kernel⟩
abbrev s_Lrefused_right : Stmt := top 34
abbrev N_Lrefused_right : List Str := ["_law_tape_here", "_law_scale", "_law_marks", "_law_odd", "_law_bad", "_law_strange", "_law_wrong", "_law_late"]
abbrev P_Lrefused_right : List Str := ["_law_tape_here", "_law_scale", "_law_marks"]
theorem sc_Lrefused_right : FnScope N_Lrefused_right P_Lrefused_right (defScope s_Lrefused_right) := ⟨rfl, rfl, rfl, by decide +kernel, rfl, by decide +kernel, by decide +kernel⟩
abbrev s_law : Stmt := top 35
abbrev N_law : List Str := ["_law_script", "_law_k", "_law_tape_here", "_law_marks", "_law_scale", "_law_handed", "_law_twin", "_law_other", "_law_times1", "_law_shift", "_law_led", "_law_mark"]
abbrev P_law : List Str := ["_law_script"]
theorem sc_law : FnScope N_law P_law (defScope s_law) := ⟨rfl, rfl, rfl, by decide +kernel, rfl, by decide +kernel, by decide +kernel⟩
/-- where all stands -/
structure Ad where
  C_MeansError : Addr
  C_ByZero : Addr
  C_BadText : Addr
  C_BadNumber : Addr
  C_BadValues : Addr
  C_NoValue : Addr
  C_Ratio : Addr
  C_Scale : Addr
  f_BadNumber_init : Addr
  d_BadNumber_init : FuncData
  f_BadValues_init : Addr
  d_BadValues_init : FuncData
  f_NoValue_init : Addr
  d_NoValue_init : FuncData
  f_Ratio_init : Addr
  d_Ratio_init : FuncData
  f_Ratio_add : Addr
  d_Ratio_add : FuncData
  f_Ratio_sub : Addr
  d_Ratio_sub : FuncData
  f_Ratio_mul : Addr
  d_Ratio_mul : FuncData
  f_Ratio_neg : Addr
  d_Ratio_neg : FuncData
  f_Ratio_eq : Addr
  d_Ratio_eq : FuncData
  f_Ratio_lt : Addr
  d_Ratio_lt : FuncData
  f_Ratio_le : Addr
  d_Ratio_le : FuncData
  f_is_whole : Addr
  d_is_whole : FuncData
  f_is_number : Addr
  d_is_number : FuncData
  f_are_numbers : Addr
  d_are_numbers : FuncData
  f_as_ratio : Addr
  d_as_ratio : FuncData
  f_Scale_init : Addr
  d_Scale_init : FuncData
  f_Scale_len : Addr
  d_Scale_len : FuncData
  f_Scale_eq : Addr
  d_Scale_eq : FuncData
  f_Scale_marks : Addr
  d_Scale_marks : FuncData
  f_Scale_place : Addr
  d_Scale_place : FuncData
  f_Scale_led : Addr
  d_Scale_led : FuncData
  f_insert_new : Addr
  d_insert_new : FuncData
  f_distinct : Addr
  d_distinct : FuncData
  f_climbs : Addr
  d_climbs : FuncData
  f_Ltape : Addr
  d_Ltape : FuncData
  f_Lpick : Addr
  d_Lpick : FuncData
  f_Lmixed : Addr
  d_Lmixed : FuncData
  f_Lshown : Addr
  d_Lshown : FuncData
  f_Lvalues : Addr
  d_Lvalues : FuncData
  f_Lmade : Addr
  d_Lmade : FuncData
  f_Lis : Addr
  d_Lis : FuncData
  f_Lrefused : Addr
  d_Lrefused : FuncData
  f_Lrefused_right : Addr
  d_Lrefused_right : FuncData
  f_law : Addr
  d_law : FuncData
/-- what the top has left of the text -/
structure Tx (K : PySem.W.Frag) (mg : Str → Option Value) (a : Ad) : Prop where
  g_MeansError : mg "MeansError" = some (.ref a.C_MeansError)
  g_ByZero : mg "ByZero" = some (.ref a.C_ByZero)
  g_BadText : mg "BadText" = some (.ref a.C_BadText)
  g_BadNumber : mg "BadNumber" = some (.ref a.C_BadNumber)
  g_BadValues : mg "BadValues" = some (.ref a.C_BadValues)
  g_NoValue : mg "NoValue" = some (.ref a.C_NoValue)
  g_Ratio : mg "Ratio" = some (.ref a.C_Ratio)
  g_Scale : mg "Scale" = some (.ref a.C_Scale)
  F_BadNumber_init : Def K "__init__" "BadNumber.__init__" s_BadNumber_init a.f_BadNumber_init a.d_BadNumber_init
  F_BadValues_init : Def K "__init__" "BadValues.__init__" s_BadValues_init a.f_BadValues_init a.d_BadValues_init
  F_NoValue_init : Def K "__init__" "NoValue.__init__" s_NoValue_init a.f_NoValue_init a.d_NoValue_init
  F_Ratio_init : FunD K "__init__" "Ratio.__init__" (defArgs s_Ratio_init) (defBody s_Ratio_init) (defScope s_Ratio_init) [.int 1] [] a.f_Ratio_init a.d_Ratio_init
  m_Ratio_init : Meth K a.C_Ratio "__init__" a.f_Ratio_init
  F_Ratio_add : Def K "__add__" "Ratio.__add__" s_Ratio_add a.f_Ratio_add a.d_Ratio_add
  m_Ratio_add : Meth K a.C_Ratio "__add__" a.f_Ratio_add
  F_Ratio_sub : Def K "__sub__" "Ratio.__sub__" s_Ratio_sub a.f_Ratio_sub a.d_Ratio_sub
  m_Ratio_sub : Meth K a.C_Ratio "__sub__" a.f_Ratio_sub
  F_Ratio_mul : Def K "__mul__" "Ratio.__mul__" s_Ratio_mul a.f_Ratio_mul a.d_Ratio_mul
  m_Ratio_mul : Meth K a.C_Ratio "__mul__" a.f_Ratio_mul
  F_Ratio_neg : Def K "__neg__" "Ratio.__neg__" s_Ratio_neg a.f_Ratio_neg a.d_Ratio_neg
  m_Ratio_neg : Meth K a.C_Ratio "__neg__" a.f_Ratio_neg
  F_Ratio_eq : Def K "__eq__" "Ratio.__eq__" s_Ratio_eq a.f_Ratio_eq a.d_Ratio_eq
  m_Ratio_eq : Meth K a.C_Ratio "__eq__" a.f_Ratio_eq
  F_Ratio_lt : Def K "__lt__" "Ratio.__lt__" s_Ratio_lt a.f_Ratio_lt a.d_Ratio_lt
  m_Ratio_lt : Meth K a.C_Ratio "__lt__" a.f_Ratio_lt
  F_Ratio_le : Def K "__le__" "Ratio.__le__" s_Ratio_le a.f_Ratio_le a.d_Ratio_le
  m_Ratio_le : Meth K a.C_Ratio "__le__" a.f_Ratio_le
  F_is_whole : Def K "is_whole" "is_whole" s_is_whole a.f_is_whole a.d_is_whole
  g_is_whole : mg "is_whole" = some (.ref a.f_is_whole)
  F_is_number : Def K "is_number" "is_number" s_is_number a.f_is_number a.d_is_number
  g_is_number : mg "is_number" = some (.ref a.f_is_number)
  F_are_numbers : Def K "are_numbers" "are_numbers" s_are_numbers a.f_are_numbers a.d_are_numbers
  g_are_numbers : mg "are_numbers" = some (.ref a.f_are_numbers)
  F_as_ratio : Def K "as_ratio" "as_ratio" s_as_ratio a.f_as_ratio a.d_as_ratio
  g_as_ratio : mg "as_ratio" = some (.ref a.f_as_ratio)
  F_Scale_init : Def K "__init__" "Scale.__init__" s_Scale_init a.f_Scale_init a.d_Scale_init
  m_Scale_init : Meth K a.C_Scale "__init__" a.f_Scale_init
  F_Scale_len : Def K "__len__" "Scale.__len__" s_Scale_len a.f_Scale_len a.d_Scale_len
  m_Scale_len : Meth K a.C_Scale "__len__" a.f_Scale_len
  F_Scale_eq : Def K "__eq__" "Scale.__eq__" s_Scale_eq a.f_Scale_eq a.d_Scale_eq
  m_Scale_eq : Meth K a.C_Scale "__eq__" a.f_Scale_eq
  F_Scale_marks : Def K "marks" "Scale.marks" s_Scale_marks a.f_Scale_marks a.d_Scale_marks
  m_Scale_marks : Meth K a.C_Scale "marks" a.f_Scale_marks
  F_Scale_place : Def K "place" "Scale.place" s_Scale_place a.f_Scale_place a.d_Scale_place
  m_Scale_place : Meth K a.C_Scale "place" a.f_Scale_place
  F_Scale_led : Def K "led" "Scale.led" s_Scale_led a.f_Scale_led a.d_Scale_led
  m_Scale_led : Meth K a.C_Scale "led" a.f_Scale_led
  F_insert_new : Def K "insert_new" "insert_new" s_insert_new a.f_insert_new a.d_insert_new
  g_insert_new : mg "insert_new" = some (.ref a.f_insert_new)
  F_distinct : Def K "distinct" "distinct" s_distinct a.f_distinct a.d_distinct
  g_distinct : mg "distinct" = some (.ref a.f_distinct)
  F_climbs : Def K "climbs" "climbs" s_climbs a.f_climbs a.d_climbs
  g_climbs : mg "climbs" = some (.ref a.f_climbs)
  F_Ltape : Def K "_law_tape" "_law_tape" s_Ltape a.f_Ltape a.d_Ltape
  g_Ltape : mg "_law_tape" = some (.ref a.f_Ltape)
  F_Lpick : Def K "_law_pick" "_law_pick" s_Lpick a.f_Lpick a.d_Lpick
  g_Lpick : mg "_law_pick" = some (.ref a.f_Lpick)
  F_Lmixed : Def K "_law_mixed" "_law_mixed" s_Lmixed a.f_Lmixed a.d_Lmixed
  g_Lmixed : mg "_law_mixed" = some (.ref a.f_Lmixed)
  F_Lshown : Def K "_law_shown" "_law_shown" s_Lshown a.f_Lshown a.d_Lshown
  g_Lshown : mg "_law_shown" = some (.ref a.f_Lshown)
  F_Lvalues : Def K "_law_values" "_law_values" s_Lvalues a.f_Lvalues a.d_Lvalues
  g_Lvalues : mg "_law_values" = some (.ref a.f_Lvalues)
  F_Lmade : Def K "_law_made" "_law_made" s_Lmade a.f_Lmade a.d_Lmade
  g_Lmade : mg "_law_made" = some (.ref a.f_Lmade)
  F_Lis : Def K "_law_is" "_law_is" s_Lis a.f_Lis a.d_Lis
  g_Lis : mg "_law_is" = some (.ref a.f_Lis)
  F_Lrefused : Def K "_law_refused" "_law_refused" s_Lrefused a.f_Lrefused a.d_Lrefused
  g_Lrefused : mg "_law_refused" = some (.ref a.f_Lrefused)
  F_Lrefused_right : Def K "_law_refused_right" "_law_refused_right" s_Lrefused_right a.f_Lrefused_right a.d_Lrefused_right
  g_Lrefused_right : mg "_law_refused_right" = some (.ref a.f_Lrefused_right)
  F_law : Def K "law" "law" s_law a.f_law a.d_law
  g_law : mg "law" = some (.ref a.f_law)
  x_ByZero : XC K a.C_ByZero
  x_BadText : XC K a.C_BadText
  oc_BadNumber : OexC K a.C_BadNumber
  ti_BadNumber : PySem.W.typeIn K (.ref a.f_BadNumber_init) = some (.type "function")
  fi_BadNumber : PySem.W.findIn K (.ref a.C_BadNumber) "__init__" = some (some (.ref a.f_BadNumber_init))
  xf_BadNumber : XfC K a.C_BadNumber
  xs_BadNumber : PySem.W.exmOne K (.ref a.C_BadNumber) (.ref a.C_BadNumber) = some true
  xa_BadNumber_given : PySem.W.findIn K (.ref a.C_BadNumber) "given" = some none
  xo_BadNumber_ByZero : PySem.W.exmOne K (.ref a.C_BadNumber) (.ref a.C_ByZero) = some false
  xo_BadNumber_BadText : PySem.W.exmOne K (.ref a.C_BadNumber) (.ref a.C_BadText) = some false
  xo_BadNumber_BadValues : PySem.W.exmOne K (.ref a.C_BadNumber) (.ref a.C_BadValues) = some false
  xo_BadNumber_NoValue : PySem.W.exmOne K (.ref a.C_BadNumber) (.ref a.C_NoValue) = some false
  oc_BadValues : OexC K a.C_BadValues
  ti_BadValues : PySem.W.typeIn K (.ref a.f_BadValues_init) = some (.type "function")
  fi_BadValues : PySem.W.findIn K (.ref a.C_BadValues) "__init__" = some (some (.ref a.f_BadValues_init))
  xf_BadValues : XfC K a.C_BadValues
  xs_BadValues : PySem.W.exmOne K (.ref a.C_BadValues) (.ref a.C_BadValues) = some true
  xa_BadValues_given : PySem.W.findIn K (.ref a.C_BadValues) "given" = some none
  xo_BadValues_ByZero : PySem.W.exmOne K (.ref a.C_BadValues) (.ref a.C_ByZero) = some false
  xo_BadValues_BadText : PySem.W.exmOne K (.ref a.C_BadValues) (.ref a.C_BadText) = some false
  xo_BadValues_BadNumber : PySem.W.exmOne K (.ref a.C_BadValues) (.ref a.C_BadNumber) = some false
  xo_BadValues_NoValue : PySem.W.exmOne K (.ref a.C_BadValues) (.ref a.C_NoValue) = some false
  oc_NoValue : OexC K a.C_NoValue
  ti_NoValue : PySem.W.typeIn K (.ref a.f_NoValue_init) = some (.type "function")
  fi_NoValue : PySem.W.findIn K (.ref a.C_NoValue) "__init__" = some (some (.ref a.f_NoValue_init))
  xf_NoValue : XfC K a.C_NoValue
  xs_NoValue : PySem.W.exmOne K (.ref a.C_NoValue) (.ref a.C_NoValue) = some true
  xa_NoValue_given : PySem.W.findIn K (.ref a.C_NoValue) "given" = some none
  xo_NoValue_ByZero : PySem.W.exmOne K (.ref a.C_NoValue) (.ref a.C_ByZero) = some false
  xo_NoValue_BadText : PySem.W.exmOne K (.ref a.C_NoValue) (.ref a.C_BadText) = some false
  xo_NoValue_BadNumber : PySem.W.exmOne K (.ref a.C_NoValue) (.ref a.C_BadNumber) = some false
  xo_NoValue_BadValues : PySem.W.exmOne K (.ref a.C_NoValue) (.ref a.C_BadValues) = some false
  b_abs : mg "abs" = none
  b_all : mg "all" = none
  b_bool : mg "bool" = none
  b_dict : mg "dict" = none
  b_enumerate : mg "enumerate" = none
  b_int : mg "int" = none
  b_isinstance : mg "isinstance" = none
  b_len : mg "len" = none
  b_list : mg "list" = none
  b_max : mg "max" = none
  b_min : mg "min" = none
  b_range : mg "range" = none
  b_repr : mg "repr" = none
  b_tuple : mg "tuple" = none
  b_zip : mg "zip" = none
  c_MOST_VALUES : ∃ t, mg "MOST_VALUES" = some (.int 8 t)
  g_gcd : mg "gcd" = some (.builtin "math.gcd")
  R : RC K a.C_Ratio
  mk_Ratio : Mk K a.C_Ratio a.f_Ratio_init
  o_add : OpFn K a.C_Ratio a.f_Ratio_add .Add
  o_sub : OpFn K a.C_Ratio a.f_Ratio_sub .Sub
  o_mul : OpFn K a.C_Ratio a.f_Ratio_mul .Mult
  p_lt : CmpFn K a.C_Ratio a.f_Ratio_lt .Lt
  p_le : CmpFn K a.C_Ratio a.f_Ratio_le .LtE
  p_eq : CmpFn K a.C_Ratio a.f_Ratio_eq .Eq
  p_ne : NeFn K a.C_Ratio a.f_Ratio_eq
  RS : SC K a.C_Scale a.C_Ratio
  R2 : RC2 K a.C_Ratio
  mk_Scale : Mk K a.C_Scale a.f_Scale_init
  ps_eq : CmpFn K a.C_Scale a.f_Scale_eq .Eq
  ps_ne : NeFn K a.C_Scale a.f_Scale_eq
  ln_Scale : PySem.W.findIn K (.ref a.C_Scale) "__len__" = some (some (.ref a.f_Scale_len))
  lf_Scale : PySem.W.isFn K (.ref a.f_Scale_len) = true
  neS : a.C_Ratio ≠ a.C_Scale
theorem bd_BadNumber_init {K : PySem.W.Frag} {mg : Str → Option Value} {a : Ad} (T : Tx K mg a) : Binds K a.d_BadNumber_init P_BadNumber_init [] := T.F_BadNumber_init.bindsN fun _ _ _ _ _ _ us hl => match us, hl with | [_, _], _ => rfl
theorem bd_BadValues_init {K : PySem.W.Frag} {mg : Str → Option Value} {a : Ad} (T : Tx K mg a) : Binds K a.d_BadValues_init P_BadValues_init [] := T.F_BadValues_init.bindsN fun _ _ _ _ _ _ us hl => match us, hl with | [_, _], _ => rfl
theorem bd_NoValue_init {K : PySem.W.Frag} {mg : Str → Option Value} {a : Ad} (T : Tx K mg a) : Binds K a.d_NoValue_init P_NoValue_init [] := T.F_NoValue_init.bindsN fun _ _ _ _ _ _ us hl => match us, hl with | [_, _], _ => rfl
theorem bd_Ratio_init {K : PySem.W.Frag} {mg : Str → Option Value} {a : Ad} (T : Tx K mg a) : Binds K a.d_Ratio_init P_Ratio_init [] := by
  obtain ⟨ds, hv, hb⟩ := T.F_Ratio_init.binds1 (ps := P_Ratio_init) 3 1 (by simp) rfl fun T kV doc pm an cdv ct us its h1 h2 => match us, its, h1, h2 with | [_, _, _], [_], _, _ => ⟨_, rfl, rfl⟩
  cases hv
  exact hb
theorem bd1_Ratio_init {K : PySem.W.Frag} {mg : Str → Option Value} {a : Ad} (T : Tx K mg a) : ∃ ds, Vals [.int 1] ds ∧ Binds K a.d_Ratio_init P_Ratio_init ds :=
  T.F_Ratio_init.binds1 (ps := P_Ratio_init) 2 0 (by simp) rfl fun T kV doc pm an cdv ct us its h1 h2 => match us, its, h1, h2 with | [_, _], [_], _, _ => ⟨_, rfl, rfl⟩
theorem bd_Ratio_add {K : PySem.W.Frag} {mg : Str → Option Value} {a : Ad} (T : Tx K mg a) : Binds K a.d_Ratio_add P_Ratio_add [] := T.F_Ratio_add.bindsN fun _ _ _ _ _ _ us hl => match us, hl with | [_, _], _ => rfl
theorem bd_Ratio_sub {K : PySem.W.Frag} {mg : Str → Option Value} {a : Ad} (T : Tx K mg a) : Binds K a.d_Ratio_sub P_Ratio_sub [] := T.F_Ratio_sub.bindsN fun _ _ _ _ _ _ us hl => match us, hl with | [_, _], _ => rfl
theorem bd_Ratio_mul {K : PySem.W.Frag} {mg : Str → Option Value} {a : Ad} (T : Tx K mg a) : Binds K a.d_Ratio_mul P_Ratio_mul [] := T.F_Ratio_mul.bindsN fun _ _ _ _ _ _ us hl => match us, hl with | [_, _], _ => rfl
theorem bd_Ratio_neg {K : PySem.W.Frag} {mg : Str → Option Value} {a : Ad} (T : Tx K mg a) : Binds K a.d_Ratio_neg P_Ratio_neg [] := T.F_Ratio_neg.bindsN fun _ _ _ _ _ _ us hl => match us, hl with | [_], _ => rfl
theorem bd_Ratio_eq {K : PySem.W.Frag} {mg : Str → Option Value} {a : Ad} (T : Tx K mg a) : Binds K a.d_Ratio_eq P_Ratio_eq [] := T.F_Ratio_eq.bindsN fun _ _ _ _ _ _ us hl => match us, hl with | [_, _], _ => rfl
theorem bd_Ratio_lt {K : PySem.W.Frag} {mg : Str → Option Value} {a : Ad} (T : Tx K mg a) : Binds K a.d_Ratio_lt P_Ratio_lt [] := T.F_Ratio_lt.bindsN fun _ _ _ _ _ _ us hl => match us, hl with | [_, _], _ => rfl
theorem bd_Ratio_le {K : PySem.W.Frag} {mg : Str → Option Value} {a : Ad} (T : Tx K mg a) : Binds K a.d_Ratio_le P_Ratio_le [] := T.F_Ratio_le.bindsN fun _ _ _ _ _ _ us hl => match us, hl with | [_, _], _ => rfl
theorem bd_is_whole {K : PySem.W.Frag} {mg : Str → Option Value} {a : Ad} (T : Tx K mg a) : Binds K a.d_is_whole P_is_whole [] := T.F_is_whole.bindsN fun _ _ _ _ _ _ us hl => match us, hl with | [_], _ => rfl
theorem bd_is_number {K : PySem.W.Frag} {mg : Str → Option Value} {a : Ad} (T : Tx K mg a) : Binds K a.d_is_number P_is_number [] := T.F_is_number.bindsN fun _ _ _ _ _ _ us hl => match us, hl with | [_], _ => rfl
theorem bd_are_numbers {K : PySem.W.Frag} {mg : Str → Option Value} {a : Ad} (T : Tx K mg a) : Binds K a.d_are_numbers P_are_numbers [] := T.F_are_numbers.bindsN fun _ _ _ _ _ _ us hl => match us, hl with | [_], _ => rfl
theorem bd_as_ratio {K : PySem.W.Frag} {mg : Str → Option Value} {a : Ad} (T : Tx K mg a) : Binds K a.d_as_ratio P_as_ratio [] := T.F_as_ratio.bindsN fun _ _ _ _ _ _ us hl => match us, hl with | [_], _ => rfl
theorem bd_Scale_init {K : PySem.W.Frag} {mg : Str → Option Value} {a : Ad} (T : Tx K mg a) : Binds K a.d_Scale_init P_Scale_init [] := T.F_Scale_init.bindsN fun _ _ _ _ _ _ us hl => match us, hl with | [_, _], _ => rfl
theorem bd_Scale_len {K : PySem.W.Frag} {mg : Str → Option Value} {a : Ad} (T : Tx K mg a) : Binds K a.d_Scale_len P_Scale_len [] := T.F_Scale_len.bindsN fun _ _ _ _ _ _ us hl => match us, hl with | [_], _ => rfl
theorem bd_Scale_eq {K : PySem.W.Frag} {mg : Str → Option Value} {a : Ad} (T : Tx K mg a) : Binds K a.d_Scale_eq P_Scale_eq [] := T.F_Scale_eq.bindsN fun _ _ _ _ _ _ us hl => match us, hl with | [_, _], _ => rfl
theorem bd_Scale_marks {K : PySem.W.Frag} {mg : Str → Option Value} {a : Ad} (T : Tx K mg a) : Binds K a.d_Scale_marks P_Scale_marks [] := T.F_Scale_marks.bindsN fun _ _ _ _ _ _ us hl => match us, hl with | [_], _ => rfl
theorem bd_Scale_place {K : PySem.W.Frag} {mg : Str → Option Value} {a : Ad} (T : Tx K mg a) : Binds K a.d_Scale_place P_Scale_place [] := T.F_Scale_place.bindsN fun _ _ _ _ _ _ us hl => match us, hl with | [_, _], _ => rfl
theorem bd_Scale_led {K : PySem.W.Frag} {mg : Str → Option Value} {a : Ad} (T : Tx K mg a) : Binds K a.d_Scale_led P_Scale_led [] := T.F_Scale_led.bindsN fun _ _ _ _ _ _ us hl => match us, hl with | [_, _, _], _ => rfl
theorem bd_insert_new {K : PySem.W.Frag} {mg : Str → Option Value} {a : Ad} (T : Tx K mg a) : Binds K a.d_insert_new P_insert_new [] := T.F_insert_new.bindsN fun _ _ _ _ _ _ us hl => match us, hl with | [_, _], _ => rfl
theorem bd_distinct {K : PySem.W.Frag} {mg : Str → Option Value} {a : Ad} (T : Tx K mg a) : Binds K a.d_distinct P_distinct [] := T.F_distinct.bindsN fun _ _ _ _ _ _ us hl => match us, hl with | [_], _ => rfl
theorem bd_climbs {K : PySem.W.Frag} {mg : Str → Option Value} {a : Ad} (T : Tx K mg a) : Binds K a.d_climbs P_climbs [] := T.F_climbs.bindsN fun _ _ _ _ _ _ us hl => match us, hl with | [_], _ => rfl
theorem bd_Ltape {K : PySem.W.Frag} {mg : Str → Option Value} {a : Ad} (T : Tx K mg a) : Binds K a.d_Ltape P_Ltape [] := T.F_Ltape.bindsN fun _ _ _ _ _ _ us hl => match us, hl with | [_, _], _ => rfl
theorem bd_Lpick {K : PySem.W.Frag} {mg : Str → Option Value} {a : Ad} (T : Tx K mg a) : Binds K a.d_Lpick P_Lpick [] := T.F_Lpick.bindsN fun _ _ _ _ _ _ us hl => match us, hl with | [_, _], _ => rfl
theorem bd_Lmixed {K : PySem.W.Frag} {mg : Str → Option Value} {a : Ad} (T : Tx K mg a) : Binds K a.d_Lmixed P_Lmixed [] := T.F_Lmixed.bindsN fun _ _ _ _ _ _ us hl => match us, hl with | [_, _], _ => rfl
theorem bd_Lshown {K : PySem.W.Frag} {mg : Str → Option Value} {a : Ad} (T : Tx K mg a) : Binds K a.d_Lshown P_Lshown [] := T.F_Lshown.bindsN fun _ _ _ _ _ _ us hl => match us, hl with | [_], _ => rfl
theorem bd_Lvalues {K : PySem.W.Frag} {mg : Str → Option Value} {a : Ad} (T : Tx K mg a) : Binds K a.d_Lvalues P_Lvalues [] := T.F_Lvalues.bindsN fun _ _ _ _ _ _ us hl => match us, hl with | [_, _], _ => rfl
theorem bd_Lmade {K : PySem.W.Frag} {mg : Str → Option Value} {a : Ad} (T : Tx K mg a) : Binds K a.d_Lmade P_Lmade [] := T.F_Lmade.bindsN fun _ _ _ _ _ _ us hl => match us, hl with | [_, _], _ => rfl
theorem bd_Lis {K : PySem.W.Frag} {mg : Str → Option Value} {a : Ad} (T : Tx K mg a) : Binds K a.d_Lis P_Lis [] := T.F_Lis.bindsN fun _ _ _ _ _ _ us hl => match us, hl with | [_, _], _ => rfl
theorem bd_Lrefused {K : PySem.W.Frag} {mg : Str → Option Value} {a : Ad} (T : Tx K mg a) : Binds K a.d_Lrefused P_Lrefused [] := T.F_Lrefused.bindsN fun _ _ _ _ _ _ us hl => match us, hl with | [_, _, _, _], _ => rfl
theorem bd_Lrefused_right {K : PySem.W.Frag} {mg : Str → Option Value} {a : Ad} (T : Tx K mg a) : Binds K a.d_Lrefused_right P_Lrefused_right [] := T.F_Lrefused_right.bindsN fun _ _ _ _ _ _ us hl => match us, hl with | [_, _, _], _ => rfl
theorem bd_law {K : PySem.W.Frag} {mg : Str → Option Value} {a : Ad} (T : Tx K mg a) : Binds K a.d_law P_law [] := T.F_law.bindsN fun _ _ _ _ _ _ us hl => match us, hl with | [_], _ => rfl
end Kx


set_option maxHeartbeats 4000000
namespace Kx
open PySem PySem.Spec PyProof.Rows L2 Fm
local macro_rules | `(tactic| walk_at "gv") => `(tactic| ((with_reducible refine' g_var ?gh ?_); (case gh => exact rfl)))
local macro_rules | `(tactic| walk_at "g1") => `(tactic| first
  | walk_at "gv"
  | with_reducible refine g_c ?_ | with_reducible refine g_op ?_ | with_reducible refine g_un ?_ | with_reducible refine g_I0 ?_ | with_reducible refine g_U ?_
  | with_reducible refine g_eqI ?_ | with_reducible refine g_neI ?_ | with_reducible refine g_eqS ?_ | with_reducible refine g_neS ?_
  | with_reducible refine g_test ?_ | with_reducible refine g_B ?_ | with_reducible refine g_bl ?_ | with_reducible refine g_not ?_ | with_reducible refine g_and ?_ | with_reducible refine g_or ?_
  | with_reducible refine g_andV ?_ | with_reducible refine g_orV ?_ | with_reducible refine g_notV ?_ | with_reducible refine g_chain ?_ | with_reducible refine g_if ?_ | with_reducible refine g_ifS ?_
  | with_reducible refine g_seq ?_ | with_reducible refine g_next ?_ | with_reducible refine g_break ?_ | with_reducible refine g_cont ?_ | with_reducible refine g_drop ?_ | with_reducible refine g_ret ?_ | with_reducible refine g_retN ?_
  | with_reducible refine g_asg ?_ | with_reducible refine g_name ?_ | with_reducible refine g_par ?_ | with_reducible refine g_par2 ?_ | with_reducible refine g_fld ?_ | with_reducible refine g_sfld ?_
  | with_reducible refine g_nil ?_ | with_reducible refine g_cons ?_ | with_reducible refine g_tup ?_ | with_reducible refine g_lst ?_ | with_reducible refine g_call ?_ | with_reducible refine g_meth ?_ | with_reducible refine g_make1 ?_ | with_reducible refine g_make ?_ | with_reducible refine g_cb ?_ | with_reducible refine g_sub ?_ | with_reducible refine g_absI ?_ | with_reducible refine g_intI ?_
  | with_reducible refine iteT ?_ | with_reducible refine iteF ?_ | with_reducible refine g_gcd ?_)
local macro_rules | `(tactic| walk_at "g") => `(tactic| (repeat (first | walk_at "g1" | dsimp only [cx_K, cx_Kn, b_nt, b_nf])))
local macro_rules | `(tactic| walk_at "mul") => `(tactic| exact mulA (a := 200) (b := 200) (by omega) (by omega) (by decide))
local macro_rules | `(tactic| walk_at "pow") => `(tactic| exact ⟨by omega, by omega, by omega⟩)

section
variable {P : Program} {w : World} {K : PySem.W.Frag} {mg : Str → Option Value} {base : Heap} {a : Ad}
theorem ok_Ltape (T : Tx K mg a) : FnOk P w K mg base CX0 1 a.f_Ltape a.d_Ltape P_Ltape (spTape K) := by
  refine T.F_Ltape.ok sc_Ltape (fun vs H Q E h => ?_) (fun cdv A outer s H vs Q E hr h => ?_)
  · obtain ⟨p, ns, k, rfl, _⟩ := h
    rfl
  · obtain ⟨p, ns, k, rfl, hs, hk, q⟩ := h
    refine ⟨_, (pss_cons (ps_set (i := 2) sc_Ltape.nd rfl (Or.inl rfl) pe_int) (pss_cons (ps_if (pt_cmpR op_lt (pv 1) (pe_callB call_lenQ (by rfl) T.b_len (by decide +kernel) (pa_cons (pv 0) pa_nil)) (nomark _)) (pss_one (ps_set (i := 2) sc_Ltape.nd rfl (Or.inl rfl) (pe_ix ix_list (pv 0) (pv 1) (fun _ _ => rfl)))) pss_nil) (pss_one (ps_ret (pe_lst (pa_cons (pe_callB cr_absI (by rfl) T.b_abs (by decide +kernel) (pa_cons (pv 2) pa_nil)) (pa_cons (pe_op op_add (pe_op op_mulW pe_int (pv 1)) pe_int) pa_nil))))))), ?_⟩
    walk_at "g"
    refine g_lenL hs ?_
    walk_at "g"
    have fin : ∀ z : Int, ∀ l, H l = none → Q (.ref l) (upd H l (.lst [.int ((z.natAbs : Nat) : Int), .int (7919 * (k : Int) + 15485863)])) := fun z l hl =>
      q l _ hl (Ex.new hl) ⟨_, _, by omega, by omega, by omega, upd_same⟩
    refine g_dec (fun hlt => ?_) (fun _ => ?_)
    · walk_at "g"
      rw [List.length_map] at hlt
      have hkn : k < ns.length := by omega
      refine g_ixL hs (atI_nat (by rw [List.getElem?_map, List.getElem?_eq_getElem hkn]; rfl)) ?_
      walk_at "g"
      refine g_I (by walk_at "mul") ?_
      walk_at "g"
      exact ⟨len_lit rfl, fun l hl => fin _ l hl⟩
    · walk_at "g"
      refine g_I (by walk_at "mul") ?_
      walk_at "g"
      exact ⟨len_lit rfl, fun l hl => fin 0 l hl⟩
theorem ok_Lpick (T : Tx K mg a) : FnOk P w K mg base CX0 1 a.f_Lpick a.d_Lpick P_Lpick spPick := by
  refine T.F_Lpick.ok sc_Lpick (fun vs H Q E h => ?_) (fun cdv A outer s H vs Q E hr h => ?_)
  · obtain ⟨p, m, rfl, _⟩ := h
    rfl
  · obtain ⟨p, m, rfl, h0, h1, ⟨t0, t1, a0, a1, a2, hp⟩, q⟩ := h
    refine ⟨_, (pss_cons (ps_if (pt_cmpR op_ge (pe_ix ix_list (pv 0) pe_int (fun _ _ => rfl)) (pe_op op_pow pe_int pe_int) (nomark _)) (pss_cons (ps_set (i := 2) sc_Lpick.nd rfl (Or.inl rfl) (pe_op op_mod (pe_callTy cr_intI (by rfl) T.b_int (by decide +kernel) (pa_cons (pe_ix ix_list (pv 0) pe_int (fun _ _ => rfl)) pa_nil)) (pv 1))) (pss_cons (ps_asg (pe_op op_fdivA (pe_ix ix_list (pv 0) pe_int (fun _ _ => rfl)) (pv 1)) (pg_sub (pv 0) pe_int set_list)) (pss_one (ps_ret (pv 2))))) pss_nil) (pss_cons (ps_asg (pe_op op_mod (pe_callTy cr_intI (by rfl) T.b_int (by decide +kernel) (pa_cons (pe_op op_add (pe_op op_add (pe_op op_mulW (pe_ix ix_list (pv 0) pe_int (fun _ _ => rfl)) pe_int) (pe_op op_mulW (pe_ix ix_list (pv 0) pe_int (fun _ _ => rfl)) pe_int)) pe_int) pa_nil)) pe_int) (pg_sub (pv 0) pe_int set_list)) (pss_cons (ps_set (i := 3) sc_Lpick.nd rfl (Or.inl rfl) (pe_op op_mod (pe_callTy cr_intI (by rfl) T.b_int (by decide +kernel) (pa_cons (pe_op op_add (pe_op op_add (pe_op op_mulW (pe_ix ix_list (pv 0) pe_int (fun _ _ => rfl)) (pe_ix ix_list (pv 0) pe_int (fun _ _ => rfl))) (pe_op op_mulW (pe_ix ix_list (pv 0) pe_int (fun _ _ => rfl)) pe_int)) pe_int) pa_nil)) pe_int)) (pss_one (ps_ret (pe_op op_mod (pe_callTy cr_intI (by rfl) T.b_int (by decide +kernel) (pa_cons (pe_op op_fdivA (pv 3) pe_int) pa_nil)) (pv 1))))))), ?_⟩
    walk_at "g"
    refine g_ixL (SqL.of hp) (atI_nat (j := 0) rfl) ?_
    walk_at "g"
    refine g_I (by walk_at "pow") ?_
    walk_at "g"
    refine g_dec (fun hge => ?_) (fun hlt => ?_)
    · walk_at "g"
      refine g_ixL (SqL.of hp) (atI_nat (j := 0) rfl) ?_
      walk_at "g"
      refine g_I h0 ?_
      walk_at "g"
      refine g_ixL (SqL.of hp) (atI_nat (j := 0) rfl) ?_
      walk_at "g"
      refine g_I (divA (k := 100) (by omega) (by omega) (by decide)) ?_
      walk_at "g"
      refine g_setL (j := 0) hp rfl ?_
      walk_at "g"
      refine q _ _ (Int.emod_nonneg _ (by omega)) (Int.emod_lt_of_pos _ h0) Mo.set ⟨_, _, ?_, a1, a2, upd_same⟩
      rw [Int.fdiv_eq_ediv_of_nonneg _ (by omega)]
      exact Int.ediv_nonneg a0 (by omega)
    · have hs : t0 < 2 ^ 64 := by
        have : ¬ ((10 : Int) ^ (18 : Int).toNat ≤ t0) := hlt
        have e : (10 : Int) ^ (18 : Int).toNat = 1000000000000000000 := by decide
        omega
      walk_at "g"
      refine g_ixL (SqL.of hp) (atI_nat (j := 1) rfl) ?_
      walk_at "g"
      refine g_I (by walk_at "mul") ?_
      walk_at "g"
      refine g_ixL (SqL.of hp) (atI_nat (j := 0) rfl) ?_
      walk_at "g"
      refine g_I (by walk_at "mul") ?_
      walk_at "g"
      refine g_I (by decide) ?_
      walk_at "g"
      refine g_setL (j := 1) hp rfl ?_
      have b0 : 0 ≤ (t1 * 48271 + t0 * 69621 + 29) % 2147483647 := Int.emod_nonneg _ (by decide)
      have b1 : (t1 * 48271 + t0 * 69621 + 29) % 2147483647 < 2147483647 := Int.emod_lt_of_pos _ (by decide)
      generalize (t1 * 48271 + t0 * 69621 + 29) % 2147483647 = u1 at b0 b1 ⊢
      have hp1 : (upd H p (.lst ([V.int t0, V.int t1].set 1 (.int u1)))) p = some (.lst [.int t0, .int u1]) := upd_same
      walk_at "g"
      refine g_ixL (SqL.of hp1) (atI_nat (j := 1) rfl) ?_
      walk_at "g"
      refine g_ixL (SqL.of hp1) (atI_nat (j := 1) rfl) ?_
      walk_at "g"
      refine g_I (by walk_at "mul") ?_
      walk_at "g"
      refine g_ixL (SqL.of hp1) (atI_nat (j := 1) rfl) ?_
      walk_at "g"
      refine g_I (by walk_at "mul") ?_
      walk_at "g"
      refine g_I (by decide) ?_
      walk_at "g"
      refine g_I (divA (k := 100) (by decide) (by decide) (by decide)) ?_
      walk_at "g"
      refine g_I h0 ?_
      exact q _ _ (Int.emod_nonneg _ (by omega)) (Int.emod_lt_of_pos _ h0) Mo.set ⟨_, _, a0, b0, by omega, hp1⟩
end
end Kx


set_option maxHeartbeats 4000000
namespace Kx
open PySem PySem.Spec PyProof.Rows L2 Fm
local macro_rules | `(tactic| walk_at "gv") => `(tactic| ((with_reducible refine' g_var ?gh ?_); (case gh => exact rfl)))
local macro_rules | `(tactic| walk_at "g1") => `(tactic| first
  | walk_at "gv"
  | with_reducible refine g_c ?_ | with_reducible refine g_op ?_ | with_reducible refine g_un ?_ | with_reducible refine g_I0 ?_ | with_reducible refine g_U ?_
  | with_reducible refine g_eqI ?_ | with_reducible refine g_neI ?_ | with_reducible refine g_eqS ?_ | with_reducible refine g_neS ?_
  | with_reducible refine g_test ?_ | with_reducible refine g_B ?_ | with_reducible refine g_bl ?_ | with_reducible refine g_not ?_ | with_reducible refine g_and ?_ | with_reducible refine g_or ?_
  | with_reducible refine g_andV ?_ | with_reducible refine g_orV ?_ | with_reducible refine g_notV ?_ | with_reducible refine g_chain ?_ | with_reducible refine g_if ?_ | with_reducible refine g_ifS ?_
  | with_reducible refine g_seq ?_ | with_reducible refine g_next ?_ | with_reducible refine g_break ?_ | with_reducible refine g_cont ?_ | with_reducible refine g_drop ?_ | with_reducible refine g_ret ?_ | with_reducible refine g_retN ?_
  | with_reducible refine g_asg ?_ | with_reducible refine g_name ?_ | with_reducible refine g_par ?_ | with_reducible refine g_par2 ?_ | with_reducible refine g_fld ?_ | with_reducible refine g_sfld ?_
  | with_reducible refine g_nil ?_ | with_reducible refine g_cons ?_ | with_reducible refine g_tup ?_ | with_reducible refine g_lst ?_ | with_reducible refine g_call ?_ | with_reducible refine g_meth ?_ | with_reducible refine g_make1 ?_ | with_reducible refine g_make ?_ | with_reducible refine g_cb ?_ | with_reducible refine g_sub ?_ | with_reducible refine g_absI ?_ | with_reducible refine g_intI ?_
  | with_reducible refine iteT ?_ | with_reducible refine iteF ?_ | with_reducible refine g_gcd ?_)
local macro_rules | `(tactic| walk_at "g") => `(tactic| (repeat (first | walk_at "g1" | dsimp only [cx_K, cx_Kn, b_nt, b_nf])))
local macro_rules | `(tactic| walk_at "mul") => `(tactic| exact mulA (a := 200) (b := 200) (by omega) (by omega) (by decide))
local macro_rules | `(tactic| walk_at "pow") => `(tactic| exact ⟨by omega, by omega, by omega⟩)

section
variable {P : Program} {w : World} {K : PySem.W.Frag} {mg : Str → Option Value} {base : Heap} {a : Ad}
theorem ok_is_whole (T : Tx K mg a) : FnOk P w K mg base CX0 1 a.f_is_whole a.d_is_whole P_is_whole (spWhole K a.C_Ratio) := by
  refine T.F_is_whole.ok sc_is_whole (fun vs H Q E h => ?_) (fun cdv A outer s H vs Q E hr h => ?_)
  · obtain ⟨x, t, rfl, _⟩ := h
    rfl
  · obtain ⟨x, t, rfl, ty, kt, k⟩ := h
    refine ⟨_, (pss_one (ps_ret (pe_and (pe_callB call_isi (by rfl) T.b_isinstance (by decide +kernel) (pa_cons (pv 0) (pa_cons (pe_bltn (v := .ty "int") (by rfl) T.b_int (by decide +kernel) rfl) pa_nil))) (pe_one (pe_not (pe_callB call_isi (by rfl) T.b_isinstance (by decide +kernel) (pa_cons (pv 0) (pa_cons (pe_bltn (v := .ty "bool") (by rfl) T.b_bool (by decide +kernel) rfl) pa_nil)))))))), ?_⟩
    walk_at "g"
    refine g_isi ty (.ty _) (kit_int T.R kt) ?_
    walk_at "g"
    cases hb : (t == .type "int" || t == .type "bool") with
    | true =>
      walk_at "g"
      refine g_isi ty (.ty _) (kit_bool T.R kt hb) ?_
      walk_at "g"
      have e : (!(t == Value.type "bool")) = (t == .type "int") := by cases kt <;> first | rfl | simp at hb | simp
      rw [e]
      exact k H (Ex.refl H)
    | false =>
      walk_at "g"
      have e : (t == Value.type "int") = false := (Bool.or_eq_false_iff.mp hb).1
      rw [e] at k
      exact k H (Ex.refl H)
theorem ok_is_number (T : Tx K mg a) : FnOk P w K mg base CX0 2 a.f_is_number a.d_is_number P_is_number (spNumber K a.C_Ratio) := by
  refine T.F_is_number.ok sc_is_number (fun vs H Q E h => ?_) (fun cdv A outer s H vs Q E hr h => ?_)
  · obtain ⟨x, t, rfl, _⟩ := h
    rfl
  · obtain ⟨x, t, rfl, ty, kt, k⟩ := h
    refine ⟨_, (pss_one (ps_ret (pe_or (pe_callB call_isi (by rfl) T.b_isinstance (by decide +kernel) (pa_cons (pv 0) (pa_cons (pe_glob (v := .ref a.C_Ratio) rfl T.g_Ratio rfl) pa_nil))) (pe_one (pe_call (ok_is_whole T) (hr.mono (by decide)) (by rfl) T.g_is_whole T.F_is_whole.kp (bd_is_whole T) .nil pass0 (pa_cons (pv 0) pa_nil)))))), ?_⟩
    walk_at "g"
    refine g_isi ty (.own _) (kit_own T.R kt) ?_
    walk_at "g"
    cases hb : (t == .ref a.C_Ratio) with
    | true =>
      walk_at "g"
      rw [hb] at k
      exact k H (Ex.refl H)
    | false =>
      walk_at "g"
      rw [hb] at k
      exact ⟨x, t, rfl, ty, kt, fun H' e => k H' e⟩
theorem ok_Ratio_init (T : Tx K mg a) : FnOk P w K mg base CX0 1 a.f_Ratio_init a.d_Ratio_init P_Ratio_init (spInit a.C_Ratio) := by
  refine T.F_Ratio_init.ok sc_Ratio_init (fun vs H Q E h => ?_) (fun cdv A outer s H vs Q E hr h => ?_)
  · obtain ⟨p, dx, t, b, k, rfl, _⟩ := h
    rfl
  · obtain ⟨p, dx, t, b, k, rfl, hb, h1, h2, hk, hp, q⟩ := h
    refine ⟨_, (pss_cons (ps_if (pt_cmpR op_eq (pv 2) pe_int (nomark _)) (pss_one ps_never) pss_nil) (pss_cons (ps_set (i := 3) sc_Ratio_init.nd rfl (Or.inl rfl) (pe_callBfun cr_gcd (by rfl) T.g_gcd (pa_cons (pv 1) (pa_cons (pv 2) pa_nil)))) (pss_cons (ps_if (pt_cmpR op_lt (pv 2) pe_int (nomark _)) (pss_one (ps_set (i := 3) sc_Ratio_init.nd rfl (Or.inl rfl) (pe_un un_neg (pv 3)))) pss_nil) (pss_cons (ps_fld (pv 0) (pe_op op_fdivA (pv 1) (pv 3)) rfl) (pss_one (ps_fld (pv 0) (pe_op op_fdivA (pv 2) (pv 3)) rfl)))))), ?_⟩
    walk_at "g"
    refine g_dec (fun h => absurd h hb) (fun _ => ?_)
    walk_at "g"
    refine g_dec (fun hn => ?_) (fun hn => ?_)
    · walk_at "g"
      have ez : -((Nat.gcd t.natAbs b.natAbs : Nat) : Int) = sg t b := by unfold sg; rw [if_pos hn]
      rw [ez]
      refine g_I (divA (sg_ne hb) (sg_sz hb h2) hk) ?_
      walk_at "g"
      refine ⟨p, _, dx, [], rfl, hp, T.R.cl, T.R.nT, by decide, ?_⟩
      walk_at "g"
      refine g_I (divA (sg_ne hb) (sg_sz hb h2) hk) ?_
      walk_at "g"
      refine ⟨p, _, dx, _, rfl, upd_same, T.R.cl, T.R.nB, by show 1 < 1000; decide, ?_⟩
      walk_at "g"
      rw [top_eq hb, bot_eq hb]
      refine q _ (fun c o hc hne => ?_) upd_same
      rw [upd_ne hne, upd_ne hne]
      exact hc
    · walk_at "g"
      have ez : ((Nat.gcd t.natAbs b.natAbs : Nat) : Int) = sg t b := by unfold sg; rw [if_neg hn]
      rw [ez]
      refine g_I (divA (sg_ne hb) (sg_sz hb h2) hk) ?_
      walk_at "g"
      refine ⟨p, _, dx, [], rfl, hp, T.R.cl, T.R.nT, by decide, ?_⟩
      walk_at "g"
      refine g_I (divA (sg_ne hb) (sg_sz hb h2) hk) ?_
      walk_at "g"
      refine ⟨p, _, dx, _, rfl, upd_same, T.R.cl, T.R.nB, by show 1 < 1000; decide, ?_⟩
      walk_at "g"
      rw [top_eq hb, bot_eq hb]
      refine q _ (fun c o hc hne => ?_) upd_same
      rw [upd_ne hne, upd_ne hne]
      exact hc
theorem ok_as_ratio (T : Tx K mg a) : FnOk P w K mg base CX0 3 a.f_as_ratio a.d_as_ratio P_as_ratio (spAsRatio a.C_Ratio) := by
  refine T.F_as_ratio.ok sc_as_ratio (fun vs H Q E h => ?_) (fun cdv A outer s H vs Q E hr h => ?_)
  · obtain ⟨x, q, k, rfl, _⟩ := h
    rfl
  · obtain ⟨x, q, k, rfl, hx, sa, hk, z⟩ := h
    refine ⟨_, (pss_cons (ps_if (pt_val (pe_callB call_isi (by rfl) T.b_isinstance (by decide +kernel) (pa_cons (pv 0) (pa_cons (pe_glob (v := .ref a.C_Ratio) rfl T.g_Ratio rfl) pa_nil)))) (pss_one (ps_ret (pv 0))) pss_nil) (pss_cons (ps_if (pt_val (pe_call (ok_is_whole T) (hr.mono (by decide)) (by rfl) T.g_is_whole T.F_is_whole.kp (bd_is_whole T) .nil pass0 (pa_cons (pv 0) pa_nil))) (pss_one (ps_ret (pe_make T.mk_Ratio (ok_Ratio_init T) (hr.mono (by decide)) (by rfl) T.g_Ratio (bd1_Ratio_init T).choose_spec.2 (bd1_Ratio_init T).choose_spec.1 pass0 (pa_cons (pv 0) pa_nil)))) pss_nil) (pss_one ps_never))), ?_⟩
    walk_at "g"
    rcases hx with ⟨n, rfl, rfl⟩ | hx
    · refine g_isi (.base (.int n)) (.own _) (kit_own T.R .int) ?_
      walk_at "g"
      refine g_ite (fun h => by simp at h) (fun _ => ?_)
      walk_at "g"
      refine ⟨_, _, rfl, .base (.int n), .int, fun H1 e1 => ?_⟩
      walk_at "g"
      refine g_ite (fun _ => ?_) (fun h => by simp at h)
      walk_at "g"
      refine use_init (t := n) (b := 1) (k := k + 1) rfl (by decide) (by have := sa.1; rw [Rat.num_intCast] at this; exact lt_up this (by omega)) (lt_up (by decide : 1 < 2 ^ 1) (by omega)) (by omega) fun v H2 e2 hv => ?_
      rw [int_divInt] at hv
      exact z v H2 (e1.trans e2) hv
    · refine g_isi (ty_rat T.R hx) (.own _) (kit_own T.R .own) ?_
      walk_at "g"
      refine g_ite (fun _ => ?_) (fun h => by simp at h)
      walk_at "g"
      exact z x H (Ex.refl H) hx
theorem ok_Ratio_add (T : Tx K mg a) : FnOk P w K mg base CX0 4 a.f_Ratio_add a.d_Ratio_add P_Ratio_add (spNum2 a.C_Ratio (· + ·)) := by
  refine T.F_Ratio_add.ok sc_Ratio_add (fun vs H Q E h => ?_) (fun cdv A outer s H vs Q E hr h => ?_)
  · obtain ⟨x, y, p, q, k, rfl, _⟩ := h
    rfl
  · obtain ⟨x, y, p, q, k, rfl, hx, hy, sa, sb, hk, z⟩ := h
    refine ⟨_, (pss_cons (ps_if (pt_not (pt_val (pe_call (ok_is_number T) (hr.mono (by decide)) (by rfl) T.g_is_number T.F_is_number.kp (bd_is_number T) .nil pass0 (pa_cons (pv 1) pa_nil)))) (pss_one ps_never) pss_nil) (pss_cons (ps_set (i := 2) sc_Ratio_add.nd rfl (Or.inl rfl) (pe_call (ok_as_ratio T) (hr.mono (by decide)) (by rfl) T.g_as_ratio T.F_as_ratio.kp (bd_as_ratio T) .nil pass0 (pa_cons (pv 1) pa_nil))) (pss_one (ps_ret (pe_make T.mk_Ratio (ok_Ratio_init T) (hr.mono (by decide)) (by rfl) T.g_Ratio (bd_Ratio_init T) .nil pass0 (pa_cons (pe_op op_add (pe_op op_mulW (pe_fld (pv 0) rfl) (pe_fld (pv 2) rfl)) (pe_op op_mulW (pe_fld (pv 2) rfl) (pe_fld (pv 0) rfl))) (pa_cons (pe_op op_mulW (pe_fld (pv 0) rfl) (pe_fld (pv 2) rfl)) pa_nil))))))), ?_⟩
    walk_at "g"
    refine use_isnum T.R hy fun H0 e0 => ?_
    walk_at "g"
    have hy := hy.mono e0
    have hx := hx.mono e0
    refine use_asr hy sb hk fun u H1 e1 hn => ?_
    have hx' := hx.mono e1
    walk_at "g"
    refine g_top T.R.cl T.R.nT hx' ?_
    walk_at "g"
    refine g_bottom T.R.cl T.R.nB hn ?_
    refine g_I (mulA sa.n sb.d (by omega)) ?_
    walk_at "g"
    refine g_top T.R.cl T.R.nT hn ?_
    walk_at "g"
    refine g_bottom T.R.cl T.R.nB hx' ?_
    refine g_I (mulA sb.n sa.d (by omega)) ?_
    walk_at "g"
    refine g_bottom T.R.cl T.R.nB hx' ?_
    walk_at "g"
    refine g_bottom T.R.cl T.R.nB hn ?_
    refine g_I (mulA sa.d sb.d (by omega)) ?_
    walk_at "g"
    refine use_init (k := k + k + 1) rfl (dd_ne _ _) (abs_add_lt (abs_mul_lt sa.n sb.d) (abs_mul_lt sb.n sa.d)) (lt_up (abs_mul_lt sa.d sb.d) (by omega)) (by omega) fun v H2 e2 hv => ?_
    rw [add_divInt] at hv
    exact z v H2 ((e0.trans e1).trans e2) hv
theorem ok_Ratio_sub (T : Tx K mg a) : FnOk P w K mg base CX0 4 a.f_Ratio_sub a.d_Ratio_sub P_Ratio_sub (spNum2 a.C_Ratio (· - ·)) := by
  refine T.F_Ratio_sub.ok sc_Ratio_sub (fun vs H Q E h => ?_) (fun cdv A outer s H vs Q E hr h => ?_)
  · obtain ⟨x, y, p, q, k, rfl, _⟩ := h
    rfl
  · obtain ⟨x, y, p, q, k, rfl, hx, hy, sa, sb, hk, z⟩ := h
    refine ⟨_, (pss_cons (ps_if (pt_not (pt_val (pe_call (ok_is_number T) (hr.mono (by decide)) (by rfl) T.g_is_number T.F_is_number.kp (bd_is_number T) .nil pass0 (pa_cons (pv 1) pa_nil)))) (pss_one ps_never) pss_nil) (pss_cons (ps_set (i := 2) sc_Ratio_sub.nd rfl (Or.inl rfl) (pe_call (ok_as_ratio T) (hr.mono (by decide)) (by rfl) T.g_as_ratio T.F_as_ratio.kp (bd_as_ratio T) .nil pass0 (pa_cons (pv 1) pa_nil))) (pss_one (ps_ret (pe_make T.mk_Ratio (ok_Ratio_init T) (hr.mono (by decide)) (by rfl) T.g_Ratio (bd_Ratio_init T) .nil pass0 (pa_cons (pe_op op_sub (pe_op op_mulW (pe_fld (pv 0) rfl) (pe_fld (pv 2) rfl)) (pe_op op_mulW (pe_fld (pv 2) rfl) (pe_fld (pv 0) rfl))) (pa_cons (pe_op op_mulW (pe_fld (pv 0) rfl) (pe_fld (pv 2) rfl)) pa_nil))))))), ?_⟩
    walk_at "g"
    refine use_isnum T.R hy fun H0 e0 => ?_
    walk_at "g"
    have hy := hy.mono e0
    have hx := hx.mono e0
    refine use_asr hy sb hk fun u H1 e1 hn => ?_
    have hx' := hx.mono e1
    walk_at "g"
    refine g_top T.R.cl T.R.nT hx' ?_
    walk_at "g"
    refine g_bottom T.R.cl T.R.nB hn ?_
    refine g_I (mulA sa.n sb.d (by omega)) ?_
    walk_at "g"
    refine g_top T.R.cl T.R.nT hn ?_
    walk_at "g"
    refine g_bottom T.R.cl T.R.nB hx' ?_
    refine g_I (mulA sb.n sa.d (by omega)) ?_
    walk_at "g"
    refine g_bottom T.R.cl T.R.nB hx' ?_
    walk_at "g"
    refine g_bottom T.R.cl T.R.nB hn ?_
    refine g_I (mulA sa.d sb.d (by omega)) ?_
    walk_at "g"
    refine use_init (k := k + k + 1) rfl (dd_ne _ _) (abs_sub_lt (abs_mul_lt sa.n sb.d) (abs_mul_lt sb.n sa.d)) (lt_up (abs_mul_lt sa.d sb.d) (by omega)) (by omega) fun v H2 e2 hv => ?_
    rw [sub_divInt] at hv
    exact z v H2 ((e0.trans e1).trans e2) hv
theorem ok_Ratio_mul (T : Tx K mg a) : FnOk P w K mg base CX0 4 a.f_Ratio_mul a.d_Ratio_mul P_Ratio_mul (spNum2 a.C_Ratio (· * ·)) := by
  refine T.F_Ratio_mul.ok sc_Ratio_mul (fun vs H Q E h => ?_) (fun cdv A outer s H vs Q E hr h => ?_)
  · obtain ⟨x, y, p, q, k, rfl, _⟩ := h
    rfl
  · obtain ⟨x, y, p, q, k, rfl, hx, hy, sa, sb, hk, z⟩ := h
    refine ⟨_, (pss_cons (ps_if (pt_not (pt_val (pe_call (ok_is_number T) (hr.mono (by decide)) (by rfl) T.g_is_number T.F_is_number.kp (bd_is_number T) .nil pass0 (pa_cons (pv 1) pa_nil)))) (pss_one ps_never) pss_nil) (pss_cons (ps_set (i := 2) sc_Ratio_mul.nd rfl (Or.inl rfl) (pe_call (ok_as_ratio T) (hr.mono (by decide)) (by rfl) T.g_as_ratio T.F_as_ratio.kp (bd_as_ratio T) .nil pass0 (pa_cons (pv 1) pa_nil))) (pss_one (ps_ret (pe_make T.mk_Ratio (ok_Ratio_init T) (hr.mono (by decide)) (by rfl) T.g_Ratio (bd_Ratio_init T) .nil pass0 (pa_cons (pe_op op_mulW (pe_fld (pv 0) rfl) (pe_fld (pv 2) rfl)) (pa_cons (pe_op op_mulW (pe_fld (pv 0) rfl) (pe_fld (pv 2) rfl)) pa_nil))))))), ?_⟩
    walk_at "g"
    refine use_isnum T.R hy fun H0 e0 => ?_
    walk_at "g"
    have hy := hy.mono e0
    have hx := hx.mono e0
    refine use_asr hy sb hk fun u H1 e1 hn => ?_
    have hx' := hx.mono e1
    walk_at "g"
    refine g_top T.R.cl T.R.nT hx' ?_
    walk_at "g"
    refine g_top T.R.cl T.R.nT hn ?_
    refine g_I (mulA sa.n sb.n (by omega)) ?_
    walk_at "g"
    refine g_bottom T.R.cl T.R.nB hx' ?_
    walk_at "g"
    refine g_bottom T.R.cl T.R.nB hn ?_
    refine g_I (mulA sa.d sb.d (by omega)) ?_
    walk_at "g"
    refine use_init (k := k + k) rfl (dd_ne _ _) (abs_mul_lt sa.n sb.n) (abs_mul_lt sa.d sb.d) (by omega) fun v H2 e2 hv => ?_
    rw [mul_divInt] at hv
    exact z v H2 ((e0.trans e1).trans e2) hv
theorem ok_Ratio_lt (T : Tx K mg a) : FnOk P w K mg base CX0 4 a.f_Ratio_lt a.d_Ratio_lt P_Ratio_lt (spRel2 a.C_Ratio fun x y => decide (x < y)) := by
  refine T.F_Ratio_lt.ok sc_Ratio_lt (fun vs H Q E h => ?_) (fun cdv A outer s H vs Q E hr h => ?_)
  · obtain ⟨x, y, p, q, k, rfl, _⟩ := h
    rfl
  · obtain ⟨x, y, p, q, k, rfl, hx, hy, sa, sb, hk, z⟩ := h
    refine ⟨_, (pss_cons (ps_if (pt_not (pt_val (pe_call (ok_is_number T) (hr.mono (by decide)) (by rfl) T.g_is_number T.F_is_number.kp (bd_is_number T) .nil pass0 (pa_cons (pv 1) pa_nil)))) (pss_one ps_never) pss_nil) (pss_cons (ps_set (i := 2) sc_Ratio_lt.nd rfl (Or.inl rfl) (pe_call (ok_as_ratio T) (hr.mono (by decide)) (by rfl) T.g_as_ratio T.F_as_ratio.kp (bd_as_ratio T) .nil pass0 (pa_cons (pv 1) pa_nil))) (pss_one (ps_ret (pe_cmpR op_lt (pe_op op_mulW (pe_fld (pv 0) rfl) (pe_fld (pv 2) rfl)) (pe_op op_mulW (pe_fld (pv 2) rfl) (pe_fld (pv 0) rfl)) (nomark _)))))), ?_⟩
    walk_at "g"
    refine use_isnum T.R hy fun H0 e0 => ?_
    walk_at "g"
    have hy := hy.mono e0
    have hx := hx.mono e0
    refine use_asr hy sb hk fun u H1 e1 hn => ?_
    have hx' := hx.mono e1
    walk_at "g"
    refine g_top T.R.cl T.R.nT hx' ?_
    walk_at "g"
    refine g_bottom T.R.cl T.R.nB hn ?_
    refine g_I (mulA sa.n sb.d (by omega)) ?_
    walk_at "g"
    refine g_top T.R.cl T.R.nT hn ?_
    walk_at "g"
    refine g_bottom T.R.cl T.R.nB hx' ?_
    refine g_I (mulA sb.n sa.d (by omega)) ?_
    walk_at "g"
    have z := z H1 (e0.trans e1)
    dsimp only at z
    rw [dec_ltR] at z
    exact z
theorem ok_Ratio_le (T : Tx K mg a) : FnOk P w K mg base CX0 4 a.f_Ratio_le a.d_Ratio_le P_Ratio_le (spRel2 a.C_Ratio fun x y => decide (x ≤ y)) := by
  refine T.F_Ratio_le.ok sc_Ratio_le (fun vs H Q E h => ?_) (fun cdv A outer s H vs Q E hr h => ?_)
  · obtain ⟨x, y, p, q, k, rfl, _⟩ := h
    rfl
  · obtain ⟨x, y, p, q, k, rfl, hx, hy, sa, sb, hk, z⟩ := h
    refine ⟨_, (pss_cons (ps_if (pt_not (pt_val (pe_call (ok_is_number T) (hr.mono (by decide)) (by rfl) T.g_is_number T.F_is_number.kp (bd_is_number T) .nil pass0 (pa_cons (pv 1) pa_nil)))) (pss_one ps_never) pss_nil) (pss_cons (ps_set (i := 2) sc_Ratio_le.nd rfl (Or.inl rfl) (pe_call (ok_as_ratio T) (hr.mono (by decide)) (by rfl) T.g_as_ratio T.F_as_ratio.kp (bd_as_ratio T) .nil pass0 (pa_cons (pv 1) pa_nil))) (pss_one (ps_ret (pe_cmpR op_le (pe_op op_mulW (pe_fld (pv 0) rfl) (pe_fld (pv 2) rfl)) (pe_op op_mulW (pe_fld (pv 2) rfl) (pe_fld (pv 0) rfl)) (nomark _)))))), ?_⟩
    walk_at "g"
    refine use_isnum T.R hy fun H0 e0 => ?_
    walk_at "g"
    have hy := hy.mono e0
    have hx := hx.mono e0
    refine use_asr hy sb hk fun u H1 e1 hn => ?_
    have hx' := hx.mono e1
    walk_at "g"
    refine g_top T.R.cl T.R.nT hx' ?_
    walk_at "g"
    refine g_bottom T.R.cl T.R.nB hn ?_
    refine g_I (mulA sa.n sb.d (by omega)) ?_
    walk_at "g"
    refine g_top T.R.cl T.R.nT hn ?_
    walk_at "g"
    refine g_bottom T.R.cl T.R.nB hx' ?_
    refine g_I (mulA sb.n sa.d (by omega)) ?_
    walk_at "g"
    have z := z H1 (e0.trans e1)
    dsimp only at z
    rw [dec_leR] at z
    exact z
theorem ok_Ratio_eq (T : Tx K mg a) : FnOk P w K mg base CX0 4 a.f_Ratio_eq a.d_Ratio_eq P_Ratio_eq (spEqV K a.C_Ratio) := by
  refine T.F_Ratio_eq.ok sc_Ratio_eq (fun vs H Q E h => ?_) (fun cdv A outer s H vs Q E hr h => ?_)
  · obtain ⟨x, y, p, r, rfl, _⟩ := h
    rfl
  · obtain ⟨x, y, p, r, rfl, hx, hy, z⟩ := h
    refine ⟨_, (pss_cons (ps_if (pt_not (pt_val (pe_call (ok_is_number T) (hr.mono (by decide)) (by rfl) T.g_is_number T.F_is_number.kp (bd_is_number T) .nil pass0 (pa_cons (pv 1) pa_nil)))) (pss_one (ps_ret pe_bl)) pss_nil) (pss_cons (ps_set (i := 2) sc_Ratio_eq.nd rfl (Or.inl rfl) (pe_call (ok_as_ratio T) (hr.mono (by decide)) (by rfl) T.g_as_ratio T.F_as_ratio.kp (bd_as_ratio T) .nil pass0 (pa_cons (pv 1) pa_nil))) (pss_one (ps_ret (pe_and (pe_cmpR op_eq (pe_fld (pv 0) rfl) (pe_fld (pv 2) rfl) (nomark _)) (pe_one (pe_cmpR op_eq (pe_fld (pv 0) rfl) (pe_fld (pv 2) rfl) (nomark _)))))))), ?_⟩
    walk_at "g"
    rcases hy with ⟨q, k, hy, sb, hk, rfl⟩ | ⟨t, ty, kt, et, rfl⟩
    · refine use_isnum T.R hy fun H0 e0 => ?_
      walk_at "g"
      have hy := hy.mono e0
      have hx := hx.mono e0
      refine use_asr hy sb hk fun u H1 e1 hn => ?_
      have hx' := hx.mono e1
      walk_at "g"
      refine g_top T.R.cl T.R.nT hx' ?_
      walk_at "g"
      refine g_top T.R.cl T.R.nT hn ?_
      walk_at "g"
      have z := z H1 (e0.trans e1)
      rw [dec_eqR] at z
      refine g_dec (fun h => ?_) (fun h => ?_)
      · rw [decide_eq_true h] at z
        walk_at "g"
        refine g_bottom T.R.cl T.R.nB hx' ?_
        walk_at "g"
        refine g_bottom T.R.cl T.R.nB hn ?_
        walk_at "g"
        exact z
      · rw [decide_eq_false h] at z
        walk_at "g"
        exact z
    · refine use_isnot ty kt et fun H0 e0 => ?_
      walk_at "g"
      exact z H0 e0
theorem ok_Ratio_neg (T : Tx K mg a) : FnOk P w K mg base CX0 3 a.f_Ratio_neg a.d_Ratio_neg P_Ratio_neg (spNum1 a.C_Ratio (- ·)) := by
  refine T.F_Ratio_neg.ok sc_Ratio_neg (fun vs H Q E h => ?_) (fun cdv A outer s H vs Q E hr h => ?_)
  · obtain ⟨x, p, k, rfl, _⟩ := h
    rfl
  · obtain ⟨x, p, k, rfl, hx, sa, hk, z⟩ := h
    refine ⟨_, (pss_one (ps_ret (pe_make T.mk_Ratio (ok_Ratio_init T) (hr.mono (by decide)) (by rfl) T.g_Ratio (bd_Ratio_init T) .nil pass0 (pa_cons (pe_un un_neg (pe_fld (pv 0) rfl)) (pa_cons (pe_fld (pv 0) rfl) pa_nil))))), ?_⟩
    walk_at "g"
    refine g_top T.R.cl T.R.nT hx ?_
    walk_at "g"
    refine g_bottom T.R.cl T.R.nB hx ?_
    walk_at "g"
    refine use_init (k := k) rfl (den_ne _) (by rw [Int.natAbs_neg]; exact sa.n) sa.d (by omega) fun v H2 e2 hv => ?_
    rw [neg_divInt1] at hv
    exact z v H2 e2 hv
end
end Kx


set_option maxHeartbeats 2000000
namespace Fm
open PySem PySem.Spec PyProof.Rows L2 SX
/-! ### the sums that the law looks at -/
theorem at_two {α : Type} {x y z : α} {r : List α} : atI (x :: y :: z :: r) 2 = some z := by
  unfold atI ixN
  simp
  rw [if_pos (by omega)]
  rfl
theorem sz_int {w : Int} {k : Nat} (h : w.natAbs < 2 ^ k) (hk : 1 ≤ k) : Sz k (w : Rat) := by
  rw [← int_divInt]
  exact Sz.divInt h (Nat.lt_of_lt_of_le (by decide : (1 : Int).natAbs < 2 ^ 1) (Nat.pow_le_pow_right (by decide) hk)) (by decide)
theorem sz_le {k j : Nat} {q : Rat} (h : Sz k q) (hk : k ≤ j) : Sz j q := ⟨Nat.lt_of_lt_of_le h.1 (Nat.pow_le_pow_right (by decide) hk), Nat.lt_of_lt_of_le h.2 (Nat.pow_le_pow_right (by decide) hk)⟩
section
variable {p q r s w : Int}
theorem tot3 (hq : 0 < q) (hs : 0 < s) (b1 : p.natAbs < 2 ^ 40) (b2 : q.natAbs < 2 ^ 40) (b3 : r.natAbs < 2 ^ 40) (b4 : s.natAbs < 2 ^ 40) (b5 : w.natAbs < 2 ^ 40) :
    (∀ i, i ≤ 3 → Sz 200 (sumR ([Rat.divInt p q, Rat.divInt r s, (w : Rat)].take i))) ∧ (∀ x ∈ [Rat.divInt p q, Rat.divInt r s, (w : Rat)], Sz 200 x) ∧
      sumR [Rat.divInt p q, Rat.divInt r s, (w : Rat)] = Rat.divInt (p * s + r * q + w * q * s) (q * s) ∧ (p * s + r * q + w * q * s).natAbs < 2 ^ 150 ∧ (q * s).natAbs < 2 ^ 150 ∧ q * s ≠ 0 := by
  have hqs : q * s ≠ 0 := Int.mul_ne_zero (by omega) (by omega)
  have w1 : (p * s).natAbs < 2 ^ 80 := abs_mul_lt b1 b4
  have w2 : (r * q).natAbs < 2 ^ 80 := abs_mul_lt b3 b2
  have w3 : (q * s).natAbs < 2 ^ 80 := abs_mul_lt b2 b4
  have w4 : (w * q).natAbs < 2 ^ 80 := abs_mul_lt b5 b2
  have w5 : (w * q * s).natAbs < 2 ^ 120 := abs_mul_lt (a := 80) (b := 40) w4 b4
  have e2 : Rat.divInt p q + Rat.divInt r s = Rat.divInt (p * s + r * q) (q * s) := add_div2 (by omega) (by omega)
  have e3 : Rat.divInt p q + Rat.divInt r s + (w : Rat) = Rat.divInt (p * s + r * q + w * q * s) (q * s) := by
    rw [e2, add_int hqs, Int.mul_assoc w q s]
  have s1 : Sz 200 (Rat.divInt p q) := Sz.divInt (by omega) (by omega) (by omega)
  have s2 : Sz 200 (Rat.divInt r s) := Sz.divInt (by omega) (by omega) (by omega)
  have s3 : Sz 200 (w : Rat) := sz_int (by omega) (by decide)
  have s12 : Sz 200 (Rat.divInt p q + Rat.divInt r s) := by rw [e2]; exact Sz.divInt (by omega) (by omega) hqs
  have s123 : Sz 200 (Rat.divInt p q + Rat.divInt r s + (w : Rat)) := by rw [e3]; exact Sz.divInt (by omega) (by omega) hqs
  refine ⟨fun i hi => ?_, fun x hx => ?_, by rw [sumR3, e3], by omega, by omega, hqs⟩
  · have : i = 0 ∨ i = 1 ∨ i = 2 ∨ i = 3 := by omega
    rcases this with rfl | rfl | rfl | rfl
    · exact sz_int (w := 0) (by decide) (by decide)
    · show Sz 200 (sumR [Rat.divInt p q]); rw [sumR1]; exact s1
    · show Sz 200 (sumR [Rat.divInt p q, Rat.divInt r s]); rw [sumR2]; exact s12
    · show Sz 200 (sumR [Rat.divInt p q, Rat.divInt r s, (w : Rat)]); rw [sumR3]; exact s123
  · have : x = Rat.divInt p q ∨ x = Rat.divInt r s ∨ x = (w : Rat) := by simpa using hx
    rcases this with rfl | rfl | rfl
    · exact s1
    · exact s2
    · exact s3
theorem tot1 {x : Rat} (h : Sz 200 x) : (∀ i, i ≤ 1 → Sz 200 (sumR ([x].take i))) ∧ (∀ y ∈ [x], Sz 200 y) ∧ sumR [x] = x := by
  refine ⟨fun i hi => ?_, fun y hy => ?_, sumR1⟩
  · have : i = 0 ∨ i = 1 := by omega
    rcases this with rfl | rfl
    · exact sz_int (w := 0) (by decide) (by decide)
    · show Sz 200 (sumR [x]); rw [sumR1]; exact h
  · have : y = x := by simpa using hy
    rw [this]; exact h
theorem tot0 : (∀ i, i ≤ 0 → Sz 200 (sumR (([] : List Rat).take i))) ∧ (∀ y ∈ ([] : List Rat), Sz 200 y) ∧ sumR [] = Rat.divInt 0 1 := by
  refine ⟨fun i hi => ?_, fun y hy => by simp at hy, ?_⟩
  · have : i = 0 := by omega
    subst this
    exact sz_int (w := 0) (by decide) (by decide)
  · rw [int_divInt]; rfl
theorem tot2 (hq : 0 < q) (b1 : p.natAbs < 2 ^ 40) (b2 : q.natAbs < 2 ^ 40) (b5 : w.natAbs < 2 ^ 40) :
    (∀ i, i ≤ 2 → Sz 200 (sumR ([(w : Rat), Rat.divInt p q].take i))) ∧ (∀ x ∈ [(w : Rat), Rat.divInt p q], Sz 200 x) ∧ sumR [(w : Rat), Rat.divInt p q] = Rat.divInt (p + w * q) q ∧ (p + w * q).natAbs < 2 ^ 150 := by
  have w4 : (w * q).natAbs < 2 ^ 80 := abs_mul_lt b5 b2
  have e2 : (w : Rat) + Rat.divInt p q = Rat.divInt (p + w * q) q := by rw [Rat.add_comm, add_int (by omega)]
  have s1 : Sz 200 (Rat.divInt p q) := Sz.divInt (by omega) (by omega) (by omega)
  have s3 : Sz 200 (w : Rat) := sz_int (by omega) (by decide)
  have s12 : Sz 200 ((w : Rat) + Rat.divInt p q) := by rw [e2]; exact Sz.divInt (by omega) (by omega) (by omega)
  refine ⟨fun i hi => ?_, fun x hx => ?_, by rw [sumR2, e2], by omega⟩
  · have : i = 0 ∨ i = 1 ∨ i = 2 := by omega
    rcases this with rfl | rfl | rfl
    · exact sz_int (w := 0) (by decide) (by decide)
    · show Sz 200 (sumR [(w : Rat)]); rw [sumR1]; exact s3
    · show Sz 200 (sumR [(w : Rat), Rat.divInt p q]); rw [sumR2]; exact s12
  · have : x = (w : Rat) ∨ x = Rat.divInt p q := by simpa using hx
    rcases this with rfl | rfl
    · exact s3
    · exact s1
end
theorem sum_sevenths : ∀ n : Nat, sumR ((List.range n).map fun (i : Nat) => Rat.divInt (i : Int) 7) = Rat.divInt (((List.range n).foldl (· + ·) 0 : Nat) : Int) 7
  | 0 => by
    show (0 : Rat) = Rat.divInt 0 7
    rw [Rat.zero_divInt]
  | n + 1 => by
    rw [List.range_succ, List.map_append, List.foldl_append]
    show sumR _ = _
    unfold sumR
    rw [List.foldl_append]
    have ih := sum_sevenths n
    unfold sumR at ih
    rw [ih]
    show Rat.divInt _ 7 + Rat.divInt _ 7 = _
    rw [Rat.divInt_add_divInt _ _ (by decide) (by decide), Rat.divInt_eq_divInt_iff (by decide) (by decide)]
    show _ = ((((List.range n).foldl (· + ·) 0 + n : Nat)) : Int) * (7 * 7)
    push_cast
    omega
end Fm
namespace L2
open PySem PySem.Spec PyProof.Rows
theorem pss_weak {X : Cx} {b : List Stmt} {t t' : TS} (h : PSs X b t) (i : ∀ D σ H, t' D σ H → t D σ H) : PSs X b t' := ⟨fun pins s σ H D I q => h.run pins s σ H D I (i D σ H q)⟩
end L2
namespace Fm
open PySem PySem.Spec PyProof.Rows L2 SX
/-- one of the values that are no numbers -/
def OddV (H : Hp) (v : V) : Prop := v = .non ∨ (∃ b, v = .bl b) ∨ v = .str (S [49]) ∨ ∃ p, v = .ref p ∧ (H p = some (.lst [.int 1]) ∨ H p = some (.tup [.int 1, .int 2]) ∨ H p = some (.dK []))
theorem OddV.mono {H H' : Hp} {v : V} (e : Ex H H') (h : OddV H v) : OddV H' v := by
  rcases h with h | h | h | ⟨p, h, h1 | h1 | h1⟩
  · exact .inl h
  · exact .inr (.inl h)
  · exact .inr (.inr (.inl h))
  · exact .inr (.inr (.inr ⟨p, h, .inl (e _ _ h1)⟩))
  · exact .inr (.inr (.inr ⟨p, h, .inr (.inl (e _ _ h1))⟩))
  · exact .inr (.inr (.inr ⟨p, h, .inr (.inr (e _ _ h1))⟩))
theorem odd_ty {K : PySem.W.Frag} {C : Addr} {H : Hp} {v : V} (h : OddV H v) : ∃ t, TyX K H v t ∧ KTy C t ∧ (t == .ref C || t == .type "int") = false := by
  rcases h with rfl | ⟨b, rfl⟩ | rfl | ⟨p, rfl, h1 | h1 | h1⟩
  · exact ⟨_, .base .non, .non, by simp⟩
  · exact ⟨_, .base (.bl b), .bool, by simp⟩
  · exact ⟨_, .base (.str _), .str, by simp⟩
  · exact ⟨_, .base (.lst h1), .list, by simp⟩
  · exact ⟨_, .base (.tup h1), .tuple, by simp⟩
  · exact ⟨_, .base (.dK h1), .dict, by simp⟩
theorem sev_small : ∀ i, i ≤ 40 → (List.range i).foldl (· + ·) 0 < 1000 := by decide
theorem sev_take {i : Nat} (hi : i ≤ 40) : Sz 200 (sumR ((((List.range 40).map fun (i : Nat) => Rat.divInt (i : Int) 7)).take i)) := by
  rw [← List.map_take, List.take_range, Nat.min_eq_left hi, sum_sevenths]
  have := sev_small i hi
  exact Sz.divInt (by omega) (by decide) (by decide)
theorem sev_sum : sumR ((List.range 40).map fun (i : Nat) => Rat.divInt (i : Int) 7) = Rat.divInt 780 7 := by
  rw [sum_sevenths]
  rfl
theorem sev_each : ∀ q ∈ ((List.range 40).map fun (i : Nat) => Rat.divInt (i : Int) 7), Sz 200 q := by
  intro q hq
  obtain ⟨i, hi, rfl⟩ := List.mem_map.mp hq
  have := List.mem_range.mp hi
  exact Sz.divInt (by omega) (by decide) (by decide)
end Fm
namespace Fm
open PySem PySem.Spec PyProof.Rows L2 SX
theorem g_dnew {σ : L2.St} {H : Hp} {Q : VK} (q : ∀ p, H p = none → Q (.ref p) (upd H p (.dK []))) : tDNewK σ H Q := q
end Fm

set_option maxHeartbeats 2000000
namespace Fm
open PySem PySem.Spec PyProof.Rows L2
/-! ### rules whose readings name the written part by a letter: in a comprehension, in a try -/
section
variable {X : Cx} {K : PySem.W.Frag}
theorem pe_fldV {e : Expr} {f : Str} {ta : TE} {pos : Pos} (hK : X.K = K) (he : PE X e ta) (hb : attributeBase e f X.env (eval e X.env) = eval e X.env) : PE X (.Attribute e f pos) (tFld K ta f) := by
  subst hK; exact pe_fld he hb
theorem ix_listV (hK : X.K = K) : IxR X (rIxL K) := by subst hK; exact ix_list
theorem ix_tupV (hK : X.K = K) : IxR X (rIxT K) := by subst hK; exact ix_tup
theorem call_isiV (hK : X.K = K) : CallR X (.builtin "isinstance") (rIsi K) := by subst hK; exact call_isi
theorem call_isiTV (hK : X.K = K) : CallR X (.builtin "isinstance") (rIsiT K) := by subst hK; exact call_isiT
theorem call_lenQV (hK : X.K = K) : CallR X (.builtin "len") (rLenQ K) := by subst hK; exact call_lenQ
theorem cr_allV (hK : X.K = K) (hc : X.calm = true) : CallR X (.builtin "all") (rAll K) := by subst hK; exact cr_all hc
theorem op_eqDV (hK : X.K = K) (hu : X.A.units + 64 < cLine) : OpR X (compareOp .Eq) (rEqD K) := by subst hK; exact op_eqD hu
theorem op_neDV (hK : X.K = K) (hu : X.A.units + 64 < cLine) : OpR X (compareOp .NotEq) (rNeD K) := by subst hK; exact op_neD hu
theorem sl_listV (hK : X.K = K) : SlR X (rSlL K) := by subst hK; exact sl_list
theorem sl_tupV (hK : X.K = K) : SlR X (rSlT K) := by subst hK; exact sl_tup
theorem op_cmpV {CX : CXT} {k : Nat} {f C : Addr} {fd : FuncData} {ps : List Str} {sp : Sp} {E : XK} {op : CmpOp} (hK : X.K = K) (hop : ∀ v u : Value, compareOp op v u = richCompare op v u) (T : CmpFn K C f op) (F : FnOk X.prog X.w K X.mg X.base CX k f fd ps sp) (hr : Room k X.A) (hb : Binds K fd ps []) (hx : Passes CX X E) :
    OpR X (compareOp op) (rCmpOwn K C sp E) := by
  subst hK; exact op_cmp hop T F hr hb hx
theorem op_neOwnV {CX : CXT} {k : Nat} {f C : Addr} {fd : FuncData} {ps : List Str} {sp : Sp} {E : XK} (hK : X.K = K) (T : NeFn K C f) (F : FnOk X.prog X.w K X.mg X.base CX k f fd ps sp) (hr : Room (k + 1) X.A) (hb : Binds K fd ps []) (hx : Passes CX X E) : OpR X (compareOp .NotEq) (rNeOwn K C sp E) := by
  subst hK; exact op_neOwn T F hr hb hx
end
theorem g_all {K : PySem.W.Frag} {H : Hp} {Q : VK} {p : Addr} {bs : List Bool} (h : SqL K H p (bs.map V.bl)) (q : Q (.bl (bs.all id)) H) : rAll K [.ref p] H Q := ⟨p, bs, rfl, h, q⟩
theorem g_lstOf {K : PySem.W.Frag} {H : Hp} {Q : VK} {p : Addr} {ys : List V} (h : SqL K H p ys ∨ SqT K H p ys) (q : ∀ l, H l = none → Q (.ref l) (upd H l (.lst ys))) : ∃ p ys, [V.ref p] = [V.ref p] ∧ (SqL K H p ys ∨ SqT K H p ys) ∧ ∀ l, H l = none → Q (.ref l) (upd H l (.lst ys)) := ⟨p, ys, rfl, h, q⟩
section
variable {K : PySem.W.Frag} {σ : L2.St} {H : Hp} {Q : VK} {g : TG} {te : TE} {tt : TT} {vs : List Nat}
theorem cp_T {a : Addr} {xs : List V} (Pv : Addr → Nat → Hp → Prop) (h0 : ∀ D, H D = none → Pv D 0 (upd H D (.lst []))) (hl : ∀ D, H D = none → ∀ i H', i ≤ xs.length → Pv D i H' → SqT K H' a xs)
    (hs : ∀ D, H D = none → ∀ i x H', xs[i]? = some x → Pv D i H' → Turn g tt te vs σ D (Pv D (i + 1)) x H') (hd : ∀ D, H D = none → ∀ H', Pv D xs.length H' → Q (.ref D) H') : Cp (Itt K a) g tt te vs σ H Q := by
  intro D hD
  refine ⟨fun i m H' => m = xs.length - i ∧ i ≤ xs.length ∧ Pv D i H', ⟨xs.length, by simp, Nat.zero_le _, h0 D hD⟩, ?_⟩
  rintro i m H' ⟨rfl, hi, p⟩
  have q := hl D hD i H' hi p
  by_cases hlt : i < xs.length
  · refine .inr ⟨⟨xs, xs[i], q, by simp [hlt]⟩, Pv D (i + 1), fun H' p' => ⟨xs.length - (i + 1), by omega, rfl, hlt, p'⟩, fun x H2 y => ?_⟩
    obtain ⟨e, y⟩ := y
    subst e
    exact hs D hD i x _ (y xs q) p
  · have e : i = xs.length := by omega
    subst e
    exact .inl ⟨⟨xs, q, Nat.le_refl _⟩, hd D hD _ p⟩
end
end Fm
namespace Fm
open PySem PySem.Spec PyProof.Rows L2
section
variable {K : PySem.W.Frag} {σ : L2.St} {H : Hp} {Q : VK} {g : TG} {te : TE} {tt : TT} {vs : List Nat}
/-- a comprehension over zip of two lists -/
theorem cp_Z {a b : Addr} {xs ys : List V} (Pv : Addr → Nat → Hp → Prop) (h0 : ∀ D, H D = none → Pv D 0 (upd H D (.lst []))) (hl : ∀ D, H D = none → ∀ i H', Pv D i H' → SqL K H' a xs ∧ SqL K H' b ys)
    (hs : ∀ D, H D = none → ∀ i x y t H', xs[i]? = some x → ys[i]? = some y → Pv D i H' → H' t = none → Turn g tt te vs σ D (Pv D (i + 1)) (.ref t) (upd H' t (.tup [x, y]))) (hd : ∀ D, H D = none → ∀ H', Pv D (min xs.length ys.length) H' → Q (.ref D) H') :
    Cp (Itz K a b) g tt te vs σ H Q := by
  intro D hD
  refine ⟨fun i m H' => m = min xs.length ys.length - i ∧ i ≤ min xs.length ys.length ∧ Pv D i H', ⟨min xs.length ys.length, by simp, Nat.zero_le _, h0 D hD⟩, ?_⟩
  rintro i m H' ⟨rfl, hi, p⟩
  obtain ⟨q1, q2⟩ := hl D hD i H' p
  by_cases hlt : i < min xs.length ys.length
  · have l1 : i < xs.length := by omega
    have l2 : i < ys.length := by omega
    refine .inr ⟨⟨xs, ys, xs[i], ys[i], q1, q2, by simp [l1], by simp [l2]⟩, Pv D (i + 1), fun H' p' => ⟨min xs.length ys.length - (i + 1), by omega, rfl, by omega, p'⟩, fun x H2 y => ?_⟩
    obtain ⟨t, x0, y0, e, ht, e2, y1, y2⟩ := y
    subst e
    subst e2
    exact hs D hD i x0 y0 t _ (y1 xs q1) (y2 ys q2) p ht
  · have e : i = min xs.length ys.length := by omega
    subst e
    exact .inl ⟨⟨xs, ys, q1, q2, by omega⟩, hd D hD _ p⟩
end
/-- a list is changed: the Ratios stay -/
theorem RatV.set {C : Addr} {H : Hp} {o : Addr} {xs ys : List V} (h : H o = some (.lst xs)) {v : V} {q : Rat} (r : RatV C H v q) : RatV C (upd H o (.lst ys)) v q := by
  obtain ⟨p, rfl, dx, hp⟩ := r
  exact ⟨p, rfl, dx, by rw [upd_ne fun z => by rw [z, h] at hp; cases hp]; exact hp⟩
theorem RatsV.set {C : Addr} {H : Hp} {o : Addr} {xs ys : List V} (h : H o = some (.lst xs)) {vs : List V} {qs : List Rat} (r : RatsV C H vs qs) : RatsV C (upd H o (.lst ys)) vs qs := Paired.mapP r fun _ _ z => z.set h
theorem prd_app {α β : Type} {F : α → β → Prop} : ∀ {xs ys : List α} {us ws : List β}, Paired F xs us → Paired F ys ws → Paired F (xs ++ ys) (us ++ ws)
  | _, _, _, _, .nil, s => s
  | _, _, _, _, .cons r t, s => .cons r (prd_app t s)
theorem prd_take {α β : Type} {F : α → β → Prop} : ∀ {xs : List α} {us : List β} (n : Nat), Paired F xs us → Paired F (xs.take n) (us.take n)
  | _, _, 0, _ => .nil
  | _, _, _ + 1, .nil => .nil
  | _, _, n + 1, .cons r t => .cons r (prd_take n t)
theorem prd_drop {α β : Type} {F : α → β → Prop} : ∀ {xs : List α} {us : List β} (n : Nat), Paired F xs us → Paired F (xs.drop n) (us.drop n)
  | _, _, 0, r => r
  | _, _, _ + 1, .nil => .nil
  | _, _, n + 1, .cons _ t => prd_drop n t
theorem prd_get {α β : Type} {F : α → β → Prop} : ∀ {xs : List α} {us : List β} {i : Nat} {x : α}, Paired F xs us → xs[i]? = some x → ∃ u, us[i]? = some u ∧ F x u
  | _, _, _, _, .nil, h => by simp at h
  | _, _, 0, _, .cons r _, h => by simp at h; subst h; exact ⟨_, rfl, r⟩
  | _, _, i + 1, x, .cons _ t, h => by
    obtain ⟨u, h1, h2⟩ := prd_get (i := i) (x := x) t (by simpa using h)
    exact ⟨u, by simpa using h1, h2⟩
theorem prd_getR {α β : Type} {F : α → β → Prop} : ∀ {xs : List α} {us : List β} {i : Nat} {u : β}, Paired F xs us → us[i]? = some u → ∃ x, xs[i]? = some x ∧ F x u
  | _, _, _, _, .nil, h => by simp at h
  | _, _, 0, _, .cons r _, h => by simp at h; subst h; exact ⟨_, rfl, r⟩
  | _, _, i + 1, x, .cons _ t, h => by
    obtain ⟨u, h1, h2⟩ := prd_getR (i := i) (u := x) t (by simpa using h)
    exact ⟨u, by simpa using h1, h2⟩
/-! ### sorting -/
def insQ (q : Rat) (l : List Rat) : List Rat := l.takeWhile (fun x => decide (x < q)) ++ q :: l.dropWhile (fun x => decide (x < q))
def isort (ns : List Rat) : List Rat := ns.foldl (fun acc q => insQ q acc) []
theorem isort_snoc (ns : List Rat) (q : Rat) : isort (ns ++ [q]) = insQ q (isort ns) := by
  unfold isort
  rw [List.foldl_append]
  rfl
theorem insQ_len (q : Rat) (l : List Rat) : (insQ q l).length = l.length + 1 := by
  have h := congrArg List.length (List.takeWhile_append_dropWhile (p := fun x => decide (x < q)) (l := l))
  unfold insQ
  rw [List.length_append] at h ⊢
  rw [List.length_cons]
  omega
theorem insQ_mem {q x : Rat} {l : List Rat} : x ∈ insQ q l ↔ x = q ∨ x ∈ l := by
  have h : x ∈ l ↔ x ∈ l.takeWhile (fun x => decide (x < q)) ∨ x ∈ l.dropWhile (fun x => decide (x < q)) := by
    rw [← List.mem_append, List.takeWhile_append_dropWhile]
  unfold insQ
  rw [List.mem_append, List.mem_cons, h]
  constructor
  · rintro (h | h | h)
    · exact .inr (.inl h)
    · exact .inl h
    · exact .inr (.inr h)
  · rintro (h | h | h)
    · exact .inr (.inl h)
    · exact .inl h
    · exact .inr (.inr h)
theorem isort_len (ns : List Rat) : (isort ns).length = ns.length := by
  have key : ∀ (l acc : List Rat), (l.foldl (fun acc q => insQ q acc) acc).length = acc.length + l.length := by
    intro l
    induction l with
    | nil => intro acc; rfl
    | cons q l ih =>
      intro acc
      show (l.foldl _ (insQ q acc)).length = _
      rw [ih, insQ_len, List.length_cons]
      omega
  unfold isort
  rw [key]
  simp
theorem isort_mem {ns : List Rat} {x : Rat} : x ∈ isort ns ↔ x ∈ ns := by
  have key : ∀ (l acc : List Rat), x ∈ l.foldl (fun acc q => insQ q acc) acc ↔ x ∈ acc ∨ x ∈ l := by
    intro l
    induction l with
    | nil => intro acc; simp
    | cons q l ih =>
      intro acc
      show x ∈ l.foldl _ (insQ q acc) ↔ _
      rw [ih, insQ_mem, List.mem_cons]
      constructor
      · rintro ((h | h) | h)
        · exact .inr (.inl h)
        · exact .inl h
        · exact .inr (.inr h)
      · rintro (h | h | h)
        · exact .inl (.inr h)
        · exact .inl (.inl h)
        · exact .inr h
  unfold isort
  rw [key]
  simp
theorem rlt {a b c : Rat} (h1 : a < b) (h2 : b < c) : a < c := Rat.not_le.mp fun h => Rat.not_le.mpr h2 (Rat.le_trans h (Rat.le_of_lt h1))
/-- each greater than the one ahead -/
def climbB (qs : List Rat) : Bool := (qs.zip qs.tail).all fun e => decide (e.1 < e.2)
theorem climbB_iff {qs : List Rat} : climbB qs = true ↔ qs.Pairwise (· < ·) := by
  induction qs with
  | nil => simp [climbB]
  | cons q r ih =>
    cases r with
    | nil => simp [climbB]
    | cons p r =>
      have e : climbB (q :: p :: r) = (decide (q < p) && climbB (p :: r)) := rfl
      rw [e, Bool.and_eq_true, ih, decide_eq_true_iff]
      constructor
      · rintro ⟨h1, h2⟩
        refine List.pairwise_cons.mpr ⟨fun x hx => ?_, h2⟩
        rcases List.mem_cons.mp hx with rfl | hx
        · exact h1
        · exact rlt h1 ((List.pairwise_cons.mp h2).1 x hx)
      · intro h
        have h1 := List.pairwise_cons.mp h
        exact ⟨h1.1 p (by simp), h1.2⟩
theorem takeW_mem {α : Type} {p : α → Bool} : ∀ {l : List α} {x : α}, x ∈ l.takeWhile p → p x = true
  | [], _, h => by simp at h
  | y :: l, x, h => by
    rw [List.takeWhile_cons] at h
    cases hy : p y with
    | true =>
      rw [hy, if_pos rfl] at h
      rcases List.mem_cons.mp h with rfl | h
      · exact hy
      · exact takeW_mem h
    | false =>
      rw [hy] at h
      simp at h
theorem dropW_head {α : Type} {p : α → Bool} : ∀ {l : List α} {x : α} {r : List α}, l.dropWhile p = x :: r → p x = false
  | [], _, _, h => by simp at h
  | y :: l, x, r, h => by
    rw [List.dropWhile_cons] at h
    cases hy : p y with
    | true => rw [hy, if_pos rfl] at h; exact dropW_head h
    | false =>
      rw [hy, if_neg Bool.false_ne_true] at h
      injection h with h1 _
      subst h1
      exact hy
/-- sorted weakly -/
theorem insQ_sorted {q : Rat} {l : List Rat} (h : l.Pairwise (· ≤ ·)) : (insQ q l).Pairwise (· ≤ ·) := by
  have hl : (l.takeWhile (fun x => decide (x < q)) ++ l.dropWhile (fun x => decide (x < q))).Pairwise (· ≤ ·) := by rw [List.takeWhile_append_dropWhile]; exact h
  obtain ⟨h1, h2, h3⟩ := List.pairwise_append.mp hl
  unfold insQ
  refine List.pairwise_append.mpr ⟨h1, List.pairwise_cons.mpr ⟨fun y hy => ?_, h2⟩, fun x hx y hy => ?_⟩
  · cases hd : l.dropWhile (fun x => decide (x < q)) with
    | nil => rw [hd] at hy; simp at hy
    | cons z r =>
      have hz : q ≤ z := Rat.not_lt.mp (of_decide_eq_false (dropW_head (p := fun x => decide (x < q)) hd))
      rw [hd] at hy h2
      rcases List.mem_cons.mp hy with rfl | hy
      · exact hz
      · exact Rat.le_trans hz ((List.pairwise_cons.mp h2).1 y hy)
  · have hx' : x < q := of_decide_eq_true (takeW_mem (p := fun x => decide (x < q)) hx)
    rcases List.mem_cons.mp hy with rfl | hy
    · exact Rat.le_of_lt hx'
    · exact h3 x hx y hy
theorem isort_sorted (ns : List Rat) : (isort ns).Pairwise (· ≤ ·) := by
  have key : ∀ (l acc : List Rat), acc.Pairwise (· ≤ ·) → (l.foldl (fun acc q => insQ q acc) acc).Pairwise (· ≤ ·) := by
    intro l
    induction l with
    | nil => intro acc h; exact h
    | cons q l ih => intro acc h; exact ih _ (insQ_sorted h)
  exact key ns [] .nil
/-- two strictly ascending lists with the same members are the same -/
theorem climb_ext : ∀ {ps qs : List Rat}, ps.Pairwise (· < ·) → qs.Pairwise (· < ·) → (∀ x, x ∈ ps ↔ x ∈ qs) → ps = qs
  | [], [], _, _, _ => rfl
  | [], q :: r, _, _, h => absurd ((h q).mpr (by simp)) (by simp)
  | p :: r, [], _, _, h => absurd ((h p).mp (by simp)) (by simp)
  | p :: ps, q :: qs, h1, h2, h => by
    obtain ⟨a1, b1⟩ := List.pairwise_cons.mp h1
    obtain ⟨a2, b2⟩ := List.pairwise_cons.mp h2
    have e : p = q := by
      rcases List.mem_cons.mp ((h p).mp (by simp)) with e | m
      · exact e
      · rcases List.mem_cons.mp ((h q).mpr (by simp)) with e | m'
        · exact e.symm
        · exact absurd (rlt (a2 p m) (a1 q m')) (Rat.lt_irrefl)
    subst e
    have hh : ∀ x, x ∈ ps ↔ x ∈ qs := fun x => by
      constructor
      · intro hx
        rcases List.mem_cons.mp ((h x).mp (List.mem_cons_of_mem _ hx)) with e | m
        · subst e; exact absurd (a1 x hx) Rat.lt_irrefl
        · exact m
      · intro hx
        rcases List.mem_cons.mp ((h x).mpr (List.mem_cons_of_mem _ hx)) with e | m
        · subst e; exact absurd (a2 x hx) Rat.lt_irrefl
        · exact m
    rw [climb_ext b1 b2 hh]
/-- sorting a list that has just the members of an ascending one, as many -/
theorem climb_of_sorted : ∀ {qs : List Rat}, qs.Pairwise (· ≤ ·) → qs.Nodup → qs.Pairwise (· < ·)
  | [], _, _ => .nil
  | q :: r, h, n => by
    obtain ⟨a, b⟩ := List.pairwise_cons.mp h
    obtain ⟨c, d⟩ := List.nodup_cons.mp n
    refine List.pairwise_cons.mpr ⟨fun x hx => ?_, climb_of_sorted b d⟩
    rcases Rat.le_iff_lt_or_eq.mp (a x hx) with h | h
    · exact h
    · subst h; exact absurd hx c
theorem isort_nodup {ns : List Rat} (h : ns.Nodup) : (isort ns).Nodup := by
  have one : ∀ {q : Rat} {l : List Rat}, l.Nodup → q ∉ l → (insQ q l).Nodup := by
    intro q l hl hq
    have hp : (insQ q l).Perm (q :: l) := by
      unfold insQ
      refine List.perm_middle.trans ?_
      rw [List.takeWhile_append_dropWhile]
    exact hp.nodup_iff.mpr (List.nodup_cons.mpr ⟨hq, hl⟩)
  have key : ∀ (l acc : List Rat), (acc ++ l).Nodup → (l.foldl (fun acc q => insQ q acc) acc).Nodup := by
    intro l
    induction l with
    | nil => intro acc h; simpa using h
    | cons q l ih =>
      intro acc h
      refine ih (insQ q acc) ?_
      have hp : (insQ q acc ++ l).Perm (acc ++ q :: l) := by
        have hp1 : (insQ q acc).Perm (acc ++ [q]) := by
          unfold insQ
          refine List.perm_middle.trans ?_
          rw [List.takeWhile_append_dropWhile]
          exact (List.perm_append_comm (l₁ := [q]) (l₂ := acc))
        have := hp1.append_right l
        rw [List.append_assoc] at this
        exact this
      exact hp.nodup_iff.mpr h
  exact key ns [] (by simpa using h)
theorem isort_climb {ns qs : List Rat} (hq : qs.Pairwise (· < ·)) (hp : ns.Perm qs) : isort ns = qs := by
  have nd : ns.Nodup := hp.nodup_iff.mpr (hq.imp fun h e => by subst e; exact absurd h Rat.lt_irrefl)
  refine climb_ext (climb_of_sorted (isort_sorted ns) (isort_nodup nd)) hq fun x => ?_
  rw [isort_mem]
  exact hp.mem_iff
end Fm
namespace Fm
open PySem PySem.Spec PyProof.Rows L2
/-! ### walks over what may be a list or a tuple -/
section
variable {K : PySem.W.Frag} {σ : L2.St} {H : Hp} {Q : VK} {D : Ends} {g : TG} {tb : TS} {tt : TT} {te tl : TE} {vs : List Nat}
theorem lp_Q {p : Addr} {xs : List V} (ht : ∀ Q : VK, Q (.ref p) H → tl σ H Q) (hp : H p = some (.lst xs) ∨ H p = some (.tup xs)) (Pv : Nat → L2.St → Hp → Prop) (h0 : Pv 0 σ H) (hk : ∀ i σ' H', Pv i σ' H' → H' p = H p)
    (hs : ∀ i x σ' H', xs[i]? = some x → Pv i σ' H' → g x σ' H' fun s2 H2 => tb { D with nx := Pv (i + 1), ct := Pv (i + 1), bk := D.nx } s2 H2) (hd : ∀ σ' H', Pv xs.length σ' H' → D.nx σ' H') :
    iList K tl σ H (fun J H1 => Lp J g tb D σ H1) ∨ iTup K tl σ H (fun J H1 => Lp J g tb D σ H1) := by
  rcases hp with hp | hp
  · exact .inl (ht _ ⟨p, rfl, ⟨xs, SqL.of hp⟩, lp_L (xs := xs) Pv h0 (fun i σ' H' _ h => SqL.of ((hk i σ' H' h).trans hp)) hs hd⟩)
  · exact .inr (ht _ ⟨p, rfl, ⟨xs, SqT.of hp⟩, lp_T (xs := xs) Pv h0 (fun i σ' H' _ h => SqT.of ((hk i σ' H' h).trans hp)) hs hd⟩)
theorem cp_Q {p : Addr} {xs : List V} (ht : ∀ Q : VK, Q (.ref p) H → tl σ H Q) (hp : H p = some (.lst xs) ∨ H p = some (.tup xs)) (Pv : Addr → Nat → Hp → Prop) (h0 : ∀ D, H D = none → Pv D 0 (upd H D (.lst []))) (hk : ∀ D, H D = none → ∀ i H', Pv D i H' → H' p = H p)
    (hs : ∀ D, H D = none → ∀ i x H', xs[i]? = some x → Pv D i H' → Turn g tt te vs σ D (Pv D (i + 1)) x H') (hd : ∀ D, H D = none → ∀ H', Pv D xs.length H' → Q (.ref D) H') :
    iList K tl σ H (fun J H1 => Cp J g tt te vs σ H1 Q) ∨ iTup K tl σ H (fun J H1 => Cp J g tt te vs σ H1 Q) := by
  rcases hp with hp | hp
  · exact .inl (ht _ ⟨p, rfl, ⟨xs, SqL.of hp⟩, cp_L (xs := xs) Pv h0 (fun D hD i H' _ h => SqL.of ((hk D hD i H' h).trans hp)) hs hd⟩)
  · exact .inr (ht _ ⟨p, rfl, ⟨xs, SqT.of hp⟩, cp_T (xs := xs) Pv h0 (fun D hD i H' _ h => SqT.of ((hk D hD i H' h).trans hp)) hs hd⟩)
end
theorem tw_step {α : Type} {p : α → Bool} : ∀ {l : List α} {j : Nat} {x : α}, l[j]? = some x → j ≤ (l.takeWhile p).length → (p x = true → j + 1 ≤ (l.takeWhile p).length) ∧ (p x = false → j = (l.takeWhile p).length)
  | [], _, _, h, _ => by simp at h
  | y :: l, 0, x, h, _ => by
    simp at h
    subst h
    rw [List.takeWhile_cons]
    cases hy : p y <;> simp
  | y :: l, j + 1, x, h, hj => by
    rw [List.takeWhile_cons] at hj ⊢
    cases hy : p y with
    | true =>
      rw [hy, if_pos rfl] at hj
      simp only [if_pos, List.length_cons] at hj ⊢
      have := tw_step (p := p) (l := l) (j := j) (x := x) (by simpa using h) (by omega)
      exact ⟨fun q => by have := this.1 q; omega, fun q => by have := this.2 q; omega⟩
    | false =>
      rw [hy] at hj
      simp at hj
theorem insQ_cut (q : Rat) (l : List Rat) : insQ q l = l.take (l.takeWhile fun x => decide (x < q)).length ++ [q] ++ l.drop (l.takeWhile fun x => decide (x < q)).length := by
  have h := List.takeWhile_append_dropWhile (p := fun x => decide (x < q)) (l := l)
  have h1 : l.take (l.takeWhile fun x => decide (x < q)).length = l.takeWhile fun x => decide (x < q) := by
    conv => lhs; arg 2; rw [← h]
    rw [List.take_left]
  have h2 : l.drop (l.takeWhile fun x => decide (x < q)).length = l.dropWhile fun x => decide (x < q) := by
    conv => lhs; arg 2; rw [← h]
    rw [List.drop_left]
  rw [h1, h2]
  unfold insQ
  simp
theorem tw_le {α : Type} {p : α → Bool} (l : List α) : (l.takeWhile p).length ≤ l.length := by
  have h := congrArg List.length (List.takeWhile_append_dropWhile (p := p) (l := l))
  rw [List.length_append] at h
  omega
theorem fineL_mem : ∀ {l : List Da} {d : Da}, fineL l = true → d ∈ l → d.fine = true
  | [], _, _, h => by simp at h
  | e :: l, d, hf, h => by
    unfold fineL at hf
    rw [Bool.and_eq_true] at hf
    rcases List.mem_cons.mp h with rfl | h
    · exact hf.1
    · exact fineL_mem hf.2 h
theorem cut_tail (xs : List V) : cutV xs (some 1) none = xs.tail := by
  unfold cutV
  rw [← List.drop_one]
  cases xs with
  | nil => simp
  | cons x r =>
    have h1 : HT.sIx (x :: r).length 0 (some 1) = 1 := by
      unfold HT.sIx
      simp
    have h2 : HT.sIx (x :: r).length (x :: r).length none = (x :: r).length := rfl
    rw [h1, h2]
    simp
section
variable {K : PySem.W.Frag} {σ : L2.St} {H : Hp} {Q : VK} {ta : TA} {te : TE} {R : It → Hp → Prop}
theorem g_izip (q : ta σ H fun vs H1 => ∃ a b xs ys, vs = [.ref a, .ref b] ∧ SqL K H1 a xs ∧ SqL K H1 b ys ∧ R (Itz K a b) H1) : iZip K ta σ H R := q
theorem g_ienum (q : ta σ H fun vs H1 => ∃ a xs, vs = [.ref a] ∧ SqL K H1 a xs ∧ R (Ite K a) H1) : iEnum K ta σ H R := q
theorem g_bm0 {T : String} {r : V → List V → Hp → VK → Prop} (q : te σ H fun x H1 => tyV K T x H1 ∧ r x [] H1 Q) : tBM0 K T r te σ H Q := q
end
theorem g_mko {C : Addr} {sp : Sp} {dvs : List V} {ta : TA} {σ : L2.St} {H : Hp} {Q : XK} (q : ta σ H fun vs H1 => vs.length ≤ 1000 ∧ ∀ a, H1 a = none → sp (.ref a :: (vs ++ dvs)) (upd H1 a (exo a C none)) (fun v H2 => v = .non ∧ ∃ (d : Addr) (fs : List (Str × V)), H2 a = some (exo a C (some d)) ∧ H2 d = some (exd d fs) ∧ H1 d = none ∧ Q (.ref C) (some d) (upd (del H2 a) d (.xd fs))) (fun _ _ _ => False)) : tMkO C sp dvs ta σ H Q := q
theorem g_lenLT {K : PySem.W.Frag} {H : Hp} {Q : VK} {p : Addr} {xs : List V} (h : H p = some (.lst xs) ∨ H p = some (.tup xs)) (q : Q (.int (xs.length : Int)) H) : rLenQ K [.ref p] H Q := ⟨p, xs, rfl, h.imp SqL.of SqT.of, q⟩
theorem nums_seq {C : Addr} {H : Hp} {v : V} {d : Da} (h : DaV C H v d) (n : d.nums = true) : ∃ p xs ds, v = .ref p ∧ (d = .lst ds ∨ d = .tup ds) ∧ (H p = some (.lst xs) ∨ H p = some (.tup xs)) ∧ DaVs C H xs ds ∧ ds.all Da.isNum = true := by
  cases h with
  | lst h r => exact ⟨_, _, _, rfl, .inl rfl, .inl h, r, n⟩
  | tup h r => exact ⟨_, _, _, rfl, .inr rfl, .inr h, r, n⟩
  | _ => cases n
theorem fine_seq {d : Da} {ds : List Da} (h : d = .lst ds ∨ d = .tup ds) (f : d.fine = true) : ds.length ≤ 1000 ∧ fineL ds = true := by
  rcases h with rfl | rfl
  · unfold Da.fine at f
    rw [Bool.and_eq_true] at f
    exact ⟨of_decide_eq_true f.1, f.2⟩
  · unfold Da.fine at f
    rw [Bool.and_eq_true] at f
    exact ⟨of_decide_eq_true f.1, f.2⟩
theorem opR_or {X : Cx} {f : Value → Value → Sem Value} {r1 r2 : R2} (h1 : OpR X f r1) (h2 : OpR X f r2) : OpR X f (fun x y H Q => r1 x y H Q ∨ r2 x y H Q) := fun pins s σ H x y v u Q I rx ry h => h.elim (h1 pins s σ H x y v u Q I rx ry) (h2 pins s σ H x y v u Q I rx ry)
theorem marks_look (m : Addr) : (putF "_marks" (V.ref m) [] : List (Str × V)).lookup ("_marks" : Str) = some (.ref m) := by
  rw [lookup_putF, if_pos rfl]
theorem marks_no (m : Addr) {n : Str} (h : ¬ n = "_marks") : (putF "_marks" (V.ref m) [] : List (Str × V)).lookup n = none := by
  rw [lookup_putF, if_neg h]
  rfl
section
variable {K : PySem.W.Frag} {σ : L2.St} {H : Hp} {D : Ends} {g : TG} {tb : TS}
theorem lp_E {a : Addr} {xs : List V} (Pv : Nat → L2.St → Hp → Prop) (h0 : Pv 0 σ H) (hl : ∀ i σ H, i ≤ xs.length → Pv i σ H → SqL K H a xs)
    (hs : ∀ i x t σ H, xs[i]? = some x → Pv i σ H → H t = none → g (.ref t) σ (upd H t (.tup [.int (i : Int), x])) fun s2 H2 => tb { D with nx := Pv (i + 1), ct := Pv (i + 1), bk := D.nx } s2 H2) (hd : ∀ σ H, Pv xs.length σ H → D.nx σ H) : Lp (Ite K a) g tb D σ H := by
  refine ⟨fun i m σ H => m = xs.length - i ∧ i ≤ xs.length ∧ Pv i σ H, ⟨xs.length, by simp, Nat.zero_le _, h0⟩, ?_⟩
  rintro i m σ H ⟨rfl, hi, p⟩
  have q := hl i σ H hi p
  by_cases hlt : i < xs.length
  · refine .inr ⟨⟨xs, xs[i], q, by simp [hlt]⟩, Pv (i + 1), fun σ' H' p' => ⟨xs.length - (i + 1), by omega, rfl, hlt, p'⟩, fun x H' y => ?_⟩
    obtain ⟨t, x0, e, ht, e2, y1⟩ := y
    subst e
    subst e2
    exact hs i x0 t σ _ (y1 xs q) p ht
  · have e : i = xs.length := by omega
    subst e
    exact .inl ⟨⟨xs, q, Nat.le_refl _⟩, hd σ H p⟩
end
theorem led_inj {q r f d : Rat} (hf : f ≠ 0) (h : q * f + d = r * f + d) : q = r := by
  have h1 := Rat.add_right_cancel _ h
  have h2 := congrArg (· * f⁻¹) h1
  simp only [Rat.mul_assoc, Rat.mul_inv_cancel f hf, Rat.mul_one] at h2
  exact h2
theorem nodup_map {f : Rat → Rat} (hf : ∀ a b, f a = f b → a = b) : ∀ {l : List Rat}, l.Nodup → (l.map f).Nodup
  | [], _ => .nil
  | q :: l, h => by
    obtain ⟨h1, h2⟩ := List.nodup_cons.mp h
    refine List.nodup_cons.mpr ⟨fun hm => ?_, nodup_map hf h2⟩
    obtain ⟨r, hr, e⟩ := List.mem_map.mp hm
    exact h1 (hf _ _ e ▸ hr)
theorem asc_nodup {l : List Rat} (h : l.Pairwise (· < ·)) : l.Nodup := h.imp fun h e => by subst e; exact absurd h Rat.lt_irrefl
theorem led_climb {qs : List Rat} {f d : Rat} (hq : qs.Pairwise (· < ·)) (hf : f ≠ 0) : climbB (isort (qs.map fun q => q * f + d)) = true :=
  climbB_iff.mpr (climb_of_sorted (isort_sorted _) (isort_nodup (nodup_map (fun _ _ h => led_inj hf h) (asc_nodup hq))))
theorem rats_num (qs : List Rat) : (qs.map Da.rat).map Da.num = qs := by
  rw [List.map_map]
  exact List.map_id'' (fun _ => rfl) qs
theorem rats_all (qs : List Rat) : (qs.map Da.rat).all Da.isNum = true := by
  rw [List.all_map]
  exact List.all_eq_true.mpr fun _ _ => rfl
theorem rats_fine {qs : List Rat} (h : ∀ q ∈ qs, Sz 200 q) : fineL (qs.map Da.rat) = true := by
  induction qs with
  | nil => rfl
  | cons q r ih =>
    show (Da.fine (.rat q) && fineL (r.map Da.rat)) = true
    rw [ih fun q hq => h q (List.mem_cons_of_mem _ hq), Bool.and_true]
    have := h q (by simp)
    unfold Da.fine
    rw [Bool.and_eq_true]
    exact ⟨decide_eq_true this.1, decide_eq_true this.2⟩
theorem g_eqNI {K : PySem.W.Frag} {C : Addr} {H : Hp} {Q : VK} {E : XK} {v : V} {q : Rat} {c : Int} (R : RC K C) (h : NumV C H v q) (sc : Sz 3000 (c : Rat)) (z : ∀ H', Ex H H' → Q (.bl (decide (q = (c : Rat)))) H') : rEq v (.int c) H Q ∨ rCmpOwn K C (spEqV K C) E v (.int c) H Q := by
  rcases h with ⟨n, rfl, rfl⟩ | h
  · refine .inl (g_eqI ?_)
    have e : decide (n = c) = decide ((n : Rat) = (c : Rat)) := decide_eq_decide.mpr Rat.intCast_inj.symm
    rw [e]
    exact z H (Ex.refl H)
  · exact .inr (g_eqN R h NumV.int sc (by decide) z)
end Fm

set_option maxHeartbeats 2000000
namespace Fm
open PySem PySem.Spec PyProof.Rows L2
/-! ### a dict that is walked stands locked; repr of plain values -/
section
variable {C : Addr} {H : Hp} {a : Addr} {ks : List (Key × V)} {o : HO}
mutual
theorem DaV.lock (ha : H a = some (.dK ks)) : ∀ {v : V} {d : Da}, DaV C H v d → d.noDic = true → DaV C (upd H a o) v d
  | _, _, .non, _ => .non
  | _, _, .bl b, _ => .bl b
  | _, _, .int i, _ => .int i
  | _, _, .str s, _ => .str s
  | _, _, .rat h, _ => by
    obtain ⟨p, e, dx, hp⟩ := h
    exact .rat ⟨p, e, dx, by rw [upd_ne fun z => by rw [z, ha] at hp; cases hp]; exact hp⟩
  | _, _, .lst h r, n => .lst (by rw [upd_ne fun z => by rw [z, ha] at h; cases h]; exact h) (DaVs.lock ha r n)
  | _, _, .tup h r, n => .tup (by rw [upd_ne fun z => by rw [z, ha] at h; cases h]; exact h) (DaVs.lock ha r n)
  | _, _, .dic h r, n => by cases n
theorem DaVs.lock (ha : H a = some (.dK ks)) : ∀ {vs : List V} {ds : List Da}, DaVs C H vs ds → noDicL ds = true → DaVs C (upd H a o) vs ds
  | _, _, .nil, _ => .nil
  | _, _, .cons h r, n => by
    unfold noDicL at n
    rw [Bool.and_eq_true] at n
    exact .cons (DaV.lock ha h n.1) (DaVs.lock ha r n.2)
end
end

mutual
/-- a value that is told, made of texts, ints, and lists and tuples that are new since H0 -/
inductive DpN (H0 H : Hp) : V → PyData → Prop
  | int (i : Int) : DpN H0 H (.int i) (.int i)
  | str (s : Str) : DpN H0 H (.str s) (.str s)
  | lst {p : Addr} {xs : List V} {ds : List PyData} (n : H0 p = none) (h : H p = some (.lst xs)) (r : DpNs H0 H xs ds) : DpN H0 H (.ref p) (.list ds)
  | tup {p : Addr} {xs : List V} {ds : List PyData} (n : H0 p = none) (h : H p = some (.tup xs)) (r : DpNs H0 H xs ds) : DpN H0 H (.ref p) (.tuple ds)
inductive DpNs (H0 H : Hp) : List V → List PyData → Prop
  | nil : DpNs H0 H [] []
  | cons {v : V} {d : PyData} {vs : List V} {ds : List PyData} (h : DpN H0 H v d) (r : DpNs H0 H vs ds) : DpNs H0 H (v :: vs) (d :: ds)
end
section
variable {K : PySem.W.Frag} {H0 H : Hp}
mutual
theorem DpN.mono {H' : Hp} (e : Ex H H') : ∀ {v : V} {d : PyData}, DpN H0 H v d → DpN H0 H' v d
  | _, _, .int i => .int i
  | _, _, .str s => .str s
  | _, _, .lst n h r => .lst n (e _ _ h) (DpNs.mono e r)
  | _, _, .tup n h r => .tup n (e _ _ h) (DpNs.mono e r)
theorem DpNs.mono {H' : Hp} (e : Ex H H') : ∀ {vs : List V} {ds : List PyData}, DpNs H0 H vs ds → DpNs H0 H' vs ds
  | _, _, .nil => .nil
  | _, _, .cons h r => .cons (DpN.mono e h) (DpNs.mono e r)
end
mutual
theorem DpN.weak {H1 : Hp} (e : ∀ p, H0 p = none → H1 p = none) : ∀ {v : V} {d : PyData}, DpN H0 H v d → DpN H1 H v d
  | _, _, .int i => .int i
  | _, _, .str s => .str s
  | _, _, .lst n h r => .lst (e _ n) h (DpNs.weak e r)
  | _, _, .tup n h r => .tup (e _ n) h (DpNs.weak e r)
theorem DpNs.weak {H1 : Hp} (e : ∀ p, H0 p = none → H1 p = none) : ∀ {vs : List V} {ds : List PyData}, DpNs H0 H vs ds → DpNs H1 H vs ds
  | _, _, .nil => .nil
  | _, _, .cons h r => .cons (DpN.weak e h) (DpNs.weak e r)
end
mutual
theorem DpN.set {D : Addr} {ob o : HO} (hD : H0 D = some ob) : ∀ {v : V} {d : PyData}, DpN H0 H v d → DpN H0 (upd H D o) v d
  | _, _, .int i => .int i
  | _, _, .str s => .str s
  | _, _, .lst n h r => .lst n (by rw [upd_ne fun z => by rw [z, hD] at n; cases n]; exact h) (DpNs.set hD r)
  | _, _, .tup n h r => .tup n (by rw [upd_ne fun z => by rw [z, hD] at n; cases n]; exact h) (DpNs.set hD r)
theorem DpNs.set {D : Addr} {ob o : HO} (hD : H0 D = some ob) : ∀ {vs : List V} {ds : List PyData}, DpNs H0 H vs ds → DpNs H0 (upd H D o) vs ds
  | _, _, .nil => .nil
  | _, _, .cons h r => .cons (DpN.set hD h) (DpNs.set hD r)
end
mutual
theorem DpN.dp : ∀ {v : V} {d : PyData}, DpN H0 H v d → Dp K H v d
  | _, _, .int i => .int i
  | _, _, .str s => .str s
  | _, _, .lst _ h r => .lst (SqL.of h) (DpNs.dp r)
  | _, _, .tup _ h r => .tup (SqT.of h) (DpNs.dp r)
theorem DpNs.dp : ∀ {vs : List V} {ds : List PyData}, DpNs H0 H vs ds → DpAll K H vs ds
  | _, _, .nil => .nil
  | _, _, .cons h r => .cons (DpN.dp h) (DpNs.dp r)
end
theorem DpNs.snoc {v : V} {d : PyData} (h : DpN H0 H v d) : ∀ {vs : List V} {ds : List PyData}, DpNs H0 H vs ds → DpNs H0 H (vs ++ [v]) (ds ++ [d])
  | _, _, .nil => .cons h .nil
  | _, _, .cons q r => .cons q (DpNs.snoc h r)
theorem DpNs.length : ∀ {vs : List V} {ds : List PyData}, DpNs H0 H vs ds → vs.length = ds.length
  | _, _, .nil => rfl
  | _, _, .cons _ r => congrArg Nat.succ r.length
end
theorem shL_app : ∀ (l m : List Da), shL (l ++ m) = shL l ++ shL m
  | [], _ => rfl
  | d :: l, m => by
    show d.sh :: shL (l ++ m) = d.sh :: (shL l ++ shL m)
    rw [shL_app l m]
theorem shD_app : ∀ (l m : List (Str × Da)), shD (l ++ m) = shD l ++ shD m
  | [], _ => rfl
  | (s, d) :: l, m => by
    show _ :: shD (l ++ m) = _ :: (shD l ++ shD m)
    rw [shD_app l m]
theorem shL_len : ∀ l : List Da, (shL l).length = l.length
  | [] => rfl
  | d :: l => congrArg Nat.succ (shL_len l)
/-- repr of None, a bool, an int, a text -/
def rReprF : List V → Hp → VK → Prop := fun xs H Q => (xs = [.non] ∧ Q (.str "None") H) ∨ (∃ b : Bool, xs = [.bl b] ∧ Q (.str ((if b then "True" else "False" : String) : Str)) H) ∨ (∃ i : Int, xs = [.int i] ∧ i.natAbs.log2 < 1920 ∧ Q (.str (toString i)) H) ∨ ∃ s : Str, xs = [.str s] ∧ (reprText s).length ≤ sizeLine ∧ Q (.str (reprText s)) H
theorem cr_reprF {X : Cx} : CallR X (.builtin "repr") rReprF := by
  intro pins s σ H xs us Q I r h
  rcases h with ⟨rfl, q⟩ | ⟨b, rfl, q⟩ | ⟨i, rfl, hi, q⟩ | ⟨x, rfl, hx, q⟩
  · obtain ⟨u, rfl, hv⟩ := vals1 r
    cases hv
    exact PySem.P.repr_of_none ⟨.str "None", H, I.tok _, ⟨_, rfl⟩, q⟩
  · obtain ⟨u, rfl, hv⟩ := vals1 r
    cases hv
    refine PySem.P.repr_of_bool ⟨.str _, H, I.tok _, ⟨_, rfl⟩, ?_⟩
    cases b <;> exact q
  · obtain ⟨u, rfl, t, rfl⟩ := vals1 r
    exact PySem.P.repr_of_int hi ⟨.str _, H, I.tok _, ⟨_, rfl⟩, q⟩
  · obtain ⟨u, rfl, t, rfl⟩ := vals1 r
    exact PySem.P.repr_of_str ⟨.str _, H, I.tok _, ⟨_, rfl⟩, q⟩ hx
theorem newD {H1 H' : Hp} {D : Addr} {o ob : HO} (e : Ex H1 H') (hd : H' D = some ob) : ∀ p, H' p = none → (upd H1 D o) p = none := fun p hp => by
  rw [upd_ne fun z => by rw [z, hd] at hp; cases hp]
  exact e.free hp
theorem fine_int {i : Int} (h : (Da.int i).fine = true) : i.natAbs.log2 < 1920 := by
  unfold Da.fine at h
  have h1 : i.natAbs < 2 ^ 200 := of_decide_eq_true h
  by_cases h0 : i.natAbs = 0
  · rw [h0]; decide
  · exact Nat.lt_of_lt_of_le ((Nat.log2_lt h0).mpr h1) (by decide)
theorem fine_str {s : Str} (h : (Da.str s).fine = true) : (reprText s).length ≤ sizeLine := by
  unfold Da.fine fineS at h
  rw [Bool.and_eq_true, Bool.and_eq_true] at h
  exact of_decide_eq_true h.2
theorem fineS_len {s : Str} (h : fineS s = true) : (reprText s).length ≤ sizeLine := by
  unfold fineS at h
  rw [Bool.and_eq_true, Bool.and_eq_true] at h
  exact of_decide_eq_true h.2
theorem dpL_mem : ∀ {l : List Da} {d : Da}, d ∈ l → d.dp ≤ dpL l
  | [], _, h => by simp at h
  | e :: l, d, h => by
    unfold dpL
    rcases List.mem_cons.mp h with rfl | h
    · exact Nat.le_max_left _ _
    · exact Nat.le_trans (dpL_mem h) (Nat.le_max_right _ _)
section
variable {σ : L2.St} {H : Hp} {Q : VK} {g : TG} {te : TE} {tt : TT} {vs : List Nat}
theorem cp_K {a : Addr} {od : Obj} {ks : List (Key × V)} (Pv : Addr → Nat → Hp → Prop) (h0 : ∀ D, H D = none → Pv D 0 (upd H D (.lst []))) (hl : ∀ D, H D = none → ∀ i H', Pv D i H' → H' a = some (.frz od (.dK ks)))
    (hs : ∀ D, H D = none → ∀ i k v H', ks[i]? = some (k, v) → Pv D i H' → Turn g tt te vs σ D (Pv D (i + 1)) (kV k) H') (hd : ∀ D, H D = none → ∀ H', Pv D ks.length H' → Q (.ref D) H') : Cp (Itk a od ks) g tt te vs σ H Q := by
  intro D hD
  refine ⟨fun i m H' => m = ks.length - i ∧ i ≤ ks.length ∧ Pv D i H', ⟨ks.length, by simp, Nat.zero_le _, h0 D hD⟩, ?_⟩
  rintro i m H' ⟨rfl, hi, p⟩
  have q := hl D hD i H' p
  by_cases hlt : i < ks.length
  · refine .inr ⟨⟨q, hlt⟩, Pv D (i + 1), fun H' p' => ⟨ks.length - (i + 1), by omega, rfl, hlt, p'⟩, fun x H2 y => ?_⟩
    obtain ⟨e, k, v, hk, e2⟩ := y
    subst e
    subst e2
    exact hs D hD i k v _ hk p
  · have e : i = ks.length := by omega
    subst e
    exact .inl ⟨⟨q, Nat.le_refl _⟩, hd D hD _ p⟩
end
theorem DaKs.at {C : Addr} {H : Hp} : ∀ {ks : List (Key × V)} {ds : List (Str × Da)} {i : Nat} {k : Key} {v : V}, DaKs C H ks ds → ks[i]? = some (k, v) → ∃ s d, ds[i]? = some (s, d) ∧ k = .inr s ∧ DaV C H v d
  | _, _, _, _, _, .nil, h => by simp at h
  | _, _, 0, k, v, .cons h _, e => by
    simp at e
    obtain ⟨rfl, rfl⟩ := e
    exact ⟨_, _, rfl, rfl, h⟩
  | _, _, i + 1, k, v, .cons _ r, e => by
    obtain ⟨s, d, h1, h2⟩ := DaKs.at (i := i) r (by simpa using e)
    exact ⟨s, d, by simpa using h1, h2⟩
theorem DaKs.length {C : Addr} {H : Hp} : ∀ {ks : List (Key × V)} {ds : List (Str × Da)}, DaKs C H ks ds → ks.length = ds.length
  | _, _, .nil => rfl
  | _, _, .cons _ r => congrArg Nat.succ r.length
theorem fineD_mem : ∀ {l : List (Str × Da)} {s : Str} {d : Da}, fineD l = true → (s, d) ∈ l → fineS s = true ∧ d.fine = true ∧ d.noDic = true
  | [], _, _, _, h => by simp at h
  | (t, e) :: l, s, d, hf, h => by
    unfold fineD at hf
    simp only [Bool.and_eq_true] at hf
    rcases List.mem_cons.mp h with h | h
    · obtain ⟨rfl, rfl⟩ := Prod.mk.inj h
      exact ⟨hf.1.1.1, hf.1.1.2, hf.1.2⟩
    · exact fineD_mem hf.2 h
theorem dpD_mem : ∀ {l : List (Str × Da)} {s : Str} {d : Da}, (s, d) ∈ l → d.dp ≤ dpD l
  | [], _, _, h => by simp at h
  | (t, e) :: l, s, d, h => by
    unfold dpD
    rcases List.mem_cons.mp h with h | h
    · obtain ⟨rfl, rfl⟩ := Prod.mk.inj h
      exact Nat.le_max_left _ _
    · exact Nat.le_trans (dpD_mem h) (Nat.le_max_right _ _)
theorem shD_len : ∀ l : List (Str × Da), (shD l).length = l.length
  | [] => rfl
  | (_, _) :: l => congrArg Nat.succ (shD_len l)
theorem dpN_str {H0 H : Hp} {v : V} {s : Str} (h : DpN H0 H v (.str s)) : v = .str s := by
  cases h
  rfl
theorem perm_erase {α : Type} : ∀ {l : List α} {i : Nat} (h : i < l.length), (l[i] :: l.eraseIdx i).Perm l
  | _ :: _, 0, _ => .refl _
  | x :: l, i + 1, h => by
      show (l[i]'(Nat.lt_of_succ_lt_succ h) :: x :: l.eraseIdx i).Perm (x :: l)
      exact (List.Perm.swap x _ _).trans ((perm_erase (Nat.lt_of_succ_lt_succ h)).cons x)
end Fm

set_option maxHeartbeats 2000000
namespace Fm
open PySem PySem.Spec PyProof.Rows L2
/-! ### sorting keeps the members, twice named ones too -/
theorem insQ_perm (q : Rat) (l : List Rat) : (insQ q l).Perm (q :: l) := by
  unfold insQ
  refine List.perm_middle.trans (.cons q ?_)
  rw [List.takeWhile_append_dropWhile]
theorem foldl_ins_perm : ∀ (ns acc : List Rat), (ns.foldl (fun acc q => insQ q acc) acc).Perm (ns ++ acc)
  | [], acc => .refl _
  | q :: r, acc => (foldl_ins_perm r (insQ q acc)).trans (((insQ_perm q acc).append_left r).trans List.perm_middle)
theorem isort_perm (ns : List Rat) : (isort ns).Perm ns := by
  have h := foldl_ins_perm ns []
  rw [List.append_nil] at h
  exact h
theorem climb_nodup {ns : List Rat} (h : climbB (isort ns) = true) : ns.Nodup := (isort_perm ns).nodup_iff.mp (asc_nodup (climbB_iff.mp h))
theorem dup_take {qs : List Rat} (h : 1 ≤ qs.length) : ¬ (qs ++ qs.take 1).Nodup := by
  cases qs with
  | nil => cases h
  | cons q r =>
    intro n
    rw [List.nodup_append] at n
    exact n.2.2 q (List.mem_cons_self) q (by simp) rfl
theorem daVs_ints {C : Addr} {H : Hp} (f : Nat → Int) : ∀ l : List Nat, DaVs C H (l.map fun k => V.int (f k)) (l.map fun k => Da.int (f k))
  | [] => .nil
  | _ :: r => .cons (.int _) (daVs_ints f r)
theorem DaVs.app {C : Addr} {H : Hp} : ∀ {vs ws : List V} {ds es : List Da}, DaVs C H vs ds → DaVs C H ws es → DaVs C H (vs ++ ws) (ds ++ es)
  | _, _, _, _, .nil, q => q
  | _, _, _, _, .cons h r, q => .cons h (DaVs.app r q)
end Fm

set_option maxHeartbeats 2000000
namespace Fm
open PySem PySem.Spec PyProof.Rows L2
/-! ### inserting what is not there yet -/
def insU (q : Rat) (l : List Rat) : List Rat := if (l.dropWhile (fun x => decide (x < q))).head? = some q then l else insQ q l
def dst (ns : List Rat) : List Rat := ns.foldl (fun acc q => insU q acc) []
theorem dst_snoc (ns : List Rat) (q : Rat) : dst (ns ++ [q]) = insU q (dst ns) := by
  unfold dst
  rw [List.foldl_append]
  rfl
theorem insU_has {q : Rat} {l : List Rat} (h : l.Pairwise (· < ·)) : (l.dropWhile (fun x => decide (x < q))).head? = some q ↔ q ∈ l := by
  have e := List.takeWhile_append_dropWhile (p := fun x => decide (x < q)) (l := l)
  have hl : (l.takeWhile (fun x => decide (x < q)) ++ l.dropWhile (fun x => decide (x < q))).Pairwise (· < ·) := by rw [e]; exact h
  obtain ⟨_, h2, _⟩ := List.pairwise_append.mp hl
  constructor
  · intro hh
    rw [← e]
    exact List.mem_append_right _ (List.mem_of_mem_head? hh)
  · intro hm
    rw [← e] at hm
    rcases List.mem_append.mp hm with hm | hm
    · exact absurd (of_decide_eq_true (takeW_mem (p := fun x => decide (x < q)) hm)) Rat.lt_irrefl
    · cases hd : l.dropWhile (fun x => decide (x < q)) with
      | nil => rw [hd] at hm; simp at hm
      | cons z r =>
        have hz : q ≤ z := Rat.not_lt.mp (of_decide_eq_false (dropW_head (p := fun x => decide (x < q)) hd))
        rw [hd] at hm h2
        rcases List.mem_cons.mp hm with rfl | hm
        · rfl
        · exact absurd ((List.pairwise_cons.mp h2).1 q hm) (Rat.not_lt.mpr hz)
theorem insQ_strict {q : Rat} {l : List Rat} (h : l.Pairwise (· < ·)) (hq : q ∉ l) : (insQ q l).Pairwise (· < ·) :=
  climb_of_sorted (insQ_sorted (h.imp fun h => Rat.le_of_lt h)) ((insQ_perm q l).nodup_iff.mpr (List.nodup_cons.mpr ⟨hq, asc_nodup h⟩))
theorem dst_key : ∀ (l acc : List Rat), acc.Pairwise (· < ·) → (l.foldl (fun acc q => insU q acc) acc).Pairwise (· < ·) ∧ (∀ x, x ∈ l.foldl (fun acc q => insU q acc) acc ↔ x ∈ acc ∨ x ∈ l) ∧
    (l.foldl (fun acc q => insU q acc) acc).length ≤ acc.length + l.length ∧ ((l.foldl (fun acc q => insU q acc) acc).length = acc.length + l.length → (acc ++ l).Nodup) := by
  intro l
  induction l with
  | nil => intro acc h; exact ⟨h, fun x => by simp, by simp, fun _ => by simpa using asc_nodup h⟩
  | cons q l ih =>
    intro acc h
    by_cases hq : q ∈ acc
    · have e : insU q acc = acc := by unfold insU; rw [if_pos ((insU_has h).mpr hq)]
      have r := ih acc h
      rw [List.foldl_cons, e, List.length_cons]
      refine ⟨r.1, fun x => (r.2.1 x).trans ?_, by have := r.2.2.1; omega, fun h => by have := r.2.2.1; omega⟩
      rw [List.mem_cons]
      constructor
      · rintro (h | h)
        · exact .inl h
        · exact .inr (.inr h)
      · rintro (h | rfl | h)
        · exact .inl h
        · exact .inl hq
        · exact .inr h
    · have e : insU q acc = insQ q acc := by unfold insU; rw [if_neg (fun w => hq ((insU_has h).mp w))]
      have r := ih (insQ q acc) (insQ_strict h hq)
      have hl := insQ_len q acc
      rw [List.foldl_cons, e, List.length_cons]
      refine ⟨r.1, fun x => (r.2.1 x).trans ?_, by have := r.2.2.1; omega, fun h => ?_⟩
      · rw [List.mem_cons, insQ_mem]
        constructor
        · rintro ((h | h) | h)
          · exact .inr (.inl h)
          · exact .inl h
          · exact .inr (.inr h)
        · rintro (h | h | h)
          · exact .inl (.inr h)
          · exact .inl (.inl h)
          · exact .inr h
      · have n := r.2.2.2 (by omega)
        have p : (insQ q acc ++ l).Perm (acc ++ q :: l) := ((insQ_perm q acc).append_right l).trans (List.perm_middle (l₁ := acc) (l₂ := l) (a := q)).symm
        exact p.nodup_iff.mp n
theorem dst_asc (ns : List Rat) : (dst ns).Pairwise (· < ·) := (dst_key ns [] .nil).1
theorem dst_mem {ns : List Rat} {x : Rat} : x ∈ dst ns ↔ x ∈ ns := ((dst_key ns [] .nil).2.1 x).trans (by simp)
theorem dst_len (ns : List Rat) : (dst ns).length ≤ ns.length := by
  have h := (dst_key ns [] .nil).2.2.1
  show (ns.foldl (fun acc q => insU q acc) []).length ≤ _
  simpa using h
theorem dst_nodup {ns : List Rat} (h : ns.length ≤ (dst ns).length) : ns.Nodup := by
  have := (dst_key ns [] .nil).2.2.2 (by have := dst_len ns; unfold dst at this h; simp; omega)
  simpa using this
theorem dst_isort {ns : List Rat} (h : ns.Nodup) : dst ns = isort ns :=
  climb_ext (dst_asc ns) (climb_of_sorted (isort_sorted ns) (isort_nodup h)) fun x => dst_mem.trans isort_mem.symm
/-- as long as the list: each once -/
theorem dst_climb (ns : List Rat) : (ns.length ≤ (dst ns).length ↔ climbB (isort ns) = true) ∧ (climbB (isort ns) = true → dst ns = isort ns) := by
  have b : climbB (isort ns) = true → ns.Nodup := climb_nodup
  refine ⟨⟨fun h => ?_, fun h => ?_⟩, fun h => dst_isort (b h)⟩
  · rw [← dst_isort (dst_nodup h)]
    exact climbB_iff.mpr (dst_asc ns)
  · rw [dst_isort (b h), isort_len]
    exact Nat.le_refl _
end Fm

set_option maxHeartbeats 2000000
namespace Fm
open PySem PySem.Spec PyProof.Rows L2
/-! ### a try whose clauses have names or none -/
/-- a clause: what it catches, the slot of its name (if any), its suite's reading -/
structure Cl where
  cls : Value
  slot : Option Nat
  ts : Addr → Value → Option Addr → TS
/-- the ends of a suite whose name goes behind it -/
def Ends.drop (i : Nat) (D : Ends) : Ends := { nx := fun m G => D.nx (m.set i none) G, rt := D.rt, bk := fun m G => D.bk (m.set i none) G, ct := fun m G => D.ct (m.set i none) G }
/-- what a clause's suite wishes -/
def Cl.wish (c : Cl) (a : Addr) (cls : Value) (d : Option Addr) (D : Ends) (m : L2.St) (G : Hp) : Prop := match c.slot with
  | none => c.ts a cls d D m G
  | some i => c.ts a cls d (Ends.drop i D) (m.set i (some (.ref a))) G
def wCls (K : PySem.W.Frag) (W : WX) (D : Ends) : List Cl → WX
  | [] => W
  | c :: r => fun cls d m G => ∃ b, PySem.W.exmOne K cls c.cls = some b ∧ (b = true → ∀ a, G a = none → c.wish a cls d D m G) ∧ (b = false → wCls K W D r cls d m G)
/-- a clause's name: none, or the local in a slot -/
def NameOk (X : Cx) (nm : Option Str) (sl : Option Nat) : Prop := match nm, sl with
  | none, none => True
  | some n, some i => X.N[i]? = some n ∧ X.env.kindOf n = some .local
  | _, _ => False
inductive ClsOk (X : Cx) : List ExceptHandler → List Cl → Prop
  | nil : ClsOk X [] []
  | cons {x : Str} {nm : Option Str} {c : Cl} {b : Stmt} {su : List Stmt} {np p : Pos} {hs : List ExceptHandler} {l : List Cl} (nok : NameOk X nm c.slot) (hc : Names X x c.cls)
      (hsu : ∀ (a : Addr) (oe : Obj) (k : Value) (d : Option Addr) (pn : List (Addr × Obj)), Zc k d oe → (∃ vs, oe.data = .fields vs) → PSs (X.suite a ((a, oe) :: pn)) (b :: su) (c.ts a k d)) (r : ClsOk X hs l) :
      ClsOk X (.ExceptHandler (some (.Name x np)) nm (b :: su) p :: hs) (c :: l)
section
variable {X : Cx}
/-- the end of a try's body that raised nothing -/
theorem sp_ofTry {pins : List (Addr × Obj)} {xe : Value → Shared → Prop} {D : Ends} {f : Flow} {s : Shared} (ok : X.Ok) (h : SP (X.tr (X.pn ++ pins) xe) [] D f s) : SP X pins D f s := by
  cases f with
  | ret u => exact let ⟨v, m, G, J, r, q⟩ := h; ⟨v, m, G, J.ofTry ok, r, q⟩
  | _ => exact let ⟨m, G, J, q⟩ := h; ⟨m, G, J.ofTry ok, q⟩
theorem sp_unsuite {pins : List (Addr × Obj)} {D : Ends} {f : Flow} {s : Shared} {a : Addr} {oe : Obj} (ok : X.Ok) (h : SP (X.suite a ((a, oe) :: (X.pn ++ pins))) [] D f s) : SP X pins D f s := by
  cases f with
  | ret u => exact let ⟨v, m, G, J, r, q⟩ := h; ⟨v, m, G, J.unsuite ok, r, q⟩
  | _ => exact let ⟨m, G, J, q⟩ := h; ⟨m, G, J.unsuite ok, q⟩
/-- a try with clauses: what each wishes stands in wCls -/
theorem ps_try_cls {X : Cx} {body : List Stmt} {h1 : ExceptHandler} {hs : List ExceptHandler} {l : List Cl} {pos : Pos} {tb : WX → TS} {W : WX} (st : X.stack = X.env :: X.outer) (fr : X.env.frame = some X.env.locals) (nd : X.N.Nodup) (tk : Takes X W)
    (hb : ∀ (V : WX) (pn : List (Addr × Obj)) (xe : Value → Shared → Prop), Takes (X.tr pn xe) V → PassesOwn (model X.prog X.w) X.A X.env xe → PSs (X.tr pn xe) body (tb V)) (hk : ClsOk X (h1 :: hs) l) :
    PS X (.Try body (h1 :: hs) [] [] pos) (fun D m G => tb (wCls X.K W D l) D m G) := by
  constructor
  intro pins s₀ m₀ G₀ D I₀ hh
  have ok := I₀.ok
  have frames : X.A.frames = some (X.env :: X.outer) := ok.frames.trans (congrArg some st)
  apply wpAny_Try_except
  have R := (hb (wCls X.K W D l) (X.pn ++ pins) (fun e x1 => wpAny (model X.prog X.w) X.A (noteFrame e X.env) (fun _ x2 => wpAny (model X.prog X.w) X.A (setFlight e none) (fun _ x3 => wpAny (model X.prog X.w) X.A (handleBy e X.env (h1 :: hs)) (SP X pins D) X.xe x3) X.xe x2) X.xe x1) ?_ PassesOwn.looking).run [] s₀ m₀ G₀ D (I₀.toTry _) hh
  · refine wpAny_mono R (fun f x q => ?_) fun _ _ q => q
    have q2 := sp_ofTry ok q
    cases f with
    | next => exact let ⟨m, G, J, z⟩ := q2; wpAny_execs_nil ⟨m, G, J, z⟩
    | _ => exact q2
  intro u x ⟨e, B, y, pin2, m, G, k, d, eu, J2, nb, up, air, free, os, bare, wish⟩
  subst eu
  have J : Inv X pins m G y := J2.ofTry ok
  rw [show (X.tr (X.pn ++ pins) _).stack = X.env :: X.outer from st] at air
  show wpAny (model X.prog X.w) X.A (noteFrame (.ref e) X.env) _ _ _
  refine Sky.land Zc.steady frames fr air fun g1 fly1 up1 => ?_
  have L1 : Inv X pins m G { x with heap := g1 } := J.landed nb fly1.1 (up.trans up1) os bare
  obtain ⟨oe, vs, at1, z1, da⟩ := fly1.there
  have off : e ∉ frs (X.env :: X.outer) := fun hm => by
    obtain ⟨_, o2, at2, no⟩ := fly1.2.2.1.mem hm
    rw [at1] at at2
    cases at2
    exact no _ da
  have offL : e ≠ X.env.locals := fun z => off (List.mem_filterMap.mpr ⟨X.env, List.mem_cons_self, by rw [fr, z]⟩)
  have offF : e ∉ X.fs := fun hm => let ⟨v, hv, z⟩ := List.mem_filterMap.mp hm; off (List.mem_filterMap.mpr ⟨v, List.mem_cons_of_mem _ hv, z⟩)
  have S1 := L1.suite at1 da free offL offF
  suffices go : ∀ {hs' : List ExceptHandler} {l' : List Cl}, ClsOk X hs' l' → wCls X.K W D l' k d m G → wpAny (model X.prog X.w) X.A (handleBy (.ref e) X.env hs') (SP X pins D) X.xe { x with heap := g1 } from go hk wish
  intro hs' l' ck
  induction ck with
  | nil =>
    intro out
    apply wpAny_handleBy_nil
    have fly := fly1
    obtain ⟨_, _, _, o2, vs2, T, _, _, at2, _, da2, tb2, _⟩ := fly1
    unfold PySem.passOn
    apply wpAny_bind
    refine wpAny_field at2 da2 tb2 ?_
    rw [if_neg (by simp)]
    have last : wpAny (model X.prog X.w) X.A (setFlight (.ref e) X.env.frame) (fun _ x4 => wpAny (model X.prog X.w) X.A (throw (.ref e) : Sem Flow) (SP X pins D) X.xe x4) X.xe { x with heap := g1 } := by
      rw [fr]
      exact HandSPX.setFlight_upZ fly fun g2 land2 up2 => wpAny_throw (tk _ _ ⟨e, B, y, pins, m, G, k, d, rfl, J, nb, (up.trans up1).trans up2, .inr (.inr (by rw [st]; exact land2)), free, os, bare, out⟩)
    first
      | exact wpAny_bind (wpAny_pure (wpAny_bind last))
      | exact wpAny_bind last
  | @cons nmX nm c b su np p hs2 l2 nok hc hsu _ ih =>
    intro ⟨ans, hans, yes, no⟩
    refine wpAny_handleBy_cons (codeAny_handlers_test ?_) (by intro q; cases q)
    have ty : PySem.W.Looks (model X.prog X.w) g1 (typeOf (.ref e)) k := fun _ _ _ _ kp q => wpAny_typeOf_ref (kp _ _ at1) (by rw [z1.1]; exact q)
    have look : ∀ {Q : Value → Shared → Prop} {F : Value → Shared → Prop}, Q c.cls { x with heap := g1 } → wpAny (model X.prog X.w) (X.A.mark (some (.ref e))) (eval (.Name nmX np) X.env) Q F { x with heap := g1 } := fun q => by
      rcases hc with ⟨g, dbg, own | ⟨free', blt, nn⟩⟩
      · exact ld_glob (X := X.suite e ((e, oe) :: (X.pn ++ pins))) S1 g own q dbg
      · exact ld_blt (X := X.suite e ((e, oe) :: (X.pn ++ pins))) S1 g free' blt q nn dbg
    refine look ((PySem.W.exm_one (M := model X.prog X.w) L1.kIn ty hans).here ?_)
    cases ans with
    | false => exact ih (no rfl)
    | true =>
      have w1 := yes rfl e free
      match nm, hsl : c.slot, nok with
      | none, none, _ =>
        refine codeAny_handlers_suite (HandSPX.lands_againZ fly1 fun g2 fly2 up2 => ?_)
        obtain ⟨oe2, vs2, at2, z2, da2⟩ := fly2.there
        have S2 := (J.landed nb fly2.1 ((up.trans up1).trans up2) os bare : Inv X pins m G { x with heap := g2 }).suite at2 da2 free offL offF
        unfold Cl.wish at w1
        rw [hsl] at w1
        exact wpAny_mono ((hsu e oe2 k d (X.pn ++ pins) z2 ⟨_, da2⟩).run [] _ _ G _ S2 w1) (fun f _ q => sp_unsuite ok q) fun _ _ q => q.elim
      | some n, some i, ⟨hi, hl⟩ =>
        refine codeAny_handlers_suite_as (HandSPX.lands_againZ fly1 fun g2 fly2 up2 => ?_)
        obtain ⟨oe2, vs2, at2, z2, da2⟩ := fly2.there
        have S2 := (J.landed nb fly2.1 ((up.trans up1).trans up2) os bare : Inv X pins m G { x with heap := g2 }).suite at2 da2 free offL offF
        unfold Cl.wish at w1
        rw [hsl] at w1
        refine store_ok (X := X.suite e ((e, oe2) :: (X.pn ++ pins))) (v := .ref e) S2 nd hi (.inl hl) rfl (fun x5 S5 => ?_) (.inr hl)
        refine wpAny_mono ((hsu e oe2 k d (X.pn ++ pins) z2 ⟨_, da2⟩).run [] x5 _ G _ S5 w1) (fun f x6 q => ?_) fun _ _ q => q.elim
        cases f with
        | ret u => exact let ⟨v, m6, G6, S6, r6, q6⟩ := q; gone_ok (S6.unsuite ok) nd hi hl fun x7 J7 => ⟨v, _, _, J7, r6, q6⟩
        | _ => exact let ⟨m6, G6, S6, q6⟩ := q; gone_ok (S6.unsuite ok) nd hi hl fun x7 J7 => ⟨_, _, J7, q6⟩
end
end Fm

set_option maxHeartbeats 2000000
namespace Fm
open PySem PySem.Spec PyProof.Rows L2
/-! ### as FmX, for exceptions whose context is None -/
inductive ClsOkN (X : Cx) : List ExceptHandler → List Cl → Prop
  | nil : ClsOkN X [] []
  | cons {x : Str} {nm : Option Str} {c : Cl} {b : Stmt} {su : List Stmt} {np p : Pos} {hs : List ExceptHandler} {l : List Cl} (nok : NameOk X nm c.slot) (hc : Names X x c.cls)
      (hsu : ∀ (a : Addr) (oe : Obj) (k : Value) (d : Option Addr) (pn : List (Addr × Obj)), L2N.Zn k d oe → (∃ vs, oe.data = .fields vs) → PSs (X.suite a ((a, oe) :: pn)) (b :: su) (c.ts a k d)) (r : ClsOkN X hs l) :
      ClsOkN X (.ExceptHandler (some (.Name x np)) nm (b :: su) p :: hs) (c :: l)
section
variable {X : Cx}
/-- a try with clauses: what each wishes stands in wCls -/
theorem ps_try_clsN {X : Cx} {body : List Stmt} {h1 : ExceptHandler} {hs : List ExceptHandler} {l : List Cl} {pos : Pos} {tb : WX → TS} {W : WX} (st : X.stack = X.env :: X.outer) (fr : X.env.frame = some X.env.locals) (nd : X.N.Nodup) (tk : L2N.Takes X W)
    (hb : ∀ (V : WX) (pn : List (Addr × Obj)) (xe : Value → Shared → Prop), L2N.Takes (X.tr pn xe) V → PassesOwn (model X.prog X.w) X.A X.env xe → PSs (X.tr pn xe) body (tb V)) (hk : ClsOkN X (h1 :: hs) l) :
    PS X (.Try body (h1 :: hs) [] [] pos) (fun D m G => tb (wCls X.K W D l) D m G) := by
  constructor
  intro pins s₀ m₀ G₀ D I₀ hh
  have ok := I₀.ok
  have frames : X.A.frames = some (X.env :: X.outer) := ok.frames.trans (congrArg some st)
  apply wpAny_Try_except
  have R := (hb (wCls X.K W D l) (X.pn ++ pins) (fun e x1 => wpAny (model X.prog X.w) X.A (noteFrame e X.env) (fun _ x2 => wpAny (model X.prog X.w) X.A (setFlight e none) (fun _ x3 => wpAny (model X.prog X.w) X.A (handleBy e X.env (h1 :: hs)) (SP X pins D) X.xe x3) X.xe x2) X.xe x1) ?_ PassesOwn.looking).run [] s₀ m₀ G₀ D (I₀.toTry _) hh
  · refine wpAny_mono R (fun f x q => ?_) fun _ _ q => q
    have q2 := sp_ofTry ok q
    cases f with
    | next => exact let ⟨m, G, J, z⟩ := q2; wpAny_execs_nil ⟨m, G, J, z⟩
    | _ => exact q2
  intro u x ⟨e, B, y, pin2, m, G, k, d, eu, J2, nb, up, air, free, os, bare, wish⟩
  subst eu
  have J : Inv X pins m G y := J2.ofTry ok
  rw [show (X.tr (X.pn ++ pins) _).stack = X.env :: X.outer from st] at air
  show wpAny (model X.prog X.w) X.A (noteFrame (.ref e) X.env) _ _ _
  refine L2N.Sky.land L2N.Zn.steady frames fr air fun g1 fly1 up1 => ?_
  have L1 : Inv X pins m G { x with heap := g1 } := J.landed nb fly1.1 (up.trans up1) os bare
  obtain ⟨oe, vs, at1, z1, da⟩ := fly1.there
  have off : e ∉ frs (X.env :: X.outer) := fun hm => by
    obtain ⟨_, o2, at2, no⟩ := fly1.2.2.1.mem hm
    rw [at1] at at2
    cases at2
    exact no _ da
  have offL : e ≠ X.env.locals := fun z => off (List.mem_filterMap.mpr ⟨X.env, List.mem_cons_self, by rw [fr, z]⟩)
  have offF : e ∉ X.fs := fun hm => let ⟨v, hv, z⟩ := List.mem_filterMap.mp hm; off (List.mem_filterMap.mpr ⟨v, List.mem_cons_of_mem _ hv, z⟩)
  have S1 := L1.suite at1 da free offL offF
  suffices go : ∀ {hs' : List ExceptHandler} {l' : List Cl}, ClsOkN X hs' l' → wCls X.K W D l' k d m G → wpAny (model X.prog X.w) X.A (handleBy (.ref e) X.env hs') (SP X pins D) X.xe { x with heap := g1 } from go hk wish
  intro hs' l' ck
  induction ck with
  | nil =>
    intro out
    apply wpAny_handleBy_nil
    have fly := fly1
    obtain ⟨_, _, _, o2, vs2, T, _, _, at2, _, da2, tb2, _⟩ := fly1
    unfold PySem.passOn
    apply wpAny_bind
    refine wpAny_field at2 da2 tb2 ?_
    rw [if_neg (by simp)]
    have last : wpAny (model X.prog X.w) X.A (setFlight (.ref e) X.env.frame) (fun _ x4 => wpAny (model X.prog X.w) X.A (throw (.ref e) : Sem Flow) (SP X pins D) X.xe x4) X.xe { x with heap := g1 } := by
      rw [fr]
      exact HandSPX.setFlight_upZ fly fun g2 land2 up2 => wpAny_throw (tk _ _ ⟨e, B, y, pins, m, G, k, d, rfl, J, nb, (up.trans up1).trans up2, .inr (.inr (by rw [st]; exact land2)), free, os, bare, out⟩)
    first
      | exact wpAny_bind (wpAny_pure (wpAny_bind last))
      | exact wpAny_bind last
  | @cons nmX nm c b su np p hs2 l2 nok hc hsu _ ih =>
    intro ⟨ans, hans, yes, no⟩
    refine wpAny_handleBy_cons (codeAny_handlers_test ?_) (by intro q; cases q)
    have ty : PySem.W.Looks (model X.prog X.w) g1 (typeOf (.ref e)) k := fun _ _ _ _ kp q => wpAny_typeOf_ref (kp _ _ at1) (by rw [z1.1]; exact q)
    have look : ∀ {Q : Value → Shared → Prop} {F : Value → Shared → Prop}, Q c.cls { x with heap := g1 } → wpAny (model X.prog X.w) (X.A.mark (some (.ref e))) (eval (.Name nmX np) X.env) Q F { x with heap := g1 } := fun q => by
      rcases hc with ⟨g, dbg, own | ⟨free', blt, nn⟩⟩
      · exact ld_glob (X := X.suite e ((e, oe) :: (X.pn ++ pins))) S1 g own q dbg
      · exact ld_blt (X := X.suite e ((e, oe) :: (X.pn ++ pins))) S1 g free' blt q nn dbg
    refine look ((PySem.W.exm_one (M := model X.prog X.w) L1.kIn ty hans).here ?_)
    cases ans with
    | false => exact ih (no rfl)
    | true =>
      have w1 := yes rfl e free
      match nm, hsl : c.slot, nok with
      | none, none, _ =>
        refine codeAny_handlers_suite (HandSPX.lands_againZ fly1 fun g2 fly2 up2 => ?_)
        obtain ⟨oe2, vs2, at2, z2, da2⟩ := fly2.there
        have S2 := (J.landed nb fly2.1 ((up.trans up1).trans up2) os bare : Inv X pins m G { x with heap := g2 }).suite at2 da2 free offL offF
        unfold Cl.wish at w1
        rw [hsl] at w1
        exact wpAny_mono ((hsu e oe2 k d (X.pn ++ pins) z2 ⟨_, da2⟩).run [] _ _ G _ S2 w1) (fun f _ q => sp_unsuite ok q) fun _ _ q => q.elim
      | some n, some i, ⟨hi, hl⟩ =>
        refine codeAny_handlers_suite_as (HandSPX.lands_againZ fly1 fun g2 fly2 up2 => ?_)
        obtain ⟨oe2, vs2, at2, z2, da2⟩ := fly2.there
        have S2 := (J.landed nb fly2.1 ((up.trans up1).trans up2) os bare : Inv X pins m G { x with heap := g2 }).suite at2 da2 free offL offF
        unfold Cl.wish at w1
        rw [hsl] at w1
        refine store_ok (X := X.suite e ((e, oe2) :: (X.pn ++ pins))) (v := .ref e) S2 nd hi (.inl hl) rfl (fun x5 S5 => ?_) (.inr hl)
        refine wpAny_mono ((hsu e oe2 k d (X.pn ++ pins) z2 ⟨_, da2⟩).run [] x5 _ G _ S5 w1) (fun f x6 q => ?_) fun _ _ q => q.elim
        cases f with
        | ret u => exact let ⟨v, m6, G6, S6, r6, q6⟩ := q; gone_ok (S6.unsuite ok) nd hi hl fun x7 J7 => ⟨v, _, _, J7, r6, q6⟩
        | _ => exact let ⟨m6, G6, S6, q6⟩ := q; gone_ok (S6.unsuite ok) nd hi hl fun x7 J7 => ⟨_, _, J7, q6⟩
end
end Fm

set_option maxHeartbeats 2000000
namespace Fm
open PySem PySem.Spec PyProof.Rows L2
/-! ### own exceptions with an own __init__, made where nothing is handled: their context is None -/
section
variable {X : Cx} {ta : TA} {e : Expr} {es : List Expr} {p pos : Pos}
theorem pmk_oexN {CX : CXT} {x : Str} {C fI : Addr} {k : Nat} {fd : FuncData} {ps : List Str} {sp : Sp} {ds : List Value} {dvs : List V} (T : OexC X.K C) (iC : PySem.W.findIn X.K (.ref C) "__init__" = some (some (.ref fI))) (tI : PySem.W.typeIn X.K (.ref fI) = some (.type "function"))
    (F1 : FnOk X.prog X.w X.K X.mg X.base CX k fI fd ps sp) (hr : Room (k + 1) X.A) (hb : Binds X.K fd ps ds) (hd : Vals dvs ds) (hx : Passes CX X (fun _ _ _ => False)) (hg : Gl X x) (hm : X.mg x = some (.ref C)) (ha : PA X (e :: es) ta)
    (hdb : (x == ("__debug__" : Str)) = false := by decide) (he : starEach (e :: es) X.env = (false, eval e X.env) :: starEach es X.env := by rfl) (hpl : (backTo pos (starEach es X.env)).any (·.1) = false := by rfl) :
    L2N.PMk X (.Call (.Name x p) (e :: es) [] pos) (tMkO C sp dvs ta) := by
  intro pins s σ H Q I h
  obtain ⟨nm, q, N, bs, bm, sn, sub, ab, col, dd, k0, k1, k2, k3, k5, hC, hbm⟩ := T.cls
  refine wpAny_Call_Name_kw (ld_glob I hg hm ?_ hdb)
  refine PySem.W.callWith_K (h₀ := X.base) I.ok.mod.kin T.kC (thn (ha.run pos pins s σ H _ I h) fun us s1 ⟨vs, H1, I1, r1, hz, q1⟩ => ⟨I1.kIn, ?_⟩) he hpl
  show wpAny _ _ (call (.ref C) us) _ _ _
  obtain ⟨hp, g, dr, tk, os⟩ := s1
  have hsz : hp.objs.size ≤ hp.objs.size + 1 := Nat.le_succ _
  have hn : H1 (hp.objs.size + 1) = none := I1.hok.fresh hsz
  have hq := q1 (hp.objs.size + 1) hn
  have kk : ∀ b o, hp.get? b = some o → ((hp.push (PySem.W.kdv_tup us)).push (PySem.HandSPX.excO C hp.objs.size)).get? b = some o := fun b o e => Heap.get?_push_of_some _ (Heap.get?_push_of_some _ e)
  have hget : ((hp.push (PySem.W.kdv_tup us)).push (PySem.HandSPX.excO C hp.objs.size)).get? (hp.objs.size + 1) = some (PySem.HandSPX.excO C hp.objs.size) := by heap_get
  have I2 : Inv X pins σ (upd H1 (hp.objs.size + 1) (exo (hp.objs.size + 1) C none)) ⟨(hp.push (PySem.W.kdv_tup us)).push (PySem.HandSPX.excO C hp.objs.size), g, dr, tk, os⟩ :=
    I1.laid (t' := tk) (a := hp.objs.size + 1) (o := exo (hp.objs.size + 1) C none) (h' := (hp.push (PySem.W.kdv_tup us)).push (PySem.HandSPX.excO C hp.objs.size)) kk hsz (exo_ok hget)
  have r2 : Vals (V.ref (hp.objs.size + 1) :: (vs ++ dvs)) (Value.ref (hp.objs.size + 1) :: (us ++ ds)) := .cons rfl (r1.append hd)
  have hl : (Value.ref (hp.objs.size + 1) :: us ++ ds).length = ps.length := by
    have e := r2.length
    rw [F1.len _ _ _ _ hq] at e
    exact e.symm
  have hus : us.length ≤ sizeLine := by
    rw [← Paired.length r1, sizeLine_eq]
    omega
  refine wpAny_call (PySem.HandSPX.call_own F.excBase_ValueError (fun Y => PySem.HandSPX.refsVE_contains Y bm hbm) (I1.kIn _ _ hC) (PySem.W.looks_findIn I1.kIn iC) (fun self => PySem.W.bind_fn I1.kIn self tI) hus
    (codeAny_mono (F1.run _ X.stack _ _ ⟨Value.ref (hp.objs.size + 1) :: us, []⟩ (Value.ref (hp.objs.size + 1) :: (us ++ ds)) _ _ (fun _ _ _ => False) (hr.make C us []) (I2.env0.make C us []) (hb _ (Value.ref (hp.objs.size + 1) :: us) I2.kIn hl) r2 hq) fun r s' hq' => ?_))
  cases r with
  | error er => exact hx pins σ _ _ er s' I2 hq'
  | ok fl =>
    cases fl with
    | ret u =>
      obtain ⟨v, H2, os2, bare2, un2, hok2, rv, ev, d, fs, ea, ed, hd1, q2⟩ := hq'
      subst ev
      obtain ⟨h2, g2, d2, t2, os'⟩ := s'
      obtain ⟨t0, G, J, kG, ge, hoe, na⟩ := mk_end0 (d2 := d2) (t2 := t2) I1 hsz kk un2 hok2 os2 bare2 ea ed hd1
      exact ⟨rv, hp.objs.size + 1, _, _, ⟨G, g2, d2, t2, os'⟩, _, .ref C, some d, rfl, J, kG, ge, hoe, ⟨rfl, rfl, fun vs e => by cases e; rfl⟩, rfl, rfl, na, rfl, bare2, raises_own T.exC T.tyC, q2⟩
    | next => exact False.elim hq'
    | brk => exact False.elim hq'
    | cont => exact False.elim hq'
theorem passN {X : Cx} : Passes (L2N.CX X.prog X.w) X E0 := fun _ _ _ _ _ _ _ h => by
  obtain ⟨_, _, _, _, _, _, _, _, _, _, _, _, z⟩ := h
  exact z.elim
theorem takesN0 {X : Cx} : L2N.Takes X (fun _ _ _ _ => False) := fun _ _ x => by
  obtain ⟨_, _, _, _, _, _, _, _, _, _, _, _, _, _, _, _, z⟩ := x
  exact z.elim
end
end Fm

set_option maxHeartbeats 4000000
namespace Kx
open PySem PySem.Spec PyProof.Rows L2 Fm
local macro_rules | `(tactic| walk_at "gv") => `(tactic| ((with_reducible refine' g_var ?gh ?_); (case gh => exact rfl)))
local macro_rules | `(tactic| walk_at "g1") => `(tactic| first
  | walk_at "gv"
  | with_reducible refine g_c ?_ | with_reducible refine g_op ?_ | with_reducible refine g_un ?_ | with_reducible refine g_I0 ?_ | with_reducible refine g_U ?_
  | with_reducible refine g_eqI ?_ | with_reducible refine g_neI ?_ | with_reducible refine g_eqS ?_ | with_reducible refine g_neS ?_
  | with_reducible refine g_test ?_ | with_reducible refine g_B ?_ | with_reducible refine g_bl ?_ | with_reducible refine g_not ?_ | with_reducible refine g_and ?_ | with_reducible refine g_or ?_
  | with_reducible refine g_andV ?_ | with_reducible refine g_orV ?_ | with_reducible refine g_notV ?_ | with_reducible refine g_chain ?_ | with_reducible refine g_if ?_ | with_reducible refine g_ifS ?_
  | with_reducible refine g_seq ?_ | with_reducible refine g_next ?_ | with_reducible refine g_break ?_ | with_reducible refine g_cont ?_ | with_reducible refine g_drop ?_ | with_reducible refine g_ret ?_ | with_reducible refine g_retN ?_
  | with_reducible refine g_asg ?_ | with_reducible refine g_name ?_ | with_reducible refine g_par ?_ | with_reducible refine g_par2 ?_ | with_reducible refine g_fld ?_ | with_reducible refine g_sfld ?_
  | with_reducible refine g_nil ?_ | with_reducible refine g_cons ?_ | with_reducible refine g_tup ?_ | with_reducible refine g_lst ?_ | with_reducible refine g_call ?_ | with_reducible refine g_meth ?_ | with_reducible refine g_make1 ?_ | with_reducible refine g_make ?_ | with_reducible refine g_cb ?_ | with_reducible refine g_sub ?_ | with_reducible refine g_m0 ?_ | with_reducible refine g_gcons ?_ | with_reducible refine g_gnil ?_ | with_reducible refine g_for ?_ | with_reducible refine g_lc ?_ | with_reducible refine g_ilist ?_ | with_reducible refine g_itup ?_ | with_reducible refine g_rng1 ?_ | with_reducible refine g_rng3 ?_ | with_reducible refine g_yes ?_ | with_reducible refine g_sl ?_ | with_reducible refine g_nopart ?_ | with_reducible refine g_part ?_ | with_reducible refine g_exI ?_ | with_reducible refine g_m1 ?_ | with_reducible refine g_isS ?_ | with_reducible refine g_bm ?_ | with_reducible refine g_revL ?_ | with_reducible refine g_istr ?_ | with_reducible refine g_notInS ?_ | with_reducible refine g_absI ?_ | with_reducible refine g_intI ?_ | with_reducible refine g_izip ?_ | with_reducible refine g_ienum ?_ | with_reducible refine g_bm0 ?_ | with_reducible refine g_mko ?_ | with_reducible refine g_methW ?_ | with_reducible refine g_callW ?_
  | with_reducible refine iteT ?_ | with_reducible refine iteF ?_ | with_reducible refine g_gcd ?_)
local macro_rules | `(tactic| walk_at "g") => `(tactic| (repeat (first | walk_at "g1" | dsimp only [cx_K, cx_Kn, b_nt, b_nf])))
local macro_rules | `(tactic| walk_at "mul") => `(tactic| exact mulA (a := 200) (b := 200) (by omega) (by omega) (by decide))
local macro_rules | `(tactic| walk_at "pow") => `(tactic| exact ⟨by omega, by omega, by omega⟩)

section
variable {P : Program} {w : World} {K : PySem.W.Frag} {mg : Str → Option Value} {base : Heap} {a : Ad}
theorem ok_BadNumber_init (T : Tx K mg a) : FnOk P w K mg base CX0 1 a.f_BadNumber_init a.d_BadNumber_init P_BadNumber_init (spBadInit "given" a.C_BadNumber) := by
  refine def_ok0 T.F_BadNumber_init sc_BadNumber_init (fun vs H Q E h => ?_) (fun cdv A outer s H vs Q E hr h => ?_)
  · obtain ⟨e, v, rfl, _⟩ := h
    rfl
  · obtain ⟨e, v, rfl, he, z⟩ := h
    refine ⟨_, pss_one (ps_ost (pv 0) (pv 1)), ?_⟩
    exact ⟨_, rfl, _, rfl, e, a.C_BadNumber, rfl, T.oc_BadNumber, T.xa_BadNumber_given, .inl ⟨he, fun d hd hn => z d hd hn⟩⟩
theorem ok_BadValues_init (T : Tx K mg a) : FnOk P w K mg base CX0 1 a.f_BadValues_init a.d_BadValues_init P_BadValues_init (spBadInit "given" a.C_BadValues) := by
  refine def_ok0 T.F_BadValues_init sc_BadValues_init (fun vs H Q E h => ?_) (fun cdv A outer s H vs Q E hr h => ?_)
  · obtain ⟨e, v, rfl, _⟩ := h
    rfl
  · obtain ⟨e, v, rfl, he, z⟩ := h
    refine ⟨_, pss_one (ps_ost (pv 0) (pv 1)), ?_⟩
    exact ⟨_, rfl, _, rfl, e, a.C_BadValues, rfl, T.oc_BadValues, T.xa_BadValues_given, .inl ⟨he, fun d hd hn => z d hd hn⟩⟩
theorem ok_NoValue_init (T : Tx K mg a) : FnOk P w K mg base CX0 1 a.f_NoValue_init a.d_NoValue_init P_NoValue_init (spBadInit "given" a.C_NoValue) := by
  refine def_ok0 T.F_NoValue_init sc_NoValue_init (fun vs H Q E h => ?_) (fun cdv A outer s H vs Q E hr h => ?_)
  · obtain ⟨e, v, rfl, _⟩ := h
    rfl
  · obtain ⟨e, v, rfl, he, z⟩ := h
    refine ⟨_, pss_one (ps_ost (pv 0) (pv 1)), ?_⟩
    exact ⟨_, rfl, _, rfl, e, a.C_NoValue, rfl, T.oc_NoValue, T.xa_NoValue_given, .inl ⟨he, fun d hd hn => z d hd hn⟩⟩
def spNums (C : Addr) : Sp := fun vs H Q _ => ∃ (v : V) (d : Da), vs = [v] ∧ DaV C H v d ∧ d.fine = true ∧ ∀ H', Ex H H' → Q (.bl d.nums) H'
theorem ok_are_numbers (T : Tx K mg a) : FnOk P w K mg base CX0 4 a.f_are_numbers a.d_are_numbers P_are_numbers (spNums a.C_Ratio) := by
  refine def_ok0 T.F_are_numbers sc_are_numbers (fun vs H Q E h => ?_) (fun cdv A outer s H vs Q E hr h => ?_)
  · obtain ⟨v, d, rfl, _⟩ := h
    rfl
  · obtain ⟨v, d, rfl, hv, fine, z⟩ := h
    refine ⟨_, (pss_one (ps_ret (pe_and (pe_callB call_isiT (by rfl) T.b_isinstance (by decide +kernel) (pa_cons (pv 0) (pa_cons (pe_tup (pa_cons (pe_bltn (v := .ty "list") (by rfl) T.b_list (by decide +kernel) rfl) (pa_cons (pe_bltn (v := .ty "tuple") (by rfl) T.b_tuple (by decide +kernel) rfl) pa_nil))) pa_nil))) (pe_one (pe_callB (cr_all rfl) (by rfl) T.b_all (by decide +kernel) (pa_cons (pe_lc (own := [("item", 1)]) (g := (gName 1)) (tt := tYes) rfl sc_are_numbers.nd (pi_seq (pv 0)) (blkOk_by (N := N_are_numbers) (sc := defScope s_are_numbers) (by decide +kernel)) (fun _ _ _ _ _ => pg_name (i := 1) sc_are_numbers.nd rfl (Or.inl rfl)) (fun _ _ _ _ _ => pts_nil) (fun _ _ _ _ _ => (pe_call (ok_is_number T) (hr.mono (by decide)) (by rfl) T.g_is_number T.F_is_number.kp (bd_is_number T) .nil pass0 (pa_cons (pv 1) pa_nil)))) pa_nil)))))), ?_⟩
    walk_at "g"
    refine ⟨len_lit rfl, fun tp htp => ?_⟩
    have et : Ex H (upd H tp (.tup [.ty "list", .ty "tuple"])) := Ex.new htp
    have at_ : (upd H tp (.tup [.ty "list", .ty "tuple"])) tp = some (.tup [.ty "list", .ty "tuple"]) := upd_same
    generalize (upd H tp (.tup [.ty "list", .ty "tuple"])) = H1 at et at_ ⊢
    walk_at "g"
    refine g_isiT at_ (.cons (.ty _) (.cons (.ty _) .nil)) ((hv.mono et).tyx T.R) (kit_lt T.R2 d) ?_
    refine ⟨_, rfl, ?_⟩
    have key : ∀ (p : Addr) (xs : List V) (ds : List Da), v = .ref p → DaVs a.C_Ratio H1 xs ds → ds.length ≤ 1000 → d.nums = ds.all Da.isNum → (H1 p = some (.lst xs) ∨ H1 p = some (.tup xs)) →
        tCB (rAll K) (tCons (tLc (fun σ H R => iList K (tVar 0) σ H R ∨ iTup K (tVar 0) σ H R) (gName 1) tYes (tCall (spNumber K a.C_Ratio) [] E0 (tCons (tVar 1) tNil)) (List.map (fun x => x.snd) [(Str.ofString "item", 1)])) tNil) (L2.start N_are_numbers [v]) H1 Q := by
      intro p xs ds hvp hr2 hl hn hp
      subst hvp
      walk_at "g"
      have body : ∀ D, H1 D = none → ∀ i x H', xs[i]? = some x → (Ex H1 H' ∧ H' D = some (.lst ((ds.take i).map fun d => V.bl d.isNum))) →
          Turn (gName 1) tYes (tCall (spNumber K a.C_Ratio) [] E0 (tCons (tVar 1) tNil)) (List.map (fun x => x.snd) [((Str.ofString "item" : Str), 1)]) (L2.start N_are_numbers [.ref p]) D (fun H' => Ex H1 H' ∧ H' D = some (.lst ((ds.take (i + 1)).map fun d => V.bl d.isNum))) x H' := by
        rintro D hD i x H' hx ⟨ex, hd⟩
        obtain ⟨e, he, hve⟩ := hr2.at hx
        refine ⟨rfl, ?_⟩
        walk_at "g"
        refine ⟨x, e.ty a.C_Ratio, rfl, (hve.mono ex).tyx T.R, e.kty, fun H2 e2 => ?_⟩
        rw [e.ty_num]
        refine ⟨_, e2 _ _ hd, Nat.lt_of_le_of_lt (m := 1000) (by rw [List.length_map, List.length_take]; omega) (by decide), (ex.trans e2).mut hD, ?_⟩
        rw [upd_same, take_succ_get he, List.map_append]
        rfl
      have last : ∀ D, H1 D = none → ∀ H', (Ex H1 H' ∧ H' D = some (.lst ((ds.take xs.length).map fun d => V.bl d.isNum))) → rAll K [.ref D] H' Q := by
        rintro D hD H' ⟨ex, hd⟩
        have e1 : ((ds.take xs.length).map fun d => V.bl d.isNum) = (ds.map Da.isNum).map V.bl := by
          rw [hr2.length, List.take_length, List.map_map]
          rfl
        rw [e1] at hd
        refine g_all (SqL.of hd) ?_
        rw [List.all_map, show (id ∘ Da.isNum) = Da.isNum from rfl, ← hn]
        exact z H' (et.trans ex)
      rcases hp with hp | hp
      · refine .inl ?_
        walk_at "g"
        exact ⟨p, rfl, ⟨xs, SqL.of hp⟩, cp_L (xs := xs) (fun D i H' => Ex H1 H' ∧ H' D = some (.lst ((ds.take i).map fun d => V.bl d.isNum))) (fun D hD => ⟨Ex.new hD, upd_same⟩) (fun D hD i H' _ h => SqL.of (h.1 _ _ hp)) body last⟩
      · refine .inr ?_
        walk_at "g"
        exact ⟨p, rfl, ⟨xs, SqT.of hp⟩, cp_T (xs := xs) (fun D i H' => Ex H1 H' ∧ H' D = some (.lst ((ds.take i).map fun d => V.bl d.isNum))) (fun D hD => ⟨Ex.new hD, upd_same⟩) (fun D hD i H' _ h => SqT.of (h.1 _ _ hp)) body last⟩
    have hv1 := hv.mono et
    cases hv1 with
    | lst hp r =>
      refine iteT (key _ _ _ rfl r ?_ rfl (.inl hp))
      unfold Da.fine at fine
      rw [Bool.and_eq_true] at fine
      exact of_decide_eq_true fine.1
    | tup hp r =>
      refine iteT (key _ _ _ rfl r ?_ rfl (.inr hp))
      unfold Da.fine at fine
      rw [Bool.and_eq_true] at fine
      exact of_decide_eq_true fine.1
    | _ => exact iteF (z H1 et)
/-- inserting what is not there -/
def spIns (C : Addr) : Sp := fun vs H Q _ => ∃ (o : Addr) (x : V) (rs : List V) (qs : List Rat) (q : Rat), vs = [.ref o, x] ∧ H o = some (.lst rs) ∧ RatsV C H rs qs ∧ RatV C H x q ∧ (∀ c ∈ qs, Sz 3000 c) ∧ Sz 3000 q ∧ qs.length ≤ 1000 ∧
  ∀ rs' H', (∀ b ob, H b = some ob → b ≠ o → H' b = some ob) → H' o = some (.lst rs') → RatsV C H' rs' (insU q qs) → Q .non H'
theorem ok_insert_new (T : Tx K mg a) : FnOk P w K mg base CX0 6 a.f_insert_new a.d_insert_new P_insert_new (spIns a.C_Ratio) := by
  refine def_ok0 T.F_insert_new sc_insert_new (fun vs H Q E h => ?_) (fun cdv A outer s H vs Q E hr h => ?_)
  · obtain ⟨o, x, rs, qs, q, rfl, _⟩ := h
    rfl
  · obtain ⟨o, x, rs, qs, q, rfl, ho, hrs, hx, szs, szq, hl, z⟩ := h
    refine ⟨_, (pss_cons (ps_set (i := 2) sc_insert_new.nd rfl (Or.inl rfl) pe_int) (pss_cons (ps_while PassesOwn.never (PW.pt (pw_and (pt_cmpR op_lt (pv 2) (pe_callB call_lenQ (by rfl) T.b_len (by decide +kernel) (pa_cons (pv 0) pa_nil)) (nomark _)) (pw_and1 (pt_cmpR (op_cmp (fun _ _ => rfl) T.p_lt (ok_Ratio_lt T) (hr.mono (by decide)) (bd_Ratio_lt T) pass0) (pe_ix ix_list (pv 0) (pv 2) (fun _ _ => rfl)) (pv 1) (nomark _))))) (pss_one (ps_aug (i := 2) sc_insert_new.nd rfl (Or.inl rfl) pe_int ip_add))) (pss_one (ps_if (PW.pt (pw_or (pt_cmpR op_eq (pv 2) (pe_callB call_lenQ (by rfl) T.b_len (by decide +kernel) (pa_cons (pv 0) pa_nil)) (nomark _)) (pw_or1 (pt_cmpR (op_neOwn T.p_ne (ok_Ratio_eq T) (hr.mono (by decide)) (bd_Ratio_eq T) pass0) (pe_ix ix_list (pv 0) (pv 2) (fun _ _ => rfl)) (pv 1) (nomark _))))) (pss_one (ps_expr (pe_bm PySem.F.plainAttrs_list PySem.F.slot_list_insert PySem.F.type_list_insert mt_insert (pv 0) (pa_cons (pv 2) (pa_cons (pv 1) pa_nil))))) pss_nil)))), ?_⟩
    walk_at "g"
    have htw := tw_le (p := fun c => decide (c < q)) qs
    have hlen := hrs.length
    have fin : ∀ (j : Nat) H4, Ex H H4 → j = (qs.takeWhile fun c => decide (c < q)).length → (qs.dropWhile fun c => decide (c < q)).head? ≠ some q → ∀ Q2 : VK, (∀ rs' H', (∀ b ob, H b = some ob → b ≠ o → H' b = some ob) → H' o = some (.lst rs') → RatsV a.C_Ratio H' rs' (insU q qs) → Q2 .non H') →
        Q2 .non (upd H4 o (.lst (rs.take j ++ [x] ++ rs.drop j))) := by
      intro j H4 e4 ej hh Q2 z2
      have ho4 := e4 _ _ ho
      have hrs4 := hrs.mono e4
      refine z2 _ _ (fun b ob hb hne => by rw [upd_ne hne]; exact e4 _ _ hb) upd_same ?_
      rw [show insU q qs = insQ q qs by unfold insU; rw [if_neg hh], insQ_cut, ← ej]
      exact prd_app (prd_app (prd_take j (hrs4.set ho4)) (.cons ((hx.mono e4).set ho4) .nil)) (prd_drop j (hrs4.set ho4))
    have hdw : qs.drop (qs.takeWhile fun c => decide (c < q)).length = qs.dropWhile fun c => decide (c < q) := by
      have h := List.takeWhile_append_dropWhile (p := fun c => decide (c < q)) (l := qs)
      conv => lhs; arg 2; rw [← h]
      rw [List.drop_left]
    refine ⟨fun m σ' H' => ∃ j : Nat, m = rs.length - j ∧ j ≤ (qs.takeWhile fun c => decide (c < q)).length ∧ σ' = [some (.ref o), some x, some (.int (j : Int))] ∧ Ex H H', ⟨_, 0, rfl, Nat.zero_le _, rfl, Ex.refl _⟩, ?_⟩
    rintro m σ' H3 ⟨j, rfl, hj, rfl, e3⟩
    have ho3 := e3 _ _ ho
    have hrs3 := hrs.mono e3
    walk_at "g"
    refine g_lenQ (SqL.of ho3) ?_
    walk_at "g"
    refine g_dec (fun h => ?_) (fun h => ?_)
    · have hjl : j < qs.length := by omega
      obtain ⟨x', hx', hxq⟩ := prd_getR hrs3 (List.getElem?_eq_getElem hjl)
      walk_at "g"
      refine g_ixL (SqL.of ho3) (atI_nat hx') ?_
      walk_at "g"
      refine g_rel2 T.R hxq (hx.mono e3).num (szs _ (List.getElem_mem hjl)) szq (by decide) fun H4 e4 => ?_
      have ts := tw_step (p := fun c => decide (c < q)) (List.getElem?_eq_getElem hjl) hj
      have ho4 := e4 _ _ ho3
      walk_at "g"
      cases hlt : decide (qs[j] < q) with
      | true =>
        refine iteT ?_
        refine ⟨fun s2 H5 => s2 = [some (.ref o), some x, some (.int ((j + 1 : Nat) : Int))] ∧ Ex H H5, ?_, ?_⟩
        · rintro σ' H5 ⟨rfl, e5⟩
          exact ⟨rs.length - (j + 1), by omega, j + 1, rfl, ts.1 hlt, rfl, e5⟩
        · exact ⟨_, rfl, _, _, rfl, rfl, rfl, e3.trans e4⟩
      | false =>
        refine iteF ?_
        walk_at "g"
        refine g_lenQ (SqL.of ho4) ?_
        walk_at "g"
        refine g_dec (fun h2 => by omega) (fun _ => ?_)
        walk_at "g"
        refine g_ixL (SqL.of ho4) (atI_nat hx') ?_
        walk_at "g"
        refine g_neN T.R (hxq.mono e4) (hx.mono (e3.trans e4)).num szq (by decide) fun H5 e5 => ?_
        have ex5 := (e3.trans e4).trans e5
        have ej := ts.2 hlt
        have hhd : (qs.dropWhile fun c => decide (c < q)).head? = some qs[j] := by
          rw [← hdw, ← ej, List.head?_drop, List.getElem?_eq_getElem hjl]
        walk_at "g"
        refine g_ite (fun hne => ?_) (fun hne => ?_)
        · have hn : qs[j] ≠ q := of_decide_eq_false (by simpa using hne)
          walk_at "g"
          refine ⟨tyL (e5 _ _ ho4), ?_⟩
          walk_at "g"
          exact ⟨o, rs, (j : Int), x, rfl, rfl, e5 _ _ ho4, Nat.lt_of_le_of_lt (m := 1000) (by omega) (by decide), by omega, by omega, fin j H5 ex5 ej (by rw [hhd]; intro e; exact hn (Option.some.inj e)) Q z⟩
        · have hn : qs[j] = q := of_decide_eq_true (by simpa using hne)
          walk_at "g"
          refine z rs H5 (fun b ob hb _ => ex5 _ _ hb) (e5 _ _ ho4) ?_
          rw [show insU q qs = qs by unfold insU; rw [hhd, hn, if_pos rfl]]
          exact hrs3.mono (e4.trans e5)
    · have ej : j = (qs.takeWhile fun c => decide (c < q)).length := by omega
      walk_at "g"
      refine g_lenQ (SqL.of ho3) ?_
      walk_at "g"
      refine g_dec (fun _ => ?_) (fun h2 => by omega)
      walk_at "g"
      refine ⟨tyL ho3, ?_⟩
      walk_at "g"
      refine ⟨o, rs, (j : Int), x, rfl, rfl, ho3, Nat.lt_of_le_of_lt (m := 1000) (by omega) (by decide), by omega, by omega, fin j H3 e3 ej ?_ Q z⟩
      rw [← hdw, ← ej, List.drop_eq_nil_of_le (by omega)]
      simp
def spDst (C : Addr) : Sp := fun vs H Q _ => ∃ (v : V) (ds : List Da), vs = [v] ∧ (DaV C H v (.lst ds) ∨ DaV C H v (.tup ds)) ∧ ds.all Da.isNum = true ∧ fineL ds = true ∧ ds.length ≤ 1000 ∧ ∀ p rs H', H p = none → Ex H H' → H' p = some (.lst rs) → RatsV C H' rs (dst (ds.map Da.num)) → Q (.ref p) H'
theorem ok_distinct (T : Tx K mg a) : FnOk P w K mg base CX0 7 a.f_distinct a.d_distinct P_distinct (spDst a.C_Ratio) := by
  refine def_ok0 T.F_distinct sc_distinct (fun vs H Q E h => ?_) (fun cdv A outer s H vs Q E hr h => ?_)
  · obtain ⟨v, ds, rfl, _⟩ := h
    rfl
  · obtain ⟨v, ds, rfl, hv, nums, fine, hl, z⟩ := h
    refine ⟨_, (pss_cons (ps_set (i := 1) sc_distinct.nd rfl (Or.inl rfl) (pe_lst pa_nil)) (pss_cons (ps_for PassesOwn.never rfl (pi_seq (pv 0)) (pg_name (i := 2) sc_distinct.nd rfl (Or.inl rfl)) (pss_one (ps_expr (pe_call (ok_insert_new T) (hr.mono (by decide)) (by rfl) T.g_insert_new T.F_insert_new.kp (bd_insert_new T) .nil pass0 (pa_cons (pv 1) (pa_cons (pe_call (ok_as_ratio T) (hr.mono (by decide)) (by rfl) T.g_as_ratio T.F_as_ratio.kp (bd_as_ratio T) .nil pass0 (pa_cons (pv 2) pa_nil)) pa_nil)))))) (pss_one (ps_ret (pv 1))))), ?_⟩
    walk_at "g"
    refine ⟨len_lit rfl, fun o ho => ?_⟩
    have e0 : Ex H (upd H o (.lst [])) := Ex.new ho
    have o0 : (upd H o (.lst [])) o = some (.lst []) := upd_same
    generalize (upd H o (.lst [])) = H1 at e0 o0 ⊢
    walk_at "g"
    obtain ⟨p, xs, rfl, hp, hr2⟩ : ∃ p xs, v = .ref p ∧ (H p = some (.lst xs) ∨ H p = some (.tup xs)) ∧ DaVs a.C_Ratio H xs ds := by
      rcases hv with hv | hv
      · cases hv with | lst h r => exact ⟨_, _, rfl, .inl h, r⟩
      · cases hv with | tup h r => exact ⟨_, _, rfl, .inr h, r⟩
    have hpo : ∃ ob, H p = some ob := hp.elim (fun h => ⟨_, h⟩) fun h => ⟨_, h⟩
    refine lp_Q (p := p) (xs := xs) (fun Q q => ⟨_, rfl, q⟩) (hp.imp (fun h => e0 _ _ h) fun h => e0 _ _ h) (fun i σ' H' => ∃ u2 rs, σ' = [some (.ref p), some (.ref o), u2] ∧ Ex H H' ∧ H' o = some (.lst rs) ∧ RatsV a.C_Ratio H' rs (dst ((ds.take i).map Da.num)))
      ⟨none, [], rfl, e0, o0, .nil⟩ (fun i σ' H' h => by
        obtain ⟨_, _, _, ex, _⟩ := h
        obtain ⟨ob, hob⟩ := hpo
        rw [ex _ _ hob, e0 _ _ hob]) (fun i x σ' H' hx h => ?_) (fun σ' H' h => ?_)
    · obtain ⟨u2, rs, rfl, ex, ho', hrs⟩ := h
      obtain ⟨d, hd, hvd⟩ := hr2.at hx
      have dn : d.isNum = true := List.all_eq_true.mp nums d (List.mem_of_getElem? hd)
      have df : d.fine = true := fineL_mem fine (List.mem_of_getElem? hd)
      walk_at "g"
      refine use_asr ((hvd.mono ex).num dn) (Da.numSz df) (by decide) fun w H2 e2 hw => ?_
      walk_at "g"
      have szs : ∀ q ∈ dst ((ds.take i).map Da.num), Sz 3000 q := fun q hq => by
        obtain ⟨d', hd', rfl⟩ := List.mem_map.mp (dst_mem.mp hq)
        exact sz_le (Da.numSz (fineL_mem fine (List.mem_of_mem_take hd'))) (by decide)
      have hlen2 : (dst ((ds.take i).map Da.num)).length ≤ 1000 := by have := dst_len ((ds.take i).map Da.num); rw [List.length_map, List.length_take] at this; omega
      refine ⟨o, w, rs, _, _, rfl, e2 _ _ ho', hrs.mono e2, hw, szs, sz_le (Da.numSz df) (by decide), hlen2, fun rs' H3 keep ho3 hrs3 => ?_⟩
      refine ⟨_, rs', rfl, fun b ob hb => keep b ob ((ex.trans e2) _ _ hb) (ne_of_none hb ho), ho3, ?_⟩
      rw [take_succ_get hd, List.map_append]
      show RatsV _ _ _ (dst (_ ++ [d.num]))
      rw [dst_snoc]
      exact hrs3
    · obtain ⟨u2, rs, rfl, ex, ho', hrs⟩ := h
      walk_at "g"
      rw [hr2.length, List.take_length] at hrs
      exact z o rs H' ho ex ho' hrs
def spClimbs (C : Addr) : Sp := fun vs H Q _ => ∃ (p : Addr) (rs : List V) (qs : List Rat), vs = [.ref p] ∧ H p = some (.lst rs) ∧ RatsV C H rs qs ∧ (∀ q ∈ qs, Sz 3000 q) ∧ qs.length ≤ 1000 ∧ ∀ H', Ex H H' → Q (.bl (climbB qs)) H'
theorem ok_climbs (T : Tx K mg a) : FnOk P w K mg base CX0 5 a.f_climbs a.d_climbs P_climbs (spClimbs a.C_Ratio) := by
  refine def_ok0 T.F_climbs sc_climbs (fun vs H Q E h => ?_) (fun cdv A outer s H vs Q E hr h => ?_)
  · obtain ⟨p, rs, qs, rfl, _⟩ := h
    rfl
  · obtain ⟨p, rs, qs, rfl, hp, hrs, sz, hl, z⟩ := h
    refine ⟨_, (pss_one (ps_ret (pe_callB (cr_all rfl) (by rfl) T.b_all (by decide +kernel) (pa_cons (pe_lc (own := [("before", 1), ("behind", 2)]) (g := (gTup K 2 (gCons (gName 1) (gCons (gName 2) gNil)))) (tt := tYes) rfl sc_climbs.nd (pi_zip (by rfl) T.b_zip (pa_cons (pv 0) (pa_cons (pe_slice sl_list (pv 0) (po_some pe_int) po_none) pa_nil))) (blkOk_by (N := N_climbs) (sc := defScope s_climbs) (by decide +kernel)) (fun _ _ _ _ _ => by exact (pg_tup rfl (pgs_cons (pg_name (i := 1) sc_climbs.nd rfl (Or.inl rfl)) (pgs_cons (pg_name (i := 2) sc_climbs.nd rfl (Or.inl rfl)) pgs_nil)))) (fun _ _ _ _ _ => pts_nil) (fun _ _ _ _ _ => (pe_cmpR (op_cmpV (K := K) rfl (fun _ _ => rfl) T.p_lt (ok_Ratio_lt T) (hr.mono (by decide)) (bd_Ratio_lt T) pass0) (pv 1) (pv 2) (nomark _)))) pa_nil)))), ?_⟩
    walk_at "g"
    refine ⟨p, rs, rfl, SqL.of hp, fun c hc => ?_⟩
    have ec : Ex H (upd H c (.lst (cutV rs (some 1) none))) := Ex.new hc
    have cc : (upd H c (.lst (cutV rs (some 1) none))) c = some (.lst (cutV rs (some 1) none)) := upd_same
    generalize (upd H c (.lst (cutV rs (some 1) none))) = H1 at ec cc ⊢
    have hcut : cutV rs (some 1) none = rs.tail := cut_tail rs
    rw [hcut] at cc
    walk_at "g"
    have lz : (qs.zip qs.tail).length = min rs.length rs.tail.length := by rw [List.length_zip, List.length_tail, List.length_tail, hrs.length]
    refine ⟨p, c, rs, rs.tail, rfl, SqL.of (ec _ _ hp), SqL.of cc, cp_Z (fun D i H' => Ex H1 H' ∧ H' D = some (.lst (((qs.zip qs.tail).take i).map fun e => V.bl (decide (e.1 < e.2))))) (fun D hD => ⟨Ex.new hD, upd_same⟩) (fun D hD i H' h => ⟨SqL.of (h.1 _ _ (ec _ _ hp)), SqL.of (h.1 _ _ cc)⟩) (fun D hD i x y t H' hx hy h ht => ?_) (fun D hD H' h => ?_)⟩
    · obtain ⟨ex, hd⟩ := h
      obtain ⟨qx, hqx, rx⟩ := prd_get hrs hx
      have hy' : rs[i + 1]? = some y := by rw [← List.drop_one, List.getElem?_drop] at hy; rw [Nat.add_comm]; exact hy
      obtain ⟨qy, hqy, ry⟩ := prd_get hrs hy'
      have e1 := (ec.trans ex).trans (Ex.new (o := .tup [x, y]) ht)
      have hd1 := Ex.new (o := .tup [x, y]) ht _ _ hd
      refine g_gtup (SqT.of upd_same) rfl ?_
      have e2 := ex.trans (Ex.new (o := .tup [x, y]) ht)
      generalize (upd H' t (.tup [x, y])) = H2 at e1 e2 hd1 ⊢
      walk_at "g"
      refine ⟨rfl, ?_⟩
      walk_at "g"
      refine g_rel2 T.R (rx.mono e1) (ry.mono e1).num (sz _ (List.mem_of_getElem? hqx)) (sz _ (List.mem_of_getElem? hqy)) (by decide) fun H3 e3 => ?_
      have hz : (qs.zip qs.tail)[i]? = some (qx, qy) := by
        rw [List.getElem?_zip_eq_some]
        exact ⟨hqx, by rw [← List.drop_one, List.getElem?_drop, Nat.add_comm]; exact hqy⟩
      refine ⟨_, e3 _ _ hd1, Nat.lt_of_le_of_lt (m := 1000) (by rw [List.length_map, List.length_take]; have := hrs.length; omega) (by decide), ?_, ?_⟩
      · exact (e2.trans e3).mut hD
      · rw [upd_same, take_succ_get hz, List.map_append]
        rfl
    · obtain ⟨ex, hd⟩ := h
      rw [← lz, List.take_length] at hd
      walk_at "g"
      refine g_all (bs := (qs.zip qs.tail).map fun e => decide (e.1 < e.2)) (SqL.of (by rw [List.map_map]; exact hd)) ?_
      rw [List.all_map]
      exact z H' (ec.trans ex)
/-- the values that a list or tuple of numbers gives, ascending -/
def ValsOf (d : Da) (qs : List Rat) : Prop := ∃ ds : List Da, (d = .lst ds ∨ d = .tup ds) ∧ ds.all Da.isNum = true ∧ 1 ≤ ds.length ∧ ds.length ≤ 8 ∧ qs = isort (ds.map Da.num) ∧ climbB qs = true
/-- a scale of the values qs stands at p -/
def ScaleAt (CS C : Addr) (H : Hp) (p : Addr) (qs : List Rat) : Prop := ∃ dx m rs, H p = some (.ins CS dx (putF "_marks" (.ref m) [])) ∧ H m = some (.lst rs) ∧ RatsV C H rs qs
/-- Scale(..): of numbers that differ; of any other value, an error -/
def spScaleInit (CS C B : Addr) : Sp := fun vs H Q E => ∃ (p dx : Addr) (v : V) (d : Da), vs = [.ref p, v] ∧ DaV C H v d ∧ d.fine = true ∧ H p = some (.ins CS dx []) ∧
  (∀ qs, ValsOf d qs → ∀ m rs H', H m = none → (∀ b o, H b = some o → b ≠ p → H' b = some o) → H' p = some (.ins CS dx (putF "_marks" (.ref m) [])) → H' m = some (.lst rs) → RatsV C H' rs qs → Q .non H') ∧
  ((∀ qs, ¬ ValsOf d qs) → ∀ dd H', H dd = none → (∀ b o, H b = some o → b ≠ p → H' b = some o) → H' dd = some (.xd [("given", v)]) → E (.ref B) (some dd) H')
theorem ok_Scale_init (T : Tx K mg a) : FnOk P w K mg base (L2N.CX P w) 8 a.f_Scale_init a.d_Scale_init P_Scale_init (spScaleInit a.C_Scale a.C_Ratio a.C_BadValues) := by
  refine T.F_Scale_init.ok sc_Scale_init (fun vs H Q E h => ?_) (fun cdv A outer s H vs Q E hr h => ?_)
  · obtain ⟨p, dx, v, d, rfl, _⟩ := h
    rfl
  · obtain ⟨p, dx, v, d, rfl, hv, fine, hp, good, bad⟩ := h
    refine ⟨_, (pss_cons (ps_if (PW.pt (pw_or (pt_not (pt_val (pe_call (ok_are_numbers T) (hr.mono (by decide)) (by rfl) T.g_are_numbers T.F_are_numbers.kp (bd_are_numbers T) .nil pass0 (pa_cons (pv 1) pa_nil)))) (pw_or1 (pt_not (pt_chain op_le op_le pe_int (pe_callB call_lenQ (by rfl) T.b_len (by decide +kernel) (pa_cons (pv 1) pa_nil)) (pe_glob (v := .int 8) rfl T.c_MOST_VALUES.choose_spec ⟨_, rfl⟩)))))) (pss_one (L2N.ps_raise rfl (L2N.takes_of rfl rfl rfl rfl) (pmk_oexN T.oc_BadValues T.fi_BadValues T.ti_BadValues (ok_BadValues_init T) (hr.mono (by decide)) (bd_BadValues_init T) .nil pass0 (by rfl) T.g_BadValues (pa_cons (pv 1) pa_nil)))) pss_nil) (pss_cons (ps_fld (pv 0) (pe_call (ok_distinct T) (hr.mono (by decide)) (by rfl) T.g_distinct T.F_distinct.kp (bd_distinct T) .nil pass0 (pa_cons (pv 1) pa_nil)) rfl) (pss_one (ps_if (pt_cmpR op_lt (pe_callB call_lenQ (by rfl) T.b_len (by decide +kernel) (pa_cons (pe_fld (pv 0) rfl) pa_nil)) (pe_callB call_lenQ (by rfl) T.b_len (by decide +kernel) (pa_cons (pv 1) pa_nil)) (nomark _)) (pss_one (L2N.ps_raise rfl (L2N.takes_of rfl rfl rfl rfl) (pmk_oexN T.oc_BadValues T.fi_BadValues T.ti_BadValues (ok_BadValues_init T) (hr.mono (by decide)) (bd_BadValues_init T) .nil pass0 (by rfl) T.g_BadValues (pa_cons (pv 1) pa_nil)))) pss_nil)))), ?_⟩
    walk_at "g"
    have kp : ∀ {H1 : Hp}, Ex H H1 → H1 p = some (.ins a.C_Scale dx []) := fun e => e _ _ hp
    refine ⟨v, d, rfl, hv, fine, fun H1 e1 => ⟨_, rfl, ?_⟩⟩
    cases hn : d.nums with
    | false =>
      walk_at "g"
      refine g_oex fun dd H' hd ex hx => bad (fun qs h => ?_) dd H' (e1.free hd) (fun b o hb _ => (e1.trans ex) b o hb) hx
      obtain ⟨ds, h1, h2, _⟩ := h
      rcases h1 with rfl | rfl
      · rw [show (Da.lst ds).nums = ds.all Da.isNum from rfl, h2] at hn; cases hn
      · rw [show (Da.tup ds).nums = ds.all Da.isNum from rfl, h2] at hn; cases hn
    | true =>
      obtain ⟨p1, xs, ds, rfl, hd, hp1, hds, hall⟩ := nums_seq (hv.mono e1) hn
      obtain ⟨hl, hf⟩ := fine_seq hd fine
      have hlx := hds.length
      walk_at "g"
      refine g_lenLT hp1 ?_
      walk_at "g"
      have uni : ∀ qs, ValsOf d qs → 1 ≤ ds.length ∧ ds.length ≤ 8 ∧ climbB (isort (ds.map Da.num)) = true := fun qs h => by
        obtain ⟨ds2, h1, _, h3, h4, h5, h6⟩ := h
        have e : ds = ds2 := by
          rcases hd with rfl | rfl <;> rcases h1 with h1 | h1 <;> first | cases h1; rfl | cases h1
        subst e
        subst h5
        exact ⟨h3, h4, h6⟩
      refine g_dec (fun h1 => ?_) (fun h1 => ?_)
      · walk_at "g"
        refine g_ite (fun h2 => ?_) (fun h2 => ?_)
        · walk_at "g"
          refine g_oex fun dd H' hd ex hx => bad (fun qs h => ?_) dd H' (e1.free hd) (fun b o hb _ => (e1.trans ex) b o hb) hx
          have := uni qs h
          simp at h2
          omega
        · have h8 : ds.length ≤ 8 := by simp at h2; omega
          walk_at "g"
          refine ⟨.ref p1, ds, rfl, ?_, hall, hf, hl, fun m rs H2 hm e2 hm2 hrs => ?_⟩
          · have := hv.mono e1
            rcases hd with rfl | rfl
            · exact .inl this
            · exact .inr this
          have ex2 := e1.trans e2
          have hp2 := kp ex2
          have npm : m ≠ p := (ne_of_none hp (e1.free hm)).symm
          have npp : p1 ≠ p := by
            intro w
            subst w
            rcases hp1 with h | h <;> rw [kp e1] at h <;> cases h
          walk_at "g"
          refine ⟨p, a.C_Scale, dx, [], rfl, hp2, T.RS.cl, T.RS.nM, by decide, ?_⟩
          have kp3 : ∀ b o, H b = some o → b ≠ p → (upd H2 p (.ins a.C_Scale dx (putF "_marks" (.ref m) []))) b = some o := fun b o hb hne => by
            rw [upd_ne hne]; exact ex2 _ _ hb
          have hp3 : (upd H2 p (.ins a.C_Scale dx (putF "_marks" (.ref m) []))) p = some (.ins a.C_Scale dx (putF "_marks" (.ref m) [])) := upd_same
          have hm3 : (upd H2 p (.ins a.C_Scale dx (putF "_marks" (.ref m) []))) m = some (.lst rs) := by rw [upd_ne npm]; exact hm2
          have hp13 : (upd H2 p (.ins a.C_Scale dx (putF "_marks" (.ref m) []))) p1 = some (.lst xs) ∨ (upd H2 p (.ins a.C_Scale dx (putF "_marks" (.ref m) []))) p1 = some (.tup xs) := by
            rw [upd_ne npp]
            exact hp1.imp (fun h => e2 _ _ h) fun h => e2 _ _ h
          have hrs3 : RatsV a.C_Ratio (upd H2 p (.ins a.C_Scale dx (putF "_marks" (.ref m) []))) rs (dst (ds.map Da.num)) := Paired.mapP hrs fun v q r => by
            obtain ⟨p', rfl, dx', h'⟩ := r
            refine ⟨p', rfl, dx', ?_⟩
            rw [upd_ne]
            · exact h'
            · intro w
              rw [w, hp2] at h'
              injection h' with h'
              injection h' with h1 _ _
              exact T.neS h1.symm
          generalize (upd H2 p (.ins a.C_Scale dx (putF "_marks" (.ref m) []))) = H3 at kp3 hp3 hm3 hp13 hrs3 ⊢
          walk_at "g"
          refine ⟨p, a.C_Scale, dx, _, _, rfl, hp3, T.RS.cl, T.RS.nM, marks_look m, ?_⟩
          walk_at "g"
          refine g_lenQ (SqL.of hm3) ?_
          walk_at "g"
          refine g_lenLT hp13 ?_
          walk_at "g"
          have hlr := hrs3.length
          have hdc := dst_climb (ds.map Da.num)
          rw [List.length_map] at hdc
          refine g_dec (fun hlt => ?_) (fun hlt => ?_)
          · walk_at "g"
            refine g_oex fun dd H' hd ex hx => bad (fun qs h => ?_) dd H' ?_ (fun b o hb hne => ex _ _ (kp3 b o hb hne)) hx
            · have h1 := hdc.1.mpr (uni qs h).2.2
              omega
            · cases hq : H dd with
              | none => rfl
              | some ob =>
                by_cases hpp : dd = p
                · subst hpp; rw [hp3] at hd; cases hd
                · rw [kp3 _ _ hq hpp] at hd; cases hd
          · walk_at "g"
            have hc : climbB (isort (ds.map Da.num)) = true := hdc.1.mp (by omega)
            rw [hdc.2 hc] at hrs3
            exact good _ ⟨ds, hd, hall, by omega, h8, rfl, hc⟩ m rs _ (e1.free hm) kp3 hp3 hm3 hrs3
      · walk_at "g"
        refine g_oex fun dd H' hd ex hx => bad (fun qs h => ?_) dd H' (e1.free hd) (fun b o hb _ => (e1.trans ex) b o hb) hx
        have := uni qs h
        omega
theorem ScaleAt.mono {CS C : Addr} {H H' : Hp} {p : Addr} {qs : List Rat} (e : Ex H H') (h : ScaleAt CS C H p qs) : ScaleAt CS C H' p qs := let ⟨dx, m, rs, h1, h2, h3⟩ := h; ⟨dx, m, rs, e _ _ h1, e _ _ h2, h3.mono e⟩
def spLenS (CS C : Addr) : Sp := fun vs H Q _ => ∃ (p : Addr) (qs : List Rat), vs = [.ref p] ∧ ScaleAt CS C H p qs ∧ ∀ H', Ex H H' → Q (.int (qs.length : Int)) H'
theorem ok_Scale_len (T : Tx K mg a) : FnOk P w K mg base CX0 1 a.f_Scale_len a.d_Scale_len P_Scale_len (spLenS a.C_Scale a.C_Ratio) := by
  refine def_ok0 T.F_Scale_len sc_Scale_len (fun vs H Q E h => ?_) (fun cdv A outer s H vs Q E hr h => ?_)
  · obtain ⟨p, qs, rfl, _⟩ := h
    rfl
  · obtain ⟨p, qs, rfl, ⟨dx, m, rs, hp, hm, hrs⟩, z⟩ := h
    refine ⟨_, (pss_one (ps_ret (pe_callB call_lenQ (by rfl) T.b_len (by decide +kernel) (pa_cons (pe_fld (pv 0) rfl) pa_nil)))), ?_⟩
    walk_at "g"
    refine ⟨p, a.C_Scale, dx, _, _, rfl, hp, T.RS.cl, T.RS.nM, marks_look m, ?_⟩
    walk_at "g"
    refine g_lenQ (SqL.of hm) ?_
    rw [hrs.length]
    exact z H (Ex.refl H)
def spMarksS (CS C : Addr) : Sp := fun vs H Q _ => ∃ (p : Addr) (qs : List Rat), vs = [.ref p] ∧ ScaleAt CS C H p qs ∧ ∀ l rs H', H l = none → Ex H H' → H' l = some (.lst rs) → RatsV C H' rs qs → Q (.ref l) H'
theorem ok_Scale_marks (T : Tx K mg a) : FnOk P w K mg base CX0 1 a.f_Scale_marks a.d_Scale_marks P_Scale_marks (spMarksS a.C_Scale a.C_Ratio) := by
  refine def_ok0 T.F_Scale_marks sc_Scale_marks (fun vs H Q E h => ?_) (fun cdv A outer s H vs Q E hr h => ?_)
  · obtain ⟨p, qs, rfl, _⟩ := h
    rfl
  · obtain ⟨p, qs, rfl, ⟨dx, m, rs, hp, hm, hrs⟩, z⟩ := h
    refine ⟨_, (pss_one (ps_ret (pe_callTy call_list_of (by rfl) T.b_list (by decide +kernel) (pa_cons (pe_fld (pv 0) rfl) pa_nil)))), ?_⟩
    walk_at "g"
    refine ⟨p, a.C_Scale, dx, _, _, rfl, hp, T.RS.cl, T.RS.nM, marks_look m, ?_⟩
    walk_at "g"
    exact ⟨m, rs, rfl, .inl (SqL.of hm), fun l hl => z l rs _ hl (Ex.new hl) upd_same (hrs.mono (Ex.new hl))⟩
def spEqS (CS C : Addr) : Sp := fun vs H Q _ => ∃ (p : Addr) (y : V) (qs : List Rat), vs = [.ref p, y] ∧ ScaleAt CS C H p qs ∧ (∀ q ∈ qs, Sz 3000 q) ∧
  ((∃ (p2 : Addr) (cs : List Rat), y = .ref p2 ∧ ScaleAt CS C H p2 cs ∧ (∀ q ∈ cs, Sz 3000 q) ∧ ∀ H', Ex H H' → Q (.bl (decide (qs = cs))) H') ∨ (∃ d, DaV C H y d ∧ ∀ H', Ex H H' → Q (.bl false) H'))
theorem ok_Scale_eq (T : Tx K mg a) : FnOk P w K mg base CX0 7 a.f_Scale_eq a.d_Scale_eq P_Scale_eq (spEqS a.C_Scale a.C_Ratio) := by
  refine def_ok0 T.F_Scale_eq sc_Scale_eq (fun vs H Q E h => ?_) (fun cdv A outer s H vs Q E hr h => ?_)
  · obtain ⟨p, y, qs, rfl, _⟩ := h
    rfl
  · obtain ⟨p, y, qs, rfl, ⟨dx, m, rs, hp, hm, hrs⟩, sz, z⟩ := h
    refine ⟨_, (pss_one (ps_ret (pe_and (pe_callB call_isi (by rfl) T.b_isinstance (by decide +kernel) (pa_cons (pv 1) (pa_cons (pe_glob (v := .ref a.C_Scale) rfl T.g_Scale rfl) pa_nil))) (pe_one (pe_cmpR (op_lsR hr.units0 T.R (op_cmp (fun _ _ => rfl) T.p_eq (ok_Ratio_eq T) (hr.mono (by decide) : Room 5 _).in1 (bd_Ratio_eq T) pass0)) (pe_fld (pv 0) rfl) (pe_fld (pv 1) rfl) (nomark _)))))), ?_⟩
    walk_at "g"
    rcases z with ⟨p2, cs, rfl, ⟨dx2, m2, rs2, hp2, hm2, hrs2⟩, sz2, z⟩ | ⟨d, hy, z⟩
    · refine g_isi (ty_sc T.R T.RS hp2) (.own _) kit_scS ?_
      walk_at "g"
      refine ⟨p, a.C_Scale, dx, _, _, rfl, hp, T.RS.cl, T.RS.nM, marks_look m, ?_⟩
      walk_at "g"
      refine ⟨p2, a.C_Scale, dx2, _, _, rfl, hp2, T.RS.cl, T.RS.nM, marks_look m2, ?_⟩
      exact ⟨m, m2, rs, rs2, qs, cs, rfl, rfl, hm, hm2, hrs, hrs2.nums, sz2, fun H' e => z H' e⟩
    · refine g_isi (hy.tyx T.R) (.own _) (kit_sc T.RS T.neS d) ?_
      walk_at "g"
      exact z H (Ex.refl H)
/-- the place of a number, or an error -/
def spPlace (CS C B : Addr) : Sp := fun vs H Q E => ∃ (p : Addr) (v : V) (d : Da) (qs : List Rat), vs = [.ref p, v] ∧ ScaleAt CS C H p qs ∧ (∀ q ∈ qs, Sz 3000 q) ∧ qs.length ≤ 1000 ∧ DaV C H v d ∧ d.fine = true ∧
  (∀ i : Nat, d.isNum = true → qs[i]? = some d.num → (∀ j, j < i → qs[j]? ≠ some d.num) → ∀ H', Ex H H' → Q (.int (i : Int)) H') ∧
  ((∀ i : Nat, d.isNum = true → qs[i]? ≠ some d.num) → ∀ dd H', H dd = none → Ex H H' → H' dd = some (.xd [("given", v)]) → E (.ref B) (some dd) H')
theorem ok_Scale_place (T : Tx K mg a) : FnOk P w K mg base (L2N.CX P w) 6 a.f_Scale_place a.d_Scale_place P_Scale_place (spPlace a.C_Scale a.C_Ratio a.C_NoValue) := by
  refine T.F_Scale_place.ok sc_Scale_place (fun vs H Q E h => ?_) (fun cdv A outer s H vs Q E hr h => ?_)
  · obtain ⟨p, v, d, qs, rfl, _⟩ := h
    rfl
  · obtain ⟨p, v, d, qs, rfl, ⟨dx, m, rs, hp, hm, hrs⟩, sz, hl, hv, fine, good, bad⟩ := h
    refine ⟨_, (pss_cons (ps_for (passes_of rfl) rfl (pi_enum (by rfl) T.b_enumerate (pa_cons (pe_fld (pv 0) rfl) pa_nil)) (pg_tup rfl (pgs_cons (pg_name (i := 2) sc_Scale_place.nd rfl (Or.inl rfl)) (pgs_cons (pg_name (i := 3) sc_Scale_place.nd rfl (Or.inl rfl)) pgs_nil))) (pss_one (ps_if (pt_cmpR (op_cmp (fun _ _ => rfl) T.p_eq (ok_Ratio_eq T) (hr.mono (by decide)) (bd_Ratio_eq T) pass0) (pv 3) (pv 1) (nomark _)) (pss_one (ps_ret (pv 2))) pss_nil))) (pss_one (L2N.ps_raise rfl (L2N.takes_of rfl rfl rfl rfl) (pmk_oexN T.oc_NoValue T.fi_NoValue T.ti_NoValue (ok_NoValue_init T) (hr.mono (by decide)) (bd_NoValue_init T) .nil pass0 (by rfl) T.g_NoValue (pa_cons (pv 1) pa_nil))))), ?_⟩
    walk_at "g"
    refine ⟨p, a.C_Scale, dx, _, _, rfl, hp, T.RS.cl, T.RS.nM, marks_look m, ?_⟩
    walk_at "g"
    refine ⟨m, rs, rfl, SqL.of hm, lp_E (xs := rs) (fun i σ' H' => ∃ u2 u3, σ' = [some (.ref p), some v, u2, u3] ∧ Ex H H' ∧ ∀ j, j < i → d.isNum = true → qs[j]? ≠ some d.num) ⟨none, none, rfl, Ex.refl _, fun j h => absurd h (by omega)⟩
      (fun i σ' H' _ h => by obtain ⟨_, _, _, ex, _⟩ := h; exact SqL.of (ex _ _ hm)) (fun i x t σ' H' hx h ht => ?_) (fun σ' H' h => ?_)⟩
    · obtain ⟨u2, u3, rfl, ex, hno⟩ := h
      obtain ⟨q, hq, rx⟩ := prd_get hrs hx
      have e1 := ex.trans (Ex.new (o := .tup [.int (i : Int), x]) ht)
      refine g_gtup (SqT.of upd_same) rfl ?_
      generalize (upd H' t (.tup [.int (i : Int), x])) = H2 at e1 ⊢
      walk_at "g"
      cases hn : d.isNum with
      | true =>
        refine g_eqN T.R (rx.mono e1) ((hv.mono e1).num hn) (Da.numSz fine) (by decide) fun H3 e3 => ?_
        walk_at "g"
        refine g_dec (fun h => ?_) (fun h => ?_)
        · walk_at "g"
          subst h
          exact good i hn hq (fun j hj => hno j hj hn) H3 (e1.trans e3)
        · walk_at "g"
          refine ⟨_, _, rfl, e1.trans e3, fun j hj _ => ?_⟩
          by_cases hji : j = i
          · subst hji
            rw [hq]
            intro e
            exact h (Option.some.inj e)
          · exact hno j (by omega) hn
      | false =>
        refine g_eqO T.R (rx.mono e1) ((hv.mono e1).tyx T.R) d.kty (by rw [d.ty_num, hn]) fun H3 e3 => ?_
        walk_at "g"
        exact ⟨_, _, rfl, e1.trans e3, fun j hj h => by cases h⟩
    · obtain ⟨u2, u3, rfl, ex, hno⟩ := h
      walk_at "g"
      refine g_oex fun dd H2 hd e2 hx => bad (fun i hn => ?_) dd H2 (ex.free hd) (ex.trans e2) hx
      by_cases hi : i < rs.length
      · exact hno i hi hn
      · rw [List.getElem?_eq_none (by have := hrs.length; omega)]
        simp
/-- the led scale, or an error -/
def spLed (CS C B : Addr) : Sp := fun vs H Q E => ∃ (p : Addr) (fv av : V) (f d : Da) (qs : List Rat), vs = [.ref p, fv, av] ∧ ScaleAt CS C H p qs ∧ (∀ q ∈ qs, Sz 45 q) ∧ Sz 45 f.num ∧ Sz 45 d.num ∧ qs.Pairwise (· < ·) ∧ 1 ≤ qs.length ∧ qs.length ≤ 8 ∧ DaV C H fv f ∧ f.fine = true ∧ DaV C H av d ∧ d.fine = true ∧
  (f.isNum = true → f.num ≠ 0 → d.isNum = true → ∀ p2 H', H p2 = none → Ex H H' → ScaleAt CS C H' p2 (isort (qs.map fun q => q * f.num + d.num)) → Q (.ref p2) H') ∧
  ((¬ (f.isNum = true ∧ f.num ≠ 0)) → ∀ dd H', H dd = none → Ex H H' → H' dd = some (.xd [("given", fv)]) → E (.ref B) (some dd) H') ∧
  (f.isNum = true → f.num ≠ 0 → d.isNum = false → ∀ dd H', H dd = none → Ex H H' → H' dd = some (.xd [("given", av)]) → E (.ref B) (some dd) H')
theorem ok_Scale_led (T : Tx K mg a) : FnOk P w K mg base (L2N.CX P w) 10 a.f_Scale_led a.d_Scale_led P_Scale_led (spLed a.C_Scale a.C_Ratio a.C_BadNumber) := by
  refine T.F_Scale_led.ok sc_Scale_led (fun vs H Q E h => ?_) (fun cdv A outer s H vs Q E hr h => ?_)
  · obtain ⟨p, fv, av, f, d, qs, rfl, _⟩ := h
    rfl
  · obtain ⟨p, fv, av, f, d, qs, rfl, ⟨dx, m, rs, hp, hm, hrs⟩, sz, szf, szd, asc, l1, l8, hf, ff, hd, fd, good, bad1, bad2⟩ := h
    refine ⟨_, (pss_cons (ps_if (PW.pt (pw_or (pt_not (pt_val (pe_call (ok_is_number T) (hr.mono (by decide)) (by rfl) T.g_is_number T.F_is_number.kp (bd_is_number T) .nil pass0 (pa_cons (pv 1) pa_nil)))) (pw_or1 (pt_cmpR (opR_or op_eq (op_cmp (fun _ _ => rfl) T.p_eq (ok_Ratio_eq T) (hr.mono (by decide)) (bd_Ratio_eq T) pass0)) (pv 1) pe_int (nomark _))))) (pss_one (L2N.ps_raise rfl (L2N.takes_of rfl rfl rfl rfl) (pmk_oexN T.oc_BadNumber T.fi_BadNumber T.ti_BadNumber (ok_BadNumber_init T) (hr.mono (by decide)) (bd_BadNumber_init T) .nil pass0 (by rfl) T.g_BadNumber (pa_cons (pv 1) pa_nil)))) pss_nil) (pss_cons (ps_if (pt_not (pt_val (pe_call (ok_is_number T) (hr.mono (by decide)) (by rfl) T.g_is_number T.F_is_number.kp (bd_is_number T) .nil pass0 (pa_cons (pv 2) pa_nil)))) (pss_one (L2N.ps_raise rfl (L2N.takes_of rfl rfl rfl rfl) (pmk_oexN T.oc_BadNumber T.fi_BadNumber T.ti_BadNumber (ok_BadNumber_init T) (hr.mono (by decide)) (bd_BadNumber_init T) .nil pass0 (by rfl) T.g_BadNumber (pa_cons (pv 2) pa_nil)))) pss_nil) (pss_one (ps_ret (pe_make T.mk_Scale (ok_Scale_init T) (hr.mono (by decide)) (by rfl) T.g_Scale (bd_Scale_init T) .nil passN (pa_cons (pe_lc (own := [("mark", 3)]) (g := (gName 3)) (tt := tYes) rfl sc_Scale_led.nd (pi_list (pe_fld (pv 0) rfl)) (blkOk_by (N := N_Scale_led) (sc := defScope s_Scale_led) (by decide +kernel)) (fun _ _ _ _ _ => pg_name (i := 3) sc_Scale_led.nd rfl (Or.inl rfl)) (fun _ _ _ _ _ => pts_nil) (fun _ _ _ _ _ => (pe_op (op_own T.o_add (ok_Ratio_add T) (hr.mono (by decide)) (bd_Ratio_add T) pass0) (pe_op (op_own T.o_mul (ok_Ratio_mul T) (hr.mono (by decide)) (bd_Ratio_mul T) pass0) (pv 3) (pv 1)) (pv 2)))) pa_nil)))))), ?_⟩
    walk_at "g"
    refine ⟨fv, f.ty a.C_Ratio, rfl, hf.tyx T.R, f.kty, fun H1 e1 => ⟨_, rfl, ?_⟩⟩
    rw [f.ty_num]
    cases hn : f.isNum with
    | false =>
      walk_at "g"
      exact g_oex fun dd H' h1 ex hx => bad1 (fun h => by rw [hn] at h; cases h.1) dd H' (e1.free h1) (e1.trans ex) hx
    | true =>
      have nf := (hf.mono e1).num hn
      walk_at "g"
      refine g_eqNI T.R nf (sz_int (w := 0) (by decide) (by decide)) fun H2 e2 => ⟨_, rfl, ?_⟩
      have ex2 := e1.trans e2
      refine g_dec (fun h0 => ?_) (fun h0 => ?_)
      · walk_at "g"
        exact g_oex fun dd H' h1 ex hx => bad1 (fun h => h.2 h0) dd H' (ex2.free h1) (ex2.trans ex) hx
      · have hf0 : f.num ≠ 0 := h0
        walk_at "g"
        refine ⟨av, d.ty a.C_Ratio, rfl, (hd.mono ex2).tyx T.R, d.kty, fun H3 e3 => ⟨_, rfl, ?_⟩⟩
        rw [d.ty_num]
        have ex3 := ex2.trans e3
        cases hm2 : d.isNum with
        | false =>
          walk_at "g"
          exact g_oex fun dd H' h1 ex hx => bad2 hn hf0 hm2 dd H' (ex3.free h1) (ex3.trans ex) hx
        | true =>
          walk_at "g"
          refine ⟨p, a.C_Scale, dx, _, _, rfl, ex3 _ _ hp, T.RS.cl, T.RS.nM, marks_look m, ?_⟩
          have szl : ∀ q ∈ qs, Sz 200 (q * f.num + d.num) := fun q hq => sz_le (((sz q hq).mul szf).add (sz_le szd (by decide : 45 ≤ 45 + 45))) (by decide)
          refine ⟨m, rfl, ⟨rs, SqL.of (ex3 _ _ hm)⟩, cp_L (xs := rs) (fun D i H' => ∃ ls, Ex H3 H' ∧ H' D = some (.lst ls) ∧ RatsV a.C_Ratio H' ls ((qs.take i).map fun q => q * f.num + d.num)) (fun D hD => ⟨[], Ex.new hD, upd_same, .nil⟩) (fun D hD i H' _ h => by
            obtain ⟨_, ex, _⟩ := h
            exact SqL.of (ex _ _ (ex3 _ _ hm))) (fun D hD i x H' hx h => ?_) (fun D hD H' h => ?_)⟩
          · obtain ⟨ls, ex, hD', hls⟩ := h
            obtain ⟨q, hq, rx⟩ := prd_get hrs hx
            have hq' := List.mem_of_getElem? hq
            refine ⟨rfl, ?_⟩
            walk_at "g"
            refine g_num2 (rx.mono (ex3.trans ex)) (((hf.mono (ex3.trans ex))).num hn) (sz q hq') szf (by decide) fun u H4 e4 hu => ?_
            walk_at "g"
            refine g_num2 hu (((hd.mono ((ex3.trans ex).trans e4))).num hm2) ((sz q hq').mul szf) (sz_le szd (by decide)) (by decide) fun u2 H5 e5 hu2 => ?_
            have ee := e4.trans e5
            refine ⟨ls, ee _ _ hD', Nat.lt_of_le_of_lt (m := 1000) (by rw [hls.length, List.length_map, List.length_take]; omega) (by decide), _, (ex.trans ee).mut hD, upd_same, ?_⟩
            rw [take_succ_get hq, List.map_append]
            exact prd_app ((hls.mono ee).set (ee _ _ hD')) (.cons (hu2.set (ee _ _ hD')) .nil)
          · obtain ⟨ls, ex, hD', hls⟩ := h
            rw [show rs.length = qs.length from hrs.length, List.take_length] at hls
            walk_at "g"
            intro x dx2 hx hdx hne
            have ex4 := ex3.trans ex
            have ex5 : Ex H' (upd (upd H' dx2 (.own x)) x (.ins a.C_Scale dx2 [])) := fun b o hb => by
              rw [upd_ne (ne_of_none hb hx), upd_ne (ne_of_none hb hdx)]
              exact hb
            have hval : ValsOf (.lst ((qs.map fun q => q * f.num + d.num).map .rat)) (isort (qs.map fun q => q * f.num + d.num)) :=
              ⟨_, .inl rfl, rats_all _, by rw [List.length_map, List.length_map]; exact l1, by rw [List.length_map, List.length_map]; exact l8, by rw [rats_num], led_climb asc hf0⟩
            refine ⟨x, dx2, .ref D, _, rfl, .lst (ex5 _ _ hD') (RatsV.da (hls.mono ex5)), ?_, upd_same, fun cs hc m3 rs3 H6 hm3 keep hx6 hm6 hrs6 => ⟨rfl, good hn hf0 hm2 x H6 (ex4.free hx) (fun b o hb => ?_) ⟨dx2, m3, rs3, hx6, hm6, ?_⟩⟩, fun h => absurd hval (h _)⟩
            · unfold Da.fine
              rw [Bool.and_eq_true]
              refine ⟨decide_eq_true (by rw [List.length_map, List.length_map]; omega), rats_fine fun q hq => ?_⟩
              obtain ⟨q0, h0, rfl⟩ := List.mem_map.mp hq
              exact szl q0 h0
            · have hb' := ex4 _ _ hb
              exact keep b o (ex5 _ _ hb') (ne_of_none hb' hx)
            · obtain ⟨ds2, h1, _, _, _, h5, _⟩ := hc
              rcases h1 with h1 | h1
              · injection h1 with h1
                subst h1
                rw [rats_num] at h5
                rw [← h5]
                exact hrs6
              · cases h1
end
end Kx


set_option maxHeartbeats 4000000
namespace Kx
open PySem PySem.Spec PyProof.Rows L2 Fm
local macro_rules | `(tactic| walk_at "gv") => `(tactic| ((with_reducible refine' g_var ?gh ?_); (case gh => exact rfl)))
local macro_rules | `(tactic| walk_at "g1") => `(tactic| first
  | walk_at "gv"
  | with_reducible refine g_c ?_ | with_reducible refine g_op ?_ | with_reducible refine g_un ?_ | with_reducible refine g_I0 ?_ | with_reducible refine g_U ?_
  | with_reducible refine g_eqI ?_ | with_reducible refine g_neI ?_ | with_reducible refine g_eqS ?_ | with_reducible refine g_neS ?_
  | with_reducible refine g_test ?_ | with_reducible refine g_B ?_ | with_reducible refine g_bl ?_ | with_reducible refine g_not ?_ | with_reducible refine g_and ?_ | with_reducible refine g_or ?_
  | with_reducible refine g_andV ?_ | with_reducible refine g_orV ?_ | with_reducible refine g_notV ?_ | with_reducible refine g_chain ?_ | with_reducible refine g_if ?_ | with_reducible refine g_ifS ?_
  | with_reducible refine g_seq ?_ | with_reducible refine g_next ?_ | with_reducible refine g_break ?_ | with_reducible refine g_cont ?_ | with_reducible refine g_drop ?_ | with_reducible refine g_ret ?_ | with_reducible refine g_retN ?_
  | with_reducible refine g_asg ?_ | with_reducible refine g_name ?_ | with_reducible refine g_par ?_ | with_reducible refine g_par2 ?_ | with_reducible refine g_fld ?_ | with_reducible refine g_sfld ?_
  | with_reducible refine g_nil ?_ | with_reducible refine g_cons ?_ | with_reducible refine g_tup ?_ | with_reducible refine g_lst ?_ | with_reducible refine g_call ?_ | with_reducible refine g_meth ?_ | with_reducible refine g_make1 ?_ | with_reducible refine g_make ?_ | with_reducible refine g_cb ?_ | with_reducible refine g_sub ?_ | with_reducible refine g_m0 ?_ | with_reducible refine g_gcons ?_ | with_reducible refine g_gnil ?_ | with_reducible refine g_for ?_ | with_reducible refine g_lc ?_ | with_reducible refine g_ilist ?_ | with_reducible refine g_itup ?_ | with_reducible refine g_rng1 ?_ | with_reducible refine g_rng3 ?_ | with_reducible refine g_yes ?_ | with_reducible refine g_sl ?_ | with_reducible refine g_nopart ?_ | with_reducible refine g_part ?_ | with_reducible refine g_exI ?_ | with_reducible refine g_m1 ?_ | with_reducible refine g_isS ?_ | with_reducible refine g_bm ?_ | with_reducible refine g_revL ?_ | with_reducible refine g_istr ?_ | with_reducible refine g_notInS ?_ | with_reducible refine g_absI ?_ | with_reducible refine g_intI ?_ | with_reducible refine g_izip ?_ | with_reducible refine g_ienum ?_ | with_reducible refine g_bm0 ?_ | with_reducible refine g_mko ?_ | with_reducible refine g_methW ?_ | with_reducible refine g_callW ?_
  | with_reducible refine iteT ?_ | with_reducible refine iteF ?_ | with_reducible refine g_gcd ?_)
local macro_rules | `(tactic| walk_at "g") => `(tactic| (repeat (first | walk_at "g1" | dsimp only [cx_K, cx_Kn, b_nt, b_nf])))
local macro_rules | `(tactic| walk_at "mul") => `(tactic| exact mulA (a := 200) (b := 200) (by omega) (by omega) (by decide))
local macro_rules | `(tactic| walk_at "pow") => `(tactic| exact ⟨by omega, by omega, by omega⟩)

def spSh (C : Addr) (n : Nat) : Sp := fun vs H Q _ => ∃ (v : V) (d : Da), vs = [v] ∧ DaV C H v d ∧ d.fine = true ∧ d.dp < n ∧ ∀ r H', Ex H H' → DpN H H' r d.sh → Q r H'
section
variable {P : Program} {w : World} {K : PySem.W.Frag} {mg : Str → Option Value} {base : Heap} {a : Ad}
theorem shown_step (T : Tx K mg a) {n k : Nat} (F' : FnOk P w K mg base CX0 k a.f_Lshown a.d_Lshown P_Lshown (spSh a.C_Ratio n)) : FnOk P w K mg base CX0 (k + 1) a.f_Lshown a.d_Lshown P_Lshown (spSh a.C_Ratio (n + 1)) := by
  refine def_ok0 T.F_Lshown sc_Lshown (fun vs H Q E h => ?_) (fun cdv A outer s H vs Q E hr h => ?_)
  · obtain ⟨v, d, rfl, _⟩ := h
    rfl
  · obtain ⟨v, d, rfl, hv, fine, hdp, z⟩ := h
    refine ⟨_, (pss_cons (ps_if (pt_val (pe_callB call_isi (by rfl) T.b_isinstance (by decide +kernel) (pa_cons (pv 0) (pa_cons (pe_glob (v := .ref a.C_Ratio) rfl T.g_Ratio rfl) pa_nil)))) (pss_one (ps_ret (pe_lst (pa_cons pe_str (pa_cons (pe_fld (pv 0) rfl) (pa_cons (pe_fld (pv 0) rfl) pa_nil)))))) pss_nil) (pss_cons (ps_if (pt_val (pe_callB call_isi (by rfl) T.b_isinstance (by decide +kernel) (pa_cons (pv 0) (pa_cons (pe_bltn (v := .ty "dict") (by rfl) T.b_dict (by decide +kernel) rfl) pa_nil)))) (pss_one (ps_ret (pe_lst (pa_cons pe_str (pa_cons (pe_lock (pe_lc (own := [("_law_key", 1)]) (g := (gName 1)) (tt := tYes) rfl sc_Lshown.nd (pi_keys (pv 0)) (blkOk_by (N := N_Lshown) (sc := defScope s_Lshown) (by decide +kernel)) (fun _ _ _ _ _ => pg_name (i := 1) sc_Lshown.nd rfl (Or.inl rfl)) (fun _ _ _ _ _ => pts_nil) (fun _ _ _ _ _ => (pe_tup (pa_cons (pe_call F' hr (by rfl) T.g_Lshown T.F_Lshown.kp (bd_Lshown T) .nil pass0 (pa_cons (pv 1) pa_nil)) (pa_cons (pe_call F' hr (by rfl) T.g_Lshown T.F_Lshown.kp (bd_Lshown T) .nil pass0 (pa_cons (pe_dget (hu_of hr) (pv 0) (pv 1) (fun _ _ => rfl)) pa_nil)) pa_nil)))))) pa_nil))))) pss_nil) (pss_cons (ps_if (pt_val (pe_callB call_isiT (by rfl) T.b_isinstance (by decide +kernel) (pa_cons (pv 0) (pa_cons (pe_tup (pa_cons (pe_bltn (v := .ty "list") (by rfl) T.b_list (by decide +kernel) rfl) (pa_cons (pe_bltn (v := .ty "tuple") (by rfl) T.b_tuple (by decide +kernel) rfl) pa_nil))) pa_nil)))) (pss_one (ps_ret (pe_lst (pa_cons (pe_ifExp (pt_val (pe_callB call_isi (by rfl) T.b_isinstance (by decide +kernel) (pa_cons (pv 0) (pa_cons (pe_bltn (v := .ty "list") (by rfl) T.b_list (by decide +kernel) rfl) pa_nil)))) pe_str pe_str) (pa_cons (pe_lc (own := [("_law_item", 2)]) (g := (gName 2)) (tt := tYes) rfl sc_Lshown.nd (pi_seq (pv 0)) (blkOk_by (N := N_Lshown) (sc := defScope s_Lshown) (by decide +kernel)) (fun _ _ _ _ _ => pg_name (i := 2) sc_Lshown.nd rfl (Or.inl rfl)) (fun _ _ _ _ _ => pts_nil) (fun _ _ _ _ _ => (pe_call F' hr (by rfl) T.g_Lshown T.F_Lshown.kp (bd_Lshown T) .nil pass0 (pa_cons (pv 2) pa_nil)))) pa_nil))))) pss_nil) (pss_one (ps_ret (pe_callB cr_reprF (by rfl) T.b_repr (by decide +kernel) (pa_cons (pv 0) pa_nil))))))), ?_⟩
    walk_at "g"
    refine g_isi (hv.tyx T.R) (.own _) (kit_rat T.R d) ?_
    walk_at "g"
    have comp : ∀ (p : Addr) (xs : List V) (ds : List Da) (w : Str), v = .ref p → (H p = some (.lst xs) ∨ H p = some (.tup xs)) → DaVs a.C_Ratio H xs ds → d.sh = .list [.str w, .list (shL ds)] → fineL ds = true → ds.length ≤ 1000 → dpL ds < n → ∀ H1, Ex H H1 →
        tLc (fun σ H R => iList K (tVar 0) σ H R ∨ iTup K (tVar 0) σ H R) (gName 2) tYes (tCall (spSh a.C_Ratio n) [] E0 (tCons (tVar 2) tNil)) (List.map (fun x => x.snd) [((Str.ofString "_law_item" : Str), 2)]) (L2.start N_Lshown [v]) H1
          (fun x H2 => (V.str w :: [x]).length ≤ sizeLine ∧ ∀ l, H2 l = none → Q (.ref l) (upd H2 l (.lst (V.str w :: [x])))) := by
      intro p xs ds w hvp hp hr2 hsh hf hl hdn H1 e1
      subst hvp
      walk_at "g"
      have hp1 : H1 p = some (.lst xs) ∨ H1 p = some (.tup xs) := hp.imp (fun h => e1 _ _ h) fun h => e1 _ _ h
      have hpo : ∃ ob, H1 p = some ob := hp1.elim (fun h => ⟨_, h⟩) fun h => ⟨_, h⟩
      refine cp_Q (p := p) (xs := xs) (fun Q q => ⟨_, rfl, q⟩) hp1 (fun D i H' => ∃ ls, Ex H1 H' ∧ H' D = some (.lst ls) ∧ DpNs (upd H1 D (.lst [])) H' ls (shL (ds.take i))) (fun D hD => ⟨[], Ex.new hD, upd_same, .nil⟩) (fun D hD i H' h => by
        obtain ⟨_, ex, _⟩ := h
        obtain ⟨ob, hob⟩ := hpo
        rw [ex _ _ hob, hob]) (fun D hD i x H' hx h => ?_) (fun D hD H' h => ?_)
      · obtain ⟨ls, ex, hD', hls⟩ := h
        obtain ⟨d', hd', hvd⟩ := hr2.at hx
        have hm := List.mem_of_getElem? hd'
        refine ⟨rfl, ?_⟩
        walk_at "g"
        refine ⟨x, d', rfl, hvd.mono (e1.trans ex), fineL_mem hf hm, Nat.lt_of_le_of_lt (dpL_mem hm) hdn, fun r H2 e2 hr3 => ?_⟩
        have hD2 := e2 _ _ hD'
        have new := newD (o := .lst []) ex hD'
        refine ⟨ls, hD2, Nat.lt_of_le_of_lt (m := 1000) (by rw [hls.length, shL_len, List.length_take]; omega) (by decide), _, (ex.trans e2).mut hD, upd_same, ?_⟩
        rw [take_succ_get hd', shL_app]
        exact DpNs.snoc ((hr3.weak new).set (ob := .lst []) upd_same) ((hls.mono e2).set (ob := .lst []) upd_same)
      · obtain ⟨ls, ex, hD', hls⟩ := h
        rw [hr2.length, List.take_length] at hls
        refine ⟨len_lit rfl, fun l hl2 => ?_⟩
        refine z _ _ ((e1.trans ex).trans (Ex.new hl2)) ?_
        rw [hsh]
        refine .lst ((e1.trans ex).free hl2) upd_same (.cons (.str _) (.cons (.lst (e1.free hD) (Ex.new hl2 _ _ hD') ?_) .nil))
        refine (hls.mono (Ex.new hl2)).weak fun q hq => e1.free ?_
        by_cases hqD : q = D
        · rw [hqD, upd_same] at hq; cases hq
        · rw [upd_ne hqD] at hq; exact hq
    cases hv with
    | rat h =>
      rw [show ((Da.rat _).ty a.C_Ratio == Value.ref a.C_Ratio) = true by simp [Da.ty]]
      walk_at "g"
      refine g_top T.R.cl T.R.nT h ?_
      walk_at "g"
      refine g_bottom T.R.cl T.R.nB h ?_
      walk_at "g"
      exact ⟨len_lit rfl, fun l hl => z _ _ (Ex.new hl) (.lst hl upd_same (.cons (.str _) (.cons (.int _) (.cons (.int _) .nil))))⟩
    | dic hp hr2 =>
      rename_i p ks ds
      rw [show ((Da.dic ds).ty a.C_Ratio == Value.ref a.C_Ratio) = false by simp [Da.ty]]
      walk_at "g"
      refine g_isi ((DaV.dic hp hr2).tyx T.R) (.ty _) (kit_dic T.R2 (.dic ds)) ?_
      rw [show (Da.dic ds).isDic = true from rfl]
      walk_at "g"
      unfold Da.fine at fine
      rw [Bool.and_eq_true] at fine
      have l1 : ds.length ≤ 1 := of_decide_eq_true fine.1
      have fd := fine.2
      unfold Da.dp at hdp
      have hkl := hr2.length
      refine ⟨p, .dK ks, hp, trivial, fun od => ?_⟩
      have h1 : (upd H p (.frz od (.dK ks))) p = some (.frz od (.dK ks)) := upd_same
      have o1 : ∀ b, b ≠ p → (upd H p (.frz od (.dK ks))) b = H b := fun b hb => upd_ne hb
      have d1 : ∀ {v : V} {e : Da}, DaV a.C_Ratio H v e → e.noDic = true → DaV a.C_Ratio (upd H p (.frz od (.dK ks))) v e := fun h n => h.lock hp n
      generalize (upd H p (.frz od (.dK ks))) = H1 at h1 o1 d1 ⊢
      walk_at "g"
      refine ⟨_, rfl, p, od, rfl, .inl ⟨ks, h1, cp_K (fun D i H' => ∃ ls, Ex H1 H' ∧ H' D = some (.lst ls) ∧ DpNs (upd H1 D (.lst [])) H' ls (shD (ds.take i))) (fun D hD => ⟨[], Ex.new hD, upd_same, .nil⟩) (fun D hD i H' h => by
        obtain ⟨_, ex, _⟩ := h
        exact ex _ _ h1) (fun D hD i k v H' hx h => ?_) (fun D hD H' h => ?_)⟩⟩
      · obtain ⟨ls, ex, hD', hls⟩ := h
        obtain ⟨s, d', hd', rfl, hvd⟩ := hr2.at hx
        have hm := List.mem_of_getElem? hd'
        obtain ⟨f1, f2, f3⟩ := fineD_mem fd hm
        have hi : i = 0 := by
          have := (List.getElem?_eq_some_iff.mp hd').1
          omega
        subst hi
        have hks : ks = [(.inr s, v)] := by
          match ks, hx, hkl with
          | [x], hx, _ => simp at hx; rw [hx]
          | x :: y :: r, hx, hkl => simp at hkl; omega
        refine ⟨rfl, ?_⟩
        walk_at "g"
        refine ⟨.str s, .str s, rfl, .str s, by unfold Da.fine; exact f1, by show 0 < n; omega, fun r H2 e2 hr3 => ?_⟩
        have er := dpN_str hr3
        subst er
        refine ⟨_, rfl, _, rfl, p, v, rfl, .inl ⟨ks, .inr s, .inr ⟨od, e2 _ _ (ex _ _ h1)⟩, rfl, by rw [hks]; simp [valV]⟩, ?_⟩
        walk_at "g"
        have dm := dpD_mem hm
        refine ⟨v, d', rfl, (d1 hvd f3).mono (ex.trans e2), f2, by omega, fun r2 H3 e3 hr4 => ?_⟩
        walk_at "g"
        refine ⟨len_lit rfl, fun tq htq => ?_⟩
        have e4 : Ex H3 (upd H3 tq (.tup [.str (reprText s), r2])) := Ex.new htq
        have hD2 := e3 _ _ (e2 _ _ hD')
        have new := newD (o := .lst []) (ex.trans e2) (e2 _ _ hD')
        have new3 := newD (o := .lst []) ((ex.trans e2).trans e3) hD2
        have hD4 := e4 _ _ hD2
        refine ⟨ls, hD4, Nat.lt_of_le_of_lt (m := 1000) (by rw [hls.length, shD_len, List.length_take]; omega) (by decide), _, (((ex.trans e2).trans e3).trans e4).mut hD, upd_same, ?_⟩
        rw [take_succ_get hd', shD_app]
        refine DpNs.snoc ?_ ((hls.mono ((e2.trans e3).trans e4)).set (ob := .lst []) upd_same)
        have ntD : tq ≠ D := fun z => by rw [z, hD2] at htq; cases htq
        refine .tup (new3 _ htq) (by rw [upd_ne ntD, upd_same]) (.cons (.str _) (.cons ?_ .nil))
        exact ((hr4.mono e4).weak new).set (ob := .lst []) upd_same
      · obtain ⟨ls, ex, hD', hls⟩ := h
        rw [hkl, List.take_length] at hls
        have hp' := ex _ _ h1
        have npD : p ≠ D := fun z => by rw [← z, h1] at hD; cases hD
        refine ⟨hp', ?_⟩
        walk_at "g"
        have eH : Ex H (upd H' p (.dK ks)) := fun b o hb => by
          by_cases hbp : b = p
          · rw [hbp] at hb ⊢
            rw [upd_same, ← hb, hp]
          · rw [upd_ne hbp]
            exact ex _ _ (by rw [o1 b hbp]; exact hb)
        have hD5 : (upd H' p (.dK ks)) D = some (.lst ls) := by rw [upd_ne npD.symm]; exact hD'
        have hls5 : DpNs (upd H1 D (.lst [])) (upd H' p (.dK ks)) ls (shD ds) := hls.set (D := p) (ob := .frz od (.dK ks)) (by rw [upd_ne npD]; exact h1)
        generalize (upd H' p (.dK ks)) = H5 at eH hD5 hls5 ⊢
        refine ⟨len_lit rfl, fun l hl2 => z _ _ (eH.trans (Ex.new hl2)) (.lst (eH.free hl2) upd_same (.cons (.str _) (.cons (.lst ?_ (Ex.new hl2 _ _ hD5) ?_) .nil)))⟩
        · rw [← o1 D npD.symm]; exact hD
        · refine (hls5.mono (Ex.new hl2)).weak fun q hq => ?_
          by_cases hqD : q = D
          · rw [hqD, upd_same] at hq; cases hq
          · rw [upd_ne hqD] at hq
            by_cases hqp : q = p
            · rw [hqp, h1] at hq; cases hq
            · rw [← o1 q hqp]; exact hq
    | lst hp hr2 =>
      rename_i p xs ds
      rw [show ((Da.lst ds).ty a.C_Ratio == Value.ref a.C_Ratio) = false by simp [Da.ty]]
      walk_at "g"
      refine g_isi ((DaV.lst hp hr2).tyx T.R) (.ty _) (kit_dic T.R2 (.lst ds)) ?_
      simp only [Da.isDic]
      walk_at "g"
      refine ⟨len_lit rfl, fun tp htp => ?_⟩
      have et : Ex H (upd H tp (.tup [.ty "list", .ty "tuple"])) := Ex.new htp
      have at_ : (upd H tp (.tup [.ty "list", .ty "tuple"])) tp = some (.tup [.ty "list", .ty "tuple"]) := upd_same
      generalize (upd H tp (.tup [.ty "list", .ty "tuple"])) = H1 at et at_ ⊢
      walk_at "g"
      refine g_isiT at_ (.cons (.ty _) (.cons (.ty _) .nil)) (((DaV.lst hp hr2).mono et).tyx T.R) (kit_lt T.R2 (.lst ds)) ?_
      simp only [Da.isLst, Da.isTup, Bool.or_false]
      walk_at "g"
      refine g_isi (((DaV.lst hp hr2).mono et).tyx T.R) (.ty _) (kit_lst T.R2 (.lst ds)) ?_
      simp only [Da.isLst]
      walk_at "g"
      unfold Da.fine at fine
      rw [Bool.and_eq_true] at fine
      unfold Da.dp at hdp
      exact comp p xs ds _ rfl (.inl hp) hr2 rfl fine.2 (of_decide_eq_true fine.1) (by omega) H1 et
    | tup hp hr2 =>
      rename_i p xs ds
      rw [show ((Da.tup ds).ty a.C_Ratio == Value.ref a.C_Ratio) = false by simp [Da.ty]]
      walk_at "g"
      refine g_isi ((DaV.tup hp hr2).tyx T.R) (.ty _) (kit_dic T.R2 (.tup ds)) ?_
      simp only [Da.isDic]
      walk_at "g"
      refine ⟨len_lit rfl, fun tp htp => ?_⟩
      have et : Ex H (upd H tp (.tup [.ty "list", .ty "tuple"])) := Ex.new htp
      have at_ : (upd H tp (.tup [.ty "list", .ty "tuple"])) tp = some (.tup [.ty "list", .ty "tuple"]) := upd_same
      generalize (upd H tp (.tup [.ty "list", .ty "tuple"])) = H1 at et at_ ⊢
      walk_at "g"
      refine g_isiT at_ (.cons (.ty _) (.cons (.ty _) .nil)) (((DaV.tup hp hr2).mono et).tyx T.R) (kit_lt T.R2 (.tup ds)) ?_
      simp only [Da.isLst, Da.isTup, Bool.false_or]
      walk_at "g"
      refine g_isi (((DaV.tup hp hr2).mono et).tyx T.R) (.ty _) (kit_lst T.R2 (.tup ds)) ?_
      simp only [Da.isLst]
      walk_at "g"
      unfold Da.fine at fine
      rw [Bool.and_eq_true] at fine
      unfold Da.dp at hdp
      exact comp p xs ds _ rfl (.inr hp) hr2 rfl fine.2 (of_decide_eq_true fine.1) (by omega) H1 et
    | _ =>
      simp only [Da.ty]
      refine g_ite (fun h => by simp at h) (fun _ => ?_)
      walk_at "g"
      first | refine g_isi (DaV.tyx T.R .non) (.ty _) (kit_dic T.R2 .non) ?_ | refine g_isi (DaV.tyx T.R (.bl _)) (.ty _) (kit_dic T.R2 (.bl _)) ?_ | refine g_isi (DaV.tyx T.R (.int _)) (.ty _) (kit_dic T.R2 (.int _)) ?_ | refine g_isi (DaV.tyx T.R (.str _)) (.ty _) (kit_dic T.R2 (.str _)) ?_
      simp only [Da.isDic]
      walk_at "g"
      refine ⟨len_lit rfl, fun tp htp => ?_⟩
      have et : Ex H (upd H tp (.tup [.ty "list", .ty "tuple"])) := Ex.new htp
      have at_ : (upd H tp (.tup [.ty "list", .ty "tuple"])) tp = some (.tup [.ty "list", .ty "tuple"]) := upd_same
      generalize (upd H tp (.tup [.ty "list", .ty "tuple"])) = H1 at et at_ ⊢
      walk_at "g"
      first | refine g_isiT at_ (.cons (.ty _) (.cons (.ty _) .nil)) (DaV.tyx T.R .non) (kit_lt T.R2 .non) ?_ | refine g_isiT at_ (.cons (.ty _) (.cons (.ty _) .nil)) (DaV.tyx T.R (.bl _)) (kit_lt T.R2 (.bl _)) ?_ | refine g_isiT at_ (.cons (.ty _) (.cons (.ty _) .nil)) (DaV.tyx T.R (.int _)) (kit_lt T.R2 (.int _)) ?_ | refine g_isiT at_ (.cons (.ty _) (.cons (.ty _) .nil)) (DaV.tyx T.R (.str _)) (kit_lt T.R2 (.str _)) ?_
      simp only [Da.isLst, Da.isTup, Bool.or_false]
      walk_at "g"
      first | exact .inl ⟨rfl, z _ H1 et (.str _)⟩ | exact .inr (.inl ⟨_, rfl, z _ H1 et (.str _)⟩) | exact .inr (.inr (.inl ⟨_, rfl, fine_int fine, z _ H1 et (.str _)⟩)) | exact .inr (.inr (.inr ⟨_, rfl, fine_str fine, z _ H1 et (.str _)⟩))
theorem shown_all (T : Tx K mg a) : ∀ n : Nat, FnOk P w K mg base CX0 (n + 1) a.f_Lshown a.d_Lshown P_Lshown (spSh a.C_Ratio n)
  | 0 => ⟨fun vs H Q E h => by
      obtain ⟨v, d, _, _, _, h, _⟩ := h
      exact absurd h (Nat.not_lt_zero _), fun A outer s H args us vs Q E hr he hb hv h => by
      obtain ⟨v, d, _, _, _, h, _⟩ := h
      exact absurd h (Nat.not_lt_zero _)⟩
  | n + 1 => shown_step T (shown_all T n)
theorem ok_Lshown (T : Tx K mg a) : FnOk P w K mg base CX0 7 a.f_Lshown a.d_Lshown P_Lshown (spSh a.C_Ratio 6) := shown_all T 6
end
end Kx


set_option maxHeartbeats 4000000
namespace Kx
open PySem PySem.Spec PyProof.Rows L2 Fm
local macro_rules | `(tactic| walk_at "gv") => `(tactic| ((with_reducible refine' g_var ?gh ?_); (case gh => exact rfl)))
local macro_rules | `(tactic| walk_at "g1") => `(tactic| first
  | walk_at "gv"
  | with_reducible refine g_c ?_ | with_reducible refine g_op ?_ | with_reducible refine g_un ?_ | with_reducible refine g_I0 ?_ | with_reducible refine g_U ?_
  | with_reducible refine g_eqI ?_ | with_reducible refine g_neI ?_ | with_reducible refine g_eqS ?_ | with_reducible refine g_neS ?_
  | with_reducible refine g_test ?_ | with_reducible refine g_B ?_ | with_reducible refine g_bl ?_ | with_reducible refine g_not ?_ | with_reducible refine g_and ?_ | with_reducible refine g_or ?_
  | with_reducible refine g_andV ?_ | with_reducible refine g_orV ?_ | with_reducible refine g_notV ?_ | with_reducible refine g_chain ?_ | with_reducible refine g_if ?_ | with_reducible refine g_ifS ?_
  | with_reducible refine g_seq ?_ | with_reducible refine g_next ?_ | with_reducible refine g_break ?_ | with_reducible refine g_cont ?_ | with_reducible refine g_drop ?_ | with_reducible refine g_ret ?_ | with_reducible refine g_retN ?_
  | with_reducible refine g_asg ?_ | with_reducible refine g_name ?_ | with_reducible refine g_par ?_ | with_reducible refine g_par2 ?_ | with_reducible refine g_fld ?_ | with_reducible refine g_sfld ?_
  | with_reducible refine g_nil ?_ | with_reducible refine g_cons ?_ | with_reducible refine g_tup ?_ | with_reducible refine g_lst ?_ | with_reducible refine g_call ?_ | with_reducible refine g_meth ?_ | with_reducible refine g_make1 ?_ | with_reducible refine g_make ?_ | with_reducible refine g_cb ?_ | with_reducible refine g_sub ?_ | with_reducible refine g_m0 ?_ | with_reducible refine g_gcons ?_ | with_reducible refine g_gnil ?_ | with_reducible refine g_for ?_ | with_reducible refine g_lc ?_ | with_reducible refine g_ilist ?_ | with_reducible refine g_itup ?_ | with_reducible refine g_rng1 ?_ | with_reducible refine g_rng3 ?_ | with_reducible refine g_yes ?_ | with_reducible refine g_sl ?_ | with_reducible refine g_nopart ?_ | with_reducible refine g_part ?_ | with_reducible refine g_exI ?_ | with_reducible refine g_m1 ?_ | with_reducible refine g_isS ?_ | with_reducible refine g_bm ?_ | with_reducible refine g_revL ?_ | with_reducible refine g_istr ?_ | with_reducible refine g_notInS ?_ | with_reducible refine g_absI ?_ | with_reducible refine g_intI ?_ | with_reducible refine g_izip ?_ | with_reducible refine g_ienum ?_ | with_reducible refine g_bm0 ?_ | with_reducible refine g_mko ?_ | with_reducible refine g_methW ?_ | with_reducible refine g_callW ?_
  | with_reducible refine iteT ?_ | with_reducible refine iteF ?_ | with_reducible refine g_gcd ?_)
local macro_rules | `(tactic| walk_at "g") => `(tactic| (repeat (first | walk_at "g1" | dsimp only [cx_K, cx_Kn, b_nt, b_nf])))
local macro_rules | `(tactic| walk_at "mul") => `(tactic| exact mulA (a := 200) (b := 200) (by omega) (by omega) (by decide))
local macro_rules | `(tactic| walk_at "pow") => `(tactic| exact ⟨by omega, by omega, by omega⟩)

def spMixed : Sp := fun vs H Q _ => ∃ (t p : Addr) (xs : List V), vs = [.ref t, .ref p] ∧ TapeAt H t ∧ H p = some (.lst xs) ∧ p ≠ t ∧ xs.length ≤ 100 ∧ ∀ l ys H', H l = none → Mo t H H' → TapeAt H' t → H' l = some (.lst ys) → ys.Perm xs → Q (.ref l) H'
section
variable {P : Program} {w : World} {K : PySem.W.Frag} {mg : Str → Option Value} {base : Heap} {a : Ad}
theorem ok_Lmixed (T : Tx K mg a) : FnOk P w K mg base CX0 2 a.f_Lmixed a.d_Lmixed P_Lmixed spMixed := by
  refine def_ok0 T.F_Lmixed sc_Lmixed (fun vs H Q E h => ?_) (fun cdv A outer s H vs Q E hr h => ?_)
  · obtain ⟨t, p, xs, rfl, _⟩ := h
    rfl
  · obtain ⟨t, p, xs, rfl, tp, hp, hpt, hl, z⟩ := h
    refine ⟨_, (pss_cons (ps_set (i := 2) sc_Lmixed.nd rfl (Or.inl rfl) (pe_callTy call_list_of (by rfl) T.b_list (by decide +kernel) (pa_cons (pv 1) pa_nil))) (pss_cons (ps_set (i := 3) sc_Lmixed.nd rfl (Or.inl rfl) (pe_lst pa_nil)) (pss_cons (ps_for PassesOwn.never rfl (pi_range1 (by rfl) T.b_range (pa_cons (pe_callB call_lenQ (by rfl) T.b_len (by decide +kernel) (pa_cons (pv 2) pa_nil)) pa_nil)) (pg_name (i := 4) sc_Lmixed.nd rfl (Or.inl rfl)) (pss_one (ps_expr (pe_bm PySem.F.plainAttrs_list PySem.F.slot_list_append PySem.F.type_list_append mt_append (pv 3) (pa_cons (pe_bm PySem.F.plainAttrs_list PySem.F.slot_list_pop PySem.F.type_list_pop mt_popAt (pv 2) (pa_cons (pe_call (ok_Lpick T) (hr.mono (by decide)) (by rfl) T.g_Lpick T.F_Lpick.kp (bd_Lpick T) .nil pass0 (pa_cons (pv 0) (pa_cons (pe_callB call_lenQ (by rfl) T.b_len (by decide +kernel) (pa_cons (pv 2) pa_nil)) pa_nil))) pa_nil)) pa_nil))))) (pss_one (ps_ret (pv 3)))))), ?_⟩
    walk_at "g"
    refine ⟨p, xs, rfl, .inl (SqL.of hp), fun r hr0 => ?_⟩
    have er : Ex H (upd H r (.lst xs)) := Ex.new hr0
    have ar : (upd H r (.lst xs)) r = some (.lst xs) := upd_same
    have rt := tp.new hr0
    generalize (upd H r (.lst xs)) = H1 at er ar ⊢
    walk_at "g"
    refine ⟨len_lit rfl, fun f hf => ?_⟩
    have ef : Ex H (upd H1 f (.lst [])) := er.trans (Ex.new hf)
    have af : (upd H1 f (.lst [])) f = some (.lst []) := upd_same
    have fr : f ≠ r := fun z => by rw [z, ar] at hf; cases hf
    have ar2 : (upd H1 f (.lst [])) r = some (.lst xs) := by rw [upd_ne fr.symm]; exact ar
    have fH : H f = none := er.free hf
    have ft := tp.new fH
    generalize (upd H1 f (.lst [])) = H2 at ef af ar2 ⊢
    walk_at "g"
    refine g_lenQ (SqL.of ar2) ?_
    walk_at "g"
    refine ⟨_, rfl, by omega, by omega, ?_⟩
    rw [Int.toNat_natCast]
    refine lp_R (fun i σ' H' => ∃ rs fs u, σ' = [some (.ref t), some (.ref p), some (.ref r), some (.ref f), u] ∧ Mo t H H' ∧ TapeAt H' t ∧ H' r = some (.lst rs) ∧ H' f = some (.lst fs) ∧ (fs ++ rs).Perm xs ∧ rs.length + i = xs.length) ⟨xs, [], none, rfl, ef.mo, tp.mono ef, ar2, af, by simp, by simp⟩ (fun i σ' H' hi h => ?_) (fun σ' H' h => ?_)
    · obtain ⟨rs, fs, u, rfl, mo, tp', hr', hf', pm, ln⟩ := h
      walk_at "g"
      refine ⟨tyL hf', ?_⟩
      walk_at "g"
      refine ⟨tyL hr', ?_⟩
      walk_at "g"
      refine g_lenQ (SqL.of hr') ?_
      walk_at "g"
      refine use_pick (by omega) (by omega) tp' fun d H3 d0 d1 m3 tp3 => ?_
      have hr3 := m3 _ _ hr' rt
      have hf3 := m3 _ _ hf' ft
      walk_at "g"
      have hk : d.toNat < rs.length := by omega
      refine ⟨r, rs, d, d.toNat, rs[d.toNat], rfl, rfl, hr3, by omega, by omega, ?_, List.getElem?_eq_getElem hk, ?_⟩
      · unfold seqIndex?
        simp
        omega
      walk_at "g"
      have hf4 : (upd H3 r (.lst (rs.eraseIdx d.toNat))) f = some (.lst fs) := by rw [upd_ne fr]; exact hf3
      refine ⟨f, fs, rs[d.toNat], rfl, rfl, hf4, Nat.lt_of_le_of_lt (m := 100) (by have := pm.length_eq; rw [List.length_append] at this; omega) (by decide), ?_⟩
      refine ⟨rs.eraseIdx d.toNat, fs ++ [rs[d.toNat]], _, rfl, fun b o hb hn => ?_, ?_, ?_, upd_same, ?_, ?_⟩
      · rw [upd_ne (ne_of_none hb fH), upd_ne (ne_of_none hb hr0)]
        exact m3 _ _ (mo _ _ hb hn) hn
      · obtain ⟨t0, t1, a0, a1, a2, h⟩ := tp3
        exact ⟨t0, t1, a0, a1, a2, by rw [upd_ne ft.symm, upd_ne rt.symm]; exact h⟩
      · rw [upd_ne fr.symm, upd_same]
      · rw [List.append_assoc]
        exact (List.Perm.append_left fs (perm_erase hk)).trans pm
      · rw [List.length_eraseIdx, if_pos hk]
        omega
    · obtain ⟨rs, fs, u, rfl, mo, tp', hr', hf', pm, ln⟩ := h
      walk_at "g"
      have e : rs = [] := List.eq_nil_of_length_eq_zero (by omega)
      subst e
      rw [List.append_nil] at pm
      exact z f fs H' fH mo tp' hf' pm
end
end Kx


set_option maxHeartbeats 4000000
namespace Kx
open PySem PySem.Spec PyProof.Rows L2 Fm
local macro_rules | `(tactic| walk_at "gv") => `(tactic| ((with_reducible refine' g_var ?gh ?_); (case gh => exact rfl)))
local macro_rules | `(tactic| walk_at "g1") => `(tactic| first
  | walk_at "gv"
  | with_reducible refine g_c ?_ | with_reducible refine g_op ?_ | with_reducible refine g_un ?_ | with_reducible refine g_I0 ?_ | with_reducible refine g_U ?_
  | with_reducible refine g_eqI ?_ | with_reducible refine g_neI ?_ | with_reducible refine g_eqS ?_ | with_reducible refine g_neS ?_
  | with_reducible refine g_test ?_ | with_reducible refine g_B ?_ | with_reducible refine g_bl ?_ | with_reducible refine g_not ?_ | with_reducible refine g_and ?_ | with_reducible refine g_or ?_
  | with_reducible refine g_andV ?_ | with_reducible refine g_orV ?_ | with_reducible refine g_notV ?_ | with_reducible refine g_chain ?_ | with_reducible refine g_if ?_ | with_reducible refine g_ifS ?_
  | with_reducible refine g_seq ?_ | with_reducible refine g_next ?_ | with_reducible refine g_break ?_ | with_reducible refine g_cont ?_ | with_reducible refine g_drop ?_ | with_reducible refine g_ret ?_ | with_reducible refine g_retN ?_
  | with_reducible refine g_asg ?_ | with_reducible refine g_name ?_ | with_reducible refine g_par ?_ | with_reducible refine g_par2 ?_ | with_reducible refine g_fld ?_ | with_reducible refine g_sfld ?_
  | with_reducible refine g_nil ?_ | with_reducible refine g_cons ?_ | with_reducible refine g_tup ?_ | with_reducible refine g_lst ?_ | with_reducible refine g_call ?_ | with_reducible refine g_meth ?_ | with_reducible refine g_make1 ?_ | with_reducible refine g_make ?_ | with_reducible refine g_cb ?_ | with_reducible refine g_sub ?_ | with_reducible refine g_m0 ?_ | with_reducible refine g_gcons ?_ | with_reducible refine g_gnil ?_ | with_reducible refine g_for ?_ | with_reducible refine g_lc ?_ | with_reducible refine g_ilist ?_ | with_reducible refine g_itup ?_ | with_reducible refine g_rng1 ?_ | with_reducible refine g_rng3 ?_ | with_reducible refine g_yes ?_ | with_reducible refine g_sl ?_ | with_reducible refine g_nopart ?_ | with_reducible refine g_part ?_ | with_reducible refine g_exI ?_ | with_reducible refine g_m1 ?_ | with_reducible refine g_isS ?_ | with_reducible refine g_bm ?_ | with_reducible refine g_revL ?_ | with_reducible refine g_istr ?_ | with_reducible refine g_notInS ?_ | with_reducible refine g_absI ?_ | with_reducible refine g_intI ?_ | with_reducible refine g_izip ?_ | with_reducible refine g_ienum ?_ | with_reducible refine g_bm0 ?_ | with_reducible refine g_mko ?_ | with_reducible refine g_methW ?_ | with_reducible refine g_callW ?_
  | with_reducible refine iteT ?_ | with_reducible refine iteF ?_ | with_reducible refine g_gcd ?_)
local macro_rules | `(tactic| walk_at "g") => `(tactic| (repeat (first | walk_at "g1" | dsimp only [cx_K, cx_Kn, b_nt, b_nf])))
local macro_rules | `(tactic| walk_at "mul") => `(tactic| exact mulA (a := 200) (b := 200) (by omega) (by omega) (by decide))
local macro_rules | `(tactic| walk_at "pow") => `(tactic| exact ⟨by omega, by omega, by omega⟩)

def mixQ (qs : List Rat) : List Rat := qs.mapIdx fun k q => q * 1000 + Rat.divInt ((k : Int) % 3) 7
theorem third (k : Nat) : (0 : Rat) ≤ Rat.divInt ((k : Int) % 3) 7 ∧ Rat.divInt ((k : Int) % 3) 7 ≤ 2 / 7 := by
  rcases (by omega : (k : Int) % 3 = 0 ∨ (k : Int) % 3 = 1 ∨ (k : Int) % 3 = 2) with h | h | h <;> rw [h] <;> constructor <;> decide +kernel
theorem mix_climb {qs : List Rat} (h : qs.Pairwise fun a b => a + 1 / 6 ≤ b) : (mixQ qs).Pairwise (· < ·) := by
  rw [List.pairwise_iff_getElem] at h ⊢
  intro i j hi hj hij
  have hi' : i < qs.length := by unfold mixQ at hi; rw [List.length_mapIdx] at hi; exact hi
  have hj' : j < qs.length := by unfold mixQ at hj; rw [List.length_mapIdx] at hj; exact hj
  have := h i j hi' hj' hij
  have a := third i
  have b := third j
  have ei : (mixQ qs)[i] = qs[i] * 1000 + Rat.divInt ((i : Int) % 3) 7 := List.getElem_mapIdx ..
  have ej : (mixQ qs)[j] = qs[j] * 1000 + Rat.divInt ((j : Int) % 3) 7 := List.getElem_mapIdx ..
  rw [ei, ej]
  grind
theorem sixth_climb {qs : List Rat} (h : qs.Pairwise fun a b => a + 1 / 6 ≤ b) : qs.Pairwise (· < ·) := h.imp fun h => by grind
theorem mix_at (qs : List Rat) (i : Nat) (q : Rat) (h : qs[i]? = some q) : (mixQ qs)[i]? = some (q * 1000 + Rat.divInt ((i : Int) % 3) 7) := by
  unfold mixQ
  rw [List.getElem?_mapIdx, h]
  rfl
theorem mix_len (qs : List Rat) : (mixQ qs).length = qs.length := List.length_mapIdx
theorem mix_sz {qs : List Rat} (h : ∀ q ∈ qs, Sz 7 q) : ∀ q ∈ mixQ qs, Sz 45 q := by
  intro q hq
  obtain ⟨i, hi⟩ := List.mem_iff_getElem?.mp hq
  cases hi2 : qs[i]? with
  | none =>
    unfold mixQ at hi
    rw [List.getElem?_mapIdx, hi2] at hi
    cases hi
  | some r =>
    rw [mix_at qs i r hi2] at hi
    injection hi with hi
    rw [← hi]
    exact sz_le ((((h r (List.mem_of_getElem? hi2)).mono (by decide : 7 ≤ 10)).mul (sz_int (w := 1000) (by decide) (by decide))).add (sz_le (Sz.divInt (k := 3) (by omega) (by decide) (by decide)) (by decide))) (by decide)
theorem part_div {u : Int} (h : u = 1 ∨ u = 2 ∨ u = 3 ∨ u = 6) {x y : Int} (l : x + 1 ≤ y) : Rat.divInt x u + 1 / 6 ≤ Rat.divInt y u := by
  have l' : (x : Rat) + 1 ≤ (y : Rat) := by exact_mod_cast l
  rw [Rat.divInt_eq_div, Rat.divInt_eq_div]
  rcases h with rfl | rfl | rfl | rfl <;> push_cast <;> grind
theorem Mo.free {t p : Addr} {H H' : Hp} (m : Mo t H H') (tp : TapeAt H' t) (h : H' p = none) : H p = none := by
  cases ho : H p with
  | none => rfl
  | some o =>
    by_cases e : p = t
    · subst e
      obtain ⟨_, _, _, _, _, g⟩ := tp
      rw [g] at h
      cases h
    · rw [m p o ho e] at h
      cases h
theorem part_sz {u x : Int} (h : u = 1 ∨ u = 2 ∨ u = 3 ∨ u = 6) (l : -4 ≤ x) (r : x ≤ 60) : Sz 7 (Rat.divInt x u) := Sz.divInt (by omega) (by rcases h with rfl | rfl | rfl | rfl <;> decide) (by rcases h with rfl | rfl | rfl | rfl <;> decide)
theorem snoc_pw {α : Type} {R : α → α → Prop} {l : List α} {x : α} (h : l.Pairwise R) (hx : ∀ y ∈ l, R y x) : (l ++ [x]).Pairwise R :=
  List.pairwise_append.mpr ⟨h, List.pairwise_singleton _ _, fun y hy z hz => by rw [List.mem_singleton.mp hz]; exact hx y hy⟩
def Part (v : V) : Prop := ∃ u : Int, v = .int u ∧ (u = 1 ∨ u = 2 ∨ u = 3 ∨ u = 6)
def Gap (v : V) : Prop := ∃ u : Int, v = .int u ∧ 0 ≤ u ∧ u ≤ 5
theorem at5 : ∀ d : Int, 0 ≤ d → d < 5 → ∃ v, atI [V.int 1, .int 1, .int 2, .int 3, .int 6] d = some v ∧ Part v := by
  intro d h0 h1
  rcases (by omega : d = 0 ∨ d = 1 ∨ d = 2 ∨ d = 3 ∨ d = 4) with rfl | rfl | rfl | rfl | rfl <;> exact ⟨_, rfl, _, rfl, by decide⟩
theorem at6 : ∀ d : Int, 0 ≤ d → d < 6 → ∃ v, atI [V.int 0, .int 0, .int 0, .int 1, .int 2, .int 5] d = some v ∧ Gap v := by
  intro d h0 h1
  rcases (by omega : d = 0 ∨ d = 1 ∨ d = 2 ∨ d = 3 ∨ d = 4 ∨ d = 5) with rfl | rfl | rfl | rfl | rfl | rfl <;> exact ⟨_, rfl, _, rfl, by decide, by decide⟩
theorem g_menu {K : PySem.W.Frag} {xs : List V} {n : Int} {i : Nat} {t : Addr} {σ : L2.St} {H : Hp} {W : VK} {M : V → Prop} (hl : Nat.ble xs.length 1000 = true) (h0 : σ[i]? = some (some (.ref t))) (n0 : 0 < n) (n1 : n < 2 ^ 100) (tp : TapeAt H t)
    (hn : ∀ d, 0 ≤ d → d < n → ∃ v, atI xs d = some v ∧ M v) (q : ∀ v H', M v → Mo t H H' → TapeAt H' t → W v H') :
    xs.length ≤ sizeLine ∧ ∀ p, H p = none → tCall spPick [] E0 (tCons (tVar i) (tCons (tC (V.int n)) tNil)) σ (upd H p (.lst xs)) fun y H2 => rIxL K (V.ref p) y H2 W := by
  refine ⟨len_lit hl, fun p hp => ?_⟩
  have e : Ex H (upd H p (.lst xs)) := Ex.new hp
  have h : (upd H p (.lst xs)) p = some (.lst xs) := upd_same
  have pt := tp.new hp
  have tp' := tp.mono e
  generalize (upd H p (.lst xs)) = H1 at e h tp' ⊢
  walk_at "g"
  refine g_var h0 ?_
  walk_at "g"
  refine use_pick n0 n1 tp' fun d H2 d0 d1 m2 tp2 => ?_
  obtain ⟨v, hv, m⟩ := hn d d0 d1
  exact g_ixL (SqL.of (m2 _ _ h pt)) hv (q v H2 m (e.mo.trans m2) tp2)
theorem g_ifI {b : Bool} {i j : Nat} {σ : L2.St} {H : Hp} {W : VK} {x y : Int} (P : Int → Prop) (hi : σ[i]? = some (some (.int x))) (hj : σ[j]? = some (some (.int y))) (px : P x) (py : P y) (q : ∀ z, P z → W (.int z) H) : if b = true then tVar i σ H W else tVar j σ H W := by
  cases b with
  | true => exact iteT (g_var hi (q x px))
  | false => exact iteF (g_var hj (q y py))
def spValues (C : Addr) : Sp := fun vs H Q _ => ∃ t : Addr, vs = [.ref t, .int 8] ∧ TapeAt H t ∧ ∀ p rs qs H', H p = none → Mo t H H' → TapeAt H' t → H' p = some (.lst rs) → RatsV C H' rs qs → qs.Pairwise (· < ·) → 1 ≤ qs.length → qs.length ≤ 8 → (∀ q ∈ qs, Sz 45 q) → Q (.ref p) H'
section
variable {P : Program} {w : World} {K : PySem.W.Frag} {mg : Str → Option Value} {base : Heap} {a : Ad}
theorem ok_Lvalues (T : Tx K mg a) : FnOk P w K mg base CX0 5 a.f_Lvalues a.d_Lvalues P_Lvalues (spValues a.C_Ratio) := by
  refine def_ok0 T.F_Lvalues sc_Lvalues (fun vs H Q E h => ?_) (fun cdv A outer s H vs Q E hr h => ?_)
  · obtain ⟨t, rfl, _⟩ := h
    rfl
  · obtain ⟨t, rfl, tp, z⟩ := h
    refine ⟨_, (pss_cons (ps_par (i := 2) (j := 3) (by rfl) sc_Lvalues.nd rfl rfl (by decide) rfl rfl (pa_cons (pe_call (ok_Lpick T) (hr.mono (by decide)) (by rfl) T.g_Lpick T.F_Lpick.kp (bd_Lpick T) .nil pass0 (pa_cons (pv 0) (pa_cons (pv 1) pa_nil))) (pa_cons (pe_call (ok_Lpick T) (hr.mono (by decide)) (by rfl) T.g_Lpick T.F_Lpick.kp (bd_Lpick T) .nil pass0 (pa_cons (pv 0) (pa_cons (pv 1) pa_nil))) pa_nil)) (by rfl)) (pss_cons (ps_set (i := 4) sc_Lvalues.nd rfl (Or.inl rfl) (pe_op op_add pe_int (pe_ifExp (pt_cmpR op_lt (pv 3) (pv 2) (nomark _)) (pv 2) (pv 3)))) (pss_cons (ps_set (i := 5) sc_Lvalues.nd rfl (Or.inl rfl) (pe_ix ix_list (pe_lst (pa_cons pe_int (pa_cons pe_int (pa_cons pe_int (pa_cons pe_int (pa_cons pe_int pa_nil)))))) (pe_call (ok_Lpick T) (hr.mono (by decide)) (by rfl) T.g_Lpick T.F_Lpick.kp (bd_Lpick T) .nil pass0 (pa_cons (pv 0) (pa_cons pe_int pa_nil))) (fun _ _ => rfl))) (pss_cons (ps_asg (pe_tup (pa_cons (pe_op op_sub (pe_call (ok_Lpick T) (hr.mono (by decide)) (by rfl) T.g_Lpick T.F_Lpick.kp (bd_Lpick T) .nil pass0 (pa_cons (pv 0) (pa_cons pe_int pa_nil))) pe_int) (pa_cons (pe_lst pa_nil) pa_nil))) (pg_tup rfl (pgs_cons (pg_name (i := 6) sc_Lvalues.nd rfl (Or.inl rfl)) (pgs_cons (pg_name (i := 7) sc_Lvalues.nd rfl (Or.inr rfl)) pgs_nil)))) (pss_cons (ps_for PassesOwn.never rfl (pi_range1 (by rfl) T.b_range (pa_cons (pv 4) pa_nil)) (pg_name (i := 8) sc_Lvalues.nd rfl (Or.inl rfl)) (pss_cons (ps_expr (pe_bm PySem.F.plainAttrs_list PySem.F.slot_list_append PySem.F.type_list_append mt_append (pv 7) (pa_cons (pe_make T.mk_Ratio (ok_Ratio_init T) (hr.mono (by decide)) (by rfl) T.g_Ratio (bd_Ratio_init T) .nil pass0 (pa_cons (pv 6) (pa_cons (pv 5) pa_nil))) pa_nil))) (pss_one (ps_set (i := 6) sc_Lvalues.nd rfl (Or.inl rfl) (pe_op op_add (pe_op op_add (pv 6) pe_int) (pe_ix ix_list (pe_lst (pa_cons pe_int (pa_cons pe_int (pa_cons pe_int (pa_cons pe_int (pa_cons pe_int (pa_cons pe_int pa_nil))))))) (pe_call (ok_Lpick T) (hr.mono (by decide)) (by rfl) T.g_Lpick T.F_Lpick.kp (bd_Lpick T) .nil pass0 (pa_cons (pv 0) (pa_cons pe_int pa_nil))) (fun _ _ => rfl))))))) (pss_cons (ps_if (pt_cmpR op_eq (pe_call (ok_Lpick T) (hr.mono (by decide)) (by rfl) T.g_Lpick T.F_Lpick.kp (bd_Lpick T) .nil pass0 (pa_cons (pv 0) (pa_cons pe_int pa_nil))) pe_int (nomark _)) (pss_one (ps_set (i := 7) sc_Lvalues.nd rfl (Or.inr rfl) (pe_lc (own := [("_law_k", 8)]) (g := (gName 8)) (tt := tYes) rfl sc_Lvalues.nd (pi_range1 (by rfl) T.b_range (pa_cons (pv 4) pa_nil)) (blkOk_by (N := N_Lvalues) (sc := defScope s_Lvalues) (by decide +kernel)) (fun _ _ _ _ _ => pg_name (i := 8) sc_Lvalues.nd rfl (Or.inl rfl)) (fun _ _ _ _ _ => pts_nil) (fun _ _ _ _ _ => (pe_op (op_own T.o_add (ok_Ratio_add T) (hr.mono (by decide)) (bd_Ratio_add T) pass0) (pe_op (op_own T.o_mul (ok_Ratio_mul T) (hr.mono (by decide)) (bd_Ratio_mul T) pass0) (pe_ix (ix_listV (K := K) rfl) (pv 7) (pv 8) (fun _ _ => rfl)) (pe_op op_pow pe_int pe_int)) (pe_make T.mk_Ratio (ok_Ratio_init T) (hr.mono (by decide)) (by rfl) T.g_Ratio (bd_Ratio_init T) .nil pass0 (pa_cons (pe_op op_mod (pv 8) pe_int) (pa_cons pe_int pa_nil)))))))) pss_nil) (pss_one (ps_ret (pv 7))))))))), ?_⟩
    walk_at "g"
    refine use_pick (by decide) (by decide) tp fun d1 H1 a0 a1 m1 tp1 => ?_
    walk_at "g"
    refine use_pick (by decide) (by decide) tp1 fun d2 H2 b0 b1 m2 tp2 => ?_
    walk_at "g"
    refine g_ifI (fun z => 0 ≤ z ∧ z < 8) rfl rfl ⟨a0, a1⟩ ⟨b0, b1⟩ fun wv hw => ?_
    have mm2 := m1.trans m2
    obtain ⟨n, hn, n1, n8⟩ : ∃ n : Nat, 1 + wv = (n : Int) ∧ 1 ≤ n ∧ n ≤ 8 := ⟨(1 + wv).toNat, by omega, by omega, by omega⟩
    walk_at "g"
    rw [hn]
    refine g_menu rfl rfl (by decide) (by decide) tp2 at5 fun v H3 pu m3 tp3 => ?_
    obtain ⟨u, rfl, hu⟩ := pu
    have mm3 := mm2.trans m3
    walk_at "g"
    refine use_pick (by decide) (by decide) tp3 fun d4 H4 c0 c1 m4 tp4 => ?_
    have mm4 := mm3.trans m4
    walk_at "g"
    refine ⟨len_lit rfl, fun f hf => ?_⟩
    have fH := Mo.free mm4 tp4 hf
    have ef : Ex H4 (upd H4 f (.lst [])) := Ex.new hf
    have af : (upd H4 f (.lst [])) f = some (.lst []) := upd_same
    have tf := tp4.new hf
    have tp5 := tp4.mono ef
    generalize (upd H4 f (.lst [])) = H5 at ef af tp5 ⊢
    have mm5 := mm4.ex ef
    walk_at "g"
    refine ⟨len_lit rfl, fun pr hpr => ?_⟩
    have er : Ex H5 (upd H5 pr (.tup [.int (d4 - 4), .ref f])) := Ex.new hpr
    have ar : (upd H5 pr (.tup [.int (d4 - 4), .ref f])) pr = some (.tup [.int (d4 - 4), .ref f]) := upd_same
    have tp6 := tp5.mono er
    generalize (upd H5 pr (.tup [.int (d4 - 4), .ref f])) = H6 at er ar tp6 ⊢
    have mm6 := mm5.ex er
    have af6 := er _ _ af
    walk_at "g"
    refine g_gtup (SqT.of ar) rfl ?_
    walk_at "g"
    refine ⟨_, rfl, by omega, by omega, ?_⟩
    rw [Int.toNat_natCast]
    refine lp_R (fun i σ' H' => ∃ (x : Int) (rs : List V) (qs : List Rat) (u8 : Option V), σ' = [some (.ref t), some (.int 8), some (.int d1), some (.int d2), some (.int (n : Int)), some (.int u), some (.int x), some (.ref f), u8] ∧ Mo t H H' ∧ TapeAt H' t ∧ H' f = some (.lst rs) ∧ RatsV a.C_Ratio H' rs qs ∧ qs.length = i ∧ qs.Pairwise (fun a b => a + 1 / 6 ≤ b) ∧ (∀ q ∈ qs, q + 1 / 6 ≤ Rat.divInt x u) ∧ (∀ q ∈ qs, Sz 7 q) ∧ -4 ≤ x ∧ x ≤ 4 + 6 * (i : Int))
      ⟨_, [], [], none, rfl, mm6, tp6, af6, .nil, rfl, .nil, (fun q hq => absurd hq List.not_mem_nil), (fun q hq => absurd hq List.not_mem_nil), by omega, by omega⟩ (fun i σ' H' hi h => ?_) (fun σ' H' h => ?_)
    · obtain ⟨x, rs, qs, u8, rfl, mo, tp', hf', hrs, hl, pw, top, sz, x0, x1⟩ := h
      walk_at "g"
      refine ⟨tyL hf', ?_⟩
      walk_at "g"
      refine use_initW (t := x) (b := u) (k := 7) (by omega) (by omega) (by omega) (by omega) fun v H7 e7 hv => ?_
      have hf7 := e7 _ _ hf'
      have mo7 := mo.ex e7
      have tp7 := tp'.mono e7
      walk_at "g"
      have hlen : rs.length = qs.length := hrs.length
      refine ⟨f, rs, .ref v, rfl, rfl, hf7, Nat.lt_of_le_of_lt (m := 100) (by omega) (by decide), ?_⟩
      have h8 : (upd H7 f (.lst (rs ++ [V.ref v]))) f = some (.lst (rs ++ [.ref v])) := upd_same
      have r8 : RatsV a.C_Ratio (upd H7 f (.lst (rs ++ [.ref v]))) (rs ++ [.ref v]) (qs ++ [Rat.divInt x u]) := prd_app ((hrs.mono e7).set hf7) (.cons (hv.set hf7) .nil)
      have mo8 : Mo t H (upd H7 f (.lst (rs ++ [.ref v]))) := fun b o hb hn => by
        rw [upd_ne (ne_of_none hb fH)]
        exact mo7 b o hb hn
      have tp8 : TapeAt (upd H7 f (.lst (rs ++ [.ref v]))) t := by
        obtain ⟨t0, t1, a0, a1, a2, h⟩ := tp7
        exact ⟨t0, t1, a0, a1, a2, by rw [upd_ne tf.symm]; exact h⟩
      generalize (upd H7 f (.lst (rs ++ [.ref v]))) = H8 at h8 r8 mo8 tp8 ⊢
      walk_at "g"
      refine g_menu rfl rfl (by decide) (by decide) tp8 at6 fun g H9 pg m9 tp9 => ?_
      obtain ⟨g, rfl, g0, g5⟩ := pg
      have h9 := m9 _ _ h8 tf
      walk_at "g"
      refine ⟨_, _, _, _, rfl, mo8.trans m9, tp9, h9, ?_, ?_, snoc_pw pw top, ?_, ?_, ?_, ?_⟩
      · exact Paired.mapP r8 fun _ _ r => r.mo tp8 m9
      · rw [List.length_append, hl]
        rfl
      · intro q hq
        rcases List.mem_append.mp hq with hq | hq
        · refine Rat.le_trans (top q hq) ?_
          have := part_div hu (x := x) (y := x + 1 + g) (by omega)
          grind
        · rw [List.mem_singleton.mp hq]
          exact part_div hu (by omega)
      · intro q hq
        rcases List.mem_append.mp hq with hq | hq
        · exact sz q hq
        · rw [List.mem_singleton.mp hq]
          exact part_sz hu (by omega) (by omega)
      · omega
      · omega
    · obtain ⟨x, rs, qs, u8, rfl, mo, tp', hf', hrs, hl, pw, top, sz, x0, x1⟩ := h
      walk_at "g"
      refine use_pick (by decide) (by decide) tp' fun d8 H7 k0 k1 m7 tp7 => ?_
      have hf7 := m7 _ _ hf' tf
      have hrs7 : RatsV a.C_Ratio H7 rs qs := Paired.mapP hrs fun _ _ r => r.mo tp' m7
      have mo7 := mo.trans m7
      have hlen : rs.length = qs.length := hrs.length
      walk_at "g"
      refine g_dec (fun _ => ?_) (fun _ => ?_)
      · walk_at "g"
        refine ⟨_, rfl, by omega, by omega, ?_⟩
        rw [Int.toNat_natCast]
        refine cp_R (fun D i H' => ∃ ls, Ex H7 H' ∧ H' D = some (.lst ls) ∧ RatsV a.C_Ratio H' ls ((mixQ qs).take i)) (fun D hD => ⟨[], Ex.new hD, upd_same, .nil⟩) (fun D hD i H' hi h => ?_) (fun D hD H' h => ?_)
        · obtain ⟨ls, ex, hD', hls⟩ := h
          have hiq : i < qs.length := by omega
          have hq := List.getElem?_eq_getElem hiq
          obtain ⟨y, hy, ry⟩ := prd_getR hrs7 hq
          refine ⟨rfl, ?_⟩
          walk_at "g"
          refine g_ixL (v := y) (SqL.of (ex _ _ hf7)) (by rw [Int.zero_add]; exact atI_nat hy) ?_
          walk_at "g"
          have sq := sz _ (List.mem_of_getElem? hq)
          refine g_I (by walk_at "pow") ?_
          rw [show ((10 : Int) ^ (3 : Int).toNat) = 1000 from by decide]
          refine g_num2 (ry.mono ex) (.inl ⟨1000, rfl, rfl⟩) (sz_le sq (by decide : 7 ≤ 20)) (sz_int (w := 1000) (by decide) (by decide)) (by decide) fun v1 H8 e8 hv1 => ?_
          walk_at "g"
          refine g_I (by decide) ?_
          walk_at "g"
          refine use_initW (k := 10) (by decide) (by omega) (by decide) (by decide) fun v2 H9 e9 hv2 => ?_
          walk_at "g"
          refine g_num2 (hv1.mono e9) hv2.num ((sz_le sq (by decide : 7 ≤ 20)).mul (sz_int (w := 1000) (by decide) (by decide))) (Sz.divInt (k := 20 + 20) (by omega) (by decide) (by decide)) (by decide) fun v3 H10 e10 hv3 => ?_
          have ee := (e8.trans e9).trans e10
          refine ⟨ls, ee _ _ hD', Nat.lt_of_le_of_lt (m := 1000) (by rw [hls.length, List.length_take]; omega) (by decide), _, (ex.trans ee).mut hD, upd_same, ?_⟩
          rw [Int.zero_add, show ((1000 : Int) : Rat) = 1000 from rfl] at hv3
          rw [take_succ_get (mix_at qs i _ hq)]
          refine prd_app ((hls.mono ee).set (ee _ _ hD')) (.cons (hv3.set (ee _ _ hD')) .nil)
        · obtain ⟨ls, ex, hD', hls⟩ := h
          rw [show n = (mixQ qs).length by rw [mix_len]; exact hl.symm, List.take_length] at hls
          walk_at "g"
          exact z D ls (mixQ qs) H' (Mo.free mo7 tp7 hD) (mo7.ex ex) (tp7.mono ex) hD' hls (mix_climb pw) (by rw [mix_len]; omega) (by rw [mix_len]; omega) (mix_sz sz)
      · walk_at "g"
        exact z f rs qs H7 fH mo7 tp7 hf7 hrs7 (sixth_climb pw) (by omega) (by omega) fun q hq => sz_le (sz q hq) (by decide)
end
end Kx


set_option maxHeartbeats 4000000
namespace Kx
open PySem PySem.Spec PyProof.Rows L2 Fm
local macro_rules | `(tactic| walk_at "gv") => `(tactic| ((with_reducible refine' g_var ?gh ?_); (case gh => exact rfl)))
local macro_rules | `(tactic| walk_at "g1") => `(tactic| first
  | walk_at "gv"
  | with_reducible refine g_c ?_ | with_reducible refine g_op ?_ | with_reducible refine g_un ?_ | with_reducible refine g_I0 ?_ | with_reducible refine g_U ?_
  | with_reducible refine g_eqI ?_ | with_reducible refine g_neI ?_ | with_reducible refine g_eqS ?_ | with_reducible refine g_neS ?_
  | with_reducible refine g_test ?_ | with_reducible refine g_B ?_ | with_reducible refine g_bl ?_ | with_reducible refine g_not ?_ | with_reducible refine g_and ?_ | with_reducible refine g_or ?_
  | with_reducible refine g_andV ?_ | with_reducible refine g_orV ?_ | with_reducible refine g_notV ?_ | with_reducible refine g_chain ?_ | with_reducible refine g_if ?_ | with_reducible refine g_ifS ?_
  | with_reducible refine g_seq ?_ | with_reducible refine g_next ?_ | with_reducible refine g_break ?_ | with_reducible refine g_cont ?_ | with_reducible refine g_drop ?_ | with_reducible refine g_ret ?_ | with_reducible refine g_retN ?_
  | with_reducible refine g_asg ?_ | with_reducible refine g_name ?_ | with_reducible refine g_par ?_ | with_reducible refine g_par2 ?_ | with_reducible refine g_fld ?_ | with_reducible refine g_sfld ?_
  | with_reducible refine g_nil ?_ | with_reducible refine g_cons ?_ | with_reducible refine g_tup ?_ | with_reducible refine g_lst ?_ | with_reducible refine g_call ?_ | with_reducible refine g_meth ?_ | with_reducible refine g_make1 ?_ | with_reducible refine g_make ?_ | with_reducible refine g_cb ?_ | with_reducible refine g_sub ?_ | with_reducible refine g_m0 ?_ | with_reducible refine g_gcons ?_ | with_reducible refine g_gnil ?_ | with_reducible refine g_for ?_ | with_reducible refine g_lc ?_ | with_reducible refine g_ilist ?_ | with_reducible refine g_itup ?_ | with_reducible refine g_rng1 ?_ | with_reducible refine g_rng3 ?_ | with_reducible refine g_yes ?_ | with_reducible refine g_sl ?_ | with_reducible refine g_nopart ?_ | with_reducible refine g_part ?_ | with_reducible refine g_exI ?_ | with_reducible refine g_m1 ?_ | with_reducible refine g_isS ?_ | with_reducible refine g_bm ?_ | with_reducible refine g_revL ?_ | with_reducible refine g_istr ?_ | with_reducible refine g_notInS ?_ | with_reducible refine g_absI ?_ | with_reducible refine g_intI ?_ | with_reducible refine g_izip ?_ | with_reducible refine g_ienum ?_ | with_reducible refine g_bm0 ?_ | with_reducible refine g_mko ?_ | with_reducible refine g_methW ?_ | with_reducible refine g_callW ?_
  | with_reducible refine iteT ?_ | with_reducible refine iteF ?_ | with_reducible refine g_gcd ?_)
local macro_rules | `(tactic| walk_at "g") => `(tactic| (repeat (first | walk_at "g1" | dsimp only [cx_K, cx_Kn, b_nt, b_nf])))
local macro_rules | `(tactic| walk_at "mul") => `(tactic| exact mulA (a := 200) (b := 200) (by omega) (by omega) (by decide))
local macro_rules | `(tactic| walk_at "pow") => `(tactic| exact ⟨by omega, by omega, by omega⟩)

theorem prd_perm {α β : Type} {F : α → β → Prop} {xs ys : List α} (h : xs.Perm ys) : ∀ {us : List β}, Paired F xs us → ∃ ws, Paired F ys ws ∧ us.Perm ws := by
  induction h with
  | nil => exact fun h => ⟨_, h, .refl _⟩
  | cons x _ ih =>
    intro us h
    cases h with
    | cons p q =>
      obtain ⟨ws, a, b⟩ := ih q
      exact ⟨_, .cons p a, b.cons _⟩
  | swap x y l =>
    intro us h
    cases h with
    | cons p q =>
      cases q with
      | cons p' q' => exact ⟨_, .cons p' (.cons p q'), .swap _ _ _⟩
  | trans _ _ ih1 ih2 =>
    intro us h
    obtain ⟨ws, a, b⟩ := ih1 h
    obtain ⟨ws2, a2, b2⟩ := ih2 a
    exact ⟨ws2, a2, b.trans b2⟩
theorem nums_da {C : Addr} {H : Hp} : ∀ {vs : List V} {qs : List Rat}, NumsV C H vs qs → (∀ q ∈ qs, Sz 190 q) → ∃ ds : List Da, DaVs C H vs ds ∧ ds.map Da.num = qs ∧ ds.all Da.isNum = true ∧ fineL ds = true ∧ ds.length = qs.length
  | _, _, .nil, _ => ⟨[], .nil, rfl, rfl, rfl, rfl⟩
  | _, _, .cons (b := q) h r, sz => by
    obtain ⟨ds, a, b, c, d, e⟩ := nums_da r fun q hq => sz q (List.mem_cons_of_mem _ hq)
    have sq := sz _ (List.mem_cons_self)
    rcases h with ⟨n, rfl, rfl⟩ | h
    · refine ⟨.int n :: ds, .cons (.int n) a, by rw [List.map_cons, b]; rfl, by rw [List.all_cons, c]; rfl, ?_, by rw [List.length_cons, e]; rfl⟩
      show (Da.fine (.int n) && fineL ds) = true
      rw [d, Bool.and_true]
      have := sq.1
      rw [Rat.num_intCast] at this
      exact decide_eq_true (by omega)
    · refine ⟨.rat _ :: ds, .cons (.rat h) a, by rw [List.map_cons, b]; rfl, by rw [List.all_cons, c]; rfl, ?_, by rw [List.length_cons, e]; rfl⟩
      show (Da.fine (.rat q) && fineL ds) = true
      rw [d, Bool.and_true]
      unfold Da.fine
      rw [Bool.and_eq_true]
      exact ⟨decide_eq_true (by have := sq.1; omega), decide_eq_true (by have := sq.2; omega)⟩
theorem numv_mo {C : Addr} {H H' : Hp} {v : V} {q : Rat} {t : Addr} (h : TapeAt H t) (m : Mo t H H') (r : NumV C H v q) : NumV C H' v q := r.imp id fun r => r.mo h m
theorem numv_set {C : Addr} {H : Hp} {o : Addr} {xs ys : List V} (h : H o = some (.lst xs)) {v : V} {q : Rat} (r : NumV C H v q) : NumV C (upd H o (.lst ys)) v q := r.imp id fun r => r.set h
def spMade (CS C : Addr) : Sp := fun vs H Q _ => ∃ (t p : Addr) (xs : List V) (qs : List Rat), vs = [.ref t, .ref p] ∧ TapeAt H t ∧ H p = some (.lst xs) ∧ p ≠ t ∧ RatsV C H xs qs ∧ qs.Pairwise (· < ·) ∧ 1 ≤ qs.length ∧ qs.length ≤ 8 ∧ (∀ q ∈ qs, Sz 45 q) ∧ ∀ s H', H s = none → Mo t H H' → TapeAt H' t → ScaleAt CS C H' s qs → Q (.ref s) H'
section
variable {P : Program} {w : World} {K : PySem.W.Frag} {mg : Str → Option Value} {base : Heap} {a : Ad}
theorem ok_Lmade (T : Tx K mg a) : FnOk P w K mg base CX0 10 a.f_Lmade a.d_Lmade P_Lmade (spMade a.C_Scale a.C_Ratio) := by
  refine def_ok0 T.F_Lmade sc_Lmade (fun vs H Q E h => ?_) (fun cdv A outer s H vs Q E hr h => ?_)
  · obtain ⟨t, p, xs, qs, rfl, _⟩ := h
    rfl
  · obtain ⟨t, p, xs, qs, rfl, tp, hp, hpt, hrs, asc, l1, l8, sz, z⟩ := h
    refine ⟨_, (pss_cons (ps_set (i := 2) sc_Lmade.nd rfl (Or.inl rfl) (pe_lst pa_nil)) (pss_cons (ps_for PassesOwn.never rfl (pi_list (pe_call (ok_Lmixed T) (hr.mono (by decide)) (by rfl) T.g_Lmixed T.F_Lmixed.kp (bd_Lmixed T) .nil pass0 (pa_cons (pv 0) (pa_cons (pv 1) pa_nil)))) (pg_name (i := 3) sc_Lmade.nd rfl (Or.inl rfl)) (pss_one (ps_expr (pe_bm PySem.F.plainAttrs_list PySem.F.slot_list_append PySem.F.type_list_append mt_append (pv 2) (pa_cons (pe_ifExp (PW.pt (pw_and (pt_cmpR op_eq (pe_fld (pv 3) rfl) pe_int (nomark _)) (pw_and1 (pt_cmpR op_eq (pe_call (ok_Lpick T) (hr.mono (by decide)) (by rfl) T.g_Lpick T.F_Lpick.kp (bd_Lpick T) .nil pass0 (pa_cons (pv 0) (pa_cons pe_int pa_nil))) pe_int (nomark _))))) (pe_fld (pv 3) rfl) (pv 3)) pa_nil))))) (pss_one (ps_ret (pe_make T.mk_Scale (ok_Scale_init T) (hr.mono (by decide)) (by rfl) T.g_Scale (bd_Scale_init T) .nil passN (pa_cons (pv 2) pa_nil)))))), ?_⟩
    walk_at "g"
    refine ⟨len_lit rfl, fun f hf => ?_⟩
    have e1 : Ex H (upd H f (.lst [])) := Ex.new hf
    have af : (upd H f (.lst [])) f = some (.lst []) := upd_same
    have tf := tp.new hf
    have tp1 := tp.mono e1
    generalize (upd H f (.lst [])) = H1 at e1 af tp1 ⊢
    walk_at "g"
    refine ⟨t, p, xs, rfl, tp1, e1 _ _ hp, hpt, by have := hrs.length; omega, fun m ys H2 hm m2 tp2 am pm => ?_⟩
    have af2 := m2 _ _ af tf
    have tm : m ≠ t := tp1.new hm
    have mm2 : Mo t H H2 := e1.mo.trans m2
    have fm : f ≠ m := fun e => by rw [← e, af] at hm; cases hm
    obtain ⟨ws, hws, pw⟩ := prd_perm pm.symm hrs
    have wsz : ∀ q ∈ ws, Sz 45 q := fun q hq => sz q (pw.mem_iff.mpr hq)
    have hws2 : RatsV a.C_Ratio H2 ys ws := Paired.mapP hws fun _ _ r => r.mo tp mm2
    have wl := pw.length_eq
    refine ⟨m, rfl, ⟨ys, SqL.of am⟩, lp_L (xs := ys) (fun i σ' H' => ∃ (hs : List V) (u3 : Option V), σ' = [some (.ref t), some (.ref p), some (.ref f), u3] ∧ Mo t H H' ∧ TapeAt H' t ∧ H' m = some (.lst ys) ∧ H' f = some (.lst hs) ∧ NumsV a.C_Ratio H' hs (ws.take i) ∧ RatsV a.C_Ratio H' ys ws)
      ⟨[], none, rfl, mm2, tp2, am, af2, .nil, hws2⟩ (fun i σ' H' _ h => ?_) (fun i x σ' H' hx h => ?_) (fun σ' H' h => ?_)⟩
    · obtain ⟨_, _, _, _, _, h, _⟩ := h
      exact SqL.of h
    · obtain ⟨hs, u3, rfl, mo, tp', am', af', hnum, hws'⟩ := h
      obtain ⟨q, hq, rx⟩ := prd_get hws' hx
      walk_at "g"
      refine ⟨tyL af', ?_⟩
      walk_at "g"
      refine g_bottom T.R.cl T.R.nB rx ?_
      have fin : ∀ v H3, Mo t H H3 → TapeAt H3 t → H3 m = some (.lst ys) → H3 f = some (.lst hs) → NumsV a.C_Ratio H3 hs (ws.take i) → RatsV a.C_Ratio H3 ys ws → NumV a.C_Ratio H3 v q →
          rAppend (V.ref f) [v] H3 (fun _ H1 => ∃ (hs : List V) (u3_1 : Option V), ([some (.ref t), some (.ref p), some (.ref f), u3].set 3 (some x) : L2.St) = [some (.ref t), some (.ref p), some (.ref f), u3_1] ∧ Mo t H H1 ∧ TapeAt H1 t ∧ H1 m = some (.lst ys) ∧ H1 f = some (.lst hs) ∧ NumsV a.C_Ratio H1 hs (ws.take (i + 1)) ∧ RatsV a.C_Ratio H1 ys ws) := by
        intro v H3 mo3 tp3 am3 af3 hn3 hw3 hv
        refine ⟨f, hs, v, rfl, rfl, af3, Nat.lt_of_le_of_lt (m := 100) (by rw [hn3.length, List.length_take]; omega) (by decide), _, _, rfl, fun b o hb hn => ?_, ?_, ?_, upd_same, ?_, hw3.set af3⟩
        · rw [upd_ne (ne_of_none hb hf)]
          exact mo3 b o hb hn
        · obtain ⟨t0, t1, a0, a1, a2, h⟩ := tp3
          exact ⟨t0, t1, a0, a1, a2, by rw [upd_ne tf.symm]; exact h⟩
        · rw [upd_ne fm.symm]
          exact am3
        · rw [take_succ_get hq]
          exact prd_app (Paired.mapP hn3 fun _ _ r => numv_set af3 r) (.cons (numv_set af3 hv) .nil)
      walk_at "g"
      refine g_dec (fun h1 => ?_) (fun _ => ?_)
      · walk_at "g"
        refine use_pick (by decide) (by decide) tp' fun d H3 d0 d1 m3 tp3 => ?_
        have rx3 := rx.mo tp' m3
        have go := fun v => fin v H3 (mo.trans m3) tp3 (m3 _ _ am' tm) (m3 _ _ af' tf) (Paired.mapP hnum fun _ _ r => numv_mo tp' m3 r) (Paired.mapP hws' fun _ _ r => r.mo tp' m3)
        walk_at "g"
        refine g_dec (fun _ => ?_) (fun _ => ?_)
        · walk_at "g"
          refine g_top T.R.cl T.R.nT rx3 ?_
          walk_at "g"
          refine go _ (.inl ⟨_, rfl, Rat.ext (Rat.num_intCast _).symm (by rw [Rat.den_intCast]; omega)⟩)
        · walk_at "g"
          exact go _ rx3.num
      · walk_at "g"
        exact fin _ H' mo tp' am' af' hnum hws' rx.num
    · obtain ⟨hs, u3, rfl, mo, tp', am', af', hnum, hws'⟩ := h
      walk_at "g"
      intro x dx hx hdx hne
      rw [show ys.length = ws.length from hws.length, List.take_length] at hnum
      have ex5 : Ex H' (upd (upd H' dx (.own x)) x (.ins a.C_Scale dx [])) := fun b o hb => by
        rw [upd_ne (ne_of_none hb hx), upd_ne (ne_of_none hb hdx)]
        exact hb
      obtain ⟨ds, hds, dn, da, df, dl⟩ := nums_da (hnum.mono ex5) fun q hq => sz_le (wsz q hq) (by decide)
      have srt : isort (ds.map Da.num) = qs := by
        rw [dn]
        exact isort_climb asc pw.symm
      have hval : ValsOf (.lst ds) qs := ⟨ds, .inl rfl, da, by omega, by omega, srt.symm, climbB_iff.mpr asc⟩
      refine ⟨x, dx, .ref f, .lst ds, rfl, .lst (ex5 _ _ af') hds, ?_, upd_same, fun cs hc m3 rs3 H6 hm3 keep hx6 hm6 hrs6 => ⟨rfl, ?_⟩, fun h => absurd hval (h _)⟩
      · unfold Da.fine
        rw [Bool.and_eq_true]
        exact ⟨decide_eq_true (by omega), df⟩
      · have ec : cs = qs := by
          obtain ⟨ds2, h1, _, _, _, h5, _⟩ := hc
          rcases h1 with h1 | h1
          · injection h1 with h1
            subst h1
            rw [h5, srt]
          · cases h1
        subst ec
        have keep6 : ∀ b o, H' b = some o → H6 b = some o := fun b o hb => keep b o (ex5 _ _ hb) (ne_of_none hb hx)
        have tx := Mo.free mo tp' hx
        refine z x H6 tx (fun b o hb hn => keep6 _ _ (mo b o hb hn)) ?_ ⟨dx, m3, rs3, hx6, hm6, hrs6⟩
        obtain ⟨t0, t1, a0, a1, a2, h⟩ := tp'
        exact ⟨t0, t1, a0, a1, a2, keep6 _ _ h⟩
end
end Kx


set_option maxHeartbeats 4000000
namespace Kx
open PySem PySem.Spec PyProof.Rows L2 Fm
local macro_rules | `(tactic| walk_at "gv") => `(tactic| ((with_reducible refine' g_var ?gh ?_); (case gh => exact rfl)))
local macro_rules | `(tactic| walk_at "g1") => `(tactic| first
  | walk_at "gv"
  | with_reducible refine g_c ?_ | with_reducible refine g_op ?_ | with_reducible refine g_un ?_ | with_reducible refine g_I0 ?_ | with_reducible refine g_U ?_
  | with_reducible refine g_eqI ?_ | with_reducible refine g_neI ?_ | with_reducible refine g_eqS ?_ | with_reducible refine g_neS ?_
  | with_reducible refine g_test ?_ | with_reducible refine g_B ?_ | with_reducible refine g_bl ?_ | with_reducible refine g_not ?_ | with_reducible refine g_and ?_ | with_reducible refine g_or ?_
  | with_reducible refine g_andV ?_ | with_reducible refine g_orV ?_ | with_reducible refine g_notV ?_ | with_reducible refine g_chain ?_ | with_reducible refine g_if ?_ | with_reducible refine g_ifS ?_
  | with_reducible refine g_seq ?_ | with_reducible refine g_next ?_ | with_reducible refine g_break ?_ | with_reducible refine g_cont ?_ | with_reducible refine g_drop ?_ | with_reducible refine g_ret ?_ | with_reducible refine g_retN ?_
  | with_reducible refine g_asg ?_ | with_reducible refine g_name ?_ | with_reducible refine g_par ?_ | with_reducible refine g_par2 ?_ | with_reducible refine g_fld ?_ | with_reducible refine g_sfld ?_
  | with_reducible refine g_nil ?_ | with_reducible refine g_cons ?_ | with_reducible refine g_tup ?_ | with_reducible refine g_lst ?_ | with_reducible refine g_call ?_ | with_reducible refine g_meth ?_ | with_reducible refine g_make1 ?_ | with_reducible refine g_make ?_ | with_reducible refine g_cb ?_ | with_reducible refine g_sub ?_ | with_reducible refine g_m0 ?_ | with_reducible refine g_gcons ?_ | with_reducible refine g_gnil ?_ | with_reducible refine g_for ?_ | with_reducible refine g_lc ?_ | with_reducible refine g_ilist ?_ | with_reducible refine g_itup ?_ | with_reducible refine g_rng1 ?_ | with_reducible refine g_rng3 ?_ | with_reducible refine g_yes ?_ | with_reducible refine g_sl ?_ | with_reducible refine g_nopart ?_ | with_reducible refine g_part ?_ | with_reducible refine g_exI ?_ | with_reducible refine g_m1 ?_ | with_reducible refine g_isS ?_ | with_reducible refine g_bm ?_ | with_reducible refine g_revL ?_ | with_reducible refine g_istr ?_ | with_reducible refine g_notInS ?_ | with_reducible refine g_absI ?_ | with_reducible refine g_intI ?_ | with_reducible refine g_izip ?_ | with_reducible refine g_ienum ?_ | with_reducible refine g_bm0 ?_ | with_reducible refine g_mko ?_ | with_reducible refine g_methW ?_ | with_reducible refine g_callW ?_
  | with_reducible refine iteT ?_ | with_reducible refine iteF ?_ | with_reducible refine g_gcd ?_)
local macro_rules | `(tactic| walk_at "g") => `(tactic| (repeat (first | walk_at "g1" | dsimp only [cx_K, cx_Kn, b_nt, b_nf])))
local macro_rules | `(tactic| walk_at "mul") => `(tactic| exact mulA (a := 200) (b := 200) (by omega) (by omega) (by decide))
local macro_rules | `(tactic| walk_at "pow") => `(tactic| exact ⟨by omega, by omega, by omega⟩)

theorem dpAll_nums {K : PySem.W.Frag} {H : Hp} (f : Nat → Int) : ∀ l : List Nat, DpAll K H (l.map fun k => V.int (f k)) (l.map fun k => PyData.int (f k))
  | [] => .nil
  | _ :: r => .cons (.int _) (dpAll_nums f r)
theorem canLay_nums (f : Nat → Int) : ∀ l : List Nat, PyData.canLayAll0 (l.map fun k => PyData.int (f k)) = true
  | [] => by simp [PyData.canLayAll0]
  | n :: r => by simp [PyData.canLayAll0, PyData.canLay0, canLay_nums f r]
theorem depth_nums (f : Nat → Int) : ∀ l : List Nat, PyData.depthAll (l.map fun k => PyData.int (f k)) ≤ 1
  | [] => by simp [PyData.depthAll]
  | n :: r => by
    have := depth_nums f r
    simp only [List.map_cons, PyData.depthAll, PyData.depth]
    omega
theorem shaped_nums (f : Nat → Int) (l : List Nat) : SeqAt.shaped (.list (l.map fun k => PyData.int (f k))) = true := by
  have h1 := depth_nums f l
  have h2 : PyData.depth (.list (l.map fun k => PyData.int (f k))) ≤ 64 := by simp only [PyData.depth]; omega
  show (PyData.canLay0 (.list (l.map fun k => PyData.int (f k))) && decide (PyData.depth (.list (l.map fun k => PyData.int (f k))) ≤ 64)) = true
  rw [Bool.and_eq_true]
  exact ⟨by simp only [PyData.canLay0]; exact canLay_nums f l, decide_eq_true h2⟩
theorem eqv_nums (f : Nat → Int) (l : List Nat) : PyData.eqv (.list (l.map fun k => PyData.int (f k))) (.list (l.map fun k => PyData.int (f k))) = true := SeqAt.eqv_refl _ (by simp only [PyData.canLay0]; exact canLay_nums f l)
theorem asc_one {qs : List Rat} (h : qs.Pairwise (· < ·)) {i j : Nat} {q : Rat} (hi : qs[i]? = some q) (hj : qs[j]? = some q) : ¬ j < i := fun l => by
  rw [List.pairwise_iff_getElem] at h
  obtain ⟨hi', ei⟩ := List.getElem?_eq_some_iff.mp hi
  obtain ⟨hj', ej⟩ := List.getElem?_eq_some_iff.mp hj
  have := h j i hj' hi' l
  rw [ei, ej] at this
  exact absurd this Rat.lt_irrefl
def spIsS (CS C : Addr) : Sp := fun vs H Q _ => ∃ (s p : Addr) (xs : List V) (qs : List Rat), vs = [.ref s, .ref p] ∧ ScaleAt CS C H s qs ∧ H p = some (.lst xs) ∧ RatsV C H xs qs ∧ qs.Pairwise (· < ·) ∧ 1 ≤ qs.length ∧ qs.length ≤ 8 ∧ (∀ q ∈ qs, Sz 199 q) ∧ ∀ H', Ex H H' → Q (.bl true) H'
section
variable {P : Program} {w : World} {K : PySem.W.Frag} {mg : Str → Option Value} {base : Heap} {a : Ad}
theorem ok_Lis (T : Tx K mg a) : FnOk P w K mg base CX0 7 a.f_Lis a.d_Lis P_Lis (spIsS a.C_Scale a.C_Ratio) := by
  refine def_ok0 T.F_Lis sc_Lis (fun vs H Q E h => ?_) (fun cdv A outer s H vs Q E hr h => ?_)
  · obtain ⟨s, p, xs, qs, rfl, _⟩ := h
    rfl
  · obtain ⟨sc, p, xs, qs, rfl, hs, hp, hrs, asc, l1, l8, sz, z⟩ := h
    refine ⟨_, (pss_cons (ps_if (PW.pt (pw_or (pt_cmpR (op_lsRN hr.units0 T.R (op_cmp (fun _ _ => rfl) T.p_eq (ok_Ratio_eq T) (hr.mono (by decide) : Room 5 _).in1 (bd_Ratio_eq T) pass0)) (pe_meth0 (pv 0) T.RS.cl T.m_Scale_marks (ok_Scale_marks T) (hr.mono (by decide)) (bd_Scale_marks T) .nil pass0) (pv 1) (nomark _)) (pw_or1 (pt_cmpR op_ne (pe_callB (cr_lenOwn T.ln_Scale T.lf_Scale (ok_Scale_len T) (hr.mono (by decide)) (bd_Scale_len T) pass0) (by rfl) T.b_len (by decide +kernel) (pa_cons (pv 0) pa_nil)) (pe_callB call_lenQ (by rfl) T.b_len (by decide +kernel) (pa_cons (pv 1) pa_nil)) (nomark _))))) (pss_one (ps_ret pe_bl)) pss_nil) (pss_cons (ps_if (pt_cmpR (op_neD hr.units) (pe_lc (own := [("_law_mark", 2)]) (g := (gName 2)) rfl sc_Lis.nd (pi_list (pe_meth0 (pv 0) T.RS.cl T.m_Scale_marks (ok_Scale_marks T) (hr.mono (by decide)) (bd_Scale_marks T) .nil pass0)) (blkOk_by (N := N_Lis) (sc := defScope s_Lis) (by decide +kernel)) (fun _ _ _ _ _ => pg_name (i := 2) sc_Lis.nd rfl (Or.inl rfl)) (fun _ _ _ _ _ => pts_one (pt_not (pt_val (pe_callB (call_isiV (K := K) rfl) (by rfl) T.b_isinstance (by decide +kernel) (pa_cons (pv 2) (pa_cons (pe_glob (v := .ref a.C_Ratio) rfl T.g_Ratio rfl) pa_nil)))))) (fun _ _ _ _ _ => pe_int)) (pe_lst pa_nil) (nomark _)) (pss_one (ps_ret pe_bl)) pss_nil) (pss_one (ps_ret (pe_cmpR (op_eqD hr.units) (pe_lc (own := [("_law_mark", 2)]) (g := (gName 2)) (tt := tYes) rfl sc_Lis.nd (pi_list (pv 1)) (blkOk_by (N := N_Lis) (sc := defScope s_Lis) (by decide +kernel)) (fun _ _ _ _ _ => pg_name (i := 2) sc_Lis.nd rfl (Or.inl rfl)) (fun _ _ _ _ _ => pts_nil) (fun _ _ _ _ _ => (pe_meth (pv 0) T.RS.cl T.m_Scale_place (ok_Scale_place T) (hr.mono (by decide)) (bd_Scale_place T) .nil passN (pa_cons (pv 2) pa_nil)))) (pe_listRg rfl (by rfl) T.b_list (prg_1 (by rfl) T.b_range (pe_callB call_lenQ (by rfl) T.b_len (by decide +kernel) (pa_cons (pv 1) pa_nil)))) (nomark _)))))), ?_⟩
    walk_at "g"
    have hlen : xs.length = qs.length := hrs.length
    obtain ⟨dx, m, rs, hs1, hs2, hs3⟩ := id hs
    refine ⟨sc, dx, _, rfl, hs1, marks_no m (by decide +kernel), ?_⟩
    refine ⟨sc, qs, rfl, hs, fun l ls H1 hl e1 hl1 hls => ?_⟩
    walk_at "g"
    refine ⟨l, p, ls, xs, qs, qs, rfl, rfl, hl1, e1 _ _ hp, hls, (hrs.mono e1).nums, fun q hq => sz_le (sz q hq) (by decide), fun H2 e2 => ?_⟩
    rw [if_pos rfl, decide_eq_true rfl]
    have x2 := e1.trans e2
    walk_at "g"
    refine ⟨sc, dx, _, rfl, x2 _ _ hs1, sc, qs, rfl, hs.mono x2, fun H3 e3 => ⟨qs.length, rfl, by omega, ?_⟩⟩
    have x3 := x2.trans e3
    walk_at "g"
    refine g_lenQ (SqL.of (x3 _ _ hp)) ?_
    walk_at "g"
    rw [hlen, decide_eq_true rfl]
    walk_at "g"
    refine ⟨sc, dx, _, rfl, x3 _ _ hs1, marks_no m (by decide +kernel), ?_⟩
    walk_at "g"
    refine ⟨sc, qs, rfl, hs.mono x3, fun l2 ls2 H4 hl4 e4 hl24 hls2 => ?_⟩
    have x4 := x3.trans e4
    refine ⟨l2, rfl, ⟨ls2, SqL.of hl24⟩, cp_L (xs := ls2) (fun D i H' => Ex H4 H' ∧ H' D = some (.lst [])) (fun D hD => ⟨Ex.new hD, upd_same⟩) (fun D hD i H' _ h => SqL.of (h.1 _ _ hl24)) (fun D hD i x H' hx h => ?_) (fun D hD H5 h => ?_)⟩
    · obtain ⟨q, hq, rx⟩ := prd_get hls2 hx
      refine ⟨rfl, ?_⟩
      walk_at "g"
      refine g_isi (ty_rat T.R (rx.mono h.1)) (.own _) (kit_own T.R .own) ?_
      walk_at "g"
      exact g_ite (fun h => by simp at h) fun _ => h
    · obtain ⟨e5, h5⟩ := h
      have x5 := x4.trans e5
      walk_at "g"
      refine ⟨len_lit rfl, fun n hn => ?_⟩
      have e6 : Ex H5 (upd H5 n (.lst [])) := Ex.new hn
      have a6 : (upd H5 n (.lst [])) n = some (.lst []) := upd_same
      generalize (upd H5 n (.lst [])) = H6 at e6 a6 ⊢
      have x6 := x5.trans e6
      refine ⟨.list [], .list [], .lst (SqL.of (e6 _ _ h5)) .nil, .lst (SqL.of a6) .nil, rfl, rfl, ?_⟩
      rw [show PyData.eqv (.list []) (.list []) = true from rfl]
      walk_at "g"
      refine ⟨p, rfl, ⟨xs, SqL.of (x6 _ _ hp)⟩, cp_L (xs := xs) (fun D i H' => Ex H6 H' ∧ H' D = some (.lst ((List.range i).map fun k : Nat => V.int (0 + (k : Nat))))) (fun D hD => ⟨Ex.new hD, upd_same⟩) (fun D hD i H' _ h => SqL.of (h.1 _ _ (x6 _ _ hp))) (fun D hD i x H' hx h => ?_) (fun D hD H7 h => ?_)⟩
      · obtain ⟨q, hq, rx⟩ := prd_get hrs hx
        have x8 := x6.trans h.1
        have sq := sz q (List.mem_of_getElem? hq)
        have hil : i < xs.length := (List.getElem?_eq_some_iff.mp hx).1
        refine ⟨rfl, ?_⟩
        walk_at "g"
        refine ⟨sc, dx, _, rfl, x8 _ _ hs1, marks_no m (by decide +kernel), ?_⟩
        walk_at "g"
        refine ⟨sc, x, .rat q, qs, rfl, hs.mono x8, fun q hq => sz_le (sz q hq) (by decide), by omega, .rat (rx.mono x8), ?_, fun j _ hj hno H9 e9 => ?_, fun hn => absurd hq (hn i rfl)⟩
        · unfold Da.fine
          rw [Bool.and_eq_true]
          exact ⟨decide_eq_true (by have := sq.1; omega), decide_eq_true (by have := sq.2; omega)⟩
        · have ej : j = i := by
            have a1 : ¬ i < j := fun l => hno i l hq
            have a2 := asc_one asc hq hj
            omega
          subst ej
          refine ⟨_, e9 _ _ h.2, Nat.lt_of_le_of_lt (m := 100) (by rw [List.length_map, List.length_range]; omega) (by decide), (h.1.trans e9).mut hD, ?_⟩
          rw [upd_same, List.range_succ, List.map_append, List.map_cons, List.map_nil, Int.zero_add]
      · obtain ⟨e7, h7⟩ := h
        have x7 := x6.trans e7
        have goal : rLenQ K [.ref p] H7 fun x H1 => ∃ n, x = .int n ∧ (RgOk 0 n ∧ ∀ q, H1 q = none → rEqD K (.ref D) (.ref q) (upd H1 q (.lst (rgV 0 n))) Q) := by
          refine g_lenQ (SqL.of (x7 _ _ hp)) ⟨_, rfl, .of_le (by decide) (by omega) (by decide) (by omega), fun r hr2 => ?_⟩
          have e8 : Ex H7 (upd H7 r (.lst (rgV 0 (xs.length : Int)))) := Ex.new hr2
          refine ⟨_, _, .lst (SqL.of (e8 _ _ h7)) (dpAll_nums (fun k => 0 + (k : Int)) _), .lst (SqL.of upd_same) (dpAll_nums (fun k => 0 + (k : Int)) (List.range ((xs.length : Int) - 0).toNat)), shaped_nums _ _, shaped_nums _ _, ?_⟩
          rw [Int.sub_zero, Int.toNat_natCast, eqv_nums]
          exact z _ (x7.trans e8)
        walk_at "g"
        show tCB (rLenQ K) (tCons (tVar 1) tNil) (L2.start N_Lis [.ref sc, .ref p]) H7 fun x H1 => ∃ n, x = V.int n ∧ (RgOk 0 n ∧ ∀ q, H1 q = none → rEqD K (.ref D) (.ref q) (upd H1 q (.lst (rgV 0 n))) Q)
        walk_at "g"
        exact goal
end
end Kx


set_option maxHeartbeats 2000000
namespace Fm
open PySem PySem.Spec PyProof.Rows L2
/-! ### C(k = v) and o.m(e, k = v), the errors wished for at the slots -/
section
variable {X : Cx} {CX : CXT} {k n : Nat} {f C : Addr} {fd : FuncData} {ps ks : List Str} {sp : Sp} {E : L2.St → XK} {x m : Str} {p pos apos : Pos} {e o : Expr} {es : List Expr} {kws : List Keyword} {t tk : TA} {ta : TE} {g : List Value → List Value → List Value} {gV : List V → List V → List V}
theorem run_makeW {pins : List (Addr × Obj)} {σ : L2.St} {H : Hp} {s : Shared} {Q : VK} {us ws : List Value} {vs zs : List V} (M : Mk X.K C f) (F : FnOk X.prog X.w X.K X.mg X.base CX k f fd ps sp) (hr : Room (k + 1) X.A) (hb : KBn X.K fd ps (n + 1) ks g gV) (hx : PassesAt CX X σ (E σ))
    (I : Inv X pins σ H s) (r : Vals vs us) (rz : Vals zs ws) (l1 : vs.length = n) (l2 : zs.length = ks.length)
    (h : ∀ x dx, H x = none → H dx = none → dx ≠ x → sp (gV (.ref x :: vs) zs) (upd (upd H dx (.own x)) x (.ins C dx [])) (fun v H2 => v = .non ∧ Q (.ref x) H2) (E σ)) :
    wpAny (model X.prog X.w) X.A (call (.ref C) us (ks.zip ws)) (EP X pins σ Q) X.xe s := by
  have hq := h (s.heap.objs.size + 1) s.heap.objs.size (I.hok.fresh (Nat.le_succ _)) (I.hok.fresh (Nat.le_refl _)) (Nat.ne_of_lt (Nat.lt_succ_self _))
  have I2 := Inv.made (C := C) I
  have r1 : Vals (V.ref (s.heap.objs.size + 1) :: vs) (Value.ref (s.heap.objs.size + 1) :: us) := .cons rfl r
  have r2 := hb.rel r1 rz
  have n1 : (Value.ref (s.heap.objs.size + 1) :: us).length = n + 1 := by
    rw [List.length_cons, ← r.length, l1]
  refine wpAny_call (make_map (f := f) I.kIn M.makes M.init (beq_iff_eq.mp M.fn) (codeAny_mono (F.run _ X.stack _ _ ⟨Value.ref (s.heap.objs.size + 1) :: us, ks.zip ws⟩ (g (Value.ref (s.heap.objs.size + 1) :: us) ws) _ _ (E σ) (hr.make C us (ks.zip ws))
    (I2.env0.make C us (ks.zip ws)) (hb.to _ (Value.ref (s.heap.objs.size + 1) :: us) ws I2.kIn n1 (rz.length.symm.trans l2)) r2 hq) fun r s' hq' => ?_))
  cases r with
  | error e => exact hx pins _ _ e s' I2 hq'
  | ok fl =>
    cases fl with
    | ret u =>
      obtain ⟨v, H', I3, rv, ev, q3⟩ := I2.after hq'
      subst ev
      exact ⟨rv, ⟨V.ref (s.heap.objs.size + 1), H', I3, rfl, q3⟩⟩
    | next => exact False.elim hq'
    | brk => exact False.elim hq'
    | cont => exact False.elim hq'
/-- C(k = v, ..) -/
def tMakeW (C : Addr) (sp : Sp) (gV : List V → List V → List V) (m : Nat) (E : L2.St → XK) (tk : TA) : TE := fun σ H Q => tk σ H fun zs H2 => zs.length = m ∧ ∀ x dx, H2 x = none → H2 dx = none → dx ≠ x →
  sp (gV [.ref x] zs) (upd (upd H2 dx (.own x)) x (.ins C dx [])) (fun v H3 => v = .non ∧ Q (.ref x) H3) (E σ)
theorem pe_makeW (M : Mk X.K C f) (F : FnOk X.prog X.w X.K X.mg X.base CX k f fd ps sp) (hr : Room (k + 1) X.A) (hg : Gl X x) (hm : X.mg x = some (.ref C)) (hb : KBn X.K fd ps 1 ks g gV) (hx : ∀ σ, PassesAt CX X σ (E σ)) (hkw : PK X kws tk)
    (hall : (backToKw pos (keywordEach kws X.env)).all (·.1.isSome) = true := by rfl) (hks : (backToKw pos (keywordEach kws X.env)).filterMap (·.1) = ks := by rfl) (hdb : (x == ("__debug__" : Str)) = false := by decide)
    (hpl : ((backTo pos (starEach [] X.env)).any (·.1) || (backToKw pos (keywordEach kws X.env)).any (·.1.isNone)) = false := by rfl) :
    PE X (.Call (.Name x p) [] kws pos) (tMakeW C sp gV ks.length E tk) := by
  refine ⟨fun pins s σ H Q I h => ?_⟩
  refine wpAny_Call_Name_kw (ld_glob I hg hm ?_ hdb)
  refine PySem.W.callWith_KW0 (h₀ := X.base) I.ok.mod.kin M.kp hall ?_ hpl
  refine thn (hkw.run pos pins s σ H _ I h) fun ws s2 ⟨zs, H2, I2, rz, l2, q2⟩ => ⟨I2.kIn, ?_⟩
  rw [hks]
  exact run_makeW (us := []) (vs := []) M F hr hb (hx σ) I2 .nil rz rfl l2 q2
/-- o.m(e, .., k = v, ..) -/
def tMethP (C : Addr) (m : Str) (sp : Sp) (gV : List V → List V → List V) (n j : Nat) (E : L2.St → XK) (ta : TE) (t tk : TA) : TE := fun σ H Q => ta σ H fun x H1 => ∃ a dx fs, x = .ref a ∧ H1 a = some (.ins C dx fs) ∧ fs.lookup m = none ∧
  t σ H1 fun vs H2 => tk σ H2 fun zs H3 => vs.length = n ∧ zs.length = j ∧ sp (gV (x :: vs) zs) H3 Q (E σ)
theorem pe_methP {pl : Sem Bool} (he : PE X o ta) (c : Cls X.K C) (hm : Meth X.K C m f) (F : FnOk X.prog X.w X.K X.mg X.base CX k f fd ps sp) (hr : Room k X.A) (hb : KBn X.K fd ps (n + 1) ks g gV) (hx : ∀ σ, PassesAt CX X σ (E σ)) (ha : PA X (e :: es) t) (hkw : PK X kws tk)
    (hall : (backToKw pos (keywordEach kws X.env)).all (·.1.isSome) = true := by rfl) (hks : (backToKw pos (keywordEach kws X.env)).filterMap (·.1) = ks := by rfl)
    (hst : starEach (e :: es) X.env = (false, eval e X.env) :: starEach es X.env := by rfl)
    (hpl : ((backTo pos (starEach (e :: es) X.env)).any (·.1) || (backToKw pos (keywordEach kws X.env)).any (·.1.isNone)) = false := by rfl)
    (ht : eval (.Call (.Attribute o m apos) (e :: es) kws pos) X.env = (do
      let ov ← eval o X.env
      standAt apos.atName
      let (f, first) ← holding [ov] (getMethod ov m pl)
      callWith pos f first (backTo pos (starEach (e :: es) X.env)) (backToKw pos (keywordEach kws X.env))) := by rfl) :
    PE X (.Call (.Attribute o m apos) (e :: es) kws pos) (tMethP C m sp gV n ks.length E ta t tk) := by
  refine ⟨fun pins s σ H Q I h => ?_⟩
  refine PySem.W.methodCall_KW (pl := pl) (thn (he.run pins s σ H _ I h) fun u s1 hh => ?_) ht
  obtain ⟨x, H1, I1, rx, a, dx, fs, ex, ea, l, q⟩ := hh
  subst ex
  cases rx
  refine getmeth_ok I1 ea c hm l ?_
  refine PySem.W.callWith_KW (first := [.ref a]) (h₀ := X.base) I.ok.mod.kin hm.kp hall (thn (ha.run pos pins s1 σ H1 _ I1 q) fun us s3 ⟨vs, H3, I3, r3, q3⟩ => ?_) hpl hst
  refine thn (hkw.run pos pins s3 σ H3 _ I3 q3) fun ws s2 hh => ?_
  obtain ⟨zs, H2, I2, rz, l1, l2, q2⟩ := hh
  refine ⟨I2.kIn, ?_⟩
  rw [hks]
  exact run_kwS (us := .ref a :: us) (vs := .ref a :: vs) F hr hb (hx σ) I2 (.cons rfl r3) rz (by rw [List.length_cons, l1]) l2 q2
end
section
variable {σ : L2.St} {H : Hp} {Q : VK} {sp : Sp} {gV : List V → List V → List V} {E : L2.St → XK} {tk t : TA} {ta : TE} {n m : Nat} {C : Addr} {nm : Str}
theorem g_makeW (q : tk σ H fun zs H2 => zs.length = m ∧ ∀ x dx, H2 x = none → H2 dx = none → dx ≠ x → sp (gV [.ref x] zs) (upd (upd H2 dx (.own x)) x (.ins C dx [])) (fun v H3 => v = .non ∧ Q (.ref x) H3) (E σ)) : tMakeW C sp gV m E tk σ H Q := q
theorem g_methP (q : ta σ H fun x H1 => ∃ a dx fs, x = .ref a ∧ H1 a = some (.ins C dx fs) ∧ fs.lookup nm = none ∧ t σ H1 fun vs H2 => tk σ H2 fun zs H3 => vs.length = n ∧ zs.length = m ∧ sp (gV (x :: vs) zs) H3 Q (E σ)) : tMethP C nm sp gV n m E ta t tk σ H Q := q
end
end Fm

set_option maxHeartbeats 2000000
namespace Fm
open PySem PySem.Spec PyProof.Rows L2 HotX L2H
/-! ### a list comprehension where an exception is handled -/
section
variable {X : Cx}
theorem lc_hot {pins : List (Addr × Obj)} {s : Shared} {σ : L2.St} {H : Hp} {Q : VK} {elt tg iter : Expr} {ifs : List Expr} {scope : Scope} {own : List (Str × Nat)} {pos pos' : Pos} {wi : TI} {g : TG} {tt : TT} {te : TE} {use : Option (Value → Sem Unit)} {Qf : Value → Shared → Prop}
    (hc : HotC X) (hN : X.N.Nodup) (I : Inv X pins σ H s) (hi : PIH X tg iter wi) (ok : BlkOk X.N X.env.scope scope own)
    (hg : ∀ (s : Shared) (H : Hp) (C : Addr) (cl : List (Str × Addr)) (fp : List Addr) (p : Addr × Obj), Hot1 X.A p → PG ((X.blk s H scope (compEnvC scope cl C X.env) fp).tr [p] (fun _ _ => False)) tg g) (ht : ∀ (s : Shared) (H : Hp) (C : Addr) (cl : List (Str × Addr)) (fp : List Addr) (p : Addr × Obj), Hot1 X.A p → PTs ((X.blk s H scope (compEnvC scope cl C X.env) fp).tr [p] (fun _ _ => False)) ifs tt)
    (he : ∀ (s : Shared) (H : Hp) (C : Addr) (cl : List (Str × Addr)) (fp : List Addr) (p : Addr × Obj), Hot1 X.A p → PE ((X.blk s H scope (compEnvC scope cl C X.env) fp).tr [p] (fun _ _ => False)) elt te) (hs : ∀ x, foldedSetIterable iter X.env x = pure x)
    (h : tLc wi g tt te (own.map (·.2)) σ H Q)
    (hRR : ∀ D C s' m H', Inv X pins σ H' s' → Q (.ref D) H' → s'.heap.Ns C m → FpOk X pins H' C → compPost (model X.prog X.w) X.A X.xe use Qf (.ref D) C (.ok .next) s') :
    wpAny (model X.prog X.w) X.A (comprehension (.ListComp elt [⟨tg, iter, ifs, 0⟩] scope pos) scope X.env pos' (newList []) false (eval iter X.env) use) Qf X.xe s := by
  obtain ⟨p0, hot0, hp0⟩ := hc
  have hfree : ∀ y ∈ scope.names, y.2 = .free → ∃ c, X.env.cells.lookup y.1 = some c := fun y hy e => by
    rcases ok.free y hy e with k | k
    · exact I.ok.has _ (.inl k)
    · exact I.ok.has _ (.inr k)
  refine wpAny_comprehension_free (use := use) rfl hs (closure_ok hfree) ok.kind (fun y hy e => by rw [ok.uniq y hy, e])
    (thn (hi.run pins s σ H _ I h) fun xv s1 hx => thn hx fun itv s2 h2 => ?_)
  obtain ⟨it, fp, tn, J, H2, e, I2, T, st2, f2, q⟩ := h2
  subst e
  refine wpAny_newObj_type (newEnv_comp ?_) (by show 0 ≤ sizeLine; decide)
  generalize hD : s2.heap.objs.size = D
  have hDn : H2 D = none := I2.hok.fresh (Nat.le_of_eq hD)
  obtain ⟨W, ⟨m0, w0⟩, turn⟩ := q D hDn
  -- the new list
  generalize hs3 : ({ s2 with heap := s2.heap.push { cls := .type "list", data := .seq ([] : List Value).toArray } } : Shared) = s3
  have I3 : Inv X pins σ (upd H2 D (.lst [])) s3 := by
    rw [← hs3]
    refine I2.laid (t' := s2.toks) (fun b o e => Heap.get?_push_of_some _ e) (Nat.le_of_eq hD) ⟨Nat.zero_le _, [], 0, .nil, ?_⟩
    rw [← hD]
    exact Heap.get?_push_size _ rfl
  have h3 : s3.heap = s2.heap.push { cls := .type "list", data := .seq ([] : List Value).toArray } := by rw [← hs3]
  have sz : ∀ b ∈ fp, b < s2.heap.objs.size := fun b hb => by
    obtain ⟨o, e, _⟩ := T.obj _ _ st2 b hb
    exact Heap.lt_size e
  have f3 : ∀ b ∈ fp, FpOk X pins (upd H2 D (.lst [])) b ∧ b < s3.heap.objs.size := fun b hb => by
    have hlt := sz b hb
    refine ⟨⟨?_, (f2 b hb).2⟩, by rw [h3, Heap.size_push]; exact Nat.lt_succ_of_lt hlt⟩
    rw [upd_ne (by rw [← hD]; exact Nat.ne_of_lt hlt)]
    exact (f2 b hb).1
  have st3 : tn 0 s3.heap := T.keep _ _ _ st2 fun b _ o e => by rw [h3]; exact Heap.get?_push_of_some _ e
  have pp := I3.pin p0 (List.mem_append_left _ hp0)
  have I4 : L2.Inv ((X.blk s3 (upd H2 D (.lst [])) scope (compEnvC scope (cellsFrom (s3.heap.objs.size + 1) scope.names (cloFrom X.env.cells scope.names [])) s3.heap.objs.size X.env) fp).tr [p0] (fun _ _ => False)) [] (wipe σ (own.map (·.2))) (upd H2 D (.lst [])) { s3 with heap := pushCells (s3.heap.push { cls := .type "dict", data := .dict #[] }) scope.names } := Inv.toTry (pins := [p0]) ((block_start I3 ok hN f3).pins_of fun q hq => by
    have eq : q = p0 := List.mem_singleton.mp hq
    subst eq
    exact ⟨pushCells_keeps _ _ _ _ (Heap.get?_push_of_some _ pp.1), pp.2.1, Nat.ne_of_lt (Heap.lt_size pp.1), fun hm => (List.mem_cons.mp (I3.stkSub q.1 hm)).elim pp.2.2.1 pp.2.2.2.1, pp.2.2.2.2⟩) (fun _ _ => False)
  have pg := hg s3 (upd H2 D (.lst [])) s3.heap.objs.size (cellsFrom (s3.heap.objs.size + 1) scope.names (cloFrom X.env.cells scope.names [])) fp p0 hot0
  have pt := ht s3 (upd H2 D (.lst [])) s3.heap.objs.size (cellsFrom (s3.heap.objs.size + 1) scope.names (cloFrom X.env.cells scope.names [])) fp p0 hot0
  have pe := he s3 (upd H2 D (.lst [])) s3.heap.objs.size (cellsFrom (s3.heap.objs.size + 1) scope.names (cloFrom X.env.cells scope.names [])) fp p0 hot0
  show codeAny _ _ (.compStart (.ListComp elt [⟨tg, iter, ifs, 0⟩] scope pos) 0 (.ref it) (.ref D) (compEnvC scope (cellsFrom (s3.heap.objs.size + 1) scope.names (cloFrom X.env.cells scope.names [])) s3.heap.objs.size X.env)) (compPost (model X.prog X.w) X.A X.xe use Qf (.ref D) s3.heap.objs.size) { s3 with heap := pushCells (s3.heap.push { cls := .type "dict", data := .dict #[] }) scope.names }
  have nfp : ∀ b ∈ fp, (upd H2 D (.lst [])) b = none := fun b hb => (f3 b hb).1.1
  generalize hce : compEnvC scope (cellsFrom (s3.heap.objs.size + 1) scope.names (cloFrom X.env.cells scope.names [])) s3.heap.objs.size X.env = ce at I4 pg pt pe ⊢
  have cL : ce.locals = s3.heap.objs.size := by subst hce; rfl
  generalize hH3 : upd H2 D (.lst []) = H3 at I3 I4 pg pt pe w0 nfp f3
  generalize hs4 : ({ s3 with heap := pushCells (s3.heap.push { cls := .type "dict", data := .dict #[] }) scope.names } : Shared) = s4 at I4 ⊢
  have st4 : tn 0 s4.heap := T.keep _ _ _ st3 fun b _ o e => by rw [← hs4]; exact pushCells_keeps _ _ _ _ (Heap.get?_push_of_some _ e)
  have stat : ∀ {σ' : L2.St} {H' : Hp} {s' : Shared}, Inv ((X.blk s3 H3 scope ce fp).tr [p0] (fun _ _ => False)) [] σ' H' s' → (∀ b ∈ fp, H' b = none) → ∀ b ∈ fp, FpOk ((X.blk s3 H3 scope ce fp).tr [p0] (fun _ _ => False)) [] H' b := fun {σ' H' s'} I' hn b hb =>
    ⟨hn b hb, (I'.ok.exf b hb).1, I'.ok.exfs b hb, .inl hb, fun x c e => (I'.ok.exf b hb).2 x c e, fun p hp => by
      have e : p = p0 := by simpa using (show p ∈ [p0] ++ ([] : List (Addr × Obj)) from hp)
      rw [e]
      exact (f3 b hb).1.2.2.2.2.2 p0 (List.mem_append_left _ hp0)⟩
  have loop : codeAny (model X.prog X.w) X.A (.compLoop (.ListComp elt [⟨tg, iter, ifs, 0⟩] scope pos) 0 (.ref it) (.ref D) ce) (compPost (model X.prog X.w) X.A X.xe use Qf (.ref D) s3.heap.objs.size) s4 := by
    refine compLoop_any (fun n s' => ∃ i H', Inv ((X.blk s3 H3 scope ce fp).tr [p0] (fun _ _ => False)) [] (wipe σ (own.map (·.2))) H' s' ∧ tn i s'.heap ∧ (∀ b ∈ fp, H' b = none) ∧ W i n H') ?_ m0 ⟨0, H3, I4, st4, nfp, w0⟩
    rintro n s5 ⟨i, H5, I5, st5, n5, w5⟩
    rcases turn i n H5 w5 with ⟨stop, qq⟩ | ⟨go, Nx, hNx, step⟩
    · have td := T.done ((X.blk s3 H3 scope ce fp).tr [p0] (fun _ _ => False)) rfl rfl rfl ⟨p0, hot0, List.mem_singleton.mpr rfl⟩ i [] s5 _ H5 (fun _ _ => False) I5 (stat I5 n5) st5 stop
      refine thnF td fun r s6 ⟨hr, I6⟩ => ?_
      subst hr
      -- back in the def's context
      have I7 : Inv X pins σ H5 s6 := I3.call' (ch := fp) I6.os I6.base I6.hok I6.bare fun b hb => ⟨(f3 b hb).1.2.2.2.1, (f3 b hb).1.2.1, (f3 b hb).1.2.2.2.2.1, (f3 b hb).1.2.2.2.2.2⟩
      have nC : H5 s3.heap.objs.size = none := by
        have z : H5 ce.locals = none := I6.free
        rw [cL] at z
        exact z
      obtain ⟨m, hn, _⟩ := I6.loc
      have hn : s6.heap.Ns ce.locals m := hn
      rw [cL] at hn
      exact hRR D s3.heap.objs.size s6 m H5 I7 qq hn (I3.fpOk (Nat.le_refl _) nC)
    · have ti := T.item ((X.blk s3 H3 scope ce fp).tr [p0] (fun _ _ => False)) rfl rfl rfl ⟨p0, hot0, List.mem_singleton.mpr rfl⟩ i [] s5 _ H5 (fun _ _ => False) I5 (stat I5 n5) st5 go
      refine thnF ti fun r s6 ⟨u, hr, h6⟩ => ?_
      subst hr
      refine thnF h6 fun _ s7 ⟨x, H7, I7, r7, y7, st7, n7⟩ => ?_
      have I7' := I7.pinned (stat I7 n7) (T.obj _ _ st7)
      refine thnF (pg.run _ s7 _ H7 x u _ I7' r7 (step x H7 y7)) fun _ s8 ⟨σ8, H8, I8, hw8, q8⟩ => ?_
      refine thnF (pt.run _ s8 σ8 H8 _ I8 q8) fun b s9 ⟨H9, I9, q9⟩ => ?_
      -- the turn's end
      have fin : ∀ {s' : Shared} {H' : Hp}, Inv ((X.blk s3 H3 scope ce fp).tr [p0] (fun _ _ => False)) ([] ++ pinsAt fp s7.heap) σ8 H' s' → Nx H' → ∃ m, m < n ∧ ∃ i H', Inv ((X.blk s3 H3 scope ce fp).tr [p0] (fun _ _ => False)) [] (wipe σ (own.map (·.2))) H' s' ∧ tn i s'.heap ∧ (∀ b ∈ fp, H' b = none) ∧ W i m H' := fun {s' H'} I' nx => by
        obtain ⟨m', hm, w'⟩ := hNx H' nx
        have pin' : ∀ b ∈ fp, ∀ o, s7.heap.get? b = some o → s'.heap.get? b = some o ∧ H' b = none := fun b hb o e =>
          let z := I'.pin (b, o) (List.mem_append_right _ (List.mem_append_right _ (mem_pinsAt hb e)))
          ⟨z.1, z.2.1⟩
        have hl : (wipe σ (own.map (·.2))).length = σ8.length := by rw [← hw8, wipe_length]
        refine ⟨m', hm, i + 1, H', (I'.unpinned (pins := [])).weak hl (fun j v e => ?_), T.keep _ _ _ st7 fun b hb o e => (pin' b hb o e).1, fun b hb => ?_, w'⟩
        · rw [← hw8] at e
          exact (wipe_some e).1
        · obtain ⟨o, e, _⟩ := T.obj _ _ st7 b hb
          exact (pin' b hb o e).2
      cases b with
      | false =>
        simp only [Bool.false_eq_true, if_false] at q9 ⊢
        exact fin I9 q9
      | true =>
        simp only [if_true] at q9 ⊢
        refine thnF (pe.run _ s9 σ8 H9 _ I9 q9) fun z s10 ⟨yv, H10, I10, r10, acc, hD10, hz10, nx⟩ => ?_
        exact app_ok (X := (X.blk s3 H3 scope ce fp).tr [p0] (fun _ _ => False)) I10 hD10 hz10 r10 fun s11 I11 => fin I11 nx
  exact codeAny_compStart_list loop (T.self X.A 0 _ _ _ st4 loop)
theorem pe_lcH {elt tg iter : Expr} {ifs : List Expr} {scope : Scope} {own : List (Str × Nat)} {pos : Pos} {wi : TI} {g : TG} {tt : TT} {te : TE} (hc : HotC X) (hN : X.N.Nodup) (hi : PIH X tg iter wi) (ok : BlkOk X.N X.env.scope scope own)
    (hg : ∀ (s : Shared) (H : Hp) (C : Addr) (cl : List (Str × Addr)) (fp : List Addr) (p : Addr × Obj), Hot1 X.A p → PG ((X.blk s H scope (compEnvC scope cl C X.env) fp).tr [p] (fun _ _ => False)) tg g) (ht : ∀ (s : Shared) (H : Hp) (C : Addr) (cl : List (Str × Addr)) (fp : List Addr) (p : Addr × Obj), Hot1 X.A p → PTs ((X.blk s H scope (compEnvC scope cl C X.env) fp).tr [p] (fun _ _ => False)) ifs tt)
    (he : ∀ (s : Shared) (H : Hp) (C : Addr) (cl : List (Str × Addr)) (fp : List Addr) (p : Addr × Obj), Hot1 X.A p → PE ((X.blk s H scope (compEnvC scope cl C X.env) fp).tr [p] (fun _ _ => False)) elt te) (hs : ∀ x, foldedSetIterable iter X.env x = pure x := by intro _; rfl) :
    PE X (.ListComp elt [⟨tg, iter, ifs, 0⟩] scope pos) (tLc wi g tt te (own.map (·.2))) := by
  refine ⟨fun pins s σ H Q I h => ?_⟩
  rw [eval_ListComp]
  refine lc_hot hc hN I hi ok hg ht he hs h fun D C s' m H' I' q hn f => ⟨m, hn, fun h2 sb => ?_⟩
  obtain ⟨f0, f1, f2, f3, f4, f5⟩ := f
  exact ⟨.ref D, H', I'.turned (t' := s'.toks) (fun b o hb e => (sb.2 b hb).trans e) f0 f1 f3 f4 f5, rfl, q⟩
end
end Fm

set_option maxHeartbeats 2000000
namespace Fm
open PySem PySem.Spec PyProof.Rows L2 HotX L2H
/-! ### the end of a walk where an exception is handled -/
section
variable {prog : Program} {w : World} {A : Around} {E : Value → Shared → Prop} {s : Shared}
theorem next_list_hot {it l x1 : Addr} {i : Nat} {items : Array Value} {Q : Option Value → Shared → Prop} (hot : HotAt A x1 s.heap) (hne : x1 ≠ it)
    (hit : s.heap.IsListIter it l i) (hl : s.heap.IsList l items) (hx : items[i]? = none)
    (hQ : ∀ h', Heap.ExtBut it s.heap h' → Q none { s with heap := h' }) : wpAny (model prog w) A (pyNext (.ref it)) Q E s := by
  obtain ⟨hh, o1, vs1, h1, d1, c1⟩ := hot
  obtain ⟨o, ho, hc, hd⟩ := id hit
  obtain ⟨ol, hol, _, nl, hdl⟩ := hl
  unfold pyNext
  refine wpAny_bind (wpAny_attempt (wpAny_callSpecial?_slot (name := Str.ofString "__next__") hit.typeIs slot_listiter_next
    (wpAny_call_entry slot_listiter_next hit.typeIs entry_listiter_next ?_ (args_listiter_next _))))
  show wpAny _ _ (field (.ref it) 0 >>= _) _ _ s
  refine wpAny_bind (wpAny_field ho hd (x := .ref l) rfl ?_)
  show wpAny _ _ (if (Value.ref l == Value.none) = true then _ else _) _ _ s
  rw [if_neg (show ¬ ((Value.ref l == Value.none) = true) from Bool.false_ne_true)]
  show wpAny _ _ (field (.ref it) 1 >>= _) _ _ s
  refine wpAny_bind (wpAny_field ho hd (x := .int i 0) rfl ?_)
  show wpAny _ _ (seqItems? (.ref l) >>= _) _ _ s
  refine wpAny_bind (wpAny_seqItems hol hdl ?_)
  simp only [Int.toNat_natCast, hx]
  refine wpAny_bind (wpAny_rule (wpAny_bind (wpAny_setField ho hd (by simp) ?_)))
  show wpAny _ _ (newExc (.type "StopIteration") [] >>= _) _ _ _
  refine wpAny_bind ?_
  simp only [newExc, newTuple]
  refine wpAny_bind (wpAny_newObj_type ?_ (by size_fits))
  refine wpAny_bind (m := firstArgMember _ _) (wpAny_of_eq (a := Value.none) (by first | rfl | (simp only [firstArgMember]; rfl)) ?_)
  refine wpAny_newObj_type ?_ (by size_fits)
  have h1' : (s.heap.update it (Obj.mapFields (·.setIfInBounds 0 .none))).get? x1 = some o1 := by rw [Heap.get?_update_other _ _ hne.symm]; exact h1
  refine raiseNew_hot ⟨hh, o1, vs1, Heap.get?_push_of_some _ (Heap.get?_push_of_some _ h1'), d1, c1⟩ (Nat.ne_of_lt (Heap.lt_size (Heap.get?_push_of_some _ h1'))) (Heap.get?_push_size _ rfl) rfl (by first | (simp; done) | (simp; omega) | (simp only [Array.size_append]; simp; omega)) ?_
  refine wpAny_bind (wpAny_isInstance (T := "StopIteration") (b := true) ⟨_, Heap.get?_update_self _ (Heap.get?_push_size _ rfl) rfl, rfl⟩ isSubtype_stop ?_)
  refine wpAny_pure (hQ _ fun b o hb e => ?_)
  have e' : (s.heap.update it (Obj.mapFields (·.setIfInBounds 0 .none))).get? b = some o := by rw [Heap.get?_update_other _ _ hb.symm]; exact e
  rw [Heap.get?_update_other _ _ (Nat.ne_of_gt (Heap.lt_size (Heap.get?_push_of_some _ e')))]
  exact Heap.get?_push_of_some _ (Heap.get?_push_of_some _ e')
theorem next_tuple_hot {it l x1 : Addr} {i : Nat} {items : Array Value} {Q : Option Value → Shared → Prop} (hot : HotAt A x1 s.heap) (hne : x1 ≠ it)
    (hit : s.heap.IsTupleIter it l i) (hl : s.heap.IsTuple l items) (hx : items[i]? = none)
    (hQ : ∀ h', Heap.ExtBut it s.heap h' → Q none { s with heap := h' }) : wpAny (model prog w) A (pyNext (.ref it)) Q E s := by
  obtain ⟨hh, o1, vs1, h1, d1, c1⟩ := hot
  obtain ⟨o, ho, hc, hd⟩ := id hit
  obtain ⟨ol, hol, _, nl, hdl⟩ := hl
  unfold pyNext
  refine wpAny_bind (wpAny_attempt (wpAny_callSpecial?_slot (name := Str.ofString "__next__") hit.typeIs F.slot_tuple_iterator_next
    (wpAny_call_entry F.slot_tuple_iterator_next hit.typeIs F.entry_tuple_iterator_next ?_ (F.args_tuple_iterator_next_1 _))))
  show wpAny _ _ (field (.ref it) 0 >>= _) _ _ s
  refine wpAny_bind (wpAny_field ho hd (x := .ref l) rfl ?_)
  show wpAny _ _ (if (Value.ref l == Value.none) = true then _ else _) _ _ s
  rw [if_neg (show ¬ ((Value.ref l == Value.none) = true) from Bool.false_ne_true)]
  show wpAny _ _ (field (.ref it) 1 >>= _) _ _ s
  refine wpAny_bind (wpAny_field ho hd (x := .int i 0) rfl ?_)
  show wpAny _ _ (seqItems? (.ref l) >>= _) _ _ s
  refine wpAny_bind (wpAny_seqItems hol hdl ?_)
  simp only [Int.toNat_natCast, hx]
  refine wpAny_bind (wpAny_rule (wpAny_bind (wpAny_setField ho hd (by simp) ?_)))
  show wpAny _ _ (newExc (.type "StopIteration") [] >>= _) _ _ _
  refine wpAny_bind ?_
  simp only [newExc, newTuple]
  refine wpAny_bind (wpAny_newObj_type ?_ (by size_fits))
  refine wpAny_bind (m := firstArgMember _ _) (wpAny_of_eq (a := Value.none) (by first | rfl | (simp only [firstArgMember]; rfl)) ?_)
  refine wpAny_newObj_type ?_ (by size_fits)
  have h1' : (s.heap.update it (Obj.mapFields (·.setIfInBounds 0 .none))).get? x1 = some o1 := by rw [Heap.get?_update_other _ _ hne.symm]; exact h1
  refine raiseNew_hot ⟨hh, o1, vs1, Heap.get?_push_of_some _ (Heap.get?_push_of_some _ h1'), d1, c1⟩ (Nat.ne_of_lt (Heap.lt_size (Heap.get?_push_of_some _ h1'))) (Heap.get?_push_size _ rfl) rfl (by first | (simp; done) | (simp; omega) | (simp only [Array.size_append]; simp; omega)) ?_
  refine wpAny_bind (wpAny_isInstance (T := "StopIteration") (b := true) ⟨_, Heap.get?_update_self _ (Heap.get?_push_size _ rfl) rfl, rfl⟩ isSubtype_stop ?_)
  refine wpAny_pure (hQ _ fun b o hb e => ?_)
  have e' : (s.heap.update it (Obj.mapFields (·.setIfInBounds 0 .none))).get? b = some o := by rw [Heap.get?_update_other _ _ hb.symm]; exact e
  rw [Heap.get?_update_other _ _ (Nat.ne_of_gt (Heap.lt_size (Heap.get?_push_of_some _ e')))]
  exact Heap.get?_push_of_some _ (Heap.get?_push_of_some _ e')
theorem next_key_hot {it d x1 : Addr} {i n ep : Nat} {od : Obj} {es : Array DictEntry} {Q : Option Value → Shared → Prop} (hot : HotAt A x1 s.heap) (hne : x1 ≠ it) (hit : s.heap.IsKeyIter it d i n ep) (hod : s.heap.get? d = some od) (hdd : od.data = .dict es ep)
    (hsz : es.size = n) (hge : n ≤ i) (hQ : ∀ h', Heap.ExtBut it s.heap h' → Q none { s with heap := h' }) : wpAny (model prog w) A (pyNext (.ref it)) Q E s := by
  obtain ⟨hh, o1, vs1, h1, d1, c1⟩ := hot
  obtain ⟨o, ho, hc, hd⟩ := id hit
  unfold pyNext
  refine wpAny_bind (wpAny_attempt (wpAny_callSpecial?_slot (name := Str.ofString "__next__") hit.typeIs F.slot_dict_keyiterator_next
    (wpAny_call_entry F.slot_dict_keyiterator_next hit.typeIs F.entry_dict_keyiterator_next ?_ (F.args_dict_keyiterator_next_1 _))))
  refine wpAny_bind (wpAny_pure ?_)
  refine wpAny_bind ?_
  refine wpAny_bind ?_
  first | refine wpAny_bind (wpAny_typeNameOfWhole_keyiter hit.typeIs (wpAny_pure ?_)) | refine wpAny_bind (wpAny_typeNameOf_keyiter hit.typeIs (wpAny_pure ?_))
  refine wpAny_bind (wpAny_fieldsOf ho hd ?_)
  have hown : Builtin.Dict_items.ownsTuple "dict_keyiterator" = false := by decide
  simp only [hown, Bool.false_eq_true, if_false]
  show wpAny _ _ (if (Value.ref d == Value.none) = true then _ else _) _ _ s
  rw [if_neg (show ¬ ((Value.ref d == Value.none) = true) from Bool.false_ne_true)]
  refine wpAny_bind (wpAny_pure ?_)
  refine wpAny_bind (wpAny_dictEntries hod hdd ?_)
  rw [if_neg (by rw [hsz]; simp)]
  refine wpAny_bind (wpAny_pure ?_)
  refine wpAny_bind (wpAny_dictEpoch hod hdd ?_)
  rw [if_neg (by simp)]
  refine wpAny_pure ?_
  have hge' : es.size ≤ i := by rw [hsz]; exact hge
  simp only [show ¬ ((i : Int) < 0) from by omega, if_false, Int.toNat_natCast, Array.getElem?_eq_none hge']
  refine wpAny_bind ?_
  first | refine wpAny_bind (wpAny_typeNameOfWhole_keyiter hit.typeIs (wpAny_pure ?_)) | refine wpAny_bind (wpAny_typeNameOf_keyiter hit.typeIs (wpAny_pure ?_))
  show wpAny _ _ (setField (.ref it) 0 .none >>= _) _ _ s
  refine wpAny_bind (wpAny_setField ho hd (by simp) ?_)
  show wpAny _ _ (newExc (.type "StopIteration") [] >>= _) _ _ _
  refine wpAny_bind ?_
  simp only [newExc, newTuple]
  refine wpAny_bind (wpAny_newObj_type ?_ (by size_fits))
  refine wpAny_bind (m := firstArgMember _ _) (wpAny_of_eq (a := Value.none) (by first | rfl | (simp only [firstArgMember]; rfl)) ?_)
  refine wpAny_newObj_type ?_ (by size_fits)
  have h1' : (s.heap.update it (Obj.mapFields (·.setIfInBounds 0 .none))).get? x1 = some o1 := by rw [Heap.get?_update_other _ _ hne.symm]; exact h1
  refine raiseNew_hot ⟨hh, o1, vs1, Heap.get?_push_of_some _ (Heap.get?_push_of_some _ h1'), d1, c1⟩ (Nat.ne_of_lt (Heap.lt_size (Heap.get?_push_of_some _ h1'))) (Heap.get?_push_size _ rfl) rfl (by first | (simp; done) | (simp; omega) | (simp only [Array.size_append]; simp; omega)) ?_
  refine wpAny_bind (wpAny_isInstance (T := "StopIteration") (b := true) ⟨_, Heap.get?_update_self _ (Heap.get?_push_size _ rfl) rfl, rfl⟩ isSubtype_stop ?_)
  refine wpAny_pure (hQ _ fun b o hb e => ?_)
  have e' : (s.heap.update it (Obj.mapFields (·.setIfInBounds 0 .none))).get? b = some o := by rw [Heap.get?_update_other _ _ hb.symm]; exact e
  rw [Heap.get?_update_other _ _ (Nat.ne_of_gt (Heap.lt_size (Heap.get?_push_of_some _ e')))]
  exact Heap.get?_push_of_some _ (Heap.get?_push_of_some _ e')
end
/-- the handled exception is no object of the walk -/
theorem hot_off {X : Cx} {pins : List (Addr × Obj)} {σ : L2.St} {H : Hp} {s : Shared} {it : Addr} (c : HotC X) (I : L2.Inv X pins σ H s) (f5 : ∀ p ∈ X.pn ++ pins, p.1 ≠ it) : ∃ x1, HotAt X.A x1 s.heap ∧ x1 ≠ it := by
  obtain ⟨p, ⟨hh, v1, e1, c1⟩, hp⟩ := c
  exact ⟨p.1, ⟨hh, p.2, v1, (I.pin p (List.mem_append_left _ hp)).1, e1, c1⟩, f5 p (List.mem_append_left _ hp)⟩
theorem turn_listH {P : Program} {w : World} {K : PySem.W.Frag} {tg : Expr} (a it : Addr) : TurnH P w K tg (Itl K a) [it] it (fun i h => h.IsListIter it a i) where
  mem := List.mem_singleton.mpr rfl
  obj := fun i h st b hb => by
    obtain rfl := List.mem_singleton.mp hb
    obtain ⟨o, e, c, d⟩ := st
    exact ⟨o, e, fun v z => by rw [d] at z; cases z⟩
  keep := fun i h h' st k => st.at fun o e => k it (List.mem_singleton.mpr rfl) o e
  item := by
    intro X hP hw hK hc i pins s σ H E I hf st ⟨xs, x, hq, hx⟩
    subst hP hw hK
    obtain ⟨its, rv, p, hz⟩ := I.list hq
    obtain ⟨u, hu, ru⟩ := rv.get hx
    obtain ⟨f0, f1, f2, f3, f4, f5⟩ := hf it (List.mem_singleton.mpr rfl)
    refine wpAny_pyNext_list_item st (show s.heap.IsList a its.toArray from p.isList) (x := u) (by simpa using hu) fun h' st' sb => ?_
    obtain ⟨o, e, c, d⟩ := id st'
    exact ⟨u, rfl, go_of (s := { s with heap := h' }) e c d (by decide) ⟨x, H, I.turned (t' := s.toks) (fun b o hb e => (sb.2 b hb).trans e) f0 f1 f3 f4 f5, ru, ⟨rfl, fun ys hy => by rw [I.list_inj hy hq]; exact hx⟩, st', fun b hb => (hf b hb).1⟩⟩
  done := by
    intro X hP hw hK hc i pins s σ H E I hf st ⟨xs, hq, hx⟩
    subst hP hw hK
    obtain ⟨its, rv, p, hz⟩ := I.list hq
    obtain ⟨f0, f1, f2, f3, f4, f5⟩ := hf it (List.mem_singleton.mpr rfl)
    have hl := rv.length
    obtain ⟨x1, hot, ne⟩ := hot_off hc I f5
    exact next_list_hot hot ne st (show s.heap.IsList a its.toArray from p.isList) (by simp; omega) fun h' eb => ⟨rfl, I.turned (t' := s.toks) (fun b o hb e => eb b o hb e) f0 f1 f3 f4 f5⟩
  self := fun _ _ _ _ _ st h => wpAny_pyIter_listiter st h
theorem turn_tupleH {P : Program} {w : World} {K : PySem.W.Frag} {tg : Expr} (a it : Addr) : TurnH P w K tg (Itt K a) [it] it (fun i h => h.IsTupleIter it a i) where
  mem := List.mem_singleton.mpr rfl
  obj := fun i h st b hb => by
    obtain rfl := List.mem_singleton.mp hb
    obtain ⟨o, e, c, d⟩ := st
    exact ⟨o, e, fun v z => by rw [d] at z; cases z⟩
  keep := fun i h h' st k => st.at fun o e => k it (List.mem_singleton.mpr rfl) o e
  item := by
    intro X hP hw hK hc i pins s σ H E I hf st ⟨xs, x, hq, hx⟩
    subst hP hw hK
    obtain ⟨its, rv, p, hz⟩ := I.tuple hq
    obtain ⟨u, hu, ru⟩ := rv.get hx
    obtain ⟨f0, f1, f2, f3, f4, f5⟩ := hf it (List.mem_singleton.mpr rfl)
    refine wpAny_pyNext_tuple_item st (show s.heap.IsTuple a its.toArray from p) (x := u) (by simpa using hu) fun h' st' sb => ?_
    obtain ⟨o, e, c, d⟩ := id st'
    exact ⟨u, rfl, go_of (s := { s with heap := h' }) e c d (by decide) ⟨x, H, I.turned (t' := s.toks) (fun b o hb e => (sb.2 b hb).trans e) f0 f1 f3 f4 f5, ru, ⟨rfl, fun ys hy => by rw [I.tuple_inj hy hq]; exact hx⟩, st', fun b hb => (hf b hb).1⟩⟩
  done := by
    intro X hP hw hK hc i pins s σ H E I hf st ⟨xs, hq, hx⟩
    subst hP hw hK
    obtain ⟨its, rv, p, hz⟩ := I.tuple hq
    obtain ⟨f0, f1, f2, f3, f4, f5⟩ := hf it (List.mem_singleton.mpr rfl)
    have hl := rv.length
    obtain ⟨x1, hot, ne⟩ := hot_off hc I f5
    exact next_tuple_hot hot ne st (show s.heap.IsTuple a its.toArray from p) (by simp; omega) fun h' eb => ⟨rfl, I.turned (t' := s.toks) (fun b o hb e => eb b o hb e) f0 f1 f3 f4 f5⟩
  self := fun _ _ _ _ _ st h => wpAny_pyIter_tupleiter st h
end Fm

set_option maxHeartbeats 2000000
namespace Fm
open PySem PySem.Spec PyProof.Rows L2 HotX L2H
/-! ### what is walked where an exception is handled -/
theorem turn_keysH {P : Program} {w : World} {K : PySem.W.Frag} {tg : Expr} {d : Addr} {o : Obj} {es : Array DictEntry} {ep : Nat} {kvs : List (Key × V)} (it : Addr) (hod : o.data = .dict es ep) : TurnH P w K tg (Itk d o kvs) [it] it (fun i h => h.IsKeyIter it d i kvs.length ep) where
  mem := List.mem_singleton.mpr rfl
  obj := fun i h st b hb => by
    obtain rfl := List.mem_singleton.mp hb
    obtain ⟨oi, e, c, dd⟩ := st
    exact ⟨oi, e, fun v z => by rw [dd] at z; cases z⟩
  keep := fun i h h' st k => st.at fun oi e => k it (List.mem_singleton.mpr rfl) oi e
  item := by
    intro X hP hw hK hc i pins s σ H E I hf st ⟨hd, hi⟩
    subst hP hw hK
    obtain ⟨f0, f1, f2, f3, f4, f5⟩ := hf it (List.mem_singleton.mpr rfl)
    obtain ⟨hs, hgd, hx, es', ep', vs, hdt, hsz, kv, hm⟩ := I.frzK hd
    obtain ⟨rfl, rfl⟩ := dict_ep hod hdt
    have hkv : kvs[i]? = some (kvs[i].1, kvs[i].2) := List.getElem?_eq_getElem hi
    obtain ⟨u, hu, ru⟩ := kv_get kv hkv
    have hl : kvs.length = vs.length := Paired.length kv
    rw [hl] at st
    refine wpAny_pyNext_dict_item st hm hu fun key h' hkey st' sb => ?_
    obtain ⟨oi, e, c, dd⟩ := id st'
    refine ⟨key, rfl, go_of (s := { s with heap := h' }) e c dd (by decide) ⟨kV kvs[i].1, H, I.turned (t' := s.toks) (fun b ob hb e => (sb.2 b hb).trans e) f0 f1 f3 f4 f5, relV_key (show keyIs kvs[i].1 key = true from hkey), ⟨rfl, _, _, hkv, rfl⟩, ?_, fun b hb => (hf b hb).1⟩⟩
    show h'.IsKeyIter it d (i + 1) kvs.length _
    rw [hl]
    exact st'
  done := by
    intro X hP hw hK hc i pins s σ H E I hf st ⟨hd, hi⟩
    subst hP hw hK
    obtain ⟨f0, f1, f2, f3, f4, f5⟩ := hf it (List.mem_singleton.mpr rfl)
    obtain ⟨hs, hgd, hx, es', ep', vs, hdt, hsz, kv, hm⟩ := I.frzK hd
    obtain ⟨rfl, rfl⟩ := dict_ep hod hdt
    obtain ⟨x1, hot, ne⟩ := hot_off hc I f5
    exact next_key_hot hot ne st hgd hdt hsz hi fun h' eb => ⟨rfl, I.turned (t' := s.toks) (fun b ob hb e => eb b ob hb e) f0 f1 f3 f4 f5⟩
  self := fun A i s Q E st h => wpAny_pyIter_keyiter st h
section
variable {X : Cx} {tg : Expr}
theorem pi_oneH {pins : List (Addr × Obj)} {σ : L2.St} {H : Hp} {s : Shared} {R : It → Hp → Prop} {J : It} {tn : Nat → Heap → Prop} {tk : Nat} (I : L2.Inv X pins σ H s) (o : Obj)
    (T : TurnH X.prog X.w X.K tg J [s.heap.objs.size] s.heap.objs.size tn) (st : tn 0 (s.heap.push o)) (q : R J H) : PIEH X pins σ tg R (.ref s.heap.objs.size) { s with heap := s.heap.push o, toks := tk } :=
  ⟨s.heap.objs.size, [s.heap.objs.size], tn, J, H, rfl, I.kept fun b ob e => Heap.get?_push_of_some _ e, T, st, fun b hb => by
    obtain rfl := List.mem_singleton.mp hb
    exact I.fpOk (Nat.le_refl _) (I.hok.fresh (Nat.le_refl _)), q⟩
theorem pi_listH {l : Expr} {tl : TE} (hl : PE X l tl) : PIH X tg l (iList X.K tl) := by
  refine ⟨fun pins s σ H R I h => thn (hl.run pins s σ H _ I h) fun v s1 ⟨x, H1, I1, r1, a, e, ⟨xs, hq⟩, q⟩ => ?_⟩
  subst e
  cases r1
  obtain ⟨its, rv, p, hz⟩ := I1.list hq
  exact wpAny_pyIter_list p.isList (pi_oneH (tk := s1.toks) I1 _ (turn_listH a _) ⟨_, Heap.get?_push_size _ rfl, rfl, rfl⟩ q)
theorem pi_tupH {l : Expr} {tl : TE} (hl : PE X l tl) : PIH X tg l (iTup X.K tl) := by
  refine ⟨fun pins s σ H R I h => thn (hl.run pins s σ H _ I h) fun v s1 ⟨x, H1, I1, r1, a, e, ⟨xs, hq⟩, q⟩ => ?_⟩
  subst e
  cases r1
  obtain ⟨its, rv, p, hz⟩ := I1.tuple hq
  exact wpAny_pyIter_tuple (show s1.heap.IsTuple a its.toArray from p) (pi_oneH (tk := s1.toks) I1 _ (turn_tupleH a _) ⟨_, Heap.get?_push_size _ rfl, rfl, rfl⟩ q)
theorem pi_seqH {l : Expr} {tl : TE} (hl : PE X l tl) : PIH X tg l (fun σ H R => iList X.K tl σ H R ∨ iTup X.K tl σ H R) :=
  ⟨fun pins s σ H R I h => h.elim ((pi_listH hl).run pins s σ H R I) ((pi_tupH hl).run pins s σ H R I)⟩
theorem pi_keysH {e : Expr} {td : TE} (he : PE X e td) : PIH X tg e (iKeysM td) := by
  refine ⟨fun pins s σ H R I h => thn (he.run pins s σ H _ I h) fun u s1 ⟨x, H1, I1, rx, d, o, kvs, ex, hd, q⟩ => ?_⟩
  subst ex
  obtain rfl : u = Value.ref d := rx
  obtain ⟨hs, hgd, hx, es, ep, vs, hdt, hsz, kv, hm⟩ := I1.frzK hd
  refine iter_keys hs hgd hx hdt (pi_oneH (tk := s1.toks) I1 _ (turn_keysH _ hdt) ⟨_, Heap.get?_push_size _ rfl, rfl, ?_⟩ q)
  rw [hsz] <;> rfl
end
/-- a def's promise where an exception is handled -/
theorem def_okH {P : Program} {w : World} {K : PySem.W.Frag} {mg : Str → Option Value} {base : Heap} {CX : CXT} {k : Nat} {x qual : Str} {params : Arguments} {bd : List Stmt} {scope : Scope} {f : Addr} {fd : FuncData} {N ps : List Str} {sp : Sp} (F : FunD K x qual params bd scope [] [] f fd) (S : FnScope N ps scope)
    (len : ∀ vs H Q E, sp vs H Q E → vs.length = ps.length)
    (hbody : ∀ (cdv : Value) (A : Around) (outer : List Env) (s : Shared) (H : Hp) (vs : List V) (Q : VK) (E : XK) (p : Addr × Obj), Hot1 A p → RoomH k (A.deeper (envOfC qual scope s.heap.objs.size f cdv)) → sp vs H Q E →
      ∃ t, PSs (cxH CX P w K mg base N qual scope f cdv A outer s H E p) bd t ∧ t { nx := fun _ H' => Q .non H', rt := Q } (L2.start N vs) H) :
    FnH P w K mg base CX (k + 1) f fd ps sp := by
  obtain ⟨oc, od, dV, kV, doc, pm, an, cdv, ct, osl, rfl, lk, hcd, hD, hK⟩ := F.ex
  exact fn_ofH lk hcd S len fun A outer s H vs Q E p hot hr h => hbody cdv A outer s H vs Q E p hot hr h
end Fm

set_option maxHeartbeats 4000000
namespace Kx
open PySem PySem.Spec PyProof.Rows L2 Fm
open L2H (FnH RoomH HotC Hot1 cxH pe_callH)
local macro_rules | `(tactic| walk_at "gv") => `(tactic| ((with_reducible refine' g_var ?gh ?_); (case gh => exact rfl)))
local macro_rules | `(tactic| walk_at "g1") => `(tactic| first
  | walk_at "gv"
  | with_reducible refine g_c ?_ | with_reducible refine g_op ?_ | with_reducible refine g_un ?_ | with_reducible refine g_I0 ?_ | with_reducible refine g_U ?_
  | with_reducible refine g_eqI ?_ | with_reducible refine g_neI ?_ | with_reducible refine g_eqS ?_ | with_reducible refine g_neS ?_
  | with_reducible refine g_test ?_ | with_reducible refine g_B ?_ | with_reducible refine g_bl ?_ | with_reducible refine g_not ?_ | with_reducible refine g_and ?_ | with_reducible refine g_or ?_
  | with_reducible refine g_andV ?_ | with_reducible refine g_orV ?_ | with_reducible refine g_notV ?_ | with_reducible refine g_chain ?_ | with_reducible refine g_if ?_ | with_reducible refine g_ifS ?_
  | with_reducible refine g_seq ?_ | with_reducible refine g_next ?_ | with_reducible refine g_break ?_ | with_reducible refine g_cont ?_ | with_reducible refine g_drop ?_ | with_reducible refine g_ret ?_ | with_reducible refine g_retN ?_
  | with_reducible refine g_asg ?_ | with_reducible refine g_name ?_ | with_reducible refine g_par ?_ | with_reducible refine g_par2 ?_ | with_reducible refine g_fld ?_ | with_reducible refine g_sfld ?_
  | with_reducible refine g_nil ?_ | with_reducible refine g_cons ?_ | with_reducible refine g_tup ?_ | with_reducible refine g_lst ?_ | with_reducible refine g_call ?_ | with_reducible refine g_meth ?_ | with_reducible refine g_make1 ?_ | with_reducible refine g_make ?_ | with_reducible refine g_cb ?_ | with_reducible refine g_sub ?_ | with_reducible refine g_m0 ?_ | with_reducible refine g_gcons ?_ | with_reducible refine g_gnil ?_ | with_reducible refine g_for ?_ | with_reducible refine g_lc ?_ | with_reducible refine g_ilist ?_ | with_reducible refine g_itup ?_ | with_reducible refine g_rng1 ?_ | with_reducible refine g_rng3 ?_ | with_reducible refine g_yes ?_ | with_reducible refine g_sl ?_ | with_reducible refine g_nopart ?_ | with_reducible refine g_part ?_ | with_reducible refine g_exI ?_ | with_reducible refine g_m1 ?_ | with_reducible refine g_isS ?_ | with_reducible refine g_bm ?_ | with_reducible refine g_revL ?_ | with_reducible refine g_istr ?_ | with_reducible refine g_notInS ?_ | with_reducible refine g_absI ?_ | with_reducible refine g_intI ?_ | with_reducible refine g_izip ?_ | with_reducible refine g_ienum ?_ | with_reducible refine g_bm0 ?_ | with_reducible refine g_mko ?_ | with_reducible refine g_methW ?_ | with_reducible refine g_callW ?_
  | with_reducible refine iteT ?_ | with_reducible refine iteF ?_ | with_reducible refine g_gcd ?_)
local macro_rules | `(tactic| walk_at "g") => `(tactic| (repeat (first | walk_at "g1" | dsimp only [cx_K, cx_Kn, b_nt, b_nf])))
local macro_rules | `(tactic| walk_at "mul") => `(tactic| exact mulA (a := 200) (b := 200) (by omega) (by omega) (by decide))
local macro_rules | `(tactic| walk_at "pow") => `(tactic| exact ⟨by omega, by omega, by omega⟩)

theorem huH {A : Around} {k : Nat} (hr : RoomH k A) : A.units + 1 < cLine := by
  have := hr.un
  omega
theorem pe_callH0 {X : Cx} {k : Nat} {f : Addr} {fd : FuncData} {ps : List Str} {sp : Sp} {x : Str} {q pos : Pos} {e : Expr} {es : List Expr} {t : TA} (F : FnH X.prog X.w X.K X.mg X.base CX0 k f fd ps sp) (hr : RoomH k X.A) (hc : HotC X) (hg : Gl X x) (hm : X.mg x = some (.ref f)) (hk : PySem.W.keepIn X.K (.ref f) = true) (hb : Binds X.K fd ps [])
    (ha : PA X (e :: es) t) (hdb : (x == ("__debug__" : Str)) = false := by decide) (he : starEach (e :: es) X.env = (false, eval e X.env) :: starEach es X.env := by rfl) (hpl : (backTo pos (starEach es X.env)).any (·.1) = false := by rfl) :
    PE X (.Call (.Name x q) (e :: es) [] pos) (tCall sp [] E0 t) := by
  have h := pe_callH (q := q) (E := fun _ => E0) F hr hc hg hm hk hb (fun σ => at0 σ) ha hdb he hpl
  refine ⟨fun pins s σ H Q I hq => h.run pins s σ H Q I ?_⟩
  simpa [tCall, tCallS] using hq
section
variable {P : Program} {w : World} {K : PySem.W.Frag} {mg : Str → Option Value} {base : Heap} {a : Ad}
theorem shown_stepH (T : Tx K mg a) {n k : Nat} (F' : FnH P w K mg base CX0 k a.f_Lshown a.d_Lshown P_Lshown (spSh a.C_Ratio n)) : FnH P w K mg base CX0 (k + 1) a.f_Lshown a.d_Lshown P_Lshown (spSh a.C_Ratio (n + 1)) := by
  refine def_okH T.F_Lshown sc_Lshown (fun vs H Q E h => ?_) (fun cdv A outer s H vs Q E p0 hot hr h => ?_)
  · obtain ⟨v, d, rfl, _⟩ := h
    rfl
  · obtain ⟨v, d, rfl, hv, fine, hdp, z⟩ := h
    refine ⟨_, (pss_cons (ps_if (pt_val (pe_callB call_isi (by rfl) T.b_isinstance (by decide +kernel) (pa_cons (pv 0) (pa_cons (pe_glob (v := .ref a.C_Ratio) rfl T.g_Ratio rfl) pa_nil)))) (pss_one (ps_ret (pe_lst (pa_cons pe_str (pa_cons (pe_fld (pv 0) rfl) (pa_cons (pe_fld (pv 0) rfl) pa_nil)))))) pss_nil) (pss_cons (ps_if (pt_val (pe_callB call_isi (by rfl) T.b_isinstance (by decide +kernel) (pa_cons (pv 0) (pa_cons (pe_bltn (v := .ty "dict") (by rfl) T.b_dict (by decide +kernel) rfl) pa_nil)))) (pss_one (ps_ret (pe_lst (pa_cons pe_str (pa_cons (pe_lock (pe_lcH (own := [("_law_key", 1)]) (g := (gName 1)) (tt := tYes) ⟨p0, hot, List.mem_singleton.mpr rfl⟩ sc_Lshown.nd (pi_keysH (pv 0)) (blkOk_by (N := N_Lshown) (sc := defScope s_Lshown) (by decide +kernel)) (fun _ _ _ _ _ _ _ => pg_name (i := 1) sc_Lshown.nd rfl (Or.inl rfl)) (fun _ _ _ _ _ _ _ => pts_nil) (fun _ _ _ _ _ q hq => (pe_tup (pa_cons (pe_callH0 F' hr ⟨q, hq, List.mem_singleton.mpr rfl⟩ (by rfl) T.g_Lshown T.F_Lshown.kp (bd_Lshown T) (pa_cons (pv 1) pa_nil)) (pa_cons (pe_callH0 F' hr ⟨q, hq, List.mem_singleton.mpr rfl⟩ (by rfl) T.g_Lshown T.F_Lshown.kp (bd_Lshown T) (pa_cons (pe_dget (huH hr) (pv 0) (pv 1) (fun _ _ => rfl)) pa_nil)) pa_nil)))))) pa_nil))))) pss_nil) (pss_cons (ps_if (pt_val (pe_callB call_isiT (by rfl) T.b_isinstance (by decide +kernel) (pa_cons (pv 0) (pa_cons (pe_tup (pa_cons (pe_bltn (v := .ty "list") (by rfl) T.b_list (by decide +kernel) rfl) (pa_cons (pe_bltn (v := .ty "tuple") (by rfl) T.b_tuple (by decide +kernel) rfl) pa_nil))) pa_nil)))) (pss_one (ps_ret (pe_lst (pa_cons (pe_ifExp (pt_val (pe_callB call_isi (by rfl) T.b_isinstance (by decide +kernel) (pa_cons (pv 0) (pa_cons (pe_bltn (v := .ty "list") (by rfl) T.b_list (by decide +kernel) rfl) pa_nil)))) pe_str pe_str) (pa_cons (pe_lcH (own := [("_law_item", 2)]) (g := (gName 2)) (tt := tYes) ⟨p0, hot, List.mem_singleton.mpr rfl⟩ sc_Lshown.nd (pi_seqH (pv 0)) (blkOk_by (N := N_Lshown) (sc := defScope s_Lshown) (by decide +kernel)) (fun _ _ _ _ _ _ _ => pg_name (i := 2) sc_Lshown.nd rfl (Or.inl rfl)) (fun _ _ _ _ _ _ _ => pts_nil) (fun _ _ _ _ _ q hq => (pe_callH0 F' hr ⟨q, hq, List.mem_singleton.mpr rfl⟩ (by rfl) T.g_Lshown T.F_Lshown.kp (bd_Lshown T) (pa_cons (pv 2) pa_nil)))) pa_nil))))) pss_nil) (pss_one (ps_ret (pe_callB cr_reprF (by rfl) T.b_repr (by decide +kernel) (pa_cons (pv 0) pa_nil))))))), ?_⟩
    walk_at "g"
    refine g_isi (hv.tyx T.R) (.own _) (kit_rat T.R d) ?_
    walk_at "g"
    have comp : ∀ (p : Addr) (xs : List V) (ds : List Da) (w : Str), v = .ref p → (H p = some (.lst xs) ∨ H p = some (.tup xs)) → DaVs a.C_Ratio H xs ds → d.sh = .list [.str w, .list (shL ds)] → fineL ds = true → ds.length ≤ 1000 → dpL ds < n → ∀ H1, Ex H H1 →
        tLc (fun σ H R => iList K (tVar 0) σ H R ∨ iTup K (tVar 0) σ H R) (gName 2) tYes (tCall (spSh a.C_Ratio n) [] E0 (tCons (tVar 2) tNil)) (List.map (fun x => x.snd) [((Str.ofString "_law_item" : Str), 2)]) (L2.start N_Lshown [v]) H1
          (fun x H2 => (V.str w :: [x]).length ≤ sizeLine ∧ ∀ l, H2 l = none → Q (.ref l) (upd H2 l (.lst (V.str w :: [x])))) := by
      intro p xs ds w hvp hp hr2 hsh hf hl hdn H1 e1
      subst hvp
      walk_at "g"
      have hp1 : H1 p = some (.lst xs) ∨ H1 p = some (.tup xs) := hp.imp (fun h => e1 _ _ h) fun h => e1 _ _ h
      have hpo : ∃ ob, H1 p = some ob := hp1.elim (fun h => ⟨_, h⟩) fun h => ⟨_, h⟩
      refine cp_Q (p := p) (xs := xs) (fun Q q => ⟨_, rfl, q⟩) hp1 (fun D i H' => ∃ ls, Ex H1 H' ∧ H' D = some (.lst ls) ∧ DpNs (upd H1 D (.lst [])) H' ls (shL (ds.take i))) (fun D hD => ⟨[], Ex.new hD, upd_same, .nil⟩) (fun D hD i H' h => by
        obtain ⟨_, ex, _⟩ := h
        obtain ⟨ob, hob⟩ := hpo
        rw [ex _ _ hob, hob]) (fun D hD i x H' hx h => ?_) (fun D hD H' h => ?_)
      · obtain ⟨ls, ex, hD', hls⟩ := h
        obtain ⟨d', hd', hvd⟩ := hr2.at hx
        have hm := List.mem_of_getElem? hd'
        refine ⟨rfl, ?_⟩
        walk_at "g"
        refine ⟨x, d', rfl, hvd.mono (e1.trans ex), fineL_mem hf hm, Nat.lt_of_le_of_lt (dpL_mem hm) hdn, fun r H2 e2 hr3 => ?_⟩
        have hD2 := e2 _ _ hD'
        have new := newD (o := .lst []) ex hD'
        refine ⟨ls, hD2, Nat.lt_of_le_of_lt (m := 1000) (by rw [hls.length, shL_len, List.length_take]; omega) (by decide), _, (ex.trans e2).mut hD, upd_same, ?_⟩
        rw [take_succ_get hd', shL_app]
        exact DpNs.snoc ((hr3.weak new).set (ob := .lst []) upd_same) ((hls.mono e2).set (ob := .lst []) upd_same)
      · obtain ⟨ls, ex, hD', hls⟩ := h
        rw [hr2.length, List.take_length] at hls
        refine ⟨len_lit rfl, fun l hl2 => ?_⟩
        refine z _ _ ((e1.trans ex).trans (Ex.new hl2)) ?_
        rw [hsh]
        refine .lst ((e1.trans ex).free hl2) upd_same (.cons (.str _) (.cons (.lst (e1.free hD) (Ex.new hl2 _ _ hD') ?_) .nil))
        refine (hls.mono (Ex.new hl2)).weak fun q hq => e1.free ?_
        by_cases hqD : q = D
        · rw [hqD, upd_same] at hq; cases hq
        · rw [upd_ne hqD] at hq; exact hq
    cases hv with
    | rat h =>
      rw [show ((Da.rat _).ty a.C_Ratio == Value.ref a.C_Ratio) = true by simp [Da.ty]]
      walk_at "g"
      refine g_top T.R.cl T.R.nT h ?_
      walk_at "g"
      refine g_bottom T.R.cl T.R.nB h ?_
      walk_at "g"
      exact ⟨len_lit rfl, fun l hl => z _ _ (Ex.new hl) (.lst hl upd_same (.cons (.str _) (.cons (.int _) (.cons (.int _) .nil))))⟩
    | dic hp hr2 =>
      rename_i p ks ds
      rw [show ((Da.dic ds).ty a.C_Ratio == Value.ref a.C_Ratio) = false by simp [Da.ty]]
      walk_at "g"
      refine g_isi ((DaV.dic hp hr2).tyx T.R) (.ty _) (kit_dic T.R2 (.dic ds)) ?_
      rw [show (Da.dic ds).isDic = true from rfl]
      walk_at "g"
      unfold Da.fine at fine
      rw [Bool.and_eq_true] at fine
      have l1 : ds.length ≤ 1 := of_decide_eq_true fine.1
      have fd := fine.2
      unfold Da.dp at hdp
      have hkl := hr2.length
      refine ⟨p, .dK ks, hp, trivial, fun od => ?_⟩
      have h1 : (upd H p (.frz od (.dK ks))) p = some (.frz od (.dK ks)) := upd_same
      have o1 : ∀ b, b ≠ p → (upd H p (.frz od (.dK ks))) b = H b := fun b hb => upd_ne hb
      have d1 : ∀ {v : V} {e : Da}, DaV a.C_Ratio H v e → e.noDic = true → DaV a.C_Ratio (upd H p (.frz od (.dK ks))) v e := fun h n => h.lock hp n
      generalize (upd H p (.frz od (.dK ks))) = H1 at h1 o1 d1 ⊢
      walk_at "g"
      refine ⟨_, rfl, p, od, ks, rfl, h1, cp_K (fun D i H' => ∃ ls, Ex H1 H' ∧ H' D = some (.lst ls) ∧ DpNs (upd H1 D (.lst [])) H' ls (shD (ds.take i))) (fun D hD => ⟨[], Ex.new hD, upd_same, .nil⟩) (fun D hD i H' h => by
        obtain ⟨_, ex, _⟩ := h
        exact ex _ _ h1) (fun D hD i k v H' hx h => ?_) (fun D hD H' h => ?_)⟩
      · obtain ⟨ls, ex, hD', hls⟩ := h
        obtain ⟨s, d', hd', rfl, hvd⟩ := hr2.at hx
        have hm := List.mem_of_getElem? hd'
        obtain ⟨f1, f2, f3⟩ := fineD_mem fd hm
        have hi : i = 0 := by
          have := (List.getElem?_eq_some_iff.mp hd').1
          omega
        subst hi
        have hks : ks = [(.inr s, v)] := by
          match ks, hx, hkl with
          | [x], hx, _ => simp at hx; rw [hx]
          | x :: y :: r, hx, hkl => simp at hkl; omega
        refine ⟨rfl, ?_⟩
        walk_at "g"
        refine ⟨.str s, .str s, rfl, .str s, by unfold Da.fine; exact f1, by show 0 < n; omega, fun r H2 e2 hr3 => ?_⟩
        have er := dpN_str hr3
        subst er
        refine ⟨_, rfl, _, rfl, p, v, rfl, .inl ⟨ks, .inr s, .inr ⟨od, e2 _ _ (ex _ _ h1)⟩, rfl, by rw [hks]; simp [valV]⟩, ?_⟩
        walk_at "g"
        have dm := dpD_mem hm
        refine ⟨v, d', rfl, (d1 hvd f3).mono (ex.trans e2), f2, by omega, fun r2 H3 e3 hr4 => ?_⟩
        walk_at "g"
        refine ⟨len_lit rfl, fun tq htq => ?_⟩
        have e4 : Ex H3 (upd H3 tq (.tup [.str (reprText s), r2])) := Ex.new htq
        have hD2 := e3 _ _ (e2 _ _ hD')
        have new := newD (o := .lst []) (ex.trans e2) (e2 _ _ hD')
        have new3 := newD (o := .lst []) ((ex.trans e2).trans e3) hD2
        have hD4 := e4 _ _ hD2
        refine ⟨ls, hD4, Nat.lt_of_le_of_lt (m := 1000) (by rw [hls.length, shD_len, List.length_take]; omega) (by decide), _, (((ex.trans e2).trans e3).trans e4).mut hD, upd_same, ?_⟩
        rw [take_succ_get hd', shD_app]
        refine DpNs.snoc ?_ ((hls.mono ((e2.trans e3).trans e4)).set (ob := .lst []) upd_same)
        have ntD : tq ≠ D := fun z => by rw [z, hD2] at htq; cases htq
        refine .tup (new3 _ htq) (by rw [upd_ne ntD, upd_same]) (.cons (.str _) (.cons ?_ .nil))
        exact ((hr4.mono e4).weak new).set (ob := .lst []) upd_same
      · obtain ⟨ls, ex, hD', hls⟩ := h
        rw [hkl, List.take_length] at hls
        have hp' := ex _ _ h1
        have npD : p ≠ D := fun z => by rw [← z, h1] at hD; cases hD
        refine ⟨hp', ?_⟩
        walk_at "g"
        have eH : Ex H (upd H' p (.dK ks)) := fun b o hb => by
          by_cases hbp : b = p
          · rw [hbp] at hb ⊢
            rw [upd_same, ← hb, hp]
          · rw [upd_ne hbp]
            exact ex _ _ (by rw [o1 b hbp]; exact hb)
        have hD5 : (upd H' p (.dK ks)) D = some (.lst ls) := by rw [upd_ne npD.symm]; exact hD'
        have hls5 : DpNs (upd H1 D (.lst [])) (upd H' p (.dK ks)) ls (shD ds) := hls.set (D := p) (ob := .frz od (.dK ks)) (by rw [upd_ne npD]; exact h1)
        generalize (upd H' p (.dK ks)) = H5 at eH hD5 hls5 ⊢
        refine ⟨len_lit rfl, fun l hl2 => z _ _ (eH.trans (Ex.new hl2)) (.lst (eH.free hl2) upd_same (.cons (.str _) (.cons (.lst ?_ (Ex.new hl2 _ _ hD5) ?_) .nil)))⟩
        · rw [← o1 D npD.symm]; exact hD
        · refine (hls5.mono (Ex.new hl2)).weak fun q hq => ?_
          by_cases hqD : q = D
          · rw [hqD, upd_same] at hq; cases hq
          · rw [upd_ne hqD] at hq
            by_cases hqp : q = p
            · rw [hqp, h1] at hq; cases hq
            · rw [← o1 q hqp]; exact hq
    | lst hp hr2 =>
      rename_i p xs ds
      rw [show ((Da.lst ds).ty a.C_Ratio == Value.ref a.C_Ratio) = false by simp [Da.ty]]
      walk_at "g"
      refine g_isi ((DaV.lst hp hr2).tyx T.R) (.ty _) (kit_dic T.R2 (.lst ds)) ?_
      simp only [Da.isDic]
      walk_at "g"
      refine ⟨len_lit rfl, fun tp htp => ?_⟩
      have et : Ex H (upd H tp (.tup [.ty "list", .ty "tuple"])) := Ex.new htp
      have at_ : (upd H tp (.tup [.ty "list", .ty "tuple"])) tp = some (.tup [.ty "list", .ty "tuple"]) := upd_same
      generalize (upd H tp (.tup [.ty "list", .ty "tuple"])) = H1 at et at_ ⊢
      walk_at "g"
      refine g_isiT at_ (.cons (.ty _) (.cons (.ty _) .nil)) (((DaV.lst hp hr2).mono et).tyx T.R) (kit_lt T.R2 (.lst ds)) ?_
      simp only [Da.isLst, Da.isTup, Bool.or_false]
      walk_at "g"
      refine g_isi (((DaV.lst hp hr2).mono et).tyx T.R) (.ty _) (kit_lst T.R2 (.lst ds)) ?_
      simp only [Da.isLst]
      walk_at "g"
      unfold Da.fine at fine
      rw [Bool.and_eq_true] at fine
      unfold Da.dp at hdp
      exact comp p xs ds _ rfl (.inl hp) hr2 rfl fine.2 (of_decide_eq_true fine.1) (by omega) H1 et
    | tup hp hr2 =>
      rename_i p xs ds
      rw [show ((Da.tup ds).ty a.C_Ratio == Value.ref a.C_Ratio) = false by simp [Da.ty]]
      walk_at "g"
      refine g_isi ((DaV.tup hp hr2).tyx T.R) (.ty _) (kit_dic T.R2 (.tup ds)) ?_
      simp only [Da.isDic]
      walk_at "g"
      refine ⟨len_lit rfl, fun tp htp => ?_⟩
      have et : Ex H (upd H tp (.tup [.ty "list", .ty "tuple"])) := Ex.new htp
      have at_ : (upd H tp (.tup [.ty "list", .ty "tuple"])) tp = some (.tup [.ty "list", .ty "tuple"]) := upd_same
      generalize (upd H tp (.tup [.ty "list", .ty "tuple"])) = H1 at et at_ ⊢
      walk_at "g"
      refine g_isiT at_ (.cons (.ty _) (.cons (.ty _) .nil)) (((DaV.tup hp hr2).mono et).tyx T.R) (kit_lt T.R2 (.tup ds)) ?_
      simp only [Da.isLst, Da.isTup, Bool.false_or]
      walk_at "g"
      refine g_isi (((DaV.tup hp hr2).mono et).tyx T.R) (.ty _) (kit_lst T.R2 (.tup ds)) ?_
      simp only [Da.isLst]
      walk_at "g"
      unfold Da.fine at fine
      rw [Bool.and_eq_true] at fine
      unfold Da.dp at hdp
      exact comp p xs ds _ rfl (.inr hp) hr2 rfl fine.2 (of_decide_eq_true fine.1) (by omega) H1 et
    | _ =>
      simp only [Da.ty]
      refine g_ite (fun h => by simp at h) (fun _ => ?_)
      walk_at "g"
      first | refine g_isi (DaV.tyx T.R .non) (.ty _) (kit_dic T.R2 .non) ?_ | refine g_isi (DaV.tyx T.R (.bl _)) (.ty _) (kit_dic T.R2 (.bl _)) ?_ | refine g_isi (DaV.tyx T.R (.int _)) (.ty _) (kit_dic T.R2 (.int _)) ?_ | refine g_isi (DaV.tyx T.R (.str _)) (.ty _) (kit_dic T.R2 (.str _)) ?_
      simp only [Da.isDic]
      walk_at "g"
      refine ⟨len_lit rfl, fun tp htp => ?_⟩
      have et : Ex H (upd H tp (.tup [.ty "list", .ty "tuple"])) := Ex.new htp
      have at_ : (upd H tp (.tup [.ty "list", .ty "tuple"])) tp = some (.tup [.ty "list", .ty "tuple"]) := upd_same
      generalize (upd H tp (.tup [.ty "list", .ty "tuple"])) = H1 at et at_ ⊢
      walk_at "g"
      first | refine g_isiT at_ (.cons (.ty _) (.cons (.ty _) .nil)) (DaV.tyx T.R .non) (kit_lt T.R2 .non) ?_ | refine g_isiT at_ (.cons (.ty _) (.cons (.ty _) .nil)) (DaV.tyx T.R (.bl _)) (kit_lt T.R2 (.bl _)) ?_ | refine g_isiT at_ (.cons (.ty _) (.cons (.ty _) .nil)) (DaV.tyx T.R (.int _)) (kit_lt T.R2 (.int _)) ?_ | refine g_isiT at_ (.cons (.ty _) (.cons (.ty _) .nil)) (DaV.tyx T.R (.str _)) (kit_lt T.R2 (.str _)) ?_
      simp only [Da.isLst, Da.isTup, Bool.or_false]
      walk_at "g"
      first | exact .inl ⟨rfl, z _ H1 et (.str _)⟩ | exact .inr (.inl ⟨_, rfl, z _ H1 et (.str _)⟩) | exact .inr (.inr (.inl ⟨_, rfl, fine_int fine, z _ H1 et (.str _)⟩)) | exact .inr (.inr (.inr ⟨_, rfl, fine_str fine, z _ H1 et (.str _)⟩))
theorem shown_allH (T : Tx K mg a) : ∀ n : Nat, FnH P w K mg base CX0 (n + 1) a.f_Lshown a.d_Lshown P_Lshown (spSh a.C_Ratio n)
  | 0 => ⟨fun vs H Q E h => by
      obtain ⟨v, d, _, _, _, h, _⟩ := h
      exact absurd h (Nat.not_lt_zero _), fun A outer s H args us vs Q E p0 hr hot hpin he hb hv h => by
      obtain ⟨v, d, _, _, _, h, _⟩ := h
      exact absurd h (Nat.not_lt_zero _)⟩
  | n + 1 => shown_stepH T (shown_allH T n)
theorem ok_LshownH (T : Tx K mg a) : FnH P w K mg base CX0 7 a.f_Lshown a.d_Lshown P_Lshown (spSh a.C_Ratio 6) := shown_allH T 6
end
end Kx



set_option maxHeartbeats 4000000
namespace Kx
open PySem PySem.Spec PyProof.Rows L2 Fm
open L2H (FnH RoomH HotC Hot1)
local macro_rules | `(tactic| walk_at "gv") => `(tactic| ((with_reducible refine' g_var ?gh ?_); (case gh => exact rfl)))
local macro_rules | `(tactic| walk_at "g1") => `(tactic| first
  | walk_at "gv"
  | with_reducible refine g_c ?_ | with_reducible refine g_op ?_ | with_reducible refine g_un ?_ | with_reducible refine g_I0 ?_ | with_reducible refine g_U ?_
  | with_reducible refine g_eqI ?_ | with_reducible refine g_neI ?_ | with_reducible refine g_eqS ?_ | with_reducible refine g_neS ?_
  | with_reducible refine g_test ?_ | with_reducible refine g_B ?_ | with_reducible refine g_bl ?_ | with_reducible refine g_not ?_ | with_reducible refine g_and ?_ | with_reducible refine g_or ?_
  | with_reducible refine g_andV ?_ | with_reducible refine g_orV ?_ | with_reducible refine g_notV ?_ | with_reducible refine g_chain ?_ | with_reducible refine g_if ?_ | with_reducible refine g_ifS ?_
  | with_reducible refine g_seq ?_ | with_reducible refine g_next ?_ | with_reducible refine g_break ?_ | with_reducible refine g_cont ?_ | with_reducible refine g_drop ?_ | with_reducible refine g_ret ?_ | with_reducible refine g_retN ?_
  | with_reducible refine g_asg ?_ | with_reducible refine g_name ?_ | with_reducible refine g_par ?_ | with_reducible refine g_par2 ?_ | with_reducible refine g_fld ?_ | with_reducible refine g_sfld ?_
  | with_reducible refine g_nil ?_ | with_reducible refine g_cons ?_ | with_reducible refine g_tup ?_ | with_reducible refine g_lst ?_ | with_reducible refine g_call ?_ | with_reducible refine g_meth ?_ | with_reducible refine g_make1 ?_ | with_reducible refine g_make ?_ | with_reducible refine g_cb ?_ | with_reducible refine g_sub ?_ | with_reducible refine g_m0 ?_ | with_reducible refine g_gcons ?_ | with_reducible refine g_gnil ?_ | with_reducible refine g_for ?_ | with_reducible refine g_lc ?_ | with_reducible refine g_ilist ?_ | with_reducible refine g_itup ?_ | with_reducible refine g_rng1 ?_ | with_reducible refine g_rng3 ?_ | with_reducible refine g_yes ?_ | with_reducible refine g_sl ?_ | with_reducible refine g_nopart ?_ | with_reducible refine g_part ?_ | with_reducible refine g_exI ?_ | with_reducible refine g_m1 ?_ | with_reducible refine g_isS ?_ | with_reducible refine g_bm ?_ | with_reducible refine g_revL ?_ | with_reducible refine g_istr ?_ | with_reducible refine g_notInS ?_ | with_reducible refine g_absI ?_ | with_reducible refine g_intI ?_ | with_reducible refine g_izip ?_ | with_reducible refine g_ienum ?_ | with_reducible refine g_bm0 ?_ | with_reducible refine g_mko ?_ | with_reducible refine g_methW ?_ | with_reducible refine g_callW ?_
  | with_reducible refine iteT ?_ | with_reducible refine iteF ?_ | with_reducible refine g_gcd ?_)
local macro_rules | `(tactic| walk_at "g") => `(tactic| (repeat (first | walk_at "g1" | dsimp only [cx_K, cx_Kn, b_nt, b_nf])))
local macro_rules | `(tactic| walk_at "mul") => `(tactic| exact mulA (a := 200) (b := 200) (by omega) (by omega) (by decide))
local macro_rules | `(tactic| walk_at "pow") => `(tactic| exact ⟨by omega, by omega, by omega⟩)

theorem vals_app {vs zs : List V} {us ws : List Value} (r : Vals vs us) (q : Vals zs ws) : Vals (vs ++ zs) (us ++ ws) := by
  induction r with
  | nil => exact q
  | cons h _ ih => exact .cons h ih
theorem kb_Scale_init {K : PySem.W.Frag} {mg : Str → Option Value} {a : Ad} (T : Tx K mg a) : KBn K a.d_Scale_init P_Scale_init 1 ["values"] (fun us ws => us ++ ws) (fun vs zs => vs ++ zs) :=
  kbN T.F_Scale_init 1 ["values"] (fun us ws => us ++ ws) (fun r q => vals_app r q) fun kV doc pm an cdv ct us ws h1 h2 => match us, ws, h1, h2 with | [_], [_], _, _ => rfl
theorem kb_Scale_place {K : PySem.W.Frag} {mg : Str → Option Value} {a : Ad} (T : Tx K mg a) : KBn K a.d_Scale_place P_Scale_place 1 ["value"] (fun us ws => us ++ ws) (fun vs zs => vs ++ zs) :=
  kbN T.F_Scale_place 1 ["value"] (fun us ws => us ++ ws) (fun r q => vals_app r q) fun kV doc pm an cdv ct us ws h1 h2 => match us, ws, h1, h2 with | [_], [_], _, _ => rfl
theorem kb_Scale_led {K : PySem.W.Frag} {mg : Str → Option Value} {a : Ad} (T : Tx K mg a) : KBn K a.d_Scale_led P_Scale_led 2 ["add"] (fun us ws => us ++ ws) (fun vs zs => vs ++ zs) :=
  kbN T.F_Scale_led 2 ["add"] (fun us ws => us ++ ws) (fun r q => vals_app r q) fun kV doc pm an cdv ct us ws h1 h2 => match us, ws, h1, h2 with | [_, _], [_], _, _ => rfl
theorem hot_suite {X : Cx} {a : Addr} {oe : Obj} {k : Value} {d : Option Addr} {pn : List (Addr × Obj)} (hz : L2N.Zn k d oe) (hf : ∃ vs, oe.data = .fields vs) : HotC (X.suite a ((a, oe) :: pn)) :=
  let ⟨vs, e⟩ := hf
  ⟨(a, oe), ⟨rfl, vs, e, hz.2.2 vs e⟩, List.mem_cons_self⟩
theorem roomH_mk {k : Nat} {A : Around} (r : Room k A) (h : Option Value) : RoomH k (A.mark h) := ⟨r.dp, r.un⟩
/-- which door says no, and what it names -/
def Odd (k : Int) (qs : List Rat) (d1 d2 : Da) (wd : Str) (d : Da) : Prop :=
  (k = 0 ∧ (∀ cs, ¬ ValsOf d1 cs) ∧ wd = Str.ofString "values" ∧ d = d1) ∨ (k = 1 ∧ (∀ i : Nat, d1.isNum = true → qs[i]? ≠ some d1.num) ∧ wd = Str.ofString "none" ∧ d = d1) ∨
  (k = 2 ∧ (¬ (d1.isNum = true ∧ d1.num ≠ 0)) ∧ wd = Str.ofString "number" ∧ d = d1) ∨ (k = 2 ∧ d1.isNum = true ∧ d1.num ≠ 0 ∧ d2.isNum = false ∧ wd = Str.ofString "number" ∧ d = d2)
def spRefS (CS C : Addr) : Sp := fun vs H Q _ => ∃ (k : Int) (s : Addr) (x y : V) (d1 d2 : Da) (qs : List Rat) (wd : Str) (d : Da), vs = [.int k, .ref s, x, y] ∧ ScaleAt CS C H s qs ∧ qs.Pairwise (· < ·) ∧ 1 ≤ qs.length ∧ qs.length ≤ 8 ∧ (∀ q ∈ qs, Sz 45 q) ∧
  DaV C H x d1 ∧ d1.fine = true ∧ d1.dp < 6 ∧ (k = 2 → Sz 45 d1.num) ∧ DaV C H y d2 ∧ d2.fine = true ∧ d2.dp < 6 ∧ (k = 2 → Sz 45 d2.num) ∧ Odd k qs d1 d2 wd d ∧ ∀ l v H', H l = none → Ex H H' → H' l = some (.lst [.str wd, v]) → DpN H H' v d.sh → Q (.ref l) H'
section
variable {P : Program} {w : World} {K : PySem.W.Frag} {mg : Str → Option Value} {base : Heap} {a : Ad}
theorem ok_Lrefused (T : Tx K mg a) : FnOk P w K mg base CX0 11 a.f_Lrefused a.d_Lrefused P_Lrefused (spRefS a.C_Scale a.C_Ratio) := by
  refine def_ok0 T.F_Lrefused sc_Lrefused (fun vs H Q E h => ?_) (fun cdv A outer s H vs Q E hr h => ?_)
  · obtain ⟨k, s, x, y, d1, d2, qs, wd, d, rfl, _⟩ := h
    rfl
  · obtain ⟨k, sc, x, y, d1, d2, qs, wd, d, rfl, hs, asc, l1, l8, sz, hx, fx, px, sx, hy, fy, py, sy, odd, z⟩ := h
    refine ⟨_, pss_cons (ps_try_clsN (W := fun _ _ _ _ => False) (l := [⟨.ref a.C_BadValues, some 4, _⟩, ⟨.ref a.C_NoValue, some 4, _⟩, ⟨.ref a.C_BadNumber, some 4, _⟩]) rfl rfl sc_Lrefused.nd takesN0
        (fun V pn xe tk _ => pss_one (ps_if (pt_cmpR op_eq (pv 0) pe_int (nomark _))
          (pss_one (ps_expr (pe_makeW T.mk_Scale (ok_Scale_init T) (hr.mono (by decide)) (by rfl) T.g_Scale (kb_Scale_init T) (fun σ => L2N.passAt tk σ) (pk_cons (pv 2) pk_nil))))
          (pss_one (ps_if (pt_cmpR op_eq (pv 0) pe_int (nomark _))
            (pss_one (ps_expr (pe_methW (pv 1) T.RS.cl T.m_Scale_place (ok_Scale_place T) (hr.mono (by decide)) (kb_Scale_place T) (fun σ => L2N.passAt tk σ) (pk_cons (pv 2) pk_nil))))
            (pss_one (ps_expr (pe_methP (pv 1) T.RS.cl T.m_Scale_led (ok_Scale_led T) (hr.mono (by decide)) (kb_Scale_led T) (fun σ => L2N.passAt tk σ) (pa_cons (pv 2) pa_nil) (pk_cons (pv 3) pk_nil))))))))
        (.cons ⟨rfl, rfl⟩ ⟨rfl, by decide, .inl T.g_BadValues⟩ (fun _ _ _ _ _ hz hf => pss_one (ps_ret (pe_lst (pa_cons pe_str (pa_cons (pe_callH0 (ok_LshownH T) (roomH_mk (hr.mono (by decide)) _) (hot_suite hz hf) (by rfl) T.g_Lshown T.F_Lshown.kp (bd_Lshown T) (pa_cons (pe_xf T.xf_BadValues T.xa_BadValues_given hz.zc hf (pv 4)) pa_nil)) pa_nil)))))
          (.cons ⟨rfl, rfl⟩ ⟨rfl, by decide, .inl T.g_NoValue⟩ (fun _ _ _ _ _ hz hf => pss_one (ps_ret (pe_lst (pa_cons pe_str (pa_cons (pe_callH0 (ok_LshownH T) (roomH_mk (hr.mono (by decide)) _) (hot_suite hz hf) (by rfl) T.g_Lshown T.F_Lshown.kp (bd_Lshown T) (pa_cons (pe_xf T.xf_NoValue T.xa_NoValue_given hz.zc hf (pv 4)) pa_nil)) pa_nil)))))
            (.cons ⟨rfl, rfl⟩ ⟨rfl, by decide, .inl T.g_BadNumber⟩ (fun _ _ _ _ _ hz hf => pss_one (ps_ret (pe_lst (pa_cons pe_str (pa_cons (pe_callH0 (ok_LshownH T) (roomH_mk (hr.mono (by decide)) _) (hot_suite hz hf) (by rfl) T.g_Lshown T.F_Lshown.kp (bd_Lshown T) (pa_cons (pe_xf T.xf_BadNumber T.xa_BadNumber_given hz.zc hf (pv 4)) pa_nil)) pa_nil)))))
              .nil))))
      (pss_one (ps_ret (pe_lst (pa_cons pe_str pa_nil)))), ?_⟩
    walk_at "g"
    obtain ⟨dx, m, rs, hs1, hs2, hs3⟩ := id hs
    have last : ∀ (wd : Str) (dg : Da) (r : V) (H1 H2 : Hp), Ex H H1 → Ex H1 H2 → DpN H1 H2 r dg.sh → (∀ l v H', H l = none → Ex H H' → H' l = some (.lst [.str wd, v]) → DpN H H' v dg.sh → Q (.ref l) H') → [V.str wd, r].length ≤ sizeLine ∧ ∀ l, H2 l = none → Q (.ref l) (upd H2 l (.lst [.str wd, r])) := fun wd dg r H1 H2 ex e2 hr2 z =>
      ⟨len_lit rfl, fun l hl => z l r _ ((ex.trans e2).free hl) ((ex.trans e2).trans (Ex.new hl)) upd_same ((hr2.weak fun _ hp => ex.free hp).mono (Ex.new hl))⟩
    rcases odd with ⟨rfl, bad, rfl, rfl⟩ | ⟨rfl, bad, rfl, rfl⟩ | ⟨rfl, bad, rfl, rfl⟩ | ⟨rfl, n1, n0, n2, rfl, rfl⟩
    · refine g_dec (fun _ => ?_) (fun h => absurd rfl h)
      walk_at "g"
      refine g_makeW ?_
      walk_at "g"
      refine ⟨rfl, fun x1 dx1 hx1 hdx1 hne => ?_⟩
      have ex5 : Ex H (upd (upd H dx1 (.own x1)) x1 (.ins a.C_Scale dx1 [])) := fun b o hb => by
        rw [upd_ne (ne_of_none hb hx1), upd_ne (ne_of_none hb hdx1)]
        exact hb
      refine ⟨x1, dx1, x, d, rfl, hx.mono ex5, fx, upd_same, fun cs hc => absurd hc (bad cs), fun _ dd H' hdd e1 hxd => ?_⟩
      have ex : Ex H H' := fun b o hb => e1 b o (ex5 _ _ hb) (ne_of_none hb hx1)
      refine ⟨true, T.xs_BadValues, fun _ e he => ?_, fun h => by cases h⟩
      refine ⟨_, rfl, rfl, rfl, dd, _, x, rfl, hxd, rfl, ?_⟩
      refine ⟨x, d, rfl, hx.mono ex, fx, px, fun r H2 e2 hr2 => ?_⟩
      walk_at "g"
      exact last _ _ r H' H2 ex e2 hr2 z
    · refine g_dec (fun h => absurd h (by decide)) (fun _ => ?_)
      walk_at "g"
      refine g_dec (fun _ => ?_) (fun h => absurd rfl h)
      walk_at "g"
      refine ⟨sc, dx, _, rfl, hs1, marks_no m (by decide +kernel), ?_⟩
      walk_at "g"
      refine ⟨rfl, sc, x, d, qs, rfl, hs, fun q hq => sz_le (sz q hq) (by decide), by omega, hx, fx, fun i hn hi => absurd hi (bad i hn), fun _ dd H' hdd ex hxd => ?_⟩
      refine ⟨false, T.xo_NoValue_BadValues, (fun h => by cases h), fun _ => ⟨true, T.xs_NoValue, fun _ e he => ?_, fun h => by cases h⟩⟩
      refine ⟨_, rfl, rfl, rfl, dd, _, x, rfl, hxd, rfl, ?_⟩
      refine ⟨x, d, rfl, hx.mono ex, fx, px, fun r H2 e2 hr2 => ?_⟩
      walk_at "g"
      exact last _ _ r H' H2 ex e2 hr2 z
    all_goals
      refine g_dec (fun h => absurd h (by decide)) (fun _ => ?_)
      walk_at "g"
      refine g_dec (fun h => absurd h (by decide)) (fun _ => ?_)
      walk_at "g"
      refine g_methP ?_
      walk_at "g"
      refine ⟨sc, dx, _, rfl, hs1, marks_no m (by decide +kernel), ?_⟩
      walk_at "g"
    · refine ⟨rfl, rfl, sc, x, y, d, d2, qs, rfl, hs, sz, sx rfl, sy rfl, asc, l1, l8, hx, fx, hy, fy, fun h1 h2 => absurd ⟨h1, h2⟩ bad, fun _ dd H' hdd ex hxd => ?_, fun h1 h2 => absurd ⟨h1, h2⟩ bad⟩
      refine ⟨false, T.xo_BadNumber_BadValues, (fun h => by cases h), fun _ => ⟨false, T.xo_BadNumber_NoValue, (fun h => by cases h), fun _ => ⟨true, T.xs_BadNumber, fun _ e he => ?_, fun h => by cases h⟩⟩⟩
      refine ⟨_, rfl, rfl, rfl, dd, _, x, rfl, hxd, rfl, ?_⟩
      refine ⟨x, d, rfl, hx.mono ex, fx, px, fun r H2 e2 hr2 => ?_⟩
      walk_at "g"
      exact last _ _ r H' H2 ex e2 hr2 z
    · refine ⟨rfl, rfl, sc, x, y, d1, d, qs, rfl, hs, sz, sx rfl, sy rfl, asc, l1, l8, hx, fx, hy, fy, fun _ _ h => absurd h (by rw [n2]; decide), fun h => absurd ⟨n1, n0⟩ h, fun _ _ _ dd H' hdd ex hxd => ?_⟩
      refine ⟨false, T.xo_BadNumber_BadValues, (fun h => by cases h), fun _ => ⟨false, T.xo_BadNumber_NoValue, (fun h => by cases h), fun _ => ⟨true, T.xs_BadNumber, fun _ e he => ?_, fun h => by cases h⟩⟩⟩
      refine ⟨_, rfl, rfl, rfl, dd, _, y, rfl, hxd, rfl, ?_⟩
      refine ⟨y, d, rfl, hy.mono ex, fy, py, fun r H2 e2 hr2 => ?_⟩
      walk_at "g"
      exact last _ _ r H' H2 ex e2 hr2 z
end
end Kx


set_option maxHeartbeats 2000000
namespace Fm
open PySem PySem.Spec PyProof.Rows L2
/-! ### what is shown can be laid, compares as the same -/
theorem ofString_ok (s : String) : PyData.strOk (Str.ofString s) = true := by
  rw [Str.ofString_eq_toList]
  unfold PyData.strOk
  simp only [Array.all_eq_true]
  intro i h
  simp only [List.getElem_toArray, List.getElem_map, decide_eq_true_eq]
  have := (s.toList[i]'(by simpa using h)).valid
  show (s.toList[i]'(by simpa using h)).val.toNat < 0x110000
  rcases this with h | h
  · exact Nat.lt_of_lt_of_le h (by decide)
  · exact h.2
mutual
theorem sh_lay : ∀ d : Da, d.fine = true → d.sh.canLay0 = true
  | .non, _ => ofString_ok _
  | .bl _, _ => ofString_ok _
  | .int _, _ => ofString_ok _
  | .str s, h => by
    unfold Da.fine fineS at h
    simp only [Bool.and_eq_true] at h
    exact h.1.2
  | .rat q, _ => by
    simp only [Da.sh, PyData.canLay0, PyData.canLayAll0, Bool.and_true, Bool.true_and]
    exact ofString_ok _
  | .lst l, h => by
    unfold Da.fine at h
    rw [Bool.and_eq_true] at h
    simp only [Da.sh, PyData.canLay0, PyData.canLayAll0, Bool.and_true, shL_lay l h.2]
    exact ofString_ok _
  | .tup l, h => by
    unfold Da.fine at h
    rw [Bool.and_eq_true] at h
    simp only [Da.sh, PyData.canLay0, PyData.canLayAll0, Bool.and_true, shL_lay l h.2]
    exact ofString_ok _
  | .dic l, h => by
    unfold Da.fine at h
    rw [Bool.and_eq_true] at h
    simp only [Da.sh, PyData.canLay0, PyData.canLayAll0, Bool.and_true, shD_lay l h.2]
    exact ofString_ok _
theorem shL_lay : ∀ l : List Da, fineL l = true → PyData.canLayAll0 (shL l) = true
  | [], _ => rfl
  | d :: r, h => by
    unfold fineL at h
    rw [Bool.and_eq_true] at h
    simp only [shL, PyData.canLayAll0, sh_lay d h.1, shL_lay r h.2, Bool.and_true]
theorem shD_lay : ∀ l : List (Str × Da), fineD l = true → PyData.canLayAll0 (shD l) = true
  | [], _ => rfl
  | (s, d) :: r, h => by
    unfold fineD at h
    simp only [Bool.and_eq_true] at h
    have hs : PyData.strOk (reprText s) = true := by
      have := h.1.1.1
      unfold fineS at this
      simp only [Bool.and_eq_true] at this
      exact this.1.2
    simp only [shD, PyData.canLayAll0, PyData.canLay0, sh_lay d h.1.1.2, shD_lay r h.2, Bool.and_true]
    exact hs
end
mutual
theorem sh_depth : ∀ d : Da, d.sh.depth ≤ 3 * d.dp + 3
  | .non => by simp only [Da.sh, PyData.depth, Da.dp]; omega
  | .bl _ => by simp only [Da.sh, PyData.depth, Da.dp]; omega
  | .int _ => by simp only [Da.sh, PyData.depth, Da.dp]; omega
  | .str s => by simp only [Da.sh, PyData.depth, Da.dp]; omega
  | .rat q => by simp only [Da.sh, PyData.depth, PyData.depthAll, Da.dp]; omega
  | .lst l => by have := shL_depth l; simp only [Da.sh, PyData.depth, PyData.depthAll, Da.dp]; omega
  | .tup l => by have := shL_depth l; simp only [Da.sh, PyData.depth, PyData.depthAll, Da.dp]; omega
  | .dic l => by have := shD_depth l; simp only [Da.sh, PyData.depth, PyData.depthAll, Da.dp]; omega
theorem shL_depth : ∀ l : List Da, PyData.depthAll (shL l) ≤ 3 * dpL l + 3
  | [] => by simp [shL, PyData.depthAll]
  | d :: r => by have h1 := sh_depth d; have h2 := shL_depth r; simp only [shL, PyData.depthAll, dpL]; omega
theorem shD_depth : ∀ l : List (Str × Da), PyData.depthAll (shD l) ≤ 3 * dpD l + 4
  | [] => by simp [shD, PyData.depthAll]
  | (s, d) :: r => by have h1 := sh_depth d; have h2 := shD_depth r; simp only [shD, PyData.depthAll, PyData.depth, dpD]; omega
end
def toldD (wd : Str) (d : Da) : PyData := .list [.str wd, d.sh]
theorem told_lay {wd : Str} {d : Da} (hw : PyData.strOk wd = true) (h : d.fine = true) : (toldD wd d).canLay0 = true := by
  simp only [toldD, PyData.canLay0, PyData.canLayAll0, Bool.and_true, sh_lay d h]
  exact hw
theorem told_shaped {wd : Str} {d : Da} (hw : PyData.strOk wd = true) (h : d.fine = true) (hd : d.dp < 6) : SeqAt.shaped (toldD wd d) = true := by
  show ((toldD wd d).canLay0 && decide ((toldD wd d).depth ≤ 64)) = true
  rw [told_lay hw h, Bool.true_and]
  have := sh_depth d
  exact decide_eq_true (by simp only [toldD, PyData.depth, PyData.depthAll]; omega)
theorem told_same {wd : Str} {d : Da} (hw : PyData.strOk wd = true) (h : d.fine = true) : PyData.eqv (toldD wd d) (toldD wd d) = true := SeqAt.eqv_refl _ (told_lay hw h)
section
variable {K : PySem.W.Frag} {H : Hp} {Q : VK} {p r : Addr} {u v : V} {wd : Str} {d : Da}
theorem told_dp {H0 : Hp} (hp : H p = some (.lst [.str wd, u])) (hu : DpN H0 H u d.sh) : Dp K H (.ref p) (toldD wd d) := .lst (SqL.of hp) (.cons (.str _) (.cons hu.dp .nil))
theorem g_toldNe {H0 H1 : Hp} (hw : PyData.strOk wd = true) (h : d.fine = true) (hd : d.dp < 6) (hp : H p = some (.lst [.str wd, u])) (hu : DpN H0 H u d.sh) (hr : H r = some (.lst [.str wd, v])) (hv : DpN H1 H v d.sh) (q : Q (.bl false) H) : rNeD K (.ref p) (.ref r) H Q :=
  ⟨_, _, told_dp hp hu, told_dp hr hv, told_shaped hw h hd, told_shaped hw h hd, by rw [told_same hw h]; exact q⟩
theorem g_toldEq {H0 H1 : Hp} (hw : PyData.strOk wd = true) (h : d.fine = true) (hd : d.dp < 6) (hp : H p = some (.lst [.str wd, u])) (hu : DpN H0 H u d.sh) (hr : H r = some (.lst [.str wd, v])) (hv : DpN H1 H v d.sh) (q : Q (.bl true) H) : rEqD K (.ref p) (.ref r) H Q :=
  ⟨_, _, told_dp hp hu, told_dp hr hv, told_shaped hw h hd, told_shaped hw h hd, by rw [told_same hw h]; exact q⟩
end
end Fm

set_option maxHeartbeats 4000000
namespace Kx
open PySem PySem.Spec PyProof.Rows L2 Fm
local macro_rules | `(tactic| walk_at "gv") => `(tactic| ((with_reducible refine' g_var ?gh ?_); (case gh => exact rfl)))
local macro_rules | `(tactic| walk_at "g1") => `(tactic| first
  | walk_at "gv"
  | with_reducible refine g_c ?_ | with_reducible refine g_op ?_ | with_reducible refine g_un ?_ | with_reducible refine g_I0 ?_ | with_reducible refine g_U ?_
  | with_reducible refine g_eqI ?_ | with_reducible refine g_neI ?_ | with_reducible refine g_eqS ?_ | with_reducible refine g_neS ?_
  | with_reducible refine g_test ?_ | with_reducible refine g_B ?_ | with_reducible refine g_bl ?_ | with_reducible refine g_not ?_ | with_reducible refine g_and ?_ | with_reducible refine g_or ?_
  | with_reducible refine g_andV ?_ | with_reducible refine g_orV ?_ | with_reducible refine g_notV ?_ | with_reducible refine g_chain ?_ | with_reducible refine g_if ?_ | with_reducible refine g_ifS ?_
  | with_reducible refine g_seq ?_ | with_reducible refine g_next ?_ | with_reducible refine g_break ?_ | with_reducible refine g_cont ?_ | with_reducible refine g_drop ?_ | with_reducible refine g_ret ?_ | with_reducible refine g_retN ?_
  | with_reducible refine g_asg ?_ | with_reducible refine g_name ?_ | with_reducible refine g_par ?_ | with_reducible refine g_par2 ?_ | with_reducible refine g_fld ?_ | with_reducible refine g_sfld ?_
  | with_reducible refine g_nil ?_ | with_reducible refine g_cons ?_ | with_reducible refine g_tup ?_ | with_reducible refine g_lst ?_ | with_reducible refine g_call ?_ | with_reducible refine g_meth ?_ | with_reducible refine g_make1 ?_ | with_reducible refine g_make ?_ | with_reducible refine g_cb ?_ | with_reducible refine g_sub ?_ | with_reducible refine g_m0 ?_ | with_reducible refine g_gcons ?_ | with_reducible refine g_gnil ?_ | with_reducible refine g_for ?_ | with_reducible refine g_lc ?_ | with_reducible refine g_ilist ?_ | with_reducible refine g_itup ?_ | with_reducible refine g_rng1 ?_ | with_reducible refine g_rng3 ?_ | with_reducible refine g_yes ?_ | with_reducible refine g_sl ?_ | with_reducible refine g_nopart ?_ | with_reducible refine g_part ?_ | with_reducible refine g_exI ?_ | with_reducible refine g_m1 ?_ | with_reducible refine g_isS ?_ | with_reducible refine g_bm ?_ | with_reducible refine g_revL ?_ | with_reducible refine g_istr ?_ | with_reducible refine g_notInS ?_ | with_reducible refine g_absI ?_ | with_reducible refine g_intI ?_ | with_reducible refine g_izip ?_ | with_reducible refine g_ienum ?_ | with_reducible refine g_bm0 ?_ | with_reducible refine g_mko ?_ | with_reducible refine g_methW ?_ | with_reducible refine g_callW ?_
  | with_reducible refine iteT ?_ | with_reducible refine iteF ?_ | with_reducible refine g_gcd ?_)
local macro_rules | `(tactic| walk_at "g") => `(tactic| (repeat (first | walk_at "g1" | dsimp only [cx_K, cx_Kn, b_nt, b_nf])))
local macro_rules | `(tactic| walk_at "mul") => `(tactic| exact mulA (a := 200) (b := 200) (by omega) (by omega) (by decide))
local macro_rules | `(tactic| walk_at "pow") => `(tactic| exact ⟨by omega, by omega, by omega⟩)

def BadV (C : Addr) (H : Hp) (v : V) : Prop := ∃ d, DaV C H v d ∧ d.fine = true ∧ d.dp < 6 ∧ ∀ cs, ¬ ValsOf d cs
def BadP (C : Addr) (H : Hp) (qs : List Rat) (v : V) : Prop := ∃ d, DaV C H v d ∧ d.fine = true ∧ d.dp < 6 ∧ ∀ i : Nat, d.isNum = true → qs[i]? ≠ some d.num
theorem rat_fine {q : Rat} (h : Sz 200 q) : (Da.rat q).fine = true := by
  unfold Da.fine
  rw [Bool.and_eq_true]
  exact ⟨decide_eq_true h.1, decide_eq_true h.2⟩
def BadW (C : Addr) (H : Hp) (v : V) : Prop := ∃ d, DaV C H v d ∧ d.fine = true ∧ d.dp < 6 ∧ Sz 45 d.num ∧ ¬ (d.isNum = true ∧ d.num ≠ 0)
def BadL (C : Addr) (H : Hp) (v : V) : Prop := ∃ d, DaV C H v d ∧ d.fine = true ∧ d.dp < 6 ∧ Sz 45 d.num ∧ d.isNum = false
theorem bad_one {d : Da} (h : (d.isLst || d.isTup) = false) : ∀ cs, ¬ ValsOf d cs := fun cs ⟨ds, e, _⟩ => by
  rcases e with rfl | rfl <;> cases h
theorem bad_any {d : Da} {ds : List Da} (hd : d = .lst ds ∨ d = .tup ds) (h : ds = [] ∨ ds.all Da.isNum = false ∨ 8 < ds.length ∨ ¬ (ds.map Da.num).Nodup) : ∀ cs, ¬ ValsOf d cs := fun cs ⟨es, e, a, b, c, f, g⟩ => by
  have ee : es = ds := by
    rcases hd with rfl | rfl <;> rcases e with e | e <;> first | (injection e with e; exact e.symm) | cases e
  subst ee
  rcases h with rfl | h | h | h
  · cases b
  · rw [a] at h; cases h
  · omega
  · subst f
    exact h (climb_nodup g)
theorem bad_lst {ds : List Da} (h : ds = [] ∨ ds.all Da.isNum = false ∨ 8 < ds.length ∨ ¬ (ds.map Da.num).Nodup) : ∀ cs, ¬ ValsOf (.lst ds) cs := bad_any (.inl rfl) h
theorem bad_tup {ds : List Da} (h : ds = [] ∨ ds.all Da.isNum = false ∨ 8 < ds.length ∨ ¬ (ds.map Da.num).Nodup) : ∀ cs, ¬ ValsOf (.tup ds) cs := bad_any (.inr rfl) h
theorem dpL_rats : ∀ qs : List Rat, dpL (qs.map .rat) = 0
  | [] => rfl
  | _ :: r => by
    show max 0 (dpL (r.map .rat)) = 0
    rw [dpL_rats r]
    rfl
theorem dp_rats (qs : List Rat) : (Da.lst (qs.map .rat)).dp = 1 := by
  show dpL (qs.map .rat) + 1 = 1
  rw [dpL_rats]
theorem cut_one (xs : List V) : cutV xs none (some 1) = xs.take 1 := by
  cases xs with
  | nil => rfl
  | cons x r =>
    unfold cutV HT.sIx
    simp
theorem rats_mo {C t : Addr} {H H' : Hp} {vs : List V} {qs : List Rat} (h : TapeAt H t) (m : Mo t H H') (r : RatsV C H vs qs) : RatsV C H' vs qs := Paired.mapP r fun _ _ r => r.mo h m
theorem scale_mo {CS C t p : Addr} {H H' : Hp} {qs : List Rat} (l1 : 1 ≤ qs.length) (h : TapeAt H t) (m : Mo t H H') (s : ScaleAt CS C H p qs) : ScaleAt CS C H' p qs := by
  obtain ⟨dx, ma, rs, h1, h2, h3⟩ := s
  refine ⟨dx, ma, rs, m _ _ h1 (h.ne h1 fun l e => by cases e), m _ _ h2 fun e => ?_, rats_mo h m h3⟩
  obtain ⟨t0, t1, _, _, _, ht⟩ := h
  rw [e, ht] at h2
  cases h2
  cases h3 with
  | cons a _ =>
    obtain ⟨_, e, _⟩ := a
    cases e
theorem first_of {C : Addr} {H : Hp} {xs : List V} {qs : List Rat} (h : RatsV C H xs qs) (asc : qs.Pairwise (· < ·)) (l : 1 ≤ qs.length) : ∃ x q, atI xs 0 = some x ∧ q ∈ qs ∧ RatV C H x q ∧ ∀ r ∈ qs, q ≤ r := by
  cases h with
  | nil => cases l
  | cons a r =>
    refine ⟨_, _, atI_nat (j := 0) rfl, List.mem_cons_self, a, fun s hs => ?_⟩
    rcases List.mem_cons.mp hs with rfl | hs
    · exact Rat.le_refl
    · exact Rat.le_of_lt ((List.pairwise_cons.mp asc).1 s hs)
theorem last_of {C : Addr} {H : Hp} {xs : List V} {qs : List Rat} (h : RatsV C H xs qs) (asc : qs.Pairwise (· < ·)) (l : 1 ≤ qs.length) : ∃ x q, atI xs (-1) = some x ∧ q ∈ qs ∧ RatV C H x q ∧ ∀ r ∈ qs, r ≤ q := by
  have hl : xs.length = qs.length := h.length
  have hi : qs.length - 1 < qs.length := by omega
  obtain ⟨x, hx, rx⟩ := prd_getR h (List.getElem?_eq_getElem hi)
  refine ⟨x, _, ?_, List.getElem_mem hi, rx, fun s hs => ?_⟩
  · unfold atI ixN
    rw [if_neg (by decide), if_pos (by omega)]
    show xs[(-1 + (xs.length : Int)).toNat]? = some x
    rw [show (-1 + (xs.length : Int)).toNat = qs.length - 1 by omega]
    exact hx
  · obtain ⟨j, hj, rfl⟩ := List.mem_iff_getElem.mp hs
    by_cases e : j = qs.length - 1
    · subst e
      exact Rat.le_refl
    · exact Rat.le_of_lt (List.pairwise_iff_getElem.mp asc j _ hj hi (by omega))
def spRight (CS C : Addr) : Sp := fun vs H Q _ => ∃ (t s p : Addr) (xs : List V) (qs : List Rat), vs = [.ref t, .ref s, .ref p] ∧ TapeAt H t ∧ ScaleAt CS C H s qs ∧ H p = some (.lst xs) ∧ p ≠ t ∧ RatsV C H xs qs ∧ qs.Pairwise (· < ·) ∧ 1 ≤ qs.length ∧ qs.length ≤ 8 ∧ (∀ q ∈ qs, Sz 45 q) ∧ ∀ H', Mo t H H' → TapeAt H' t → Q (.bl true) H'
section
variable {P : Program} {w : World} {K : PySem.W.Frag} {mg : Str → Option Value} {base : Heap} {a : Ad}
theorem ok_Lrefused_right (T : Tx K mg a) : FnOk P w K mg base CX0 12 a.f_Lrefused_right a.d_Lrefused_right P_Lrefused_right (spRight a.C_Scale a.C_Ratio) := by
  refine def_ok0 T.F_Lrefused_right sc_Lrefused_right (fun vs H Q E h => ?_) (fun cdv A outer s G0 vs Q E hr h => ?_)
  · obtain ⟨t, s, p, xs, qs, rfl, _⟩ := h
    rfl
  · obtain ⟨t, sc, p, xs, qs, rfl, tp, hs, hp, hpt, hrs, asc, l1, l8, sz, z⟩ := h
    have mm : Mo t G0 G0 := Mo.refl t G0
    refine ⟨_, (pss_cons (ps_set (i := 3) sc_Lrefused_right.nd rfl (Or.inl rfl) (pe_lst (pa_cons pe_non (pa_cons pe_int (pa_cons pe_str (pa_cons (pe_lst pa_nil) (pa_cons (pe_tup pa_nil) (pa_cons pe_dnewK (pa_cons (pe_op op_cat (pv 2) (pe_slice sl_list (pv 2) po_none (po_some pe_int))) (pa_cons (pe_lst (pa_cons pe_int (pa_cons pe_non pa_nil))) (pa_cons (pe_lst (pa_cons pe_bl pa_nil)) (pa_cons (pe_lst (pa_cons pe_str pa_nil)) (pa_cons (pe_lst (pa_cons (pe_lst (pa_cons pe_int pa_nil)) pa_nil)) pa_nil))))))))))))) (pss_cons (ps_set (i := 4) sc_Lrefused_right.nd rfl (Or.inl rfl) (pe_ix ix_list (pe_op op_cat (pv 3) (pe_lst (pa_cons (pe_listRg rfl (by rfl) T.b_list (prg_1 (by rfl) T.b_range pe_int)) (pa_cons (pe_lst (pa_cons pe_int (pa_cons (pe_make T.mk_Ratio (ok_Ratio_init T) (hr.mono (by decide)) (by rfl) T.g_Ratio (bd_Ratio_init T) .nil pass0 (pa_cons pe_int (pa_cons pe_int pa_nil))) pa_nil))) pa_nil)))) (pe_call (ok_Lpick T) (hr.mono (by decide)) (by rfl) T.g_Lpick T.F_Lpick.kp (bd_Lpick T) .nil pass0 (pa_cons (pv 0) (pa_cons pe_int pa_nil))) (fun _ _ => rfl))) (pss_cons (ps_if (pt_cmpR (op_neD hr.units) (pe_call (ok_Lrefused T) (hr.mono (by decide)) (by rfl) T.g_Lrefused T.F_Lrefused.kp (bd_Lrefused T) .nil pass0 (pa_cons pe_int (pa_cons (pv 1) (pa_cons (pv 4) (pa_cons pe_non pa_nil))))) (pe_lst (pa_cons pe_str (pa_cons (pe_call (ok_Lshown T) (hr.mono (by decide)) (by rfl) T.g_Lshown T.F_Lshown.kp (bd_Lshown T) .nil pass0 (pa_cons (pv 4) pa_nil)) pa_nil))) (nomark _)) (pss_one (ps_ret pe_bl)) pss_nil) (pss_cons (ps_set (i := 5) sc_Lrefused_right.nd rfl (Or.inl rfl) (pe_lst (pa_cons pe_non (pa_cons pe_bl (pa_cons pe_str (pa_cons (pe_lst (pa_cons (pe_ix ix_list (pv 2) pe_int (fun _ _ => rfl)) pa_nil)) (pa_cons (pe_tup (pa_cons (pe_lst (pa_cons pe_int pa_nil)) pa_nil)) (pa_cons (pe_disp (pps_cons pe_str (pe_lst pa_nil) pps_nil) rfl rfl (List.cons_ne_nil _ _) (by decide)) (pa_cons (pe_op (op_own T.o_add (ok_Ratio_add T) (hr.mono (by decide)) (bd_Ratio_add T) pass0) (pe_ix ix_list (pv 2) (pe_un un_neg pe_int) (fun _ _ => rfl)) pe_int) (pa_cons (pe_op (op_own T.o_sub (ok_Ratio_sub T) (hr.mono (by decide)) (bd_Ratio_sub T) pass0) (pe_ix ix_list (pv 2) pe_int (fun _ _ => rfl)) (pe_make T.mk_Ratio (ok_Ratio_init T) (hr.mono (by decide)) (by rfl) T.g_Ratio (bd_Ratio_init T) .nil pass0 (pa_cons pe_int (pa_cons pe_int pa_nil)))) (pa_cons (pe_tup pa_nil) pa_nil))))))))))) (pss_cons (ps_set (i := 5) sc_Lrefused_right.nd rfl (Or.inl rfl) (pe_ix ix_list (pv 5) (pe_call (ok_Lpick T) (hr.mono (by decide)) (by rfl) T.g_Lpick T.F_Lpick.kp (bd_Lpick T) .nil pass0 (pa_cons (pv 0) (pa_cons pe_int pa_nil))) (fun _ _ => rfl))) (pss_cons (ps_if (pt_cmpR (op_neD hr.units) (pe_call (ok_Lrefused T) (hr.mono (by decide)) (by rfl) T.g_Lrefused T.F_Lrefused.kp (bd_Lrefused T) .nil pass0 (pa_cons pe_int (pa_cons (pv 1) (pa_cons (pv 5) (pa_cons pe_non pa_nil))))) (pe_lst (pa_cons pe_str (pa_cons (pe_call (ok_Lshown T) (hr.mono (by decide)) (by rfl) T.g_Lshown T.F_Lshown.kp (bd_Lshown T) .nil pass0 (pa_cons (pv 5) pa_nil)) pa_nil))) (nomark _)) (pss_one (ps_ret pe_bl)) pss_nil) (pss_cons (ps_set (i := 6) sc_Lrefused_right.nd rfl (Or.inl rfl) (pe_ix ix_list (pe_lst (pa_cons pe_int (pa_cons (pe_make T.mk_Ratio (ok_Ratio_init T) (hr.mono (by decide)) (by rfl) T.g_Ratio (bd1_Ratio_init T).choose_spec.2 (bd1_Ratio_init T).choose_spec.1 pass0 (pa_cons pe_int pa_nil)) (pa_cons pe_non (pa_cons pe_bl (pa_cons pe_str (pa_cons (pe_lst (pa_cons pe_int pa_nil)) pa_nil))))))) (pe_call (ok_Lpick T) (hr.mono (by decide)) (by rfl) T.g_Lpick T.F_Lpick.kp (bd_Lpick T) .nil pass0 (pa_cons (pv 0) (pa_cons pe_int pa_nil))) (fun _ _ => rfl))) (pss_cons (ps_set (i := 7) sc_Lrefused_right.nd rfl (Or.inl rfl) (pe_ix ix_list (pe_lst (pa_cons pe_non (pa_cons pe_bl (pa_cons pe_str (pa_cons (pe_lst (pa_cons pe_int pa_nil)) (pa_cons (pe_tup pa_nil) pa_nil)))))) (pe_call (ok_Lpick T) (hr.mono (by decide)) (by rfl) T.g_Lpick T.F_Lpick.kp (bd_Lpick T) .nil pass0 (pa_cons (pv 0) (pa_cons pe_int pa_nil))) (fun _ _ => rfl))) (pss_cons (ps_if (pt_cmpR (op_neD hr.units) (pe_call (ok_Lrefused T) (hr.mono (by decide)) (by rfl) T.g_Lrefused T.F_Lrefused.kp (bd_Lrefused T) .nil pass0 (pa_cons pe_int (pa_cons (pv 1) (pa_cons (pv 6) (pa_cons (pv 7) pa_nil))))) (pe_lst (pa_cons pe_str (pa_cons (pe_call (ok_Lshown T) (hr.mono (by decide)) (by rfl) T.g_Lshown T.F_Lshown.kp (bd_Lshown T) .nil pass0 (pa_cons (pv 6) pa_nil)) pa_nil))) (nomark _)) (pss_one (ps_ret pe_bl)) pss_nil) (pss_one (ps_ret (pe_cmpR (op_eqD hr.units) (pe_call (ok_Lrefused T) (hr.mono (by decide)) (by rfl) T.g_Lrefused T.F_Lrefused.kp (bd_Lrefused T) .nil pass0 (pa_cons pe_int (pa_cons (pv 1) (pa_cons (pe_un un_neg pe_int) (pa_cons (pv 7) pa_nil))))) (pe_lst (pa_cons pe_str (pa_cons (pe_call (ok_Lshown T) (hr.mono (by decide)) (by rfl) T.g_Lshown T.F_Lshown.kp (bd_Lshown T) .nil pass0 (pa_cons (pv 7) pa_nil)) pa_nil))) (nomark _))))))))))))), ?_⟩
    walk_at "g"
    refine ⟨len_lit rfl, fun a1 ha1 => ?_⟩
    have eG1 : Ex G0 (upd G0 a1 (.lst [])) := Ex.new ha1
    have a_a1 : (upd G0 a1 (.lst [])) a1 = some (.lst []) := upd_same
    have n_a1 := tp.new ha1
    replace tp := tp.mono eG1
    generalize (upd G0 a1 (.lst [])) = G1 at eG1 a_a1 tp ⊢
    replace hrs := hrs.mono eG1
    replace hp := eG1 _ _ hp
    replace hs := hs.mono eG1
    replace mm := mm.ex eG1
    walk_at "g"
    refine ⟨len_lit rfl, fun a2 ha2 => ?_⟩
    have eG2 : Ex G1 (upd G1 a2 (.tup [])) := Ex.new ha2
    have a_a2 : (upd G1 a2 (.tup [])) a2 = some (.tup []) := upd_same
    have n_a2 := tp.new ha2
    replace tp := tp.mono eG2
    generalize (upd G1 a2 (.tup [])) = G2 at eG2 a_a2 tp ⊢
    replace a_a1 := eG2 _ _ a_a1
    replace hrs := hrs.mono eG2
    replace hp := eG2 _ _ hp
    replace hs := hs.mono eG2
    replace mm := mm.ex eG2
    walk_at "g"
    intro a3 ha3
    have eG3 : Ex G2 (upd G2 a3 (.dK [])) := Ex.new ha3
    have a_a3 : (upd G2 a3 (.dK [])) a3 = some (.dK []) := upd_same
    have n_a3 := tp.new ha3
    replace tp := tp.mono eG3
    generalize (upd G2 a3 (.dK [])) = G3 at eG3 a_a3 tp ⊢
    replace a_a1 := eG3 _ _ a_a1
    replace a_a2 := eG3 _ _ a_a2
    replace hrs := hrs.mono eG3
    replace hp := eG3 _ _ hp
    replace hs := hs.mono eG3
    replace mm := mm.ex eG3
    walk_at "g"
    refine ⟨p, xs, rfl, SqL.of hp, fun a4 ha4 => ?_⟩
    have eG4 : Ex G3 (upd G3 a4 (.lst (cutV xs none (some 1)))) := Ex.new ha4
    have a_a4 : (upd G3 a4 (.lst (cutV xs none (some 1)))) a4 = some (.lst (cutV xs none (some 1))) := upd_same
    have n_a4 := tp.new ha4
    replace tp := tp.mono eG4
    generalize (upd G3 a4 (.lst (cutV xs none (some 1)))) = G4 at eG4 a_a4 tp ⊢
    replace a_a1 := eG4 _ _ a_a1
    replace a_a2 := eG4 _ _ a_a2
    replace a_a3 := eG4 _ _ a_a3
    replace hrs := hrs.mono eG4
    replace hp := eG4 _ _ hp
    replace hs := hs.mono eG4
    replace mm := mm.ex eG4
    have hlen : xs.length = qs.length := hrs.length
    have hcut := cutV_length xs none (some 1)
    refine ⟨p, a4, xs, _, rfl, rfl, hp, a_a4, Nat.le_trans (by omega : _ ≤ 100) (by decide), fun a5 ha5 => ?_⟩
    have eG5 : Ex G4 (upd G4 a5 (.lst (xs ++ cutV xs none (some 1)))) := Ex.new ha5
    have a_a5 : (upd G4 a5 (.lst (xs ++ cutV xs none (some 1)))) a5 = some (.lst (xs ++ cutV xs none (some 1))) := upd_same
    have n_a5 := tp.new ha5
    replace tp := tp.mono eG5
    generalize (upd G4 a5 (.lst (xs ++ cutV xs none (some 1)))) = G5 at eG5 a_a5 tp ⊢
    replace a_a1 := eG5 _ _ a_a1
    replace a_a2 := eG5 _ _ a_a2
    replace a_a3 := eG5 _ _ a_a3
    replace a_a4 := eG5 _ _ a_a4
    replace hrs := hrs.mono eG5
    replace hp := eG5 _ _ hp
    replace hs := hs.mono eG5
    replace mm := mm.ex eG5
    walk_at "g"
    refine ⟨len_lit rfl, fun a6 ha6 => ?_⟩
    have eG6 : Ex G5 (upd G5 a6 (.lst [.int 1, .non])) := Ex.new ha6
    have a_a6 : (upd G5 a6 (.lst [.int 1, .non])) a6 = some (.lst [.int 1, .non]) := upd_same
    have n_a6 := tp.new ha6
    replace tp := tp.mono eG6
    generalize (upd G5 a6 (.lst [.int 1, .non])) = G6 at eG6 a_a6 tp ⊢
    replace a_a1 := eG6 _ _ a_a1
    replace a_a2 := eG6 _ _ a_a2
    replace a_a3 := eG6 _ _ a_a3
    replace a_a4 := eG6 _ _ a_a4
    replace a_a5 := eG6 _ _ a_a5
    replace hrs := hrs.mono eG6
    replace hp := eG6 _ _ hp
    replace hs := hs.mono eG6
    replace mm := mm.ex eG6
    walk_at "g"
    refine ⟨len_lit rfl, fun a7 ha7 => ?_⟩
    have eG7 : Ex G6 (upd G6 a7 (.lst [.bl true])) := Ex.new ha7
    have a_a7 : (upd G6 a7 (.lst [.bl true])) a7 = some (.lst [.bl true]) := upd_same
    have n_a7 := tp.new ha7
    replace tp := tp.mono eG7
    generalize (upd G6 a7 (.lst [.bl true])) = G7 at eG7 a_a7 tp ⊢
    replace a_a1 := eG7 _ _ a_a1
    replace a_a2 := eG7 _ _ a_a2
    replace a_a3 := eG7 _ _ a_a3
    replace a_a4 := eG7 _ _ a_a4
    replace a_a5 := eG7 _ _ a_a5
    replace a_a6 := eG7 _ _ a_a6
    replace hrs := hrs.mono eG7
    replace hp := eG7 _ _ hp
    replace hs := hs.mono eG7
    replace mm := mm.ex eG7
    walk_at "g"
    refine ⟨len_lit rfl, fun a8 ha8 => ?_⟩
    have eG8 : Ex G7 (upd G7 a8 (.lst [.str (Str.ofString "1")])) := Ex.new ha8
    have a_a8 : (upd G7 a8 (.lst [.str (Str.ofString "1")])) a8 = some (.lst [.str (Str.ofString "1")]) := upd_same
    have n_a8 := tp.new ha8
    replace tp := tp.mono eG8
    generalize (upd G7 a8 (.lst [.str (Str.ofString "1")])) = G8 at eG8 a_a8 tp ⊢
    replace a_a1 := eG8 _ _ a_a1
    replace a_a2 := eG8 _ _ a_a2
    replace a_a3 := eG8 _ _ a_a3
    replace a_a4 := eG8 _ _ a_a4
    replace a_a5 := eG8 _ _ a_a5
    replace a_a6 := eG8 _ _ a_a6
    replace a_a7 := eG8 _ _ a_a7
    replace hrs := hrs.mono eG8
    replace hp := eG8 _ _ hp
    replace hs := hs.mono eG8
    replace mm := mm.ex eG8
    walk_at "g"
    refine ⟨len_lit rfl, fun a9 ha9 => ?_⟩
    have eG9 : Ex G8 (upd G8 a9 (.lst [.int 1])) := Ex.new ha9
    have a_a9 : (upd G8 a9 (.lst [.int 1])) a9 = some (.lst [.int 1]) := upd_same
    have n_a9 := tp.new ha9
    replace tp := tp.mono eG9
    generalize (upd G8 a9 (.lst [.int 1])) = G9 at eG9 a_a9 tp ⊢
    replace a_a1 := eG9 _ _ a_a1
    replace a_a2 := eG9 _ _ a_a2
    replace a_a3 := eG9 _ _ a_a3
    replace a_a4 := eG9 _ _ a_a4
    replace a_a5 := eG9 _ _ a_a5
    replace a_a6 := eG9 _ _ a_a6
    replace a_a7 := eG9 _ _ a_a7
    replace a_a8 := eG9 _ _ a_a8
    replace hrs := hrs.mono eG9
    replace hp := eG9 _ _ hp
    replace hs := hs.mono eG9
    replace mm := mm.ex eG9
    walk_at "g"
    refine ⟨len_lit rfl, fun a10 ha10 => ?_⟩
    have eG10 : Ex G9 (upd G9 a10 (.lst [.ref a9])) := Ex.new ha10
    have a_a10 : (upd G9 a10 (.lst [.ref a9])) a10 = some (.lst [.ref a9]) := upd_same
    have n_a10 := tp.new ha10
    replace tp := tp.mono eG10
    generalize (upd G9 a10 (.lst [.ref a9])) = G10 at eG10 a_a10 tp ⊢
    replace a_a1 := eG10 _ _ a_a1
    replace a_a2 := eG10 _ _ a_a2
    replace a_a3 := eG10 _ _ a_a3
    replace a_a4 := eG10 _ _ a_a4
    replace a_a5 := eG10 _ _ a_a5
    replace a_a6 := eG10 _ _ a_a6
    replace a_a7 := eG10 _ _ a_a7
    replace a_a8 := eG10 _ _ a_a8
    replace a_a9 := eG10 _ _ a_a9
    replace hrs := hrs.mono eG10
    replace hp := eG10 _ _ hp
    replace hs := hs.mono eG10
    replace mm := mm.ex eG10
    walk_at "g"
    refine ⟨len_lit rfl, fun o1 ho1 => ?_⟩
    have eG11 : Ex G10 (upd G10 o1 (.lst [.non, .int 3, .str (Str.ofString "12"), .ref a1, .ref a2, .ref a3, .ref a5, .ref a6, .ref a7, .ref a8, .ref a10])) := Ex.new ho1
    have a_o1 : (upd G10 o1 (.lst [.non, .int 3, .str (Str.ofString "12"), .ref a1, .ref a2, .ref a3, .ref a5, .ref a6, .ref a7, .ref a8, .ref a10])) o1 = some (.lst [.non, .int 3, .str (Str.ofString "12"), .ref a1, .ref a2, .ref a3, .ref a5, .ref a6, .ref a7, .ref a8, .ref a10]) := upd_same
    have n_o1 := tp.new ho1
    replace tp := tp.mono eG11
    generalize (upd G10 o1 (.lst [.non, .int 3, .str (Str.ofString "12"), .ref a1, .ref a2, .ref a3, .ref a5, .ref a6, .ref a7, .ref a8, .ref a10])) = G11 at eG11 a_o1 tp ⊢
    replace a_a1 := eG11 _ _ a_a1
    replace a_a2 := eG11 _ _ a_a2
    replace a_a3 := eG11 _ _ a_a3
    replace a_a4 := eG11 _ _ a_a4
    replace a_a5 := eG11 _ _ a_a5
    replace a_a6 := eG11 _ _ a_a6
    replace a_a7 := eG11 _ _ a_a7
    replace a_a8 := eG11 _ _ a_a8
    replace a_a9 := eG11 _ _ a_a9
    replace a_a10 := eG11 _ _ a_a10
    replace hrs := hrs.mono eG11
    replace hp := eG11 _ _ hp
    replace hs := hs.mono eG11
    replace mm := mm.ex eG11
    walk_at "g"
    refine ⟨9, rfl, .of_le (by decide) (by decide) (by decide) (by decide), fun r1 hr1 => ?_⟩
    have eG12 : Ex G11 (upd G11 r1 (.lst (rgV 0 9))) := Ex.new hr1
    have a_r1 : (upd G11 r1 (.lst (rgV 0 9))) r1 = some (.lst (rgV 0 9)) := upd_same
    have n_r1 := tp.new hr1
    replace tp := tp.mono eG12
    generalize (upd G11 r1 (.lst (rgV 0 9))) = G12 at eG12 a_r1 tp ⊢
    replace a_a1 := eG12 _ _ a_a1
    replace a_a2 := eG12 _ _ a_a2
    replace a_a3 := eG12 _ _ a_a3
    replace a_a4 := eG12 _ _ a_a4
    replace a_a5 := eG12 _ _ a_a5
    replace a_a6 := eG12 _ _ a_a6
    replace a_a7 := eG12 _ _ a_a7
    replace a_a8 := eG12 _ _ a_a8
    replace a_a9 := eG12 _ _ a_a9
    replace a_a10 := eG12 _ _ a_a10
    replace a_o1 := eG12 _ _ a_o1
    replace hrs := hrs.mono eG12
    replace hp := eG12 _ _ hp
    replace hs := hs.mono eG12
    replace mm := mm.ex eG12
    walk_at "g"
    refine use_initW (t := 4) (b := 2) (k := 7) (by decide) (by decide) (by decide) (by decide) fun v1 G13 eG13 r_v1 => ?_
    replace tp := tp.mono eG13
    replace a_a1 := eG13 _ _ a_a1
    replace a_a2 := eG13 _ _ a_a2
    replace a_a3 := eG13 _ _ a_a3
    replace a_a4 := eG13 _ _ a_a4
    replace a_a5 := eG13 _ _ a_a5
    replace a_a6 := eG13 _ _ a_a6
    replace a_a7 := eG13 _ _ a_a7
    replace a_a8 := eG13 _ _ a_a8
    replace a_a9 := eG13 _ _ a_a9
    replace a_a10 := eG13 _ _ a_a10
    replace a_o1 := eG13 _ _ a_o1
    replace a_r1 := eG13 _ _ a_r1
    replace hrs := hrs.mono eG13
    replace hp := eG13 _ _ hp
    replace hs := hs.mono eG13
    replace mm := mm.ex eG13
    walk_at "g"
    refine ⟨len_lit rfl, fun a12 ha12 => ?_⟩
    have eG14 : Ex G13 (upd G13 a12 (.lst [.int 2, .ref v1])) := Ex.new ha12
    have a_a12 : (upd G13 a12 (.lst [.int 2, .ref v1])) a12 = some (.lst [.int 2, .ref v1]) := upd_same
    have n_a12 := tp.new ha12
    replace tp := tp.mono eG14
    generalize (upd G13 a12 (.lst [.int 2, .ref v1])) = G14 at eG14 a_a12 tp ⊢
    replace a_a1 := eG14 _ _ a_a1
    replace a_a2 := eG14 _ _ a_a2
    replace a_a3 := eG14 _ _ a_a3
    replace a_a4 := eG14 _ _ a_a4
    replace a_a5 := eG14 _ _ a_a5
    replace a_a6 := eG14 _ _ a_a6
    replace a_a7 := eG14 _ _ a_a7
    replace a_a8 := eG14 _ _ a_a8
    replace a_a9 := eG14 _ _ a_a9
    replace a_a10 := eG14 _ _ a_a10
    replace a_o1 := eG14 _ _ a_o1
    replace a_r1 := eG14 _ _ a_r1
    replace hrs := hrs.mono eG14
    replace hp := eG14 _ _ hp
    replace hs := hs.mono eG14
    replace r_v1 := r_v1.mono eG14
    replace mm := mm.ex eG14
    walk_at "g"
    refine ⟨len_lit rfl, fun a13 ha13 => ?_⟩
    have eG15 : Ex G14 (upd G14 a13 (.lst [.ref r1, .ref a12])) := Ex.new ha13
    have a_a13 : (upd G14 a13 (.lst [.ref r1, .ref a12])) a13 = some (.lst [.ref r1, .ref a12]) := upd_same
    have n_a13 := tp.new ha13
    replace tp := tp.mono eG15
    generalize (upd G14 a13 (.lst [.ref r1, .ref a12])) = G15 at eG15 a_a13 tp ⊢
    replace a_a1 := eG15 _ _ a_a1
    replace a_a2 := eG15 _ _ a_a2
    replace a_a3 := eG15 _ _ a_a3
    replace a_a4 := eG15 _ _ a_a4
    replace a_a5 := eG15 _ _ a_a5
    replace a_a6 := eG15 _ _ a_a6
    replace a_a7 := eG15 _ _ a_a7
    replace a_a8 := eG15 _ _ a_a8
    replace a_a9 := eG15 _ _ a_a9
    replace a_a10 := eG15 _ _ a_a10
    replace a_o1 := eG15 _ _ a_o1
    replace a_r1 := eG15 _ _ a_r1
    replace a_a12 := eG15 _ _ a_a12
    replace hrs := hrs.mono eG15
    replace hp := eG15 _ _ hp
    replace hs := hs.mono eG15
    replace r_v1 := r_v1.mono eG15
    replace mm := mm.ex eG15
    walk_at "g"
    refine ⟨o1, a13, _, _, rfl, rfl, a_o1, a_a13, Nat.le_trans (by show 13 ≤ 100; decide) (by decide), fun a14 ha14 => ?_⟩
    have eG16 : Ex G15 (upd G15 a14 (.lst ([.non, .int 3, .str (Str.ofString "12"), .ref a1, .ref a2, .ref a3, .ref a5, .ref a6, .ref a7, .ref a8, .ref a10] ++ [.ref r1, .ref a12]))) := Ex.new ha14
    have a_a14 : (upd G15 a14 (.lst ([.non, .int 3, .str (Str.ofString "12"), .ref a1, .ref a2, .ref a3, .ref a5, .ref a6, .ref a7, .ref a8, .ref a10] ++ [.ref r1, .ref a12]))) a14 = some (.lst ([.non, .int 3, .str (Str.ofString "12"), .ref a1, .ref a2, .ref a3, .ref a5, .ref a6, .ref a7, .ref a8, .ref a10] ++ [.ref r1, .ref a12])) := upd_same
    have n_a14 := tp.new ha14
    replace tp := tp.mono eG16
    generalize (upd G15 a14 (.lst ([.non, .int 3, .str (Str.ofString "12"), .ref a1, .ref a2, .ref a3, .ref a5, .ref a6, .ref a7, .ref a8, .ref a10] ++ [.ref r1, .ref a12]))) = G16 at eG16 a_a14 tp ⊢
    replace a_a1 := eG16 _ _ a_a1
    replace a_a2 := eG16 _ _ a_a2
    replace a_a3 := eG16 _ _ a_a3
    replace a_a4 := eG16 _ _ a_a4
    replace a_a5 := eG16 _ _ a_a5
    replace a_a6 := eG16 _ _ a_a6
    replace a_a7 := eG16 _ _ a_a7
    replace a_a8 := eG16 _ _ a_a8
    replace a_a9 := eG16 _ _ a_a9
    replace a_a10 := eG16 _ _ a_a10
    replace a_o1 := eG16 _ _ a_o1
    replace a_r1 := eG16 _ _ a_r1
    replace a_a12 := eG16 _ _ a_a12
    replace a_a13 := eG16 _ _ a_a13
    replace hrs := hrs.mono eG16
    replace hp := eG16 _ _ hp
    replace hs := hs.mono eG16
    replace r_v1 := r_v1.mono eG16
    replace mm := mm.ex eG16
    walk_at "g"
    refine use_pick (by decide) (by decide) tp fun i1 P1 i0 i9 mP tpP => ?_
    have b_a1 := mP _ _ a_a1 n_a1
    have b_a2 := mP _ _ a_a2 n_a2
    have b_a3 := mP _ _ a_a3 n_a3
    have b_a5 := mP _ _ a_a5 n_a5
    have b_a6 := mP _ _ a_a6 n_a6
    have b_a7 := mP _ _ a_a7 n_a7
    have b_a8 := mP _ _ a_a8 n_a8
    have b_a9 := mP _ _ a_a9 n_a9
    have b_a10 := mP _ _ a_a10 n_a10
    have b_r1 := mP _ _ a_r1 n_r1
    have b_a12 := mP _ _ a_a12 n_a12
    replace hrs := rats_mo tp mP hrs
    replace hp := mP _ _ hp hpt
    replace hs := scale_mo l1 tp mP hs
    replace r_v1 := r_v1.mo tp mP
    replace mm := mm.trans mP
    replace tp := tpP
    obtain ⟨v, hv, d, hd, fd, pd, bd⟩ : ∃ v, atI ([.non, .int 3, .str (Str.ofString "12"), .ref a1, .ref a2, .ref a3, .ref a5, .ref a6, .ref a7, .ref a8, .ref a10] ++ [.ref r1, .ref a12]) i1 = some v ∧ BadV a.C_Ratio P1 v := by
      rcases (by omega : i1 = 0 ∨ i1 = 1 ∨ i1 = 2 ∨ i1 = 3 ∨ i1 = 4 ∨ i1 = 5 ∨ i1 = 6 ∨ i1 = 7 ∨ i1 = 8 ∨ i1 = 9 ∨ i1 = 10 ∨ i1 = 11 ∨ i1 = 12) with rfl | rfl | rfl | rfl | rfl | rfl | rfl | rfl | rfl | rfl | rfl | rfl | rfl
      · exact ⟨_, rfl, .non, .non, by decide +kernel, by decide +kernel, bad_one rfl⟩
      · exact ⟨_, rfl, .int 3, .int 3, by decide +kernel, by decide +kernel, bad_one rfl⟩
      · exact ⟨_, rfl, .str (Str.ofString "12"), .str _, by decide +kernel, by decide +kernel, bad_one rfl⟩
      · exact ⟨_, rfl, .lst [], .lst b_a1 .nil, by decide +kernel, by decide +kernel, bad_lst (.inl rfl)⟩
      · exact ⟨_, rfl, .tup [], .tup b_a2 .nil, by decide +kernel, by decide +kernel, bad_tup (.inl rfl)⟩
      · exact ⟨_, rfl, .dic [], .dic b_a3 .nil, by decide +kernel, by decide +kernel, bad_one rfl⟩
      · rw [cut_one] at b_a5
        refine ⟨_, rfl, .lst ((qs ++ qs.take 1).map .rat), .lst b_a5 (RatsV.da (prd_app hrs (prd_take 1 hrs))), ?_, by rw [dp_rats]; decide, bad_lst (.inr (.inr (.inr ?_)))⟩
        · unfold Da.fine
          rw [Bool.and_eq_true]
          refine ⟨decide_eq_true (by rw [List.length_map, List.length_append, List.length_take]; omega), rats_fine fun q hq => ?_⟩
          rcases List.mem_append.mp hq with hq | hq
          · exact sz_le (sz q hq) (by decide)
          · exact sz_le (sz q (List.mem_of_mem_take hq)) (by decide)
        · rw [rats_num]
          exact dup_take l1
      · exact ⟨_, rfl, .lst [.int 1, .non], .lst b_a6 (.cons (.int _) (.cons .non .nil)), by decide +kernel, by decide +kernel, bad_lst (.inr (.inl rfl))⟩
      · exact ⟨_, rfl, .lst [.bl true], .lst b_a7 (.cons (.bl _) .nil), by decide +kernel, by decide +kernel, bad_lst (.inr (.inl rfl))⟩
      · exact ⟨_, rfl, .lst [.str (Str.ofString "1")], .lst b_a8 (.cons (.str _) .nil), by decide +kernel, by decide +kernel, bad_lst (.inr (.inl rfl))⟩
      · exact ⟨_, rfl, .lst [.lst [.int 1]], .lst b_a10 (.cons (.lst b_a9 (.cons (.int _) .nil)) .nil), by decide +kernel, by decide +kernel, bad_lst (.inr (.inl rfl))⟩
      · exact ⟨_, rfl, .lst ((List.range 9).map fun k : Nat => Da.int (0 + (k : Int))), .lst b_r1 (daVs_ints (fun k => 0 + (k : Int)) _), by decide +kernel, by decide +kernel, bad_lst (.inr (.inr (.inl (by decide))))⟩
      · exact ⟨_, rfl, .lst [.int 2, .rat (Rat.divInt 4 2)], .lst b_a12 (.cons (.int _) (.cons (.rat r_v1) .nil)), by decide +kernel, by decide +kernel, bad_lst (.inr (.inr (.inr (by decide +kernel))))⟩
    refine g_ixL (SqL.of (mP _ _ a_a14 n_a14)) hv ?_
    walk_at "g"
    have EX : Ex P1 P1 := Ex.refl P1
    refine ⟨0, sc, v, .non, d, .non, qs, _, d, rfl, hs, asc, l1, l8, sz, hd, fd, pd, (fun h => absurd h (by decide)), .non, rfl, by decide, (fun h => absurd h (by decide)), .inl ⟨rfl, bd, rfl, rfl⟩, fun qa ua Aa nq eA aq du => ?_⟩
    walk_at "g"
    refine ⟨_, d, rfl, (hd).mono eA, fd, pd, fun wa Ba eB dw => ?_⟩
    walk_at "g"
    refine ⟨len_lit rfl, fun pa hpa => ?_⟩
    have eC : Ex Ba (upd Ba pa (.lst [.str (Str.ofString "values"), wa])) := Ex.new hpa
    have aC : (upd Ba pa (.lst [.str (Str.ofString "values"), wa])) pa = some (.lst [.str (Str.ofString "values"), wa]) := upd_same
    generalize (upd Ba pa (.lst [.str (Str.ofString "values"), wa])) = Ca at eC aC ⊢
    have xC := (eA.trans eB).trans eC
    refine g_toldNe (ofString_ok _) fd pd ((eB.trans eC) _ _ aq) (du.mono (eB.trans eC)) aC (dw.mono eC) ?_

    clear hd hv
    replace hs := hs.mono xC
    replace hp := xC _ _ hp
    replace hrs := hrs.mono xC
    replace tp := tp.mono xC
    replace mm := mm.ex xC
    generalize Ca = G101 at hs hp hrs tp mm ⊢
    obtain ⟨x0, q0, hx0, hq0, rr0, low⟩ := first_of hrs asc l1
    obtain ⟨xl, ql, hxl, hql, rrl, high⟩ := last_of hrs asc l1
    have r_0 := rr0; have r_l := rrl
    walk_at "g"
    refine g_ixL (SqL.of hp) hx0 ?_
    walk_at "g"
    refine ⟨len_lit rfl, fun c1 hc1 => ?_⟩
    have eG102 : Ex G101 (upd G101 c1 (.lst [x0])) := Ex.new hc1
    have a_c1 : (upd G101 c1 (.lst [x0])) c1 = some (.lst [x0]) := upd_same
    have n_c1 := tp.new hc1
    replace tp := tp.mono eG102
    generalize (upd G101 c1 (.lst [x0])) = G102 at eG102 a_c1 tp ⊢
    replace hrs := hrs.mono eG102
    replace hp := eG102 _ _ hp
    replace hs := hs.mono eG102
    replace r_0 := r_0.mono eG102
    replace r_l := r_l.mono eG102
    replace mm := mm.ex eG102
    walk_at "g"
    refine ⟨len_lit rfl, fun c2 hc2 => ?_⟩
    have eG103 : Ex G102 (upd G102 c2 (.lst [.int 1])) := Ex.new hc2
    have a_c2 : (upd G102 c2 (.lst [.int 1])) c2 = some (.lst [.int 1]) := upd_same
    have n_c2 := tp.new hc2
    replace tp := tp.mono eG103
    generalize (upd G102 c2 (.lst [.int 1])) = G103 at eG103 a_c2 tp ⊢
    replace a_c1 := eG103 _ _ a_c1
    replace hrs := hrs.mono eG103
    replace hp := eG103 _ _ hp
    replace hs := hs.mono eG103
    replace r_0 := r_0.mono eG103
    replace r_l := r_l.mono eG103
    replace mm := mm.ex eG103
    walk_at "g"
    refine ⟨len_lit rfl, fun c3 hc3 => ?_⟩
    have eG104 : Ex G103 (upd G103 c3 (.tup [.ref c2])) := Ex.new hc3
    have a_c3 : (upd G103 c3 (.tup [.ref c2])) c3 = some (.tup [.ref c2]) := upd_same
    have n_c3 := tp.new hc3
    replace tp := tp.mono eG104
    generalize (upd G103 c3 (.tup [.ref c2])) = G104 at eG104 a_c3 tp ⊢
    replace a_c1 := eG104 _ _ a_c1
    replace a_c2 := eG104 _ _ a_c2
    replace hrs := hrs.mono eG104
    replace hp := eG104 _ _ hp
    replace hs := hs.mono eG104
    replace r_0 := r_0.mono eG104
    replace r_l := r_l.mono eG104
    replace mm := mm.ex eG104
    walk_at "g"
    intro c4 hc4
    have eD1 : Ex G104 (upd G104 c4 (.dK [])) := Ex.new hc4
    have a_c4 : (upd G104 c4 (.dK [])) c4 = some (.dK []) := upd_same
    have n_c4 := tp.new hc4
    generalize (upd G104 c4 (.dK [])) = D1 at eD1 a_c4 ⊢
    unfold tPairs
    walk_at "g"
    refine ⟨len_lit rfl, fun c5 hc5 => ?_⟩
    have eD2 : Ex D1 (upd D1 c5 (.lst [])) := Ex.new hc5
    have a_c5 : (upd D1 c5 (.lst [])) c5 = some (.lst []) := upd_same
    have n_c5 := (tp.mono eD1).new hc5
    have a_c4x := a_c4
    replace a_c4 := eD2 _ _ a_c4
    have n45 : c5 ≠ c4 := fun e => by rw [e, a_c4x] at hc5; cases hc5
    generalize (upd D1 c5 (.lst [])) = D2 at eD2 a_c5 a_c4 ⊢
    unfold tPairs
    refine ⟨a_c4, [(.inr (Str.ofString "a"), .ref c5)], rfl, by show 1 ≤ 15; decide, ?_⟩
    have a_c5 : (upd D2 c4 (.dK (mergeK [] [(.inr (Str.ofString "a"), .ref c5)]))) c5 = some (.lst []) := by rw [upd_ne n45]; exact a_c5
    have eG105 : Ex G104 (upd D2 c4 (.dK (mergeK [] [(.inr (Str.ofString "a"), .ref c5)]))) := (eD1.trans eD2).mut hc4
    have a_c4 : (upd D2 c4 (.dK (mergeK [] [(.inr (Str.ofString "a"), .ref c5)]))) c4 = some (.dK [(.inr (Str.ofString "a"), .ref c5)]) := upd_same
    generalize (upd D2 c4 (.dK (mergeK [] [(.inr (Str.ofString "a"), .ref c5)]))) = G105 at eG105 a_c4 a_c5 ⊢
    replace tp := tp.mono eG105
    replace a_c1 := eG105 _ _ a_c1
    replace a_c2 := eG105 _ _ a_c2
    replace a_c3 := eG105 _ _ a_c3
    replace hrs := hrs.mono eG105
    replace hp := eG105 _ _ hp
    replace hs := hs.mono eG105
    replace r_0 := r_0.mono eG105
    replace r_l := r_l.mono eG105
    replace mm := mm.ex eG105
    walk_at "g"
    refine g_ixL (SqL.of hp) hxl ?_
    walk_at "g"
    refine g_num2 r_l (.inl ⟨1, rfl, rfl⟩) (sz ql hql) (sz_int (w := 1) (by decide) (by decide)) (by decide) fun v6 G106 eG106 r_v6 => ?_
    replace tp := tp.mono eG106
    replace a_c1 := eG106 _ _ a_c1
    replace a_c2 := eG106 _ _ a_c2
    replace a_c3 := eG106 _ _ a_c3
    replace a_c4 := eG106 _ _ a_c4
    replace a_c5 := eG106 _ _ a_c5
    replace hrs := hrs.mono eG106
    replace hp := eG106 _ _ hp
    replace hs := hs.mono eG106
    replace r_0 := r_0.mono eG106
    replace r_l := r_l.mono eG106
    replace mm := mm.ex eG106
    walk_at "g"
    refine g_ixL (SqL.of hp) hx0 ?_
    walk_at "g"
    refine use_initW (t := 1) (b := 7) (k := 7) (by decide) (by decide) (by decide) (by decide) fun v7 G107 eG107 r_v7 => ?_
    replace tp := tp.mono eG107
    replace a_c1 := eG107 _ _ a_c1
    replace a_c2 := eG107 _ _ a_c2
    replace a_c3 := eG107 _ _ a_c3
    replace a_c4 := eG107 _ _ a_c4
    replace a_c5 := eG107 _ _ a_c5
    replace hrs := hrs.mono eG107
    replace hp := eG107 _ _ hp
    replace hs := hs.mono eG107
    replace r_0 := r_0.mono eG107
    replace r_l := r_l.mono eG107
    replace r_v6 := r_v6.mono eG107
    replace mm := mm.ex eG107
    walk_at "g"
    refine g_num2 r_0 r_v7.num (sz q0 hq0) (Sz.divInt (k := 45) (by decide) (by decide) (by decide)) (by decide) fun v8 G108 eG108 r_v8 => ?_
    replace tp := tp.mono eG108
    replace a_c1 := eG108 _ _ a_c1
    replace a_c2 := eG108 _ _ a_c2
    replace a_c3 := eG108 _ _ a_c3
    replace a_c4 := eG108 _ _ a_c4
    replace a_c5 := eG108 _ _ a_c5
    replace hrs := hrs.mono eG108
    replace hp := eG108 _ _ hp
    replace hs := hs.mono eG108
    replace r_0 := r_0.mono eG108
    replace r_l := r_l.mono eG108
    replace r_v6 := r_v6.mono eG108
    replace r_v7 := r_v7.mono eG108
    replace mm := mm.ex eG108
    walk_at "g"
    refine ⟨len_lit rfl, fun c7 hc7 => ?_⟩
    have eG109 : Ex G108 (upd G108 c7 (.tup [])) := Ex.new hc7
    have a_c7 : (upd G108 c7 (.tup [])) c7 = some (.tup []) := upd_same
    have n_c7 := tp.new hc7
    replace tp := tp.mono eG109
    generalize (upd G108 c7 (.tup [])) = G109 at eG109 a_c7 tp ⊢
    replace a_c1 := eG109 _ _ a_c1
    replace a_c2 := eG109 _ _ a_c2
    replace a_c3 := eG109 _ _ a_c3
    replace a_c4 := eG109 _ _ a_c4
    replace a_c5 := eG109 _ _ a_c5
    replace hrs := hrs.mono eG109
    replace hp := eG109 _ _ hp
    replace hs := hs.mono eG109
    replace r_0 := r_0.mono eG109
    replace r_l := r_l.mono eG109
    replace r_v6 := r_v6.mono eG109
    replace r_v7 := r_v7.mono eG109
    replace r_v8 := r_v8.mono eG109
    replace mm := mm.ex eG109
    walk_at "g"
    refine ⟨len_lit rfl, fun c8 hc8 => ?_⟩
    have eG110 : Ex G109 (upd G109 c8 (.lst [.non, .bl true, .str (Str.ofString "1"), .ref c1, .ref c3, .ref c4, v6, v8, .ref c7])) := Ex.new hc8
    have a_c8 : (upd G109 c8 (.lst [.non, .bl true, .str (Str.ofString "1"), .ref c1, .ref c3, .ref c4, v6, v8, .ref c7])) c8 = some (.lst [.non, .bl true, .str (Str.ofString "1"), .ref c1, .ref c3, .ref c4, v6, v8, .ref c7]) := upd_same
    have n_c8 := tp.new hc8
    replace tp := tp.mono eG110
    generalize (upd G109 c8 (.lst [.non, .bl true, .str (Str.ofString "1"), .ref c1, .ref c3, .ref c4, v6, v8, .ref c7])) = G110 at eG110 a_c8 tp ⊢
    replace a_c1 := eG110 _ _ a_c1
    replace a_c2 := eG110 _ _ a_c2
    replace a_c3 := eG110 _ _ a_c3
    replace a_c4 := eG110 _ _ a_c4
    replace a_c5 := eG110 _ _ a_c5
    replace a_c7 := eG110 _ _ a_c7
    replace hrs := hrs.mono eG110
    replace hp := eG110 _ _ hp
    replace hs := hs.mono eG110
    replace r_0 := r_0.mono eG110
    replace r_l := r_l.mono eG110
    replace r_v6 := r_v6.mono eG110
    replace r_v7 := r_v7.mono eG110
    replace r_v8 := r_v8.mono eG110
    replace mm := mm.ex eG110
    walk_at "g"
    refine use_pick (by decide) (by decide) tp fun i2 P2 j0 j9 mP2 tpP2 => ?_
    have b_c1 := mP2 _ _ a_c1 n_c1
    have b_c2 := mP2 _ _ a_c2 n_c2
    have b_c3 := mP2 _ _ a_c3 n_c3
    have b_c4 := mP2 _ _ a_c4 n_c4
    have b_c5 := mP2 _ _ a_c5 n_c5
    have b_c7 := mP2 _ _ a_c7 n_c7
    have b_c8 := mP2 _ _ a_c8 n_c8
    replace hrs := rats_mo tp mP2 hrs
    replace hp := mP2 _ _ hp hpt
    replace hs := scale_mo l1 tp mP2 hs
    replace r_0 := r_0.mo tp mP2
    replace r_l := r_l.mo tp mP2
    replace r_v6 := r_v6.mo tp mP2
    replace r_v7 := r_v7.mo tp mP2
    replace r_v8 := r_v8.mo tp mP2
    replace mm := mm.trans mP2
    replace tp := tpP2
    obtain ⟨v2, hv2, d2, hd2, fd2, pd2, bd2⟩ : ∃ v, atI ([.non, .bl true, .str (Str.ofString "1"), .ref c1, .ref c3, .ref c4, v6, v8, .ref c7] : List V) i2 = some v ∧ BadP a.C_Ratio P2 qs v := by
      rcases (by omega : i2 = 0 ∨ i2 = 1 ∨ i2 = 2 ∨ i2 = 3 ∨ i2 = 4 ∨ i2 = 5 ∨ i2 = 6 ∨ i2 = 7 ∨ i2 = 8) with rfl | rfl | rfl | rfl | rfl | rfl | rfl | rfl | rfl
      · exact ⟨_, rfl, .non, .non, by decide +kernel, by decide, fun _ h => by cases h⟩
      · exact ⟨_, rfl, .bl true, .bl _, by decide +kernel, by decide, fun _ h => by cases h⟩
      · exact ⟨_, rfl, .str (Str.ofString "1"), .str _, by decide +kernel, by decide, fun _ h => by cases h⟩
      · exact ⟨_, rfl, .lst [.rat q0], .lst b_c1 (.cons (.rat r_0) .nil), by show (decide (1 ≤ 1000) && ((Da.rat q0).fine && true)) = true; rw [rat_fine (sz_le (sz q0 hq0) (by decide))]; rfl, by show _ < 6; simp [Da.dp, dpL], fun _ h => by cases h⟩
      · exact ⟨_, rfl, .tup [.lst [.int 1]], .tup b_c3 (.cons (.lst b_c2 (.cons (.int _) .nil)) .nil), by decide +kernel, by decide, fun _ h => by cases h⟩
      · exact ⟨_, rfl, .dic [(Str.ofString "a", .lst [])], .dic b_c4 (.cons (.lst b_c5 .nil) .nil), by decide +kernel, by decide, fun _ h => by cases h⟩
      · exact ⟨_, rfl, .rat (ql + 1), .rat r_v6, rat_fine (sz_le ((sz ql hql).add (sz_int (w := 1) (by decide) (by decide))) (by decide)), by show _ < 6; simp [Da.dp, dpL], fun i _ h => absurd (high _ (List.mem_of_getElem? h)) (by show ¬ (ql + 1 ≤ ql); grind)⟩
      · exact ⟨_, rfl, .rat (q0 - Rat.divInt 1 7), .rat r_v8, rat_fine (sz_le ((sz q0 hq0).sub (Sz.divInt (k := 45) (t := 1) (b := 7) (by decide) (by decide) (by decide))) (by decide)), by show _ < 6; simp [Da.dp, dpL], fun i _ h => absurd (low _ (List.mem_of_getElem? h)) (by show ¬ (q0 ≤ q0 - Rat.divInt 1 7); rw [Rat.divInt_eq_div]; push_cast; grind)⟩
      · exact ⟨_, rfl, .tup [], .tup b_c7 .nil, by decide +kernel, by decide, fun _ h => by cases h⟩
    refine g_ixL (SqL.of b_c8) hv2 ?_
    walk_at "g"
    refine ⟨1, sc, v2, .non, d2, .non, qs, _, d2, rfl, hs, asc, l1, l8, sz, hd2, fd2, pd2, (fun h => absurd h (by decide)), .non, rfl, by decide, (fun h => absurd h (by decide)), .inr (.inl ⟨rfl, bd2, rfl, rfl⟩), fun qb ub Ab nq eA aq du => ?_⟩
    walk_at "g"
    refine ⟨_, d2, rfl, (hd2).mono eA, fd2, pd2, fun wb Bb eB dw => ?_⟩
    walk_at "g"
    refine ⟨len_lit rfl, fun pb hpb => ?_⟩
    have eC : Ex Bb (upd Bb pb (.lst [.str (Str.ofString "none"), wb])) := Ex.new hpb
    have aC : (upd Bb pb (.lst [.str (Str.ofString "none"), wb])) pb = some (.lst [.str (Str.ofString "none"), wb]) := upd_same
    generalize (upd Bb pb (.lst [.str (Str.ofString "none"), wb])) = Cb at eC aC ⊢
    have xC := (eA.trans eB).trans eC
    refine g_toldNe (ofString_ok _) fd2 pd2 ((eB.trans eC) _ _ aq) (du.mono (eB.trans eC)) aC (dw.mono eC) ?_
    replace hs := hs.mono xC
    replace hp := xC _ _ hp
    replace hrs := hrs.mono xC
    replace tp := tp.mono xC
    replace mm := mm.ex xC
    clear hd2 hv2
    generalize Cb = G201 at hs hp hrs tp mm ⊢
    walk_at "g"
    refine use_initW (t := 0) (b := 1) (k := 7) (by decide) (by decide) (by decide) (by decide) fun vz G202 eG202 r_vz => ?_
    replace tp := tp.mono eG202
    replace hrs := hrs.mono eG202
    replace hp := eG202 _ _ hp
    replace hs := hs.mono eG202
    replace mm := mm.ex eG202
    walk_at "g"
    refine ⟨len_lit rfl, fun e1 he1 => ?_⟩
    have eG203 : Ex G202 (upd G202 e1 (.lst [.int 1])) := Ex.new he1
    have a_e1 : (upd G202 e1 (.lst [.int 1])) e1 = some (.lst [.int 1]) := upd_same
    have n_e1 := tp.new he1
    replace tp := tp.mono eG203
    generalize (upd G202 e1 (.lst [.int 1])) = G203 at eG203 a_e1 tp ⊢
    replace hrs := hrs.mono eG203
    replace hp := eG203 _ _ hp
    replace hs := hs.mono eG203
    replace r_vz := r_vz.mono eG203
    replace mm := mm.ex eG203
    walk_at "g"
    refine ⟨len_lit rfl, fun m3 hm3 => ?_⟩
    have eG204 : Ex G203 (upd G203 m3 (.lst [.int 0, .ref vz, .non, .bl true, .str (Str.ofString "2"), .ref e1])) := Ex.new hm3
    have a_m3 : (upd G203 m3 (.lst [.int 0, .ref vz, .non, .bl true, .str (Str.ofString "2"), .ref e1])) m3 = some (.lst [.int 0, .ref vz, .non, .bl true, .str (Str.ofString "2"), .ref e1]) := upd_same
    have n_m3 := tp.new hm3
    replace tp := tp.mono eG204
    generalize (upd G203 m3 (.lst [.int 0, .ref vz, .non, .bl true, .str (Str.ofString "2"), .ref e1])) = G204 at eG204 a_m3 tp ⊢
    replace a_e1 := eG204 _ _ a_e1
    replace hrs := hrs.mono eG204
    replace hp := eG204 _ _ hp
    replace hs := hs.mono eG204
    replace r_vz := r_vz.mono eG204
    replace mm := mm.ex eG204
    walk_at "g"
    refine use_pick (by decide) (by decide) tp fun i3 P3 k0 k9 mP3 tpP3 => ?_
    have b_e1 := mP3 _ _ a_e1 n_e1
    have b_m3 := mP3 _ _ a_m3 n_m3
    replace hrs := rats_mo tp mP3 hrs
    replace hp := mP3 _ _ hp hpt
    replace hs := scale_mo l1 tp mP3 hs
    replace r_vz := r_vz.mo tp mP3
    replace mm := mm.trans mP3
    replace tp := tpP3
    replace a_e1 := b_e1
    obtain ⟨v3, hv3, k3⟩ : ∃ v, atI ([.int 0, .ref vz, .non, .bl true, .str (Str.ofString "2"), .ref e1] : List V) i3 = some v ∧ ∀ Hq : Hp, Hq e1 = some (.lst [.int 1]) → RatV a.C_Ratio Hq (.ref vz) (Rat.divInt 0 1) → BadW a.C_Ratio Hq v := by
      rcases (by omega : i3 = 0 ∨ i3 = 1 ∨ i3 = 2 ∨ i3 = 3 ∨ i3 = 4 ∨ i3 = 5) with rfl | rfl | rfl | rfl | rfl | rfl
      · exact ⟨_, rfl, fun Hq he rz => ⟨.int 0, .int 0, by decide +kernel, by decide, (⟨by decide, by decide⟩ : Sz 45 (0 : Rat)), fun h => h.2 rfl⟩⟩
      · exact ⟨_, rfl, fun Hq he rz => ⟨.rat (Rat.divInt 0 1), .rat rz, by decide +kernel, by decide, ⟨by decide +kernel, by decide +kernel⟩, fun h => h.2 (by decide +kernel)⟩⟩
      · exact ⟨_, rfl, fun Hq he rz => ⟨.non, .non, by decide +kernel, by decide, (⟨by decide, by decide⟩ : Sz 45 (0 : Rat)), fun h => by cases h.1⟩⟩
      · exact ⟨_, rfl, fun Hq he rz => ⟨.bl true, .bl _, by decide +kernel, by decide, (⟨by decide, by decide⟩ : Sz 45 (0 : Rat)), fun h => by cases h.1⟩⟩
      · exact ⟨_, rfl, fun Hq he rz => ⟨.str (Str.ofString "2"), .str _, by decide +kernel, by decide, (⟨by decide, by decide⟩ : Sz 45 (0 : Rat)), fun h => by cases h.1⟩⟩
      · exact ⟨_, rfl, fun Hq he rz => ⟨.lst [.int 1], .lst he (.cons (.int _) .nil), by decide +kernel, by decide, (⟨by decide, by decide⟩ : Sz 45 (0 : Rat)), fun h => by cases h.1⟩⟩
    refine g_ixL (SqL.of b_m3) hv3 ?_
    generalize P3 = G301 at hs hp hrs tp mm a_e1 r_vz ⊢
    walk_at "g"
    refine ⟨len_lit rfl, fun f1 hf1 => ?_⟩
    have eG302 : Ex G301 (upd G301 f1 (.lst [.int 1])) := Ex.new hf1
    have a_f1 : (upd G301 f1 (.lst [.int 1])) f1 = some (.lst [.int 1]) := upd_same
    have n_f1 := tp.new hf1
    replace tp := tp.mono eG302
    generalize (upd G301 f1 (.lst [.int 1])) = G302 at eG302 a_f1 tp ⊢
    replace a_e1 := eG302 _ _ a_e1
    replace hrs := hrs.mono eG302
    replace hp := eG302 _ _ hp
    replace hs := hs.mono eG302
    replace r_vz := r_vz.mono eG302
    replace mm := mm.ex eG302
    walk_at "g"
    refine ⟨len_lit rfl, fun f2 hf2 => ?_⟩
    have eG303 : Ex G302 (upd G302 f2 (.tup [])) := Ex.new hf2
    have a_f2 : (upd G302 f2 (.tup [])) f2 = some (.tup []) := upd_same
    have n_f2 := tp.new hf2
    replace tp := tp.mono eG303
    generalize (upd G302 f2 (.tup [])) = G303 at eG303 a_f2 tp ⊢
    replace a_e1 := eG303 _ _ a_e1
    replace a_f1 := eG303 _ _ a_f1
    replace hrs := hrs.mono eG303
    replace hp := eG303 _ _ hp
    replace hs := hs.mono eG303
    replace r_vz := r_vz.mono eG303
    replace mm := mm.ex eG303
    walk_at "g"
    refine ⟨len_lit rfl, fun m4 hm4 => ?_⟩
    have eG304 : Ex G303 (upd G303 m4 (.lst [.non, .bl true, .str (Str.ofString "2"), .ref f1, .ref f2])) := Ex.new hm4
    have a_m4 : (upd G303 m4 (.lst [.non, .bl true, .str (Str.ofString "2"), .ref f1, .ref f2])) m4 = some (.lst [.non, .bl true, .str (Str.ofString "2"), .ref f1, .ref f2]) := upd_same
    have n_m4 := tp.new hm4
    replace tp := tp.mono eG304
    generalize (upd G303 m4 (.lst [.non, .bl true, .str (Str.ofString "2"), .ref f1, .ref f2])) = G304 at eG304 a_m4 tp ⊢
    replace a_e1 := eG304 _ _ a_e1
    replace a_f1 := eG304 _ _ a_f1
    replace a_f2 := eG304 _ _ a_f2
    replace hrs := hrs.mono eG304
    replace hp := eG304 _ _ hp
    replace hs := hs.mono eG304
    replace r_vz := r_vz.mono eG304
    replace mm := mm.ex eG304
    walk_at "g"
    refine use_pick (by decide) (by decide) tp fun i4 P4 w0 w9 mP4 tpP4 => ?_
    have b_e1 := mP4 _ _ a_e1 n_e1
    have b_f1 := mP4 _ _ a_f1 n_f1
    have b_f2 := mP4 _ _ a_f2 n_f2
    have b_m4 := mP4 _ _ a_m4 n_m4
    replace hrs := rats_mo tp mP4 hrs
    replace hp := mP4 _ _ hp hpt
    replace hs := scale_mo l1 tp mP4 hs
    replace r_vz := r_vz.mo tp mP4
    replace mm := mm.trans mP4
    replace tp := tpP4
    obtain ⟨d3, hd3, fd3, pd3, sd3, bd3⟩ := k3 P4 b_e1 r_vz
    obtain ⟨v4, hv4, d4, hd4, fd4, pd4, sd4, bd4⟩ : ∃ v, atI ([.non, .bl true, .str (Str.ofString "2"), .ref f1, .ref f2] : List V) i4 = some v ∧ BadL a.C_Ratio P4 v := by
      rcases (by omega : i4 = 0 ∨ i4 = 1 ∨ i4 = 2 ∨ i4 = 3 ∨ i4 = 4) with rfl | rfl | rfl | rfl | rfl
      · exact ⟨_, rfl, .non, .non, by decide +kernel, by decide, (⟨by decide, by decide⟩ : Sz 45 (0 : Rat)), rfl⟩
      · exact ⟨_, rfl, .bl true, .bl _, by decide +kernel, by decide, (⟨by decide, by decide⟩ : Sz 45 (0 : Rat)), rfl⟩
      · exact ⟨_, rfl, .str (Str.ofString "2"), .str _, by decide +kernel, by decide, (⟨by decide, by decide⟩ : Sz 45 (0 : Rat)), rfl⟩
      · exact ⟨_, rfl, .lst [.int 1], .lst b_f1 (.cons (.int _) .nil), by decide +kernel, by decide, (⟨by decide, by decide⟩ : Sz 45 (0 : Rat)), rfl⟩
      · exact ⟨_, rfl, .tup [], .tup b_f2 .nil, by decide +kernel, by decide, (⟨by decide, by decide⟩ : Sz 45 (0 : Rat)), rfl⟩
    refine g_ixL (SqL.of b_m4) hv4 ?_
    walk_at "g"
    refine ⟨2, sc, v3, v4, d3, d4, qs, _, d3, rfl, hs, asc, l1, l8, sz, hd3, fd3, pd3, (fun _ => sd3), hd4, fd4, pd4, (fun _ => sd4), .inr (.inr (.inl ⟨rfl, bd3, rfl, rfl⟩)), fun qc uc Ac nq eA aq du => ?_⟩
    walk_at "g"
    refine ⟨_, d3, rfl, (hd3).mono eA, fd3, pd3, fun wc Bc eB dw => ?_⟩
    walk_at "g"
    refine ⟨len_lit rfl, fun pc hpc => ?_⟩
    have eC : Ex Bc (upd Bc pc (.lst [.str (Str.ofString "number"), wc])) := Ex.new hpc
    have aC : (upd Bc pc (.lst [.str (Str.ofString "number"), wc])) pc = some (.lst [.str (Str.ofString "number"), wc]) := upd_same
    generalize (upd Bc pc (.lst [.str (Str.ofString "number"), wc])) = Cc at eC aC ⊢
    have xC := (eA.trans eB).trans eC
    refine g_toldNe (ofString_ok _) fd3 pd3 ((eB.trans eC) _ _ aq) (du.mono (eB.trans eC)) aC (dw.mono eC) ?_
    replace hs := hs.mono xC
    replace hp := xC _ _ hp
    replace hrs := hrs.mono xC
    replace tp := tp.mono xC
    replace mm := mm.ex xC
    replace hd4 := hd4.mono xC
    generalize Cc = G401 at hs hp hrs tp mm hd4 ⊢
    walk_at "g"
    refine ⟨2, sc, .int (-1), v4, .int (-1), d4, qs, _, d4, rfl, hs, asc, l1, l8, sz, .int (-1), by decide +kernel, by decide, (fun _ => ⟨by decide +kernel, by decide +kernel⟩), hd4, fd4, pd4, (fun _ => sd4), .inr (.inr (.inr ⟨rfl, rfl, by decide +kernel, bd4, rfl, rfl⟩)), fun qd ud Ad nq eA aq du => ?_⟩
    walk_at "g"
    refine ⟨_, d4, rfl, (hd4).mono eA, fd4, pd4, fun wd Bd eB dw => ?_⟩
    walk_at "g"
    refine ⟨len_lit rfl, fun pd hpd => ?_⟩
    have eC : Ex Bd (upd Bd pd (.lst [.str (Str.ofString "number"), wd])) := Ex.new hpd
    have aC : (upd Bd pd (.lst [.str (Str.ofString "number"), wd])) pd = some (.lst [.str (Str.ofString "number"), wd]) := upd_same
    generalize (upd Bd pd (.lst [.str (Str.ofString "number"), wd])) = Cd at eC aC ⊢
    have xC := (eA.trans eB).trans eC
    refine g_toldEq (ofString_ok _) fd4 pd4 ((eB.trans eC) _ _ aq) (du.mono (eB.trans eC)) aC (dw.mono eC) ?_
    exact z _ (mm.ex xC) (tp.mono xC)
end
end Kx


set_option maxHeartbeats 4000000
namespace Kx
open PySem PySem.Spec PyProof.Rows L2 Fm
local macro_rules | `(tactic| walk_at "gv") => `(tactic| ((with_reducible refine' g_var ?gh ?_); (case gh => exact rfl)))
local macro_rules | `(tactic| walk_at "g1") => `(tactic| first
  | walk_at "gv"
  | with_reducible refine g_c ?_ | with_reducible refine g_op ?_ | with_reducible refine g_un ?_ | with_reducible refine g_I0 ?_ | with_reducible refine g_U ?_
  | with_reducible refine g_eqI ?_ | with_reducible refine g_neI ?_ | with_reducible refine g_eqS ?_ | with_reducible refine g_neS ?_
  | with_reducible refine g_test ?_ | with_reducible refine g_B ?_ | with_reducible refine g_bl ?_ | with_reducible refine g_not ?_ | with_reducible refine g_and ?_ | with_reducible refine g_or ?_
  | with_reducible refine g_andV ?_ | with_reducible refine g_orV ?_ | with_reducible refine g_notV ?_ | with_reducible refine g_chain ?_ | with_reducible refine g_if ?_ | with_reducible refine g_ifS ?_
  | with_reducible refine g_seq ?_ | with_reducible refine g_next ?_ | with_reducible refine g_break ?_ | with_reducible refine g_cont ?_ | with_reducible refine g_drop ?_ | with_reducible refine g_ret ?_ | with_reducible refine g_retN ?_
  | with_reducible refine g_asg ?_ | with_reducible refine g_name ?_ | with_reducible refine g_par ?_ | with_reducible refine g_par2 ?_ | with_reducible refine g_fld ?_ | with_reducible refine g_sfld ?_
  | with_reducible refine g_nil ?_ | with_reducible refine g_cons ?_ | with_reducible refine g_tup ?_ | with_reducible refine g_lst ?_ | with_reducible refine g_call ?_ | with_reducible refine g_meth ?_ | with_reducible refine g_make1 ?_ | with_reducible refine g_make ?_ | with_reducible refine g_cb ?_ | with_reducible refine g_sub ?_ | with_reducible refine g_m0 ?_ | with_reducible refine g_gcons ?_ | with_reducible refine g_gnil ?_ | with_reducible refine g_for ?_ | with_reducible refine g_lc ?_ | with_reducible refine g_ilist ?_ | with_reducible refine g_itup ?_ | with_reducible refine g_rng1 ?_ | with_reducible refine g_rng3 ?_ | with_reducible refine g_yes ?_ | with_reducible refine g_sl ?_ | with_reducible refine g_nopart ?_ | with_reducible refine g_part ?_ | with_reducible refine g_exI ?_ | with_reducible refine g_m1 ?_ | with_reducible refine g_isS ?_ | with_reducible refine g_bm ?_ | with_reducible refine g_revL ?_ | with_reducible refine g_istr ?_ | with_reducible refine g_notInS ?_ | with_reducible refine g_absI ?_ | with_reducible refine g_intI ?_ | with_reducible refine g_izip ?_ | with_reducible refine g_ienum ?_ | with_reducible refine g_bm0 ?_ | with_reducible refine g_mko ?_ | with_reducible refine g_methW ?_ | with_reducible refine g_callW ?_
  | with_reducible refine iteT ?_ | with_reducible refine iteF ?_ | with_reducible refine g_gcd ?_)
local macro_rules | `(tactic| walk_at "g") => `(tactic| (repeat (first | walk_at "g1" | dsimp only [cx_K, cx_Kn, b_nt, b_nf])))
local macro_rules | `(tactic| walk_at "mul") => `(tactic| exact mulA (a := 200) (b := 200) (by omega) (by omega) (by decide))
local macro_rules | `(tactic| walk_at "pow") => `(tactic| exact ⟨by omega, by omega, by omega⟩)

theorem vals_rev {vs : List V} {us : List Value} (r : Vals vs us) : Vals vs.reverse us.reverse := by
  induction r with
  | nil => exact .nil
  | cons h _ ih =>
    rw [List.reverse_cons, List.reverse_cons]
    exact vals_app ih (.cons h .nil)
theorem kb_Scale_led2 {K : PySem.W.Frag} {mg : Str → Option Value} {a : Ad} (T : Tx K mg a) : KBn K a.d_Scale_led P_Scale_led 1 ["add", "factor"] (fun us ws => us ++ ws.reverse) (fun vs zs => vs ++ zs.reverse) :=
  kbN T.F_Scale_led 1 ["add", "factor"] (fun us ws => us ++ ws.reverse) (fun r q => vals_app r (vals_rev q)) fun kV doc pm an cdv ct us ws h1 h2 => match us, ws, h1, h2 with | [_], [_, _], _, _ => rfl
theorem atL {X : Cx} : ∀ σ : L2.St, PassesAt (L2N.CX X.prog X.w) X σ ((fun _ => E0) σ) := fun σ pins H s e s' I h => passN (X := X) pins σ H s e s' I h
def spLaw (K : PySem.W.Frag) : Sp := fun vs H Q _ => ∃ (p : Addr) (ns : List Int), vs = [.ref p] ∧ SqL K H p (ns.map V.int) ∧ ns.length ≤ 1000 ∧ ∀ H', Ex H H' → Q (.bl true) H'
theorem use_Scale {CS C B : Addr} {H : Hp} {W : Addr → Hp → Prop} {E : XK} {v : V} {d : Da} {ds : List Da} {qs : List Rat} (hv : DaV C H v d) (hf : d = .lst ds ∨ d = .tup ds) (da : ds.all Da.isNum = true) (l1 : 1 ≤ ds.length) (l8 : ds.length ≤ 8) (df : fineL ds = true) (srt : isort (ds.map Da.num) = qs) (asc : qs.Pairwise (· < ·))
    (k : ∀ s H', H s = none → Ex H H' → ScaleAt CS C H' s qs → (∀ o xs zs, H o = some (.lst xs) → ScaleAt CS C (upd H' o (.lst zs)) s qs) → W s H') : ∀ x dx, H x = none → H dx = none → dx ≠ x → spScaleInit CS C B [.ref x, v] (upd (upd H dx (.own x)) x (.ins CS dx [])) (fun v H2 => v = .non ∧ W x H2) E := by
  intro x dx hx hdx hne
  have ex5 : Ex H (upd (upd H dx (.own x)) x (.ins CS dx [])) := fun b o hb => by
    rw [upd_ne (ne_of_none hb hx), upd_ne (ne_of_none hb hdx)]
    exact hb
  have hval : ValsOf d qs := ⟨ds, hf, da, l1, l8, srt.symm, climbB_iff.mpr asc⟩
  refine ⟨x, dx, v, d, rfl, hv.mono ex5, ?_, upd_same, fun cs hc m3 rs3 H6 hm3 keep hx6 hm6 hrs6 => ⟨rfl, ?_⟩, fun h => absurd hval (h _)⟩
  · rcases hf with rfl | rfl <;> (unfold Da.fine; rw [Bool.and_eq_true]; exact ⟨decide_eq_true (by omega), df⟩)
  · have ec : cs = qs := by
      obtain ⟨ds2, h1, _, _, _, h5, _⟩ := hc
      have e : ds2 = ds := by
        rcases hf with rfl | rfl <;> rcases h1 with e | e <;> first | (injection e with e; exact e.symm) | cases e
      subst e
      rw [h5, srt]
    subst ec
    have e6 : Ex H H6 := fun b o hb => keep b o (ex5 _ _ hb) (ne_of_none hb hx)
    refine k x H6 hx e6 ⟨dx, m3, rs3, hx6, hm6, hrs6⟩ fun o xs zs ho => ⟨dx, m3, rs3, ?_, ?_, hrs6.set (e6 _ _ ho)⟩
    · rw [upd_ne (ne_of_none ho hx).symm]
      exact hx6
    · rw [upd_ne (ne_of_none (ex5 _ _ ho) hm3).symm]
      exact hm6
theorem g_scEq {K : PySem.W.Frag} {CS C p p2 : Addr} {H : Hp} {Q : VK} {E : XK} {qs cs : List Rat} (R : RC K C) (S : SC K CS C) (h1 : ScaleAt CS C H p qs) (h2 : ScaleAt CS C H p2 cs) (s1 : ∀ q ∈ qs, Sz 3000 q) (s2 : ∀ q ∈ cs, Sz 3000 q) (z : ∀ H', Ex H H' → Q (.bl (decide (qs = cs))) H') : rCmpOwn K CS (spEqS CS C) E (.ref p) (.ref p2) H Q := by
  obtain ⟨dx, m, rs, a, _⟩ := id h1
  obtain ⟨dx2, m2, rs2, b, _⟩ := id h2
  exact ⟨⟨p, dx, _, rfl, a⟩, ⟨.ref CS, ty_sc R S b, by unfold PySem.W.notFirst; simp⟩, p, .ref p2, qs, rfl, h1, s1, .inl ⟨p2, cs, rfl, h2, s2, z⟩⟩
theorem g_scNe {K : PySem.W.Frag} {CS C p p2 : Addr} {H : Hp} {Q : VK} {E : XK} {qs cs : List Rat} (R : RC K C) (S : SC K CS C) (h1 : ScaleAt CS C H p qs) (h2 : ScaleAt CS C H p2 cs) (s1 : ∀ q ∈ qs, Sz 3000 q) (s2 : ∀ q ∈ cs, Sz 3000 q) (z : ∀ H', Ex H H' → Q (.bl (!decide (qs = cs))) H') : rNeOwn K CS (spEqS CS C) E (.ref p) (.ref p2) H Q := by
  obtain ⟨dx, m, rs, a, _⟩ := id h1
  obtain ⟨dx2, m2, rs2, b, _⟩ := id h2
  exact ⟨⟨p, dx, _, rfl, a⟩, ⟨.ref CS, ty_sc R S b, by unfold PySem.W.notFirst; simp⟩, p, .ref p2, qs, rfl, h1, s1, .inl ⟨p2, cs, rfl, h2, s2, fun H' e => ⟨_, rfl, z H' e⟩⟩⟩
theorem g_scEqD {K : PySem.W.Frag} {CS C p : Addr} {H : Hp} {Q : VK} {E : XK} {qs : List Rat} {v : V} {d : Da} (R : RC K C) (S : SC K CS C) (h1 : ScaleAt CS C H p qs) (s1 : ∀ q ∈ qs, Sz 3000 q) (hd : DaV C H v d) (z : ∀ H', Ex H H' → Q (.bl false) H') : rCmpOwn K CS (spEqS CS C) E (.ref p) v H Q := by
  obtain ⟨dx, m, rs, a, _⟩ := id h1
  exact ⟨⟨p, dx, _, rfl, a⟩, ⟨_, hd.tyx R, first_sc S d⟩, p, v, qs, rfl, h1, s1, .inr ⟨d, hd, z⟩⟩
theorem cut_last (xs : List V) (h : 1 ≤ xs.length) : cutV xs none (some (-1)) = xs.take (xs.length - 1) := by
  unfold cutV HT.sIx
  simp
  try omega
def OneFive (v : V) : Prop := ∃ u : Int, v = .int u ∧ (u = 1 ∨ u = 5)
theorem at2 : ∀ d : Int, 0 ≤ d → d < 2 → ∃ v, atI [V.int 1, .int 5] d = some v ∧ OneFive v := by
  intro d h0 h1
  rcases (by omega : d = 0 ∨ d = 1) with rfl | rfl <;> exact ⟨_, rfl, _, rfl, by decide⟩
theorem one_pos {u : Int} (h : u = 1 ∨ u = 5) (q : Rat) : q < q + Rat.divInt 1 u := by
  rw [Rat.divInt_eq_div]
  rcases h with rfl | rfl <;> push_cast <;> grind
theorem top_asc {qs : List Rat} {q z : Rat} (h : qs.Pairwise (· < ·)) (hi : ∀ r ∈ qs, r ≤ q) (hz : q < z) (n : Nat) : (qs.take n ++ [z]).Pairwise (· < ·) :=
  List.pairwise_append.mpr ⟨h.sublist (List.take_sublist _ _), List.pairwise_singleton _ _, fun x hx y hy => by
    rw [List.mem_singleton.mp hy]
    have := hi x (List.mem_of_mem_take hx)
    grind⟩
theorem g_iteT {c : Bool} {te : TE} {σ : L2.St} {H : Hp} {R : Bool → Hp → Prop} (hA : c = true → ∀ R' : Bool → Hp → Prop, (∀ H', Ex H H' → R' false H') → tTest te σ H R') (q : ∀ H', Ex H H' → R false H') : if c = true then tTest te σ H R else R false H := by
  cases c with
  | true => exact hA rfl R q
  | false => exact q H (Ex.refl H)
theorem numd_mo {C t : Addr} {H H' : Hp} {v : V} {d : Da} (h : DaV C H v d) (n : d.isNum = true) (tp : TapeAt H t) (m : Mo t H H') : DaV C H' v d := by
  cases h with
  | int i => exact .int i
  | rat r => exact .rat (r.mo tp m)
  | _ => cases n
/-- a number to stretch by, or to shift by -/
def NumD (C : Addr) (H : Hp) (v : V) (d : Da) : Prop := DaV C H v d ∧ d.fine = true ∧ d.isNum = true ∧ Sz 30 d.num
theorem g_ifRev {K : PySem.W.Frag} {b : Bool} {i : Nat} {σ : L2.St} {H : Hp} {W : VK} {D : Addr} {ls : List V} (hi : σ[i]? = some (some (.ref D))) (hD : H D = some (.lst ls)) (q : ∀ p H', Ex H H' → H' p = some (.lst (if b = true then ls.reverse else ls)) → W (.ref p) H') : if b = true then tRevL K (tVar i) σ H W else tVar i σ H W := by
  cases b with
  | true => exact g_revL (g_var hi ⟨D, ls, rfl, SqL.of hD, fun p hp => q p _ (Ex.new hp) upd_same⟩)
  | false => exact g_var hi (q D H (Ex.refl H) hD)
theorem prd_rev {α β : Type} {F : α → β → Prop} : ∀ {xs : List α} {us : List β}, Paired F xs us → Paired F xs.reverse us.reverse
  | _, _, .nil => .nil
  | _, _, .cons h r => by
    rw [List.reverse_cons, List.reverse_cons]
    exact prd_app (prd_rev r) (.cons h .nil)
/-- the values stretched and shifted, in ascending order -/
def ledQ (f d : Rat) (qs : List Rat) : List Rat := if decide (f < 0) = true then (qs.map fun q => q * f + d).reverse else qs.map fun q => q * f + d
theorem ledQ_asc {f d : Rat} {qs : List Rat} (h : qs.Pairwise (· < ·)) (f0 : f ≠ 0) : (ledQ f d qs).Pairwise (· < ·) := by
  unfold ledQ
  by_cases hf : f < 0
  · rw [if_pos (decide_eq_true hf), List.pairwise_reverse, List.pairwise_map]
    refine h.imp fun {a b} hab => ?_
    have := Rat.mul_lt_mul_of_pos_right hab (show 0 < -f by grind)
    grind
  · rw [if_neg (by simpa using hf), List.pairwise_map]
    have hf' : 0 < f := by grind
    refine h.imp fun {a b} hab => ?_
    have := Rat.mul_lt_mul_of_pos_right hab hf'
    grind
theorem ledQ_perm (f d : Rat) (qs : List Rat) : (qs.map fun q => q * f + d).Perm (ledQ f d qs) := by
  unfold ledQ
  split
  · exact (List.reverse_perm _).symm
  · exact .refl _
section
variable {P : Program} {w : World} {K : PySem.W.Frag} {mg : Str → Option Value} {base : Heap} {a : Ad}
theorem ok_law (T : Tx K mg a) : FnOk P w K mg base CX0 13 a.f_law a.d_law P_law (spLaw K) := by
  refine def_ok0 T.F_law sc_law (fun vs H Q E h => ?_) (fun cdv A outer s H vs Q E hr h => ?_)
  · obtain ⟨p, ns, rfl, _⟩ := h
    rfl
  · obtain ⟨p, ns, rfl, hp, hns, z⟩ := h
    refine ⟨_, (pss_cons (ps_for PassesOwn.never rfl (pi_range1 (by rfl) T.b_range (pa_cons (pe_callB (cr_max2 rfl) (by rfl) T.b_max (by decide +kernel) (pa_cons pe_int (pa_cons (pe_callB (cr_min2 rfl) (by rfl) T.b_min (by decide +kernel) (pa_cons pe_int (pa_cons (pe_callB call_lenQ (by rfl) T.b_len (by decide +kernel) (pa_cons (pv 0) pa_nil)) pa_nil))) pa_nil))) pa_nil)) (pg_name (i := 1) sc_law.nd rfl (Or.inl rfl)) (pss_cons (ps_set (i := 2) sc_law.nd rfl (Or.inl rfl) (pe_call (ok_Ltape T) (hr.mono (by decide)) (by rfl) T.g_Ltape T.F_Ltape.kp (bd_Ltape T) .nil pass0 (pa_cons (pv 0) (pa_cons (pv 1) pa_nil)))) (pss_cons (ps_set (i := 3) sc_law.nd rfl (Or.inl rfl) (pe_call (ok_Lvalues T) (hr.mono (by decide)) (by rfl) T.g_Lvalues T.F_Lvalues.kp (bd_Lvalues T) .nil pass0 (pa_cons (pv 2) (pa_cons pe_int pa_nil)))) (pss_cons (ps_set (i := 4) sc_law.nd rfl (Or.inl rfl) (pe_call (ok_Lmade T) (hr.mono (by decide)) (by rfl) T.g_Lmade T.F_Lmade.kp (bd_Lmade T) .nil pass0 (pa_cons (pv 2) (pa_cons (pv 3) pa_nil)))) (pss_cons (ps_set (i := 5) sc_law.nd rfl (Or.inl rfl) (pe_call (ok_Lmixed T) (hr.mono (by decide)) (by rfl) T.g_Lmixed T.F_Lmixed.kp (bd_Lmixed T) .nil pass0 (pa_cons (pv 2) (pa_cons (pv 3) pa_nil)))) (pss_cons (ps_set (i := 6) sc_law.nd rfl (Or.inl rfl) (pe_make T.mk_Scale (ok_Scale_init T) (hr.mono (by decide)) (by rfl) T.g_Scale (bd_Scale_init T) .nil passN (pa_cons (pv 5) pa_nil))) (pss_cons (ps_expr (pe_bm0 PySem.F.plainAttrs_list PySem.F.slot_list_clear PySem.F.type_list_clear mt_clear (pv 5))) (pss_cons (ps_expr (pe_bm PySem.F.plainAttrs_list PySem.F.slot_list_append PySem.F.type_list_append mt_append (pe_meth0 (pv 4) T.RS.cl T.m_Scale_marks (ok_Scale_marks T) (hr.mono (by decide)) (bd_Scale_marks T) .nil pass0) (pa_cons pe_non pa_nil))) (pss_cons (ps_if (PW.pt (pw_or (pt_not (pt_val (pe_call (ok_Lis T) (hr.mono (by decide)) (by rfl) T.g_Lis T.F_Lis.kp (bd_Lis T) .nil pass0 (pa_cons (pv 4) (pa_cons (pv 3) pa_nil))))) (pw_or (pt_not (pt_val (pe_call (ok_Lis T) (hr.mono (by decide)) (by rfl) T.g_Lis T.F_Lis.kp (bd_Lis T) .nil pass0 (pa_cons (pv 6) (pa_cons (pv 3) pa_nil))))) (pw_or (pt_cmpR (op_neOwn T.ps_ne (ok_Scale_eq T) (hr.mono (by decide)) (bd_Scale_eq T) pass0) (pv 4) (pv 6) (nomark _)) (pw_or1 (pt_cmpR (op_cmp (fun _ _ => rfl) T.ps_eq (ok_Scale_eq T) (hr.mono (by decide)) (bd_Scale_eq T) pass0) (pv 4) (pv 3) (nomark _))))))) (pss_one (ps_ret pe_bl)) pss_nil) (pss_cons (ps_set (i := 7) sc_law.nd rfl (Or.inl rfl) (pe_op op_cat (pe_slice sl_list (pv 3) po_none (po_some (pe_un un_neg pe_int))) (pe_lst (pa_cons (pe_op (op_own T.o_add (ok_Ratio_add T) (hr.mono (by decide)) (bd_Ratio_add T) pass0) (pe_ix ix_list (pv 3) (pe_un un_neg pe_int) (fun _ _ => rfl)) (pe_make T.mk_Ratio (ok_Ratio_init T) (hr.mono (by decide)) (by rfl) T.g_Ratio (bd_Ratio_init T) .nil pass0 (pa_cons pe_int (pa_cons (pe_ix ix_list (pe_lst (pa_cons pe_int (pa_cons pe_int pa_nil))) (pe_call (ok_Lpick T) (hr.mono (by decide)) (by rfl) T.g_Lpick T.F_Lpick.kp (bd_Lpick T) .nil pass0 (pa_cons (pv 2) (pa_cons pe_int pa_nil))) (fun _ _ => rfl)) pa_nil)))) pa_nil)))) (pss_cons (ps_if (PW.pt (pw_or (pt_cmpR (op_cmp (fun _ _ => rfl) T.ps_eq (ok_Scale_eq T) (hr.mono (by decide)) (bd_Scale_eq T) pass0) (pv 4) (pe_make T.mk_Scale (ok_Scale_init T) (hr.mono (by decide)) (by rfl) T.g_Scale (bd_Scale_init T) .nil passN (pa_cons (pv 7) pa_nil)) (nomark _)) (pw_or (pt_not (pt_cmpR (op_neOwn T.ps_ne (ok_Scale_eq T) (hr.mono (by decide)) (bd_Scale_eq T) pass0) (pv 4) (pe_make T.mk_Scale (ok_Scale_init T) (hr.mono (by decide)) (by rfl) T.g_Scale (bd_Scale_init T) .nil passN (pa_cons (pe_callTy call_tuple_of (by rfl) T.b_tuple (by decide +kernel) (pa_cons (pv 7) pa_nil)) pa_nil)) (nomark _))) (pw_or1 (PW.pt (pw_and (pt_cmpR op_gt (pe_callB call_lenQ (by rfl) T.b_len (by decide +kernel) (pa_cons (pv 3) pa_nil)) pe_int (nomark _)) (pw_and1 (pt_cmpR (op_cmp (fun _ _ => rfl) T.ps_eq (ok_Scale_eq T) (hr.mono (by decide)) (bd_Scale_eq T) pass0) (pv 4) (pe_make T.mk_Scale (ok_Scale_init T) (hr.mono (by decide)) (by rfl) T.g_Scale (bd_Scale_init T) .nil passN (pa_cons (pe_slice sl_list (pv 3) (po_some pe_int) po_none) pa_nil)) (nomark _))))))))) (pss_one (ps_ret pe_bl)) pss_nil) (pss_cons (ps_set (i := 8) sc_law.nd rfl (Or.inr rfl) (pe_ix ix_list (pe_lst (pa_cons pe_int (pa_cons (pe_un un_neg pe_int) (pa_cons pe_int (pa_cons (pe_make T.mk_Ratio (ok_Ratio_init T) (hr.mono (by decide)) (by rfl) T.g_Ratio (bd_Ratio_init T) .nil pass0 (pa_cons (pe_un un_neg pe_int) (pa_cons pe_int pa_nil))) (pa_cons (pe_make T.mk_Ratio (ok_Ratio_init T) (hr.mono (by decide)) (by rfl) T.g_Ratio (bd_Ratio_init T) .nil pass0 (pa_cons pe_int (pa_cons pe_int pa_nil))) pa_nil)))))) (pe_call (ok_Lpick T) (hr.mono (by decide)) (by rfl) T.g_Lpick T.F_Lpick.kp (bd_Lpick T) .nil pass0 (pa_cons (pv 2) (pa_cons pe_int pa_nil))) (fun _ _ => rfl))) (pss_cons (ps_set (i := 9) sc_law.nd rfl (Or.inr rfl) (pe_ix ix_list (pe_lst (pa_cons pe_int (pa_cons pe_int (pa_cons (pe_un un_neg pe_int) (pa_cons (pe_make T.mk_Ratio (ok_Ratio_init T) (hr.mono (by decide)) (by rfl) T.g_Ratio (bd_Ratio_init T) .nil pass0 (pa_cons pe_int (pa_cons pe_int pa_nil))) pa_nil))))) (pe_call (ok_Lpick T) (hr.mono (by decide)) (by rfl) T.g_Lpick T.F_Lpick.kp (bd_Lpick T) .nil pass0 (pa_cons (pv 2) (pa_cons pe_int pa_nil))) (fun _ _ => rfl))) (pss_cons (ps_setLc (i := 10) (own := [("_law_mark", 11)]) (g := (gName 11)) (tt := tYes) rfl sc_law.nd rfl rfl (sw_true rfl rfl rfl (by decide +kernel)) (pi_list (pv 3)) (blkOk_by (N := N_law) (sc := defScope s_law) (by decide +kernel)) (fun _ _ _ _ _ => pg_name (i := 11) sc_law.nd rfl (Or.inl rfl)) (fun _ _ _ _ _ => pts_nil) (fun _ _ _ _ _ => (pe_op (op_own T.o_add (ok_Ratio_add T) (hr.mono (by decide)) (bd_Ratio_add T) pass0) (pe_op (op_own T.o_mul (ok_Ratio_mul T) (hr.mono (by decide)) (bd_Ratio_mul T) pass0) (pv 11) (pv 8)) (pv 9)))) (pss_cons (ps_set (i := 10) sc_law.nd rfl (Or.inl rfl) (pe_ifExp (pt_cmpR (op_cmp (fun _ _ => rfl) T.p_lt (ok_Ratio_lt T) (hr.mono (by decide)) (bd_Ratio_lt T) pass0) (pe_op (op_own T.o_add (ok_Ratio_add T) (hr.mono (by decide)) (bd_Ratio_add T) pass0) (pe_make T.mk_Ratio (ok_Ratio_init T) (hr.mono (by decide)) (by rfl) T.g_Ratio (bd1_Ratio_init T).choose_spec.2 (bd1_Ratio_init T).choose_spec.1 pass0 (pa_cons pe_int pa_nil)) (pv 8)) pe_int (nomark _)) (pe_revL (pv 10)) (pv 10))) (pss_cons (ps_if (PW.pt (pw_or (pt_not (pt_val (pe_call (ok_Lis T) (hr.mono (by decide)) (by rfl) T.g_Lis T.F_Lis.kp (bd_Lis T) .nil pass0 (pa_cons (pe_methW (pv 4) T.RS.cl T.m_Scale_led (ok_Scale_led T) (hr.mono (by decide)) (kb_Scale_led2 T) atL (pk_cons (pv 9) (pk_cons (pv 8) pk_nil))) (pa_cons (pv 10) pa_nil))))) (pw_or1 (pt_not (pt_val (pe_call (ok_Lis T) (hr.mono (by decide)) (by rfl) T.g_Lis T.F_Lis.kp (bd_Lis T) .nil pass0 (pa_cons (pv 4) (pa_cons (pv 3) pa_nil)))))))) (pss_one (ps_ret pe_bl)) pss_nil) (pss_one (ps_if (pt_not (pt_val (pe_call (ok_Lrefused_right T) (hr.mono (by decide)) (by rfl) T.g_Lrefused_right T.F_Lrefused_right.kp (bd_Lrefused_right T) .nil pass0 (pa_cons (pv 2) (pa_cons (pv 4) (pa_cons (pv 3) pa_nil)))))) (pss_one (ps_ret pe_bl)) pss_nil)))))))))))))))))) (pss_one (ps_ret pe_bl))), ?_⟩
    walk_at "g"
    refine g_lenQ hp ?_
    walk_at "g"
    refine ⟨_, _, rfl, ?_⟩
    walk_at "g"
    refine ⟨_, _, rfl, ?_⟩
    walk_at "g"
    refine ⟨_, rfl, by split <;> split <;> omega, by split <;> split <;> omega, ?_⟩
    have hlap : (if (if (((ns.map V.int).length : Nat) : Int) < 2 then (((ns.map V.int).length : Nat) : Int) else 2) > 1 then (if (((ns.map V.int).length : Nat) : Int) < 2 then (((ns.map V.int).length : Nat) : Int) else 2) else 1).toNat ≤ 100 := by split <;> split <;> omega
    generalize (if (if (((ns.map V.int).length : Nat) : Int) < 2 then (((ns.map V.int).length : Nat) : Int) else 2) > 1 then (if (((ns.map V.int).length : Nat) : Int) < 2 then (((ns.map V.int).length : Nat) : Int) else 2) else 1).toNat = laps at hlap ⊢
    refine lp_R (fun i σ' H' => (∃ u1 u2 u3 u4 u5 u6 u7 u8 u9 u10 u11, σ' = [some (.ref p), u1, u2, u3, u4, u5, u6, u7, u8, u9, u10, u11]) ∧ Ex H H') ⟨⟨none, none, none, none, none, none, none, none, none, none, none, rfl⟩, Ex.refl _⟩ ?_ ?_
    · rintro i σ' H0 hi ⟨⟨u1, u2, u3, u4, u5, u6, u7, u8, u9, u10, u11, rfl⟩, ex0⟩
      walk_at "g"
      refine ⟨p, ns, i, by rw [Int.zero_add], ex0.sql hp, by omega, fun t H1 hT e1 t1 => ?_⟩
      walk_at "g"
      refine ⟨t, rfl, t1, fun m xs qs H2 hm m2 t2 am hrs asc l1 l8 sz => ?_⟩
      have nm := t1.new hm
      have hlen : xs.length = qs.length := hrs.length
      walk_at "g"
      refine ⟨t, m, xs, qs, rfl, t2, am, nm, hrs, asc, l1, l8, sz, fun s H3 hs m3 t3 sc => ?_⟩
      have am3 := m3 _ _ am nm
      have hrs3 := rats_mo t2 m3 hrs
      walk_at "g"
      refine ⟨t, m, xs, rfl, t3, am3, nm, by omega, fun h ys H4 hh m4 t4 ah pm => ?_⟩
      have am4 := m4 _ _ am3 nm
      have hrs4 := rats_mo t3 m4 hrs3
      have sc4 := scale_mo l1 t3 m4 sc
      obtain ⟨ws, hws, pw⟩ := prd_perm pm.symm hrs4
      have wl := pw.length_eq
      walk_at "g"
      refine use_Scale (.lst ah (RatsV.da hws)) (.inl rfl) (rats_all ws) (by rw [List.length_map]; omega) (by rw [List.length_map]; omega) (rats_fine fun q hq => sz_le (sz q (pw.mem_iff.mpr hq)) (by decide)) (by rw [rats_num]; exact isort_climb asc pw.symm) asc fun tw H5 htw e5 sctw5 mv => ?_
      walk_at "g"
      have nh := t3.new hh
      have ah5 := e5 _ _ ah
      refine ⟨tyL ah5, ?_⟩
      refine ⟨h, ys, rfl, rfl, ah5, ?_⟩
      have m6 : Mo t H3 (upd H5 h (.lst [])) := fun b o hb hn => by
        rw [upd_ne (ne_of_none hb hh)]
        exact e5 _ _ (m4 _ _ hb hn)
      have t6 : TapeAt (upd H5 h (.lst [])) t := by
        obtain ⟨t0, t1, a0, a1, a2, ht⟩ := t4.mono e5
        exact ⟨t0, t1, a0, a1, a2, by rw [upd_ne nh.symm]; exact ht⟩
      have sctw6 := mv h ys [] ah
      generalize (upd H5 h (.lst [])) = H6 at m6 t6 sctw6 ⊢
      have am6 := m6 _ _ am3 nm
      have hrs6 := rats_mo t3 m6 hrs3
      have sc6 := scale_mo l1 t3 m6 sc
      have mm6 : Mo t H1 H6 := (m2.trans m3).trans m6
      clear hws pw wl ah ah5 hrs4 sc4 am4 sctw5 mv
      obtain ⟨dx, mk, rs, hs1, hs2, hs3⟩ := id sc6
      walk_at "g"
      refine ⟨s, dx, _, rfl, hs1, marks_no mk (by decide +kernel), s, qs, rfl, sc6, fun l ls H7 hl e7 al hls => ⟨tyL al, ?_⟩⟩
      walk_at "g"
      refine ⟨l, ls, .non, rfl, rfl, al, Nat.lt_of_le_of_lt (m := 100) (by rw [hls.length]; omega) (by decide), ?_⟩
      have e8 : Ex H6 (upd H7 l (.lst (ls ++ [.non]))) := e7.mut hl
      generalize (upd H7 l (.lst (ls ++ [.non]))) = H8 at e8 ⊢
      have am8 := e8 _ _ am6
      have hrs8 := hrs6.mono e8
      have sc8 := sc6.mono e8
      have sctw8 := sctw6.mono e8
      have t8 := t6.mono e8
      have mm8 := mm6.ex e8
      clear hls al hl e7
      have sz9 : ∀ q ∈ qs, Sz 199 q := fun q hq => sz_le (sz q hq) (by decide)
      have sz3 : ∀ q ∈ qs, Sz 3000 q := fun q hq => sz_le (sz q hq) (by decide)
      walk_at "g"
      refine ⟨s, m, xs, qs, rfl, sc8, am8, hrs8, asc, l1, l8, sz9, fun H9 e9 => ⟨_, rfl, ?_⟩⟩
      walk_at "g"
      refine ⟨tw, m, xs, qs, rfl, sctw8.mono e9, e9 _ _ am8, hrs8.mono e9, asc, l1, l8, sz9, fun H10 e10 => ⟨_, rfl, ?_⟩⟩
      have x10 := e9.trans e10
      walk_at "g"
      refine g_scNe T.R T.RS (sc8.mono x10) (sctw8.mono x10) sz3 sz3 fun H11 e11 => ⟨_, rfl, ?_⟩
      have x11 := x10.trans e11
      rw [decide_eq_true rfl]
      walk_at "g"
      refine g_scEqD T.R T.RS (sc8.mono x11) sz3 (.lst (x11 _ _ am8) (RatsV.da (hrs8.mono x11))) fun H12 e12 => ⟨_, rfl, ?_⟩
      have x12 := x11.trans e12
      have am12 := x12 _ _ am8
      have hrs12 := hrs8.mono x12
      have sc12 := sc8.mono x12
      have t12 := t8.mono x12
      have mm12 := mm8.ex x12
      clear sctw8 sctw6
      obtain ⟨xl, ql, hxl, hql, rl, high⟩ := last_of hrs12 asc l1
      walk_at "g"
      refine ⟨m, xs, rfl, SqL.of am12, fun o1 ho1 => ?_⟩
      have e13 : Ex H12 (upd H12 o1 (.lst (cutV xs none (some (-1))))) := Ex.new ho1
      have a_o1 : (upd H12 o1 (.lst (cutV xs none (some (-1))))) o1 = some (.lst (cutV xs none (some (-1)))) := upd_same
      have n_o1 := t12.new ho1
      generalize (upd H12 o1 (.lst (cutV xs none (some (-1))))) = H13 at e13 a_o1 ⊢
      rw [cut_last xs (by omega)] at a_o1
      have am13 := e13 _ _ am12
      have t13 := t12.mono e13
      have hrs13 := hrs12.mono e13
      have sc13 := sc12.mono e13
      walk_at "g"
      refine g_ixL (SqL.of am13) hxl ?_
      walk_at "g"
      refine g_menu rfl rfl (by decide) (by decide) t13 at2 fun uv H14 pu m14 t14 => ?_
      obtain ⟨u, rfl, hu⟩ := pu
      replace a_o1 := m14 _ _ a_o1 n_o1
      have am14 := m14 _ _ am13 nm
      have hrs14 := rats_mo t13 m14 hrs13
      have sc14 := scale_mo l1 t13 m14 sc13
      have rl14 := (rl.mono e13).mo t13 m14
      have mm14 := (mm12.ex e13).trans m14
      clear am12 t12 hrs12 sc12 mm12 am13 t13 hrs13 sc13
      walk_at "g"
      refine use_initW (k := 45) (by omega) (by decide) (by omega) (by decide) fun vq H15 e15 rvq => ?_
      walk_at "g"
      refine g_num2 (rl14.mono e15) rvq.num (sz ql hql) (Sz.divInt (by decide) (by omega) (by omega)) (by decide) fun vz H16 e16 rz => ?_
      walk_at "g"
      refine ⟨len_lit rfl, fun o2 ho2 => ?_⟩
      have e17 : Ex H16 (upd H16 o2 (.lst [vz])) := Ex.new ho2
      have a_o2 : (upd H16 o2 (.lst [vz])) o2 = some (.lst [vz]) := upd_same
      generalize (upd H16 o2 (.lst [vz])) = H17 at e17 a_o2 ⊢
      have x17 := (e15.trans e16).trans e17
      refine ⟨o1, o2, _, _, rfl, rfl, x17 _ _ a_o1, a_o2, Nat.le_trans (by rw [List.length_take]; show _ + 1 ≤ 100; omega) (by decide), fun o3 ho3 => ?_⟩
      have e18 : Ex H17 (upd H17 o3 (.lst (xs.take (xs.length - 1) ++ [vz]))) := Ex.new ho3
      have a_o3 : (upd H17 o3 (.lst (xs.take (xs.length - 1) ++ [vz]))) o3 = some (.lst (xs.take (xs.length - 1) ++ [vz])) := upd_same
      generalize (upd H17 o3 (.lst (xs.take (xs.length - 1) ++ [vz]))) = H18 at e18 a_o3 ⊢
      have x18 := x17.trans e18
      have am18 := x18 _ _ am14
      have hrs18 := hrs14.mono x18
      have sc18 := sc14.mono x18
      have t18 := t14.mono x18
      have mm18 := mm14.ex x18
      have ro3 : RatsV a.C_Ratio H18 (xs.take (xs.length - 1) ++ [vz]) (qs.take (xs.length - 1) ++ [ql + Rat.divInt 1 u]) := prd_app (prd_take _ hrs18) (.cons (rz.mono (e17.trans e18)) .nil)
      have hz := one_pos hu ql
      have szz : Sz 91 (ql + Rat.divInt 1 u) := (sz ql hql).add (Sz.divInt (by decide) (by omega) (by omega))
      have asc3 := top_asc asc high hz (xs.length - 1)
      have ne3 : qs ≠ qs.take (xs.length - 1) ++ [ql + Rat.divInt 1 u] := fun e => by
        have := high (ql + Rat.divInt 1 u) (by rw [e]; simp)
        grind
      have sz3' : ∀ q ∈ qs.take (xs.length - 1) ++ [ql + Rat.divInt 1 u], Sz 200 q := fun q hq => by
        rcases List.mem_append.mp hq with hq | hq
        · exact sz_le (sz q (List.mem_of_mem_take hq)) (by decide)
        · rw [List.mem_singleton.mp hq]
          exact sz_le szz (by decide)
      have len3 : (qs.take (xs.length - 1) ++ [ql + Rat.divInt 1 u]).length = qs.length := by rw [List.length_append, List.length_take]; show _ + 1 = _; omega
      generalize qs.take (xs.length - 1) ++ [ql + Rat.divInt 1 u] = ps at ro3 asc3 ne3 sz3' len3
      generalize xs.take (xs.length - 1) ++ [vz] = zs at a_o3 ro3
      clear a_o1 a_o2 am14 hrs14 sc14 mm14 t14 rl14 rvq rz rl
      walk_at "g"
      have sp3 : ∀ q ∈ ps, Sz 3000 q := fun q hq => sz_le (sz3' q hq) (by decide)
      refine use_Scale (.lst a_o3 (RatsV.da ro3)) (.inl rfl) (rats_all ps) (by rw [List.length_map]; omega) (by rw [List.length_map]; omega) (rats_fine sz3') (by rw [rats_num]; exact isort_climb asc3 (.refl _)) asc3 fun b1 H19 hb1 e19 scb1 _ => ?_
      refine g_scEq T.R T.RS (sc18.mono e19) scb1 sz3 sp3 fun H20 e20 => ⟨_, rfl, ?_⟩
      have x20 := e19.trans e20
      rw [decide_eq_false ne3]
      walk_at "g"
      refine ⟨o3, zs, rfl, .inl ⟨SqL.of (x20 _ _ a_o3), fun o4 ho4 => ?_⟩⟩
      have e21 : Ex H20 (upd H20 o4 (.tup zs)) := Ex.new ho4
      have a_o4 : (upd H20 o4 (.tup zs)) o4 = some (.tup zs) := upd_same
      generalize (upd H20 o4 (.tup zs)) = H21 at e21 a_o4 ⊢
      have x21 := x20.trans e21
      walk_at "g"
      refine use_Scale (.tup a_o4 (RatsV.da (ro3.mono x21))) (.inr rfl) (rats_all ps) (by rw [List.length_map]; omega) (by rw [List.length_map]; omega) (rats_fine sz3') (by rw [rats_num]; exact isort_climb asc3 (.refl _)) asc3 fun b2 H22 hb2 e22 scb2 _ => ?_
      have x22 := x21.trans e22
      refine g_scNe T.R T.RS (sc18.mono x22) scb2 sz3 sp3 fun H23 e23 => ⟨_, rfl, ?_⟩
      have x23 := x22.trans e23
      rw [decide_eq_false ne3]
      have am23 := x23 _ _ am18
      have hrs23 := hrs18.mono x23
      have sc23 := sc18.mono x23
      have t23 := t18.mono x23
      have mm23 := mm18.ex x23
      clear scb1 scb2 sz3' ro3
      walk_at "g"
      refine g_lenQ (SqL.of am23) ?_
      walk_at "g"
      refine g_iteT (fun hc R' q => ?_) fun H24 e24 => ?_
      · walk_at "g"
        refine ⟨m, xs, rfl, SqL.of am23, fun o5 ho5 => ?_⟩
        have e24 : Ex H23 (upd H23 o5 (.lst (cutV xs (some 1) none))) := Ex.new ho5
        have a_o5 : (upd H23 o5 (.lst (cutV xs (some 1) none))) o5 = some (.lst (cutV xs (some 1) none)) := upd_same
        generalize (upd H23 o5 (.lst (cutV xs (some 1) none))) = H24 at e24 a_o5 ⊢
        rw [cut_tail, ← List.drop_one] at a_o5
        have hc' : 1 < xs.length := by have := of_decide_eq_true hc; omega
        have lt : (qs.drop 1).length = qs.length - 1 := List.length_drop
        have szt : ∀ q ∈ qs.drop 1, Sz 200 q := fun q hq => sz_le (sz q (List.mem_of_mem_drop hq)) (by decide)
        have asct : (qs.drop 1).Pairwise (· < ·) := asc.sublist (List.drop_sublist _ _)
        walk_at "g"
        refine use_Scale (.lst a_o5 (RatsV.da (prd_drop 1 (hrs23.mono e24)))) (.inl rfl) (rats_all _) (by rw [List.length_map]; omega) (by rw [List.length_map]; omega) (rats_fine szt) (by rw [rats_num]; exact isort_climb asct (.refl _)) asct fun b3 H25 hb3 e25 scb3 _ => ?_
        have x25 := e24.trans e25
        refine g_scEq T.R T.RS (sc23.mono x25) scb3 sz3 (fun q hq => sz_le (szt q hq) (by decide)) fun H26 e26 => ⟨_, rfl, ?_⟩
        rw [decide_eq_false (fun e => by have := congrArg List.length e; omega : ¬ qs = qs.drop 1)]
        exact q _ (x25.trans e26)
      · have am24 := e24 _ _ am23
        have hrs24 := hrs23.mono e24
        have sc24 := sc23.mono e24
        have t24 := t23.mono e24
        have mm24 := mm23.ex e24
        clear am23 hrs23 sc23 t23 mm23
        walk_at "g"
        refine use_initW (t := -1) (b := 2) (k := 45) (by decide) (by decide) (by decide) (by decide) fun va H25 e25 ra => ?_
        walk_at "g"
        refine use_initW (t := 5) (b := 3) (k := 45) (by decide) (by decide) (by decide) (by decide) fun vb H26 e26 rb => ?_
        have x26 := e25.trans e26
        have t26 := t24.mono x26
        walk_at "g"
        refine g_menu (M := fun v => v = .int 1 ∨ v = .int (-1) ∨ v = .int 3 ∨ v = .ref va ∨ v = .ref vb) rfl rfl (by decide) (by decide) t26 (fun d h0 h1 => by
          rcases (by omega : d = 0 ∨ d = 1 ∨ d = 2 ∨ d = 3 ∨ d = 4) with rfl | rfl | rfl | rfl | rfl <;> exact ⟨_, rfl, by simp⟩) fun fv H27 pf m27 t27 => ?_
        obtain ⟨f, ⟨hf, ff, fn, fs⟩, f0⟩ : ∃ f, NumD a.C_Ratio H27 fv f ∧ f.num ≠ 0 := by
          rcases pf with rfl | rfl | rfl | rfl | rfl
          · exact ⟨.int 1, ⟨.int _, by decide +kernel, rfl, ⟨by decide +kernel, by decide +kernel⟩⟩, by decide +kernel⟩
          · exact ⟨.int (-1), ⟨.int _, by decide +kernel, rfl, ⟨by decide +kernel, by decide +kernel⟩⟩, by decide +kernel⟩
          · exact ⟨.int 3, ⟨.int _, by decide +kernel, rfl, ⟨by decide +kernel, by decide +kernel⟩⟩, by decide +kernel⟩
          · exact ⟨.rat (Rat.divInt (-1) 2), ⟨.rat ((ra.mono e26).mo t26 m27), by decide +kernel, rfl, ⟨by decide +kernel, by decide +kernel⟩⟩, by decide +kernel⟩
          · exact ⟨.rat (Rat.divInt 5 3), ⟨.rat (rb.mo t26 m27), by decide +kernel, rfl, ⟨by decide +kernel, by decide +kernel⟩⟩, by decide +kernel⟩
        have mx27 : Mo t H24 H27 := x26.mo.trans m27
        walk_at "g"
        refine use_initW (t := 2) (b := 7) (k := 45) (by decide) (by decide) (by decide) (by decide) fun vc H28 e28 rc => ?_
        have t28 := t27.mono e28
        walk_at "g"
        refine g_menu (M := fun v => v = .int 0 ∨ v = .int 1 ∨ v = .int (-4) ∨ v = .ref vc) rfl rfl (by decide) (by decide) t28 (fun d h0 h1 => by
          rcases (by omega : d = 0 ∨ d = 1 ∨ d = 2 ∨ d = 3) with rfl | rfl | rfl | rfl <;> exact ⟨_, rfl, by simp⟩) fun av H29 pa m29 t29 => ?_
        obtain ⟨d, hd, fd, dn, ds⟩ : ∃ d, NumD a.C_Ratio H29 av d := by
          rcases pa with rfl | rfl | rfl | rfl
          · exact ⟨.int 0, .int _, by decide +kernel, rfl, ⟨by decide +kernel, by decide +kernel⟩⟩
          · exact ⟨.int 1, .int _, by decide +kernel, rfl, ⟨by decide +kernel, by decide +kernel⟩⟩
          · exact ⟨.int (-4), .int _, by decide +kernel, rfl, ⟨by decide +kernel, by decide +kernel⟩⟩
          · exact ⟨.rat (Rat.divInt 2 7), .rat (rc.mo t28 m29), by decide +kernel, rfl, ⟨by decide +kernel, by decide +kernel⟩⟩
        replace hf := numd_mo (hf.mono e28) fn t28 m29
        have mx29 : Mo t H24 H29 := (mx27.ex e28).trans m29
        have am29 := mx29 _ _ am24 nm
        have hrs29 := rats_mo t24 mx29 hrs24
        have sc29 := scale_mo l1 t24 mx29 sc24
        have mm29 := mm24.trans mx29
        clear am24 hrs24 sc24 t24 mm24 ra rb rc t26 t27 t28 pf pa
        walk_at "g"
        have fs' : Sz 45 f.num := sz_le fs (by decide)
        have ds' : Sz 45 d.num := sz_le ds (by decide)
        refine ⟨m, rfl, ⟨xs, SqL.of am29⟩, cp_L (xs := xs) (fun D i H' => ∃ ls, Ex H29 H' ∧ H' D = some (.lst ls) ∧ RatsV a.C_Ratio H' ls ((qs.take i).map fun q => q * f.num + d.num)) (fun D hD => ⟨[], Ex.new hD, upd_same, .nil⟩) (fun D hD i H' _ h => by
          obtain ⟨_, ex, _⟩ := h
          exact SqL.of (ex _ _ am29)) (fun D hD i x H' hx h => ?_) (fun D hD H30 h => ?_)⟩
        · obtain ⟨ls, ex, hD', hls⟩ := h
          obtain ⟨q, hq, rx⟩ := prd_get hrs29 hx
          have hq' := List.mem_of_getElem? hq
          refine ⟨rfl, ?_⟩
          walk_at "g"
          refine g_num2 (rx.mono ex) ((hf.mono ex).num fn) (sz q hq') fs' (by decide) fun u H4 e4 hu => ?_
          walk_at "g"
          refine g_num2 hu ((hd.mono (ex.trans e4)).num dn) ((sz q hq').mul fs') (sz_le ds' (by decide)) (by decide) fun u2 H5 e5 hu2 => ?_
          have ee := e4.trans e5
          refine ⟨ls, ee _ _ hD', Nat.lt_of_le_of_lt (m := 1000) (by rw [hls.length, List.length_map, List.length_take]; omega) (by decide), _, (ex.trans ee).mut hD, upd_same, ?_⟩
          rw [take_succ_get hq, List.map_append]
          exact prd_app ((hls.mono ee).set (ee _ _ hD')) (.cons (hu2.set (ee _ _ hD')) .nil)
        · obtain ⟨ls, ex30, hD', hls⟩ := h
          rw [hlen, List.take_length] at hls
          walk_at "g"
          refine use_initW (t := 0) (b := 1) (k := 45) (by decide) (by decide) (by decide) (by decide) fun vo H31 e31 ro => ?_
          walk_at "g"
          refine g_num2 ro ((hf.mono (ex30.trans e31)).num fn) (Sz.divInt (k := 45) (by decide) (by decide) (by decide)) fs' (by decide) fun vs H32 e32 rs2 => ?_
          walk_at "g"
          refine g_rel2 T.R rs2 (.inl ⟨0, rfl, rfl⟩) ((Sz.divInt (k := 45) (by decide) (by decide) (by decide)).add fs') (sz_int (w := 0) (by decide) (by decide)) (by decide) fun H33 e33 => ?_
          have ez : decide (Rat.divInt 0 1 + f.num < ((0 : Int) : Rat)) = decide (f.num < 0) := by
            rw [Rat.zero_divInt, Rat.zero_add]
            rfl
          refine ⟨_, rfl, ?_⟩
          rw [ez]
          have x33 := ((ex30.trans e31).trans e32).trans e33
          have hD33 := ((e31.trans e32).trans e33) _ _ hD'
          have hls33 := hls.mono ((e31.trans e32).trans e33)
          refine g_ifRev (D := D) (ls := ls) rfl hD33 fun lp H34 e34 alp => ?_
          have x34 := x33.trans e34
          have asc5 := ledQ_asc (f := f.num) (d := d.num) asc f0
          have len5 : (ledQ f.num d.num qs).length = qs.length := by rw [← (ledQ_perm f.num d.num qs).length_eq, List.length_map]
          have sz5 : ∀ q ∈ ledQ f.num d.num qs, Sz 199 q := fun q hq => by
            obtain ⟨q0, h0, rfl⟩ := List.mem_map.mp ((ledQ_perm f.num d.num qs).mem_iff.mpr hq)
            exact sz_le (((sz q0 h0).mul fs').add (sz_le ds' (by decide : 45 ≤ 45 + 45))) (by decide)
          have rl5 : RatsV a.C_Ratio H34 (if decide (f.num < 0) = true then ls.reverse else ls) (ledQ f.num d.num qs) := by
            unfold ledQ
            split
            · exact prd_rev (hls33.mono e34)
            · exact hls33.mono e34
          generalize (if decide (f.num < 0) = true then ls.reverse else ls) = lq at alp rl5
          have am34 := x34 _ _ am29
          have hrs34 := hrs29.mono x34
          have sc34 := sc29.mono x34
          have t34 := t29.mono x34
          have mm34 := mm29.ex x34
          replace hf := hf.mono x34
          replace hd := hd.mono x34
          have srt5 : isort (qs.map fun q => q * f.num + d.num) = ledQ f.num d.num qs := isort_climb asc5 (ledQ_perm f.num d.num qs)
          clear am29 hrs29 sc29 t29 mm29 hls hls33 hD' hD33 ro rs2 x33 ex30 hs1 hs2 hs3 dx mk rs
          obtain ⟨dx, mk, rs, hs1, hs2, hs3⟩ := id sc34
          walk_at "g"
          refine ⟨s, dx, _, rfl, hs1, marks_no mk (by decide +kernel), ?_⟩
          walk_at "g"
          refine ⟨rfl, s, fv, av, f, d, qs, rfl, sc34, sz, fs', ds', asc, l1, l8, hf, ff, hd, fd, fun _ _ _ p2 H35 hp2 e35 sc2 => ?_, fun h => absurd ⟨fn, f0⟩ h, fun _ _ h => by rw [dn] at h; cases h⟩
          rw [srt5] at sc2
          walk_at "g"
          refine ⟨p2, lp, lq, _, rfl, sc2, e35 _ _ alp, rl5.mono e35, asc5, by omega, by omega, sz5, fun H36 e36 => ⟨_, rfl, ?_⟩⟩
          have x36 := e35.trans e36
          walk_at "g"
          refine ⟨s, m, xs, qs, rfl, sc34.mono x36, x36 _ _ am34, hrs34.mono x36, asc, l1, l8, sz9, fun H37 e37 => ⟨_, rfl, ?_⟩⟩
          have x37 := x36.trans e37
          walk_at "g"
          refine ⟨t, s, m, xs, qs, rfl, t34.mono x37, sc34.mono x37, x37 _ _ am34, nm, hrs34.mono x37, asc, l1, l8, sz, fun H38 m38 t38 => ⟨_, rfl, ?_⟩⟩
          walk_at "g"
          exact ⟨⟨_, _, _, _, _, _, _, _, _, _, _, rfl⟩, ex0.trans (e1.mo_new hT ((mm34.ex x37).trans m38))⟩
    · rintro σ' H0 ⟨⟨u1, u2, u3, u4, u5, u6, u7, u8, u9, u10, u11, rfl⟩, ex0⟩
      walk_at "g"
      exact z _ ex0
end
end Kx


set_option maxHeartbeats 4000000
namespace Kx
open PySem PySem.Spec PyProof.Rows L2 Fm
/-- whether an error of the class at A is what a clause of the class at B names -/
theorem exm_sub {K : PySem.W.Frag} {A B : Addr} {b : Bool} (h1 : PySem.W.subIn K (.ref B) (.type "BaseException") = some true) (h2 : PySem.W.isClsIn K B = true) (h3 : PySem.W.typeIn K (.ref B) = some (.type "type")) (h4 : PySem.W.subIn K (.ref A) (.ref B) = some b) : PySem.W.exmOne K (.ref A) (.ref B) = some b := by
  have c : (PySem.W.clsIn K B).isSome = true := h2
  unfold PySem.W.exmOne
  rw [h1]
  show PySem.W.kitCls K (.ref A) (.ref B) = some b
  show (if ((PySem.W.clsIn K B).isSome && PySem.W.typeIn K (.ref B) == some (.type "type")) = true then PySem.W.subIn K (.ref A) (.ref B) else none) = some b
  rw [c, h3, if_pos (by simp), h4]
theorem all_mk {l : PySem.W.OpenLaw} {w : World} {K : PySem.W.Frag} {h : Heap} {mg : Str → Option Value} {fa : Addr} (X : K.In h) (G : h.Ns mainGlobals mg) (hfa : mg "law" = some (.ref fa))
    {C_MeansError : Addr} {C_ByZero : Addr} {C_BadText : Addr} {C_BadNumber : Addr} {C_BadValues : Addr} {C_NoValue : Addr} {C_Ratio : Addr} {C_Scale : Addr} {f_BadNumber_init : Addr} {kV_BadNumber_init : Value} {dc_BadNumber_init : Value} {pm_BadNumber_init : Value}
    {cd_BadNumber_init : Value} {ct_BadNumber_init : Value} {oc_BadNumber_init : Value} {od_BadNumber_init : Option Addr} {an_BadNumber_init : Option Addr} {sl_BadNumber_init : Array (Option Value)} {f_BadValues_init : Addr} {kV_BadValues_init : Value} {dc_BadValues_init : Value} {pm_BadValues_init : Value} {cd_BadValues_init : Value} {ct_BadValues_init : Value}
    {oc_BadValues_init : Value} {od_BadValues_init : Option Addr} {an_BadValues_init : Option Addr} {sl_BadValues_init : Array (Option Value)} {f_NoValue_init : Addr} {kV_NoValue_init : Value} {dc_NoValue_init : Value} {pm_NoValue_init : Value} {cd_NoValue_init : Value} {ct_NoValue_init : Value} {oc_NoValue_init : Value} {od_NoValue_init : Option Addr}
    {an_NoValue_init : Option Addr} {sl_NoValue_init : Array (Option Value)} {f_Ratio_init : Addr} {kV_Ratio_init : Value} {dc_Ratio_init : Value} {pm_Ratio_init : Value} {cd_Ratio_init : Value} {ct_Ratio_init : Value} {oc_Ratio_init : Value} {od_Ratio_init : Option Addr} {an_Ratio_init : Option Addr} {sl_Ratio_init : Array (Option Value)}
    {T_Ratio_init : Addr} {ocT_Ratio_init : Value} {odT_Ratio_init : Option Addr} {nT_Ratio_init : Nat} {slT_Ratio_init : Array (Option Value)} {tk0_Ratio_init : Tok} {f_Ratio_add : Addr} {kV_Ratio_add : Value} {dc_Ratio_add : Value} {pm_Ratio_add : Value} {cd_Ratio_add : Value} {ct_Ratio_add : Value}
    {oc_Ratio_add : Value} {od_Ratio_add : Option Addr} {an_Ratio_add : Option Addr} {sl_Ratio_add : Array (Option Value)} {f_Ratio_sub : Addr} {kV_Ratio_sub : Value} {dc_Ratio_sub : Value} {pm_Ratio_sub : Value} {cd_Ratio_sub : Value} {ct_Ratio_sub : Value} {oc_Ratio_sub : Value} {od_Ratio_sub : Option Addr}
    {an_Ratio_sub : Option Addr} {sl_Ratio_sub : Array (Option Value)} {f_Ratio_mul : Addr} {kV_Ratio_mul : Value} {dc_Ratio_mul : Value} {pm_Ratio_mul : Value} {cd_Ratio_mul : Value} {ct_Ratio_mul : Value} {oc_Ratio_mul : Value} {od_Ratio_mul : Option Addr} {an_Ratio_mul : Option Addr} {sl_Ratio_mul : Array (Option Value)}
    {f_Ratio_neg : Addr} {kV_Ratio_neg : Value} {dc_Ratio_neg : Value} {pm_Ratio_neg : Value} {cd_Ratio_neg : Value} {ct_Ratio_neg : Value} {oc_Ratio_neg : Value} {od_Ratio_neg : Option Addr} {an_Ratio_neg : Option Addr} {sl_Ratio_neg : Array (Option Value)} {f_Ratio_eq : Addr} {kV_Ratio_eq : Value}
    {dc_Ratio_eq : Value} {pm_Ratio_eq : Value} {cd_Ratio_eq : Value} {ct_Ratio_eq : Value} {oc_Ratio_eq : Value} {od_Ratio_eq : Option Addr} {an_Ratio_eq : Option Addr} {sl_Ratio_eq : Array (Option Value)} {f_Ratio_lt : Addr} {kV_Ratio_lt : Value} {dc_Ratio_lt : Value} {pm_Ratio_lt : Value}
    {cd_Ratio_lt : Value} {ct_Ratio_lt : Value} {oc_Ratio_lt : Value} {od_Ratio_lt : Option Addr} {an_Ratio_lt : Option Addr} {sl_Ratio_lt : Array (Option Value)} {f_Ratio_le : Addr} {kV_Ratio_le : Value} {dc_Ratio_le : Value} {pm_Ratio_le : Value} {cd_Ratio_le : Value} {ct_Ratio_le : Value}
    {oc_Ratio_le : Value} {od_Ratio_le : Option Addr} {an_Ratio_le : Option Addr} {sl_Ratio_le : Array (Option Value)} {f_is_whole : Addr} {kV_is_whole : Value} {dc_is_whole : Value} {pm_is_whole : Value} {cd_is_whole : Value} {ct_is_whole : Value} {oc_is_whole : Value} {od_is_whole : Option Addr}
    {an_is_whole : Option Addr} {sl_is_whole : Array (Option Value)} {f_is_number : Addr} {kV_is_number : Value} {dc_is_number : Value} {pm_is_number : Value} {cd_is_number : Value} {ct_is_number : Value} {oc_is_number : Value} {od_is_number : Option Addr} {an_is_number : Option Addr} {sl_is_number : Array (Option Value)}
    {f_are_numbers : Addr} {kV_are_numbers : Value} {dc_are_numbers : Value} {pm_are_numbers : Value} {cd_are_numbers : Value} {ct_are_numbers : Value} {oc_are_numbers : Value} {od_are_numbers : Option Addr} {an_are_numbers : Option Addr} {sl_are_numbers : Array (Option Value)} {f_as_ratio : Addr} {kV_as_ratio : Value}
    {dc_as_ratio : Value} {pm_as_ratio : Value} {cd_as_ratio : Value} {ct_as_ratio : Value} {oc_as_ratio : Value} {od_as_ratio : Option Addr} {an_as_ratio : Option Addr} {sl_as_ratio : Array (Option Value)} {f_Scale_init : Addr} {kV_Scale_init : Value} {dc_Scale_init : Value} {pm_Scale_init : Value}
    {cd_Scale_init : Value} {ct_Scale_init : Value} {oc_Scale_init : Value} {od_Scale_init : Option Addr} {an_Scale_init : Option Addr} {sl_Scale_init : Array (Option Value)} {f_Scale_len : Addr} {kV_Scale_len : Value} {dc_Scale_len : Value} {pm_Scale_len : Value} {cd_Scale_len : Value} {ct_Scale_len : Value}
    {oc_Scale_len : Value} {od_Scale_len : Option Addr} {an_Scale_len : Option Addr} {sl_Scale_len : Array (Option Value)} {f_Scale_eq : Addr} {kV_Scale_eq : Value} {dc_Scale_eq : Value} {pm_Scale_eq : Value} {cd_Scale_eq : Value} {ct_Scale_eq : Value} {oc_Scale_eq : Value} {od_Scale_eq : Option Addr}
    {an_Scale_eq : Option Addr} {sl_Scale_eq : Array (Option Value)} {f_Scale_marks : Addr} {kV_Scale_marks : Value} {dc_Scale_marks : Value} {pm_Scale_marks : Value} {cd_Scale_marks : Value} {ct_Scale_marks : Value} {oc_Scale_marks : Value} {od_Scale_marks : Option Addr} {an_Scale_marks : Option Addr} {sl_Scale_marks : Array (Option Value)}
    {f_Scale_place : Addr} {kV_Scale_place : Value} {dc_Scale_place : Value} {pm_Scale_place : Value} {cd_Scale_place : Value} {ct_Scale_place : Value} {oc_Scale_place : Value} {od_Scale_place : Option Addr} {an_Scale_place : Option Addr} {sl_Scale_place : Array (Option Value)} {f_Scale_led : Addr} {kV_Scale_led : Value}
    {dc_Scale_led : Value} {pm_Scale_led : Value} {cd_Scale_led : Value} {ct_Scale_led : Value} {oc_Scale_led : Value} {od_Scale_led : Option Addr} {an_Scale_led : Option Addr} {sl_Scale_led : Array (Option Value)} {f_insert_new : Addr} {kV_insert_new : Value} {dc_insert_new : Value} {pm_insert_new : Value}
    {cd_insert_new : Value} {ct_insert_new : Value} {oc_insert_new : Value} {od_insert_new : Option Addr} {an_insert_new : Option Addr} {sl_insert_new : Array (Option Value)} {f_distinct : Addr} {kV_distinct : Value} {dc_distinct : Value} {pm_distinct : Value} {cd_distinct : Value} {ct_distinct : Value}
    {oc_distinct : Value} {od_distinct : Option Addr} {an_distinct : Option Addr} {sl_distinct : Array (Option Value)} {f_climbs : Addr} {kV_climbs : Value} {dc_climbs : Value} {pm_climbs : Value} {cd_climbs : Value} {ct_climbs : Value} {oc_climbs : Value} {od_climbs : Option Addr}
    {an_climbs : Option Addr} {sl_climbs : Array (Option Value)} {f_Ltape : Addr} {kV_Ltape : Value} {dc_Ltape : Value} {pm_Ltape : Value} {cd_Ltape : Value} {ct_Ltape : Value} {oc_Ltape : Value} {od_Ltape : Option Addr} {an_Ltape : Option Addr} {sl_Ltape : Array (Option Value)}
    {f_Lpick : Addr} {kV_Lpick : Value} {dc_Lpick : Value} {pm_Lpick : Value} {cd_Lpick : Value} {ct_Lpick : Value} {oc_Lpick : Value} {od_Lpick : Option Addr} {an_Lpick : Option Addr} {sl_Lpick : Array (Option Value)} {f_Lmixed : Addr} {kV_Lmixed : Value}
    {dc_Lmixed : Value} {pm_Lmixed : Value} {cd_Lmixed : Value} {ct_Lmixed : Value} {oc_Lmixed : Value} {od_Lmixed : Option Addr} {an_Lmixed : Option Addr} {sl_Lmixed : Array (Option Value)} {f_Lshown : Addr} {kV_Lshown : Value} {dc_Lshown : Value} {pm_Lshown : Value}
    {cd_Lshown : Value} {ct_Lshown : Value} {oc_Lshown : Value} {od_Lshown : Option Addr} {an_Lshown : Option Addr} {sl_Lshown : Array (Option Value)} {f_Lvalues : Addr} {kV_Lvalues : Value} {dc_Lvalues : Value} {pm_Lvalues : Value} {cd_Lvalues : Value} {ct_Lvalues : Value}
    {oc_Lvalues : Value} {od_Lvalues : Option Addr} {an_Lvalues : Option Addr} {sl_Lvalues : Array (Option Value)} {f_Lmade : Addr} {kV_Lmade : Value} {dc_Lmade : Value} {pm_Lmade : Value} {cd_Lmade : Value} {ct_Lmade : Value} {oc_Lmade : Value} {od_Lmade : Option Addr}
    {an_Lmade : Option Addr} {sl_Lmade : Array (Option Value)} {f_Lis : Addr} {kV_Lis : Value} {dc_Lis : Value} {pm_Lis : Value} {cd_Lis : Value} {ct_Lis : Value} {oc_Lis : Value} {od_Lis : Option Addr} {an_Lis : Option Addr} {sl_Lis : Array (Option Value)}
    {f_Lrefused : Addr} {kV_Lrefused : Value} {dc_Lrefused : Value} {pm_Lrefused : Value} {cd_Lrefused : Value} {ct_Lrefused : Value} {oc_Lrefused : Value} {od_Lrefused : Option Addr} {an_Lrefused : Option Addr} {sl_Lrefused : Array (Option Value)} {f_Lrefused_right : Addr} {kV_Lrefused_right : Value}
    {dc_Lrefused_right : Value} {pm_Lrefused_right : Value} {cd_Lrefused_right : Value} {ct_Lrefused_right : Value} {oc_Lrefused_right : Value} {od_Lrefused_right : Option Addr} {an_Lrefused_right : Option Addr} {sl_Lrefused_right : Array (Option Value)} {f_law : Addr} {kV_law : Value} {dc_law : Value} {pm_law : Value}
    {cd_law : Value} {ct_law : Value} {oc_law : Value} {od_law : Option Addr} {an_law : Option Addr} {sl_law : Array (Option Value)} {onm_BadNumber : Str} {oq_BadNumber : Str} {oN_BadNumber : Addr} {obs_BadNumber : List Value} {obm_BadNumber : List Value} {osn_BadNumber : List Str}
    {osub_BadNumber : List Value} {oab_BadNumber : Bool} {ocol_BadNumber : Option Bool} {odd_BadNumber : Option Addr} {om0_BadNumber : Option Value} {om1_BadNumber : Option Value} {om2_BadNumber : Option Value} {om3_BadNumber : Option Value} {om5_BadNumber : Option Value} {onm_BadValues : Str} {oq_BadValues : Str} {oN_BadValues : Addr}
    {obs_BadValues : List Value} {obm_BadValues : List Value} {osn_BadValues : List Str} {osub_BadValues : List Value} {oab_BadValues : Bool} {ocol_BadValues : Option Bool} {odd_BadValues : Option Addr} {om0_BadValues : Option Value} {om1_BadValues : Option Value} {om2_BadValues : Option Value} {om3_BadValues : Option Value} {om5_BadValues : Option Value}
    {onm_NoValue : Str} {oq_NoValue : Str} {oN_NoValue : Addr} {obs_NoValue : List Value} {obm_NoValue : List Value} {osn_NoValue : List Str} {osub_NoValue : List Value} {oab_NoValue : Bool} {ocol_NoValue : Option Bool} {odd_NoValue : Option Addr} {om0_NoValue : Option Value} {om1_NoValue : Option Value}
    {om2_NoValue : Option Value} {om3_NoValue : Option Value} {om5_NoValue : Option Value} {tkc_MOST_VALUES : Tok} {vo_add : Option Value} {vr_add : Option Value} {vo_sub : Option Value} {vr_sub : Option Value} {vo_mul : Option Value} {vr_mul : Option Value}
    (aC_MeansError : PySem.W.nsIn K mainGlobals "MeansError" = some (some (.ref C_MeansError)))
    (aC_ByZero : PySem.W.nsIn K mainGlobals "ByZero" = some (some (.ref C_ByZero)))
    (aC_BadText : PySem.W.nsIn K mainGlobals "BadText" = some (some (.ref C_BadText)))
    (aC_BadNumber : PySem.W.nsIn K mainGlobals "BadNumber" = some (some (.ref C_BadNumber)))
    (aC_BadValues : PySem.W.nsIn K mainGlobals "BadValues" = some (some (.ref C_BadValues)))
    (aC_NoValue : PySem.W.nsIn K mainGlobals "NoValue" = some (some (.ref C_NoValue)))
    (aC_Ratio : PySem.W.nsIn K mainGlobals "Ratio" = some (some (.ref C_Ratio)))
    (aC_Scale : PySem.W.nsIn K mainGlobals "Scale" = some (some (.ref C_Scale)))
    (a_BadNumber_init : PySem.W.findIn K (.ref C_BadNumber) "__init__" = some (some (.ref f_BadNumber_init)))
    (i_BadNumber_init : PySem.W.isFn K (.ref f_BadNumber_init) = true)
    (l_BadNumber_init : K.lookup f_BadNumber_init = some ⟨oc_BadNumber_init, od_BadNumber_init, .func (PySem.W.fnOf "__init__" "BadNumber.__init__" (defArgs s_BadNumber_init) (defBody s_BadNumber_init) (defScope s_BadNumber_init) .none kV_BadNumber_init dc_BadNumber_init pm_BadNumber_init an_BadNumber_init cd_BadNumber_init ct_BadNumber_init), sl_BadNumber_init⟩)
    (c_BadNumber_init : PySem.W.codeIn K cd_BadNumber_init "BadNumber.__init__" = true)
    (k_BadNumber_init : PySem.W.keepIn K (.ref f_BadNumber_init) = true)
    (a_BadValues_init : PySem.W.findIn K (.ref C_BadValues) "__init__" = some (some (.ref f_BadValues_init)))
    (i_BadValues_init : PySem.W.isFn K (.ref f_BadValues_init) = true)
    (l_BadValues_init : K.lookup f_BadValues_init = some ⟨oc_BadValues_init, od_BadValues_init, .func (PySem.W.fnOf "__init__" "BadValues.__init__" (defArgs s_BadValues_init) (defBody s_BadValues_init) (defScope s_BadValues_init) .none kV_BadValues_init dc_BadValues_init pm_BadValues_init an_BadValues_init cd_BadValues_init ct_BadValues_init), sl_BadValues_init⟩)
    (c_BadValues_init : PySem.W.codeIn K cd_BadValues_init "BadValues.__init__" = true)
    (k_BadValues_init : PySem.W.keepIn K (.ref f_BadValues_init) = true)
    (a_NoValue_init : PySem.W.findIn K (.ref C_NoValue) "__init__" = some (some (.ref f_NoValue_init)))
    (i_NoValue_init : PySem.W.isFn K (.ref f_NoValue_init) = true)
    (l_NoValue_init : K.lookup f_NoValue_init = some ⟨oc_NoValue_init, od_NoValue_init, .func (PySem.W.fnOf "__init__" "NoValue.__init__" (defArgs s_NoValue_init) (defBody s_NoValue_init) (defScope s_NoValue_init) .none kV_NoValue_init dc_NoValue_init pm_NoValue_init an_NoValue_init cd_NoValue_init ct_NoValue_init), sl_NoValue_init⟩)
    (c_NoValue_init : PySem.W.codeIn K cd_NoValue_init "NoValue.__init__" = true)
    (k_NoValue_init : PySem.W.keepIn K (.ref f_NoValue_init) = true)
    (a_Ratio_init : PySem.W.findIn K (.ref C_Ratio) "__init__" = some (some (.ref f_Ratio_init)))
    (i_Ratio_init : PySem.W.isFn K (.ref f_Ratio_init) = true)
    (l_Ratio_init : K.lookup f_Ratio_init = some ⟨oc_Ratio_init, od_Ratio_init, .func (PySem.W.fnOf "__init__" "Ratio.__init__" (defArgs s_Ratio_init) (defBody s_Ratio_init) (defScope s_Ratio_init) (.ref T_Ratio_init) kV_Ratio_init dc_Ratio_init pm_Ratio_init an_Ratio_init cd_Ratio_init ct_Ratio_init), sl_Ratio_init⟩)
    (lT_Ratio_init : K.lookup T_Ratio_init = some ⟨ocT_Ratio_init, odT_Ratio_init, .seq [Value.int 1 tk0_Ratio_init].toArray nT_Ratio_init, slT_Ratio_init⟩)
    (c_Ratio_init : PySem.W.codeIn K cd_Ratio_init "Ratio.__init__" = true)
    (k_Ratio_init : PySem.W.keepIn K (.ref f_Ratio_init) = true)
    (a_Ratio_add : PySem.W.findIn K (.ref C_Ratio) "__add__" = some (some (.ref f_Ratio_add)))
    (i_Ratio_add : PySem.W.isFn K (.ref f_Ratio_add) = true)
    (l_Ratio_add : K.lookup f_Ratio_add = some ⟨oc_Ratio_add, od_Ratio_add, .func (PySem.W.fnOf "__add__" "Ratio.__add__" (defArgs s_Ratio_add) (defBody s_Ratio_add) (defScope s_Ratio_add) .none kV_Ratio_add dc_Ratio_add pm_Ratio_add an_Ratio_add cd_Ratio_add ct_Ratio_add), sl_Ratio_add⟩)
    (c_Ratio_add : PySem.W.codeIn K cd_Ratio_add "Ratio.__add__" = true)
    (k_Ratio_add : PySem.W.keepIn K (.ref f_Ratio_add) = true)
    (a_Ratio_sub : PySem.W.findIn K (.ref C_Ratio) "__sub__" = some (some (.ref f_Ratio_sub)))
    (i_Ratio_sub : PySem.W.isFn K (.ref f_Ratio_sub) = true)
    (l_Ratio_sub : K.lookup f_Ratio_sub = some ⟨oc_Ratio_sub, od_Ratio_sub, .func (PySem.W.fnOf "__sub__" "Ratio.__sub__" (defArgs s_Ratio_sub) (defBody s_Ratio_sub) (defScope s_Ratio_sub) .none kV_Ratio_sub dc_Ratio_sub pm_Ratio_sub an_Ratio_sub cd_Ratio_sub ct_Ratio_sub), sl_Ratio_sub⟩)
    (c_Ratio_sub : PySem.W.codeIn K cd_Ratio_sub "Ratio.__sub__" = true)
    (k_Ratio_sub : PySem.W.keepIn K (.ref f_Ratio_sub) = true)
    (a_Ratio_mul : PySem.W.findIn K (.ref C_Ratio) "__mul__" = some (some (.ref f_Ratio_mul)))
    (i_Ratio_mul : PySem.W.isFn K (.ref f_Ratio_mul) = true)
    (l_Ratio_mul : K.lookup f_Ratio_mul = some ⟨oc_Ratio_mul, od_Ratio_mul, .func (PySem.W.fnOf "__mul__" "Ratio.__mul__" (defArgs s_Ratio_mul) (defBody s_Ratio_mul) (defScope s_Ratio_mul) .none kV_Ratio_mul dc_Ratio_mul pm_Ratio_mul an_Ratio_mul cd_Ratio_mul ct_Ratio_mul), sl_Ratio_mul⟩)
    (c_Ratio_mul : PySem.W.codeIn K cd_Ratio_mul "Ratio.__mul__" = true)
    (k_Ratio_mul : PySem.W.keepIn K (.ref f_Ratio_mul) = true)
    (a_Ratio_neg : PySem.W.findIn K (.ref C_Ratio) "__neg__" = some (some (.ref f_Ratio_neg)))
    (i_Ratio_neg : PySem.W.isFn K (.ref f_Ratio_neg) = true)
    (l_Ratio_neg : K.lookup f_Ratio_neg = some ⟨oc_Ratio_neg, od_Ratio_neg, .func (PySem.W.fnOf "__neg__" "Ratio.__neg__" (defArgs s_Ratio_neg) (defBody s_Ratio_neg) (defScope s_Ratio_neg) .none kV_Ratio_neg dc_Ratio_neg pm_Ratio_neg an_Ratio_neg cd_Ratio_neg ct_Ratio_neg), sl_Ratio_neg⟩)
    (c_Ratio_neg : PySem.W.codeIn K cd_Ratio_neg "Ratio.__neg__" = true)
    (k_Ratio_neg : PySem.W.keepIn K (.ref f_Ratio_neg) = true)
    (a_Ratio_eq : PySem.W.findIn K (.ref C_Ratio) "__eq__" = some (some (.ref f_Ratio_eq)))
    (i_Ratio_eq : PySem.W.isFn K (.ref f_Ratio_eq) = true)
    (l_Ratio_eq : K.lookup f_Ratio_eq = some ⟨oc_Ratio_eq, od_Ratio_eq, .func (PySem.W.fnOf "__eq__" "Ratio.__eq__" (defArgs s_Ratio_eq) (defBody s_Ratio_eq) (defScope s_Ratio_eq) .none kV_Ratio_eq dc_Ratio_eq pm_Ratio_eq an_Ratio_eq cd_Ratio_eq ct_Ratio_eq), sl_Ratio_eq⟩)
    (c_Ratio_eq : PySem.W.codeIn K cd_Ratio_eq "Ratio.__eq__" = true)
    (k_Ratio_eq : PySem.W.keepIn K (.ref f_Ratio_eq) = true)
    (a_Ratio_lt : PySem.W.findIn K (.ref C_Ratio) "__lt__" = some (some (.ref f_Ratio_lt)))
    (i_Ratio_lt : PySem.W.isFn K (.ref f_Ratio_lt) = true)
    (l_Ratio_lt : K.lookup f_Ratio_lt = some ⟨oc_Ratio_lt, od_Ratio_lt, .func (PySem.W.fnOf "__lt__" "Ratio.__lt__" (defArgs s_Ratio_lt) (defBody s_Ratio_lt) (defScope s_Ratio_lt) .none kV_Ratio_lt dc_Ratio_lt pm_Ratio_lt an_Ratio_lt cd_Ratio_lt ct_Ratio_lt), sl_Ratio_lt⟩)
    (c_Ratio_lt : PySem.W.codeIn K cd_Ratio_lt "Ratio.__lt__" = true)
    (k_Ratio_lt : PySem.W.keepIn K (.ref f_Ratio_lt) = true)
    (a_Ratio_le : PySem.W.findIn K (.ref C_Ratio) "__le__" = some (some (.ref f_Ratio_le)))
    (i_Ratio_le : PySem.W.isFn K (.ref f_Ratio_le) = true)
    (l_Ratio_le : K.lookup f_Ratio_le = some ⟨oc_Ratio_le, od_Ratio_le, .func (PySem.W.fnOf "__le__" "Ratio.__le__" (defArgs s_Ratio_le) (defBody s_Ratio_le) (defScope s_Ratio_le) .none kV_Ratio_le dc_Ratio_le pm_Ratio_le an_Ratio_le cd_Ratio_le ct_Ratio_le), sl_Ratio_le⟩)
    (c_Ratio_le : PySem.W.codeIn K cd_Ratio_le "Ratio.__le__" = true)
    (k_Ratio_le : PySem.W.keepIn K (.ref f_Ratio_le) = true)
    (a_is_whole : PySem.W.nsIn K mainGlobals "is_whole" = some (some (.ref f_is_whole)))
    (l_is_whole : K.lookup f_is_whole = some ⟨oc_is_whole, od_is_whole, .func (PySem.W.fnOf "is_whole" "is_whole" (defArgs s_is_whole) (defBody s_is_whole) (defScope s_is_whole) .none kV_is_whole dc_is_whole pm_is_whole an_is_whole cd_is_whole ct_is_whole), sl_is_whole⟩)
    (c_is_whole : PySem.W.codeIn K cd_is_whole "is_whole" = true)
    (k_is_whole : PySem.W.keepIn K (.ref f_is_whole) = true)
    (a_is_number : PySem.W.nsIn K mainGlobals "is_number" = some (some (.ref f_is_number)))
    (l_is_number : K.lookup f_is_number = some ⟨oc_is_number, od_is_number, .func (PySem.W.fnOf "is_number" "is_number" (defArgs s_is_number) (defBody s_is_number) (defScope s_is_number) .none kV_is_number dc_is_number pm_is_number an_is_number cd_is_number ct_is_number), sl_is_number⟩)
    (c_is_number : PySem.W.codeIn K cd_is_number "is_number" = true)
    (k_is_number : PySem.W.keepIn K (.ref f_is_number) = true)
    (a_are_numbers : PySem.W.nsIn K mainGlobals "are_numbers" = some (some (.ref f_are_numbers)))
    (l_are_numbers : K.lookup f_are_numbers = some ⟨oc_are_numbers, od_are_numbers, .func (PySem.W.fnOf "are_numbers" "are_numbers" (defArgs s_are_numbers) (defBody s_are_numbers) (defScope s_are_numbers) .none kV_are_numbers dc_are_numbers pm_are_numbers an_are_numbers cd_are_numbers ct_are_numbers), sl_are_numbers⟩)
    (c_are_numbers : PySem.W.codeIn K cd_are_numbers "are_numbers" = true)
    (k_are_numbers : PySem.W.keepIn K (.ref f_are_numbers) = true)
    (a_as_ratio : PySem.W.nsIn K mainGlobals "as_ratio" = some (some (.ref f_as_ratio)))
    (l_as_ratio : K.lookup f_as_ratio = some ⟨oc_as_ratio, od_as_ratio, .func (PySem.W.fnOf "as_ratio" "as_ratio" (defArgs s_as_ratio) (defBody s_as_ratio) (defScope s_as_ratio) .none kV_as_ratio dc_as_ratio pm_as_ratio an_as_ratio cd_as_ratio ct_as_ratio), sl_as_ratio⟩)
    (c_as_ratio : PySem.W.codeIn K cd_as_ratio "as_ratio" = true)
    (k_as_ratio : PySem.W.keepIn K (.ref f_as_ratio) = true)
    (a_Scale_init : PySem.W.findIn K (.ref C_Scale) "__init__" = some (some (.ref f_Scale_init)))
    (i_Scale_init : PySem.W.isFn K (.ref f_Scale_init) = true)
    (l_Scale_init : K.lookup f_Scale_init = some ⟨oc_Scale_init, od_Scale_init, .func (PySem.W.fnOf "__init__" "Scale.__init__" (defArgs s_Scale_init) (defBody s_Scale_init) (defScope s_Scale_init) .none kV_Scale_init dc_Scale_init pm_Scale_init an_Scale_init cd_Scale_init ct_Scale_init), sl_Scale_init⟩)
    (c_Scale_init : PySem.W.codeIn K cd_Scale_init "Scale.__init__" = true)
    (k_Scale_init : PySem.W.keepIn K (.ref f_Scale_init) = true)
    (a_Scale_len : PySem.W.findIn K (.ref C_Scale) "__len__" = some (some (.ref f_Scale_len)))
    (i_Scale_len : PySem.W.isFn K (.ref f_Scale_len) = true)
    (l_Scale_len : K.lookup f_Scale_len = some ⟨oc_Scale_len, od_Scale_len, .func (PySem.W.fnOf "__len__" "Scale.__len__" (defArgs s_Scale_len) (defBody s_Scale_len) (defScope s_Scale_len) .none kV_Scale_len dc_Scale_len pm_Scale_len an_Scale_len cd_Scale_len ct_Scale_len), sl_Scale_len⟩)
    (c_Scale_len : PySem.W.codeIn K cd_Scale_len "Scale.__len__" = true)
    (k_Scale_len : PySem.W.keepIn K (.ref f_Scale_len) = true)
    (a_Scale_eq : PySem.W.findIn K (.ref C_Scale) "__eq__" = some (some (.ref f_Scale_eq)))
    (i_Scale_eq : PySem.W.isFn K (.ref f_Scale_eq) = true)
    (l_Scale_eq : K.lookup f_Scale_eq = some ⟨oc_Scale_eq, od_Scale_eq, .func (PySem.W.fnOf "__eq__" "Scale.__eq__" (defArgs s_Scale_eq) (defBody s_Scale_eq) (defScope s_Scale_eq) .none kV_Scale_eq dc_Scale_eq pm_Scale_eq an_Scale_eq cd_Scale_eq ct_Scale_eq), sl_Scale_eq⟩)
    (c_Scale_eq : PySem.W.codeIn K cd_Scale_eq "Scale.__eq__" = true)
    (k_Scale_eq : PySem.W.keepIn K (.ref f_Scale_eq) = true)
    (a_Scale_marks : PySem.W.findIn K (.ref C_Scale) "marks" = some (some (.ref f_Scale_marks)))
    (i_Scale_marks : PySem.W.isFn K (.ref f_Scale_marks) = true)
    (l_Scale_marks : K.lookup f_Scale_marks = some ⟨oc_Scale_marks, od_Scale_marks, .func (PySem.W.fnOf "marks" "Scale.marks" (defArgs s_Scale_marks) (defBody s_Scale_marks) (defScope s_Scale_marks) .none kV_Scale_marks dc_Scale_marks pm_Scale_marks an_Scale_marks cd_Scale_marks ct_Scale_marks), sl_Scale_marks⟩)
    (c_Scale_marks : PySem.W.codeIn K cd_Scale_marks "Scale.marks" = true)
    (k_Scale_marks : PySem.W.keepIn K (.ref f_Scale_marks) = true)
    (a_Scale_place : PySem.W.findIn K (.ref C_Scale) "place" = some (some (.ref f_Scale_place)))
    (i_Scale_place : PySem.W.isFn K (.ref f_Scale_place) = true)
    (l_Scale_place : K.lookup f_Scale_place = some ⟨oc_Scale_place, od_Scale_place, .func (PySem.W.fnOf "place" "Scale.place" (defArgs s_Scale_place) (defBody s_Scale_place) (defScope s_Scale_place) .none kV_Scale_place dc_Scale_place pm_Scale_place an_Scale_place cd_Scale_place ct_Scale_place), sl_Scale_place⟩)
    (c_Scale_place : PySem.W.codeIn K cd_Scale_place "Scale.place" = true)
    (k_Scale_place : PySem.W.keepIn K (.ref f_Scale_place) = true)
    (a_Scale_led : PySem.W.findIn K (.ref C_Scale) "led" = some (some (.ref f_Scale_led)))
    (i_Scale_led : PySem.W.isFn K (.ref f_Scale_led) = true)
    (l_Scale_led : K.lookup f_Scale_led = some ⟨oc_Scale_led, od_Scale_led, .func (PySem.W.fnOf "led" "Scale.led" (defArgs s_Scale_led) (defBody s_Scale_led) (defScope s_Scale_led) .none kV_Scale_led dc_Scale_led pm_Scale_led an_Scale_led cd_Scale_led ct_Scale_led), sl_Scale_led⟩)
    (c_Scale_led : PySem.W.codeIn K cd_Scale_led "Scale.led" = true)
    (k_Scale_led : PySem.W.keepIn K (.ref f_Scale_led) = true)
    (a_insert_new : PySem.W.nsIn K mainGlobals "insert_new" = some (some (.ref f_insert_new)))
    (l_insert_new : K.lookup f_insert_new = some ⟨oc_insert_new, od_insert_new, .func (PySem.W.fnOf "insert_new" "insert_new" (defArgs s_insert_new) (defBody s_insert_new) (defScope s_insert_new) .none kV_insert_new dc_insert_new pm_insert_new an_insert_new cd_insert_new ct_insert_new), sl_insert_new⟩)
    (c_insert_new : PySem.W.codeIn K cd_insert_new "insert_new" = true)
    (k_insert_new : PySem.W.keepIn K (.ref f_insert_new) = true)
    (a_distinct : PySem.W.nsIn K mainGlobals "distinct" = some (some (.ref f_distinct)))
    (l_distinct : K.lookup f_distinct = some ⟨oc_distinct, od_distinct, .func (PySem.W.fnOf "distinct" "distinct" (defArgs s_distinct) (defBody s_distinct) (defScope s_distinct) .none kV_distinct dc_distinct pm_distinct an_distinct cd_distinct ct_distinct), sl_distinct⟩)
    (c_distinct : PySem.W.codeIn K cd_distinct "distinct" = true)
    (k_distinct : PySem.W.keepIn K (.ref f_distinct) = true)
    (a_climbs : PySem.W.nsIn K mainGlobals "climbs" = some (some (.ref f_climbs)))
    (l_climbs : K.lookup f_climbs = some ⟨oc_climbs, od_climbs, .func (PySem.W.fnOf "climbs" "climbs" (defArgs s_climbs) (defBody s_climbs) (defScope s_climbs) .none kV_climbs dc_climbs pm_climbs an_climbs cd_climbs ct_climbs), sl_climbs⟩)
    (c_climbs : PySem.W.codeIn K cd_climbs "climbs" = true)
    (k_climbs : PySem.W.keepIn K (.ref f_climbs) = true)
    (a_Ltape : PySem.W.nsIn K mainGlobals "_law_tape" = some (some (.ref f_Ltape)))
    (l_Ltape : K.lookup f_Ltape = some ⟨oc_Ltape, od_Ltape, .func (PySem.W.fnOf "_law_tape" "_law_tape" (defArgs s_Ltape) (defBody s_Ltape) (defScope s_Ltape) .none kV_Ltape dc_Ltape pm_Ltape an_Ltape cd_Ltape ct_Ltape), sl_Ltape⟩)
    (c_Ltape : PySem.W.codeIn K cd_Ltape "_law_tape" = true)
    (k_Ltape : PySem.W.keepIn K (.ref f_Ltape) = true)
    (a_Lpick : PySem.W.nsIn K mainGlobals "_law_pick" = some (some (.ref f_Lpick)))
    (l_Lpick : K.lookup f_Lpick = some ⟨oc_Lpick, od_Lpick, .func (PySem.W.fnOf "_law_pick" "_law_pick" (defArgs s_Lpick) (defBody s_Lpick) (defScope s_Lpick) .none kV_Lpick dc_Lpick pm_Lpick an_Lpick cd_Lpick ct_Lpick), sl_Lpick⟩)
    (c_Lpick : PySem.W.codeIn K cd_Lpick "_law_pick" = true)
    (k_Lpick : PySem.W.keepIn K (.ref f_Lpick) = true)
    (a_Lmixed : PySem.W.nsIn K mainGlobals "_law_mixed" = some (some (.ref f_Lmixed)))
    (l_Lmixed : K.lookup f_Lmixed = some ⟨oc_Lmixed, od_Lmixed, .func (PySem.W.fnOf "_law_mixed" "_law_mixed" (defArgs s_Lmixed) (defBody s_Lmixed) (defScope s_Lmixed) .none kV_Lmixed dc_Lmixed pm_Lmixed an_Lmixed cd_Lmixed ct_Lmixed), sl_Lmixed⟩)
    (c_Lmixed : PySem.W.codeIn K cd_Lmixed "_law_mixed" = true)
    (k_Lmixed : PySem.W.keepIn K (.ref f_Lmixed) = true)
    (a_Lshown : PySem.W.nsIn K mainGlobals "_law_shown" = some (some (.ref f_Lshown)))
    (l_Lshown : K.lookup f_Lshown = some ⟨oc_Lshown, od_Lshown, .func (PySem.W.fnOf "_law_shown" "_law_shown" (defArgs s_Lshown) (defBody s_Lshown) (defScope s_Lshown) .none kV_Lshown dc_Lshown pm_Lshown an_Lshown cd_Lshown ct_Lshown), sl_Lshown⟩)
    (c_Lshown : PySem.W.codeIn K cd_Lshown "_law_shown" = true)
    (k_Lshown : PySem.W.keepIn K (.ref f_Lshown) = true)
    (a_Lvalues : PySem.W.nsIn K mainGlobals "_law_values" = some (some (.ref f_Lvalues)))
    (l_Lvalues : K.lookup f_Lvalues = some ⟨oc_Lvalues, od_Lvalues, .func (PySem.W.fnOf "_law_values" "_law_values" (defArgs s_Lvalues) (defBody s_Lvalues) (defScope s_Lvalues) .none kV_Lvalues dc_Lvalues pm_Lvalues an_Lvalues cd_Lvalues ct_Lvalues), sl_Lvalues⟩)
    (c_Lvalues : PySem.W.codeIn K cd_Lvalues "_law_values" = true)
    (k_Lvalues : PySem.W.keepIn K (.ref f_Lvalues) = true)
    (a_Lmade : PySem.W.nsIn K mainGlobals "_law_made" = some (some (.ref f_Lmade)))
    (l_Lmade : K.lookup f_Lmade = some ⟨oc_Lmade, od_Lmade, .func (PySem.W.fnOf "_law_made" "_law_made" (defArgs s_Lmade) (defBody s_Lmade) (defScope s_Lmade) .none kV_Lmade dc_Lmade pm_Lmade an_Lmade cd_Lmade ct_Lmade), sl_Lmade⟩)
    (c_Lmade : PySem.W.codeIn K cd_Lmade "_law_made" = true)
    (k_Lmade : PySem.W.keepIn K (.ref f_Lmade) = true)
    (a_Lis : PySem.W.nsIn K mainGlobals "_law_is" = some (some (.ref f_Lis)))
    (l_Lis : K.lookup f_Lis = some ⟨oc_Lis, od_Lis, .func (PySem.W.fnOf "_law_is" "_law_is" (defArgs s_Lis) (defBody s_Lis) (defScope s_Lis) .none kV_Lis dc_Lis pm_Lis an_Lis cd_Lis ct_Lis), sl_Lis⟩)
    (c_Lis : PySem.W.codeIn K cd_Lis "_law_is" = true)
    (k_Lis : PySem.W.keepIn K (.ref f_Lis) = true)
    (a_Lrefused : PySem.W.nsIn K mainGlobals "_law_refused" = some (some (.ref f_Lrefused)))
    (l_Lrefused : K.lookup f_Lrefused = some ⟨oc_Lrefused, od_Lrefused, .func (PySem.W.fnOf "_law_refused" "_law_refused" (defArgs s_Lrefused) (defBody s_Lrefused) (defScope s_Lrefused) .none kV_Lrefused dc_Lrefused pm_Lrefused an_Lrefused cd_Lrefused ct_Lrefused), sl_Lrefused⟩)
    (c_Lrefused : PySem.W.codeIn K cd_Lrefused "_law_refused" = true)
    (k_Lrefused : PySem.W.keepIn K (.ref f_Lrefused) = true)
    (a_Lrefused_right : PySem.W.nsIn K mainGlobals "_law_refused_right" = some (some (.ref f_Lrefused_right)))
    (l_Lrefused_right : K.lookup f_Lrefused_right = some ⟨oc_Lrefused_right, od_Lrefused_right, .func (PySem.W.fnOf "_law_refused_right" "_law_refused_right" (defArgs s_Lrefused_right) (defBody s_Lrefused_right) (defScope s_Lrefused_right) .none kV_Lrefused_right dc_Lrefused_right pm_Lrefused_right an_Lrefused_right cd_Lrefused_right ct_Lrefused_right), sl_Lrefused_right⟩)
    (c_Lrefused_right : PySem.W.codeIn K cd_Lrefused_right "_law_refused_right" = true)
    (k_Lrefused_right : PySem.W.keepIn K (.ref f_Lrefused_right) = true)
    (a_law : PySem.W.nsIn K mainGlobals "law" = some (some (.ref f_law)))
    (l_law : K.lookup f_law = some ⟨oc_law, od_law, .func (PySem.W.fnOf "law" "law" (defArgs s_law) (defBody s_law) (defScope s_law) .none kV_law dc_law pm_law an_law cd_law ct_law), sl_law⟩)
    (c_law : PySem.W.codeIn K cd_law "law" = true)
    (k_law : PySem.W.keepIn K (.ref f_law) = true)
    (xex_ByZero : PySem.W.excIn K C_ByZero [.type "ValueError", .type "Exception", .type "BaseException", .type "object"] "ValueError.__new__" = true)
    (xkp_ByZero : PySem.W.keepIn K (.ref C_ByZero) = true)
    (xbx_ByZero : PySem.W.subIn K (.ref C_ByZero) (.type "BaseException") = some true)
    (xty_ByZero : PySem.W.typeIn K (.ref C_ByZero) = some (.type "type"))
    (xcls_ByZero : PySem.W.isClsIn K C_ByZero = true)
    (xsub_ByZero : PySem.W.subIn K (.ref C_ByZero) (.ref C_ByZero) = some true)
    (xex_BadText : PySem.W.excIn K C_BadText [.type "ValueError", .type "Exception", .type "BaseException", .type "object"] "ValueError.__new__" = true)
    (xkp_BadText : PySem.W.keepIn K (.ref C_BadText) = true)
    (xbx_BadText : PySem.W.subIn K (.ref C_BadText) (.type "BaseException") = some true)
    (xty_BadText : PySem.W.typeIn K (.ref C_BadText) = some (.type "type"))
    (xcls_BadText : PySem.W.isClsIn K C_BadText = true)
    (xsub_BadText : PySem.W.subIn K (.ref C_BadText) (.ref C_BadText) = some true)
    (olk_BadNumber : K.lookup C_BadNumber = some (excClassObj onm_BadNumber oq_BadNumber C_BadNumber oN_BadNumber obs_BadNumber obm_BadNumber true osn_BadNumber osub_BadNumber oab_BadNumber ocol_BadNumber odd_BadNumber om0_BadNumber om1_BadNumber om2_BadNumber om3_BadNumber om5_BadNumber "ValueError.__new__"))
    (orv_BadNumber : PySem.HandSPX.refsVE obm_BadNumber = true)
    (osa_BadNumber : PySem.W.findIn K (.ref C_BadNumber) "__setattr__" = some (some (.builtin "object.__setattr__")))
    (oex_BadNumber : PySem.W.subIn K (.ref C_BadNumber) (.type "BaseException") = some true)
    (oty_BadNumber : PySem.W.typeIn K (.ref C_BadNumber) = some (.type "type"))
    (okp_BadNumber : PySem.W.keepIn K (.ref C_BadNumber) = true)
    (oti_BadNumber : PySem.W.typeIn K (.ref f_BadNumber_init) = some (.type "function"))
    (oga_BadNumber : PySem.W.findIn K (.ref C_BadNumber) "__getattribute__" = some (some (.builtin "BaseException.__getattribute__")))
    (ogg_BadNumber : PySem.W.findIn K (.ref C_BadNumber) "__getattr__" = some none)
    (ohd_BadNumber : PySem.W.hasDictIn K C_BadNumber = true)
    (ois_BadNumber : PySem.W.isClsIn K C_BadNumber = true)
    (oss_BadNumber : PySem.W.subIn K (.ref C_BadNumber) (.ref C_BadNumber) = some true)
    (oxa_BadNumber_given : PySem.W.findIn K (.ref C_BadNumber) "given" = some none)
    (oso_BadNumber_ByZero : PySem.W.subIn K (.ref C_BadNumber) (.ref C_ByZero) = some false)
    (oso_BadNumber_BadText : PySem.W.subIn K (.ref C_BadNumber) (.ref C_BadText) = some false)
    (oso_BadNumber_BadValues : PySem.W.subIn K (.ref C_BadNumber) (.ref C_BadValues) = some false)
    (oso_BadNumber_NoValue : PySem.W.subIn K (.ref C_BadNumber) (.ref C_NoValue) = some false)
    (olk_BadValues : K.lookup C_BadValues = some (excClassObj onm_BadValues oq_BadValues C_BadValues oN_BadValues obs_BadValues obm_BadValues true osn_BadValues osub_BadValues oab_BadValues ocol_BadValues odd_BadValues om0_BadValues om1_BadValues om2_BadValues om3_BadValues om5_BadValues "ValueError.__new__"))
    (orv_BadValues : PySem.HandSPX.refsVE obm_BadValues = true)
    (osa_BadValues : PySem.W.findIn K (.ref C_BadValues) "__setattr__" = some (some (.builtin "object.__setattr__")))
    (oex_BadValues : PySem.W.subIn K (.ref C_BadValues) (.type "BaseException") = some true)
    (oty_BadValues : PySem.W.typeIn K (.ref C_BadValues) = some (.type "type"))
    (okp_BadValues : PySem.W.keepIn K (.ref C_BadValues) = true)
    (oti_BadValues : PySem.W.typeIn K (.ref f_BadValues_init) = some (.type "function"))
    (oga_BadValues : PySem.W.findIn K (.ref C_BadValues) "__getattribute__" = some (some (.builtin "BaseException.__getattribute__")))
    (ogg_BadValues : PySem.W.findIn K (.ref C_BadValues) "__getattr__" = some none)
    (ohd_BadValues : PySem.W.hasDictIn K C_BadValues = true)
    (ois_BadValues : PySem.W.isClsIn K C_BadValues = true)
    (oss_BadValues : PySem.W.subIn K (.ref C_BadValues) (.ref C_BadValues) = some true)
    (oxa_BadValues_given : PySem.W.findIn K (.ref C_BadValues) "given" = some none)
    (oso_BadValues_ByZero : PySem.W.subIn K (.ref C_BadValues) (.ref C_ByZero) = some false)
    (oso_BadValues_BadText : PySem.W.subIn K (.ref C_BadValues) (.ref C_BadText) = some false)
    (oso_BadValues_BadNumber : PySem.W.subIn K (.ref C_BadValues) (.ref C_BadNumber) = some false)
    (oso_BadValues_NoValue : PySem.W.subIn K (.ref C_BadValues) (.ref C_NoValue) = some false)
    (olk_NoValue : K.lookup C_NoValue = some (excClassObj onm_NoValue oq_NoValue C_NoValue oN_NoValue obs_NoValue obm_NoValue true osn_NoValue osub_NoValue oab_NoValue ocol_NoValue odd_NoValue om0_NoValue om1_NoValue om2_NoValue om3_NoValue om5_NoValue "ValueError.__new__"))
    (orv_NoValue : PySem.HandSPX.refsVE obm_NoValue = true)
    (osa_NoValue : PySem.W.findIn K (.ref C_NoValue) "__setattr__" = some (some (.builtin "object.__setattr__")))
    (oex_NoValue : PySem.W.subIn K (.ref C_NoValue) (.type "BaseException") = some true)
    (oty_NoValue : PySem.W.typeIn K (.ref C_NoValue) = some (.type "type"))
    (okp_NoValue : PySem.W.keepIn K (.ref C_NoValue) = true)
    (oti_NoValue : PySem.W.typeIn K (.ref f_NoValue_init) = some (.type "function"))
    (oga_NoValue : PySem.W.findIn K (.ref C_NoValue) "__getattribute__" = some (some (.builtin "BaseException.__getattribute__")))
    (ogg_NoValue : PySem.W.findIn K (.ref C_NoValue) "__getattr__" = some none)
    (ohd_NoValue : PySem.W.hasDictIn K C_NoValue = true)
    (ois_NoValue : PySem.W.isClsIn K C_NoValue = true)
    (oss_NoValue : PySem.W.subIn K (.ref C_NoValue) (.ref C_NoValue) = some true)
    (oxa_NoValue_given : PySem.W.findIn K (.ref C_NoValue) "given" = some none)
    (oso_NoValue_ByZero : PySem.W.subIn K (.ref C_NoValue) (.ref C_ByZero) = some false)
    (oso_NoValue_BadText : PySem.W.subIn K (.ref C_NoValue) (.ref C_BadText) = some false)
    (oso_NoValue_BadNumber : PySem.W.subIn K (.ref C_NoValue) (.ref C_BadNumber) = some false)
    (oso_NoValue_BadValues : PySem.W.subIn K (.ref C_NoValue) (.ref C_BadValues) = some false)
    (z_abs : PySem.W.nsIn K mainGlobals "abs" = some none)
    (z_all : PySem.W.nsIn K mainGlobals "all" = some none)
    (z_bool : PySem.W.nsIn K mainGlobals "bool" = some none)
    (z_dict : PySem.W.nsIn K mainGlobals "dict" = some none)
    (z_enumerate : PySem.W.nsIn K mainGlobals "enumerate" = some none)
    (z_int : PySem.W.nsIn K mainGlobals "int" = some none)
    (z_isinstance : PySem.W.nsIn K mainGlobals "isinstance" = some none)
    (z_len : PySem.W.nsIn K mainGlobals "len" = some none)
    (z_list : PySem.W.nsIn K mainGlobals "list" = some none)
    (z_max : PySem.W.nsIn K mainGlobals "max" = some none)
    (z_min : PySem.W.nsIn K mainGlobals "min" = some none)
    (z_range : PySem.W.nsIn K mainGlobals "range" = some none)
    (z_repr : PySem.W.nsIn K mainGlobals "repr" = some none)
    (z_tuple : PySem.W.nsIn K mainGlobals "tuple" = some none)
    (z_zip : PySem.W.nsIn K mainGlobals "zip" = some none)
    (ac_MOST_VALUES : PySem.W.nsIn K mainGlobals "MOST_VALUES" = some (some (.int 8 tkc_MOST_VALUES)))
    (r_gcd : PySem.W.nsIn K mainGlobals "gcd" = some (some (.builtin "math.gcd")))
    (r_pg : PySem.W.plainGet K C_Ratio Str.empty = true)
    (r_hd : PySem.W.hasDictIn K C_Ratio = true)
    (r_po : PySem.W.plainOver K C_Ratio = true)
    (r_sa : PySem.W.findIn K (.ref C_Ratio) "__setattr__" = some (some (.builtin "object.__setattr__")))
    (r_nT : PySem.W.findIn K (.ref C_Ratio) "top" = some none)
    (r_nB : PySem.W.findIn K (.ref C_Ratio) "bottom" = some none)
    (r_ha : PySem.W.findIn K (.ref C_Ratio) "__class__" = some (some (.builtin "object.__class__")))
    (r_hn : PySem.W.specialIn K (.builtin "object.__class__") "__get__" = some (some (.builtin "getset_descriptor.__get__")))
    (r_htk : PySem.W.takesIn K (.builtin "object.__class__") = some true)
    (r_hm : PySem.W.mroIn K C_Ratio (.type "object") = some true)
    (r_si : PySem.W.subIn K (.ref C_Ratio) (.type "int") = some false)
    (r_own : PySem.W.isClsIn K C_Ratio = true)
    (r_ty : PySem.W.typeIn K (.ref C_Ratio) = some (.type "type"))
    (r_mk : PySem.W.makesIn K C_Ratio = true)
    (r_kp : PySem.W.keepIn K (.ref C_Ratio) = true)
    (r_sf : PySem.W.selfFirst K C_Ratio = true)
    (r_sub : PySem.W.subIn K (.type "int") (.ref C_Ratio) = some false)
    (r_ne : PySem.W.findIn K (.ref C_Ratio) "__ne__" = some (some (.builtin "object.__ne__")))
    (r_ob : PySem.W.subIn K (.ref C_Ratio) (.type "object") = some true)
    (r_nbool : PySem.W.subIn K (.type "bool") (.ref C_Ratio) = some false)
    (r_nNoneType : PySem.W.subIn K (.type "NoneType") (.ref C_Ratio) = some false)
    (r_nstr : PySem.W.subIn K (.type "str") (.ref C_Ratio) = some false)
    (r_nlist : PySem.W.subIn K (.type "list") (.ref C_Ratio) = some false)
    (r_ntuple : PySem.W.subIn K (.type "tuple") (.ref C_Ratio) = some false)
    (r_ndict : PySem.W.subIn K (.type "dict") (.ref C_Ratio) = some false)
    (r_radd : PySem.W.findIn K (.ref C_Ratio) "__radd__" = some none)
    (r_iadd : PySem.W.findIn K (.type "int") "__add__" = some vo_add)
    (r_jadd : PySem.W.findIn K (.type "int") "__radd__" = some vr_add)
    (r_rsub : PySem.W.findIn K (.ref C_Ratio) "__rsub__" = some none)
    (r_isub : PySem.W.findIn K (.type "int") "__sub__" = some vo_sub)
    (r_jsub : PySem.W.findIn K (.type "int") "__rsub__" = some vr_sub)
    (r_rmul : PySem.W.findIn K (.ref C_Ratio) "__rmul__" = some none)
    (r_imul : PySem.W.findIn K (.type "int") "__mul__" = some vo_mul)
    (r_jmul : PySem.W.findIn K (.type "int") "__rmul__" = some vr_mul)
    (s_pg : PySem.W.plainGet K C_Scale Str.empty = true)
    (s_hd : PySem.W.hasDictIn K C_Scale = true)
    (s_po : PySem.W.plainOver K C_Scale = true)
    (s_sa : PySem.W.findIn K (.ref C_Scale) "__setattr__" = some (some (.builtin "object.__setattr__")))
    (s_nM : PySem.W.findIn K (.ref C_Scale) "_marks" = some none)
    (s_ha : PySem.W.findIn K (.ref C_Scale) "__class__" = some (some (.builtin "object.__class__")))
    (s_hm : PySem.W.mroIn K C_Scale (.type "object") = some true)
    (s_own : PySem.W.isClsIn K C_Scale = true)
    (s_ty : PySem.W.typeIn K (.ref C_Scale) = some (.type "type"))
    (s_rat : PySem.W.subIn K (.ref C_Ratio) (.ref C_Scale) = some false)
    (s_mk : PySem.W.makesIn K C_Scale = true)
    (s_kp : PySem.W.keepIn K (.ref C_Scale) = true)
    (s_ne : PySem.W.findIn K (.ref C_Scale) "__ne__" = some (some (.builtin "object.__ne__")))
    (s_ob : PySem.W.subIn K (.ref C_Scale) (.type "object") = some true)
    (s_nm : PySem.W.findIn K (.ref C_Ratio) "marks" = some none)
    (s_rl : PySem.W.subIn K (.ref C_Ratio) (.type "list") = some false)
    (s_rt : PySem.W.subIn K (.ref C_Ratio) (.type "tuple") = some false)
    (s_rd : PySem.W.subIn K (.ref C_Ratio) (.type "dict") = some false)
    (s_nint : PySem.W.subIn K (.type "int") (.ref C_Scale) = some false)
    (s_nbool : PySem.W.subIn K (.type "bool") (.ref C_Scale) = some false)
    (s_nNoneType : PySem.W.subIn K (.type "NoneType") (.ref C_Scale) = some false)
    (s_nstr : PySem.W.subIn K (.type "str") (.ref C_Scale) = some false)
    (s_nlist : PySem.W.subIn K (.type "list") (.ref C_Scale) = some false)
    (s_ntuple : PySem.W.subIn K (.type "tuple") (.ref C_Scale) = some false)
    (s_ndict : PySem.W.subIn K (.type "dict") (.ref C_Scale) = some false)
    : ∃ fd : FuncData, (∀ (s : Shared) (v : Value), BindsTo s fd ⟨[v], []⟩ [("_law_script", v)]) ∧ ∀ base : Heap, K.In base → base.Ns mainGlobals mg → FnOk l.prog w K mg base CX0 13 fa fd ["_law_script"] (spLaw K) := by
  have e := hfa.symm.trans (PySem.W.mg_of X G a_law)
  cases e
  have T : Tx K mg { C_MeansError := C_MeansError, C_ByZero := C_ByZero, C_BadText := C_BadText, C_BadNumber := C_BadNumber, C_BadValues := C_BadValues, C_NoValue := C_NoValue, C_Ratio := C_Ratio, C_Scale := C_Scale, f_BadNumber_init := f_BadNumber_init, d_BadNumber_init := (PySem.W.fnOf "__init__" "BadNumber.__init__" (defArgs s_BadNumber_init) (defBody s_BadNumber_init) (defScope s_BadNumber_init) .none kV_BadNumber_init dc_BadNumber_init pm_BadNumber_init an_BadNumber_init cd_BadNumber_init ct_BadNumber_init), f_BadValues_init := f_BadValues_init, d_BadValues_init := (PySem.W.fnOf "__init__" "BadValues.__init__" (defArgs s_BadValues_init) (defBody s_BadValues_init) (defScope s_BadValues_init) .none kV_BadValues_init dc_BadValues_init pm_BadValues_init an_BadValues_init cd_BadValues_init ct_BadValues_init), f_NoValue_init := f_NoValue_init, d_NoValue_init := (PySem.W.fnOf "__init__" "NoValue.__init__" (defArgs s_NoValue_init) (defBody s_NoValue_init) (defScope s_NoValue_init) .none kV_NoValue_init dc_NoValue_init pm_NoValue_init an_NoValue_init cd_NoValue_init ct_NoValue_init), f_Ratio_init := f_Ratio_init, d_Ratio_init := (PySem.W.fnOf "__init__" "Ratio.__init__" (defArgs s_Ratio_init) (defBody s_Ratio_init) (defScope s_Ratio_init) (.ref T_Ratio_init) kV_Ratio_init dc_Ratio_init pm_Ratio_init an_Ratio_init cd_Ratio_init ct_Ratio_init), f_Ratio_add := f_Ratio_add, d_Ratio_add := (PySem.W.fnOf "__add__" "Ratio.__add__" (defArgs s_Ratio_add) (defBody s_Ratio_add) (defScope s_Ratio_add) .none kV_Ratio_add dc_Ratio_add pm_Ratio_add an_Ratio_add cd_Ratio_add ct_Ratio_add), f_Ratio_sub := f_Ratio_sub, d_Ratio_sub := (PySem.W.fnOf "__sub__" "Ratio.__sub__" (defArgs s_Ratio_sub) (defBody s_Ratio_sub) (defScope s_Ratio_sub) .none kV_Ratio_sub dc_Ratio_sub pm_Ratio_sub an_Ratio_sub cd_Ratio_sub ct_Ratio_sub), f_Ratio_mul := f_Ratio_mul, d_Ratio_mul := (PySem.W.fnOf "__mul__" "Ratio.__mul__" (defArgs s_Ratio_mul) (defBody s_Ratio_mul) (defScope s_Ratio_mul) .none kV_Ratio_mul dc_Ratio_mul pm_Ratio_mul an_Ratio_mul cd_Ratio_mul ct_Ratio_mul), f_Ratio_neg := f_Ratio_neg, d_Ratio_neg := (PySem.W.fnOf "__neg__" "Ratio.__neg__" (defArgs s_Ratio_neg) (defBody s_Ratio_neg) (defScope s_Ratio_neg) .none kV_Ratio_neg dc_Ratio_neg pm_Ratio_neg an_Ratio_neg cd_Ratio_neg ct_Ratio_neg), f_Ratio_eq := f_Ratio_eq, d_Ratio_eq := (PySem.W.fnOf "__eq__" "Ratio.__eq__" (defArgs s_Ratio_eq) (defBody s_Ratio_eq) (defScope s_Ratio_eq) .none kV_Ratio_eq dc_Ratio_eq pm_Ratio_eq an_Ratio_eq cd_Ratio_eq ct_Ratio_eq), f_Ratio_lt := f_Ratio_lt, d_Ratio_lt := (PySem.W.fnOf "__lt__" "Ratio.__lt__" (defArgs s_Ratio_lt) (defBody s_Ratio_lt) (defScope s_Ratio_lt) .none kV_Ratio_lt dc_Ratio_lt pm_Ratio_lt an_Ratio_lt cd_Ratio_lt ct_Ratio_lt), f_Ratio_le := f_Ratio_le, d_Ratio_le := (PySem.W.fnOf "__le__" "Ratio.__le__" (defArgs s_Ratio_le) (defBody s_Ratio_le) (defScope s_Ratio_le) .none kV_Ratio_le dc_Ratio_le pm_Ratio_le an_Ratio_le cd_Ratio_le ct_Ratio_le), f_is_whole := f_is_whole, d_is_whole := (PySem.W.fnOf "is_whole" "is_whole" (defArgs s_is_whole) (defBody s_is_whole) (defScope s_is_whole) .none kV_is_whole dc_is_whole pm_is_whole an_is_whole cd_is_whole ct_is_whole), f_is_number := f_is_number, d_is_number := (PySem.W.fnOf "is_number" "is_number" (defArgs s_is_number) (defBody s_is_number) (defScope s_is_number) .none kV_is_number dc_is_number pm_is_number an_is_number cd_is_number ct_is_number), f_are_numbers := f_are_numbers, d_are_numbers := (PySem.W.fnOf "are_numbers" "are_numbers" (defArgs s_are_numbers) (defBody s_are_numbers) (defScope s_are_numbers) .none kV_are_numbers dc_are_numbers pm_are_numbers an_are_numbers cd_are_numbers ct_are_numbers), f_as_ratio := f_as_ratio, d_as_ratio := (PySem.W.fnOf "as_ratio" "as_ratio" (defArgs s_as_ratio) (defBody s_as_ratio) (defScope s_as_ratio) .none kV_as_ratio dc_as_ratio pm_as_ratio an_as_ratio cd_as_ratio ct_as_ratio), f_Scale_init := f_Scale_init, d_Scale_init := (PySem.W.fnOf "__init__" "Scale.__init__" (defArgs s_Scale_init) (defBody s_Scale_init) (defScope s_Scale_init) .none kV_Scale_init dc_Scale_init pm_Scale_init an_Scale_init cd_Scale_init ct_Scale_init), f_Scale_len := f_Scale_len, d_Scale_len := (PySem.W.fnOf "__len__" "Scale.__len__" (defArgs s_Scale_len) (defBody s_Scale_len) (defScope s_Scale_len) .none kV_Scale_len dc_Scale_len pm_Scale_len an_Scale_len cd_Scale_len ct_Scale_len), f_Scale_eq := f_Scale_eq, d_Scale_eq := (PySem.W.fnOf "__eq__" "Scale.__eq__" (defArgs s_Scale_eq) (defBody s_Scale_eq) (defScope s_Scale_eq) .none kV_Scale_eq dc_Scale_eq pm_Scale_eq an_Scale_eq cd_Scale_eq ct_Scale_eq), f_Scale_marks := f_Scale_marks, d_Scale_marks := (PySem.W.fnOf "marks" "Scale.marks" (defArgs s_Scale_marks) (defBody s_Scale_marks) (defScope s_Scale_marks) .none kV_Scale_marks dc_Scale_marks pm_Scale_marks an_Scale_marks cd_Scale_marks ct_Scale_marks), f_Scale_place := f_Scale_place, d_Scale_place := (PySem.W.fnOf "place" "Scale.place" (defArgs s_Scale_place) (defBody s_Scale_place) (defScope s_Scale_place) .none kV_Scale_place dc_Scale_place pm_Scale_place an_Scale_place cd_Scale_place ct_Scale_place), f_Scale_led := f_Scale_led, d_Scale_led := (PySem.W.fnOf "led" "Scale.led" (defArgs s_Scale_led) (defBody s_Scale_led) (defScope s_Scale_led) .none kV_Scale_led dc_Scale_led pm_Scale_led an_Scale_led cd_Scale_led ct_Scale_led), f_insert_new := f_insert_new, d_insert_new := (PySem.W.fnOf "insert_new" "insert_new" (defArgs s_insert_new) (defBody s_insert_new) (defScope s_insert_new) .none kV_insert_new dc_insert_new pm_insert_new an_insert_new cd_insert_new ct_insert_new), f_distinct := f_distinct, d_distinct := (PySem.W.fnOf "distinct" "distinct" (defArgs s_distinct) (defBody s_distinct) (defScope s_distinct) .none kV_distinct dc_distinct pm_distinct an_distinct cd_distinct ct_distinct), f_climbs := f_climbs, d_climbs := (PySem.W.fnOf "climbs" "climbs" (defArgs s_climbs) (defBody s_climbs) (defScope s_climbs) .none kV_climbs dc_climbs pm_climbs an_climbs cd_climbs ct_climbs), f_Ltape := f_Ltape, d_Ltape := (PySem.W.fnOf "_law_tape" "_law_tape" (defArgs s_Ltape) (defBody s_Ltape) (defScope s_Ltape) .none kV_Ltape dc_Ltape pm_Ltape an_Ltape cd_Ltape ct_Ltape), f_Lpick := f_Lpick, d_Lpick := (PySem.W.fnOf "_law_pick" "_law_pick" (defArgs s_Lpick) (defBody s_Lpick) (defScope s_Lpick) .none kV_Lpick dc_Lpick pm_Lpick an_Lpick cd_Lpick ct_Lpick), f_Lmixed := f_Lmixed, d_Lmixed := (PySem.W.fnOf "_law_mixed" "_law_mixed" (defArgs s_Lmixed) (defBody s_Lmixed) (defScope s_Lmixed) .none kV_Lmixed dc_Lmixed pm_Lmixed an_Lmixed cd_Lmixed ct_Lmixed), f_Lshown := f_Lshown, d_Lshown := (PySem.W.fnOf "_law_shown" "_law_shown" (defArgs s_Lshown) (defBody s_Lshown) (defScope s_Lshown) .none kV_Lshown dc_Lshown pm_Lshown an_Lshown cd_Lshown ct_Lshown), f_Lvalues := f_Lvalues, d_Lvalues := (PySem.W.fnOf "_law_values" "_law_values" (defArgs s_Lvalues) (defBody s_Lvalues) (defScope s_Lvalues) .none kV_Lvalues dc_Lvalues pm_Lvalues an_Lvalues cd_Lvalues ct_Lvalues), f_Lmade := f_Lmade, d_Lmade := (PySem.W.fnOf "_law_made" "_law_made" (defArgs s_Lmade) (defBody s_Lmade) (defScope s_Lmade) .none kV_Lmade dc_Lmade pm_Lmade an_Lmade cd_Lmade ct_Lmade), f_Lis := f_Lis, d_Lis := (PySem.W.fnOf "_law_is" "_law_is" (defArgs s_Lis) (defBody s_Lis) (defScope s_Lis) .none kV_Lis dc_Lis pm_Lis an_Lis cd_Lis ct_Lis), f_Lrefused := f_Lrefused, d_Lrefused := (PySem.W.fnOf "_law_refused" "_law_refused" (defArgs s_Lrefused) (defBody s_Lrefused) (defScope s_Lrefused) .none kV_Lrefused dc_Lrefused pm_Lrefused an_Lrefused cd_Lrefused ct_Lrefused), f_Lrefused_right := f_Lrefused_right, d_Lrefused_right := (PySem.W.fnOf "_law_refused_right" "_law_refused_right" (defArgs s_Lrefused_right) (defBody s_Lrefused_right) (defScope s_Lrefused_right) .none kV_Lrefused_right dc_Lrefused_right pm_Lrefused_right an_Lrefused_right cd_Lrefused_right ct_Lrefused_right), f_law := fa, d_law := (PySem.W.fnOf "law" "law" (defArgs s_law) (defBody s_law) (defScope s_law) .none kV_law dc_law pm_law an_law cd_law ct_law) } := {
    g_MeansError := PySem.W.mg_of X G aC_MeansError,
    g_ByZero := PySem.W.mg_of X G aC_ByZero,
    g_BadText := PySem.W.mg_of X G aC_BadText,
    g_BadNumber := PySem.W.mg_of X G aC_BadNumber,
    g_BadValues := PySem.W.mg_of X G aC_BadValues,
    g_NoValue := PySem.W.mg_of X G aC_NoValue,
    g_Ratio := PySem.W.mg_of X G aC_Ratio,
    g_Scale := PySem.W.mg_of X G aC_Scale,
    F_BadNumber_init := ⟨⟨_, _, _, _, _, _, _, _, _, _, rfl, l_BadNumber_init, c_BadNumber_init, .inl ⟨rfl, rfl⟩, .inl rfl⟩, k_BadNumber_init⟩,
    F_BadValues_init := ⟨⟨_, _, _, _, _, _, _, _, _, _, rfl, l_BadValues_init, c_BadValues_init, .inl ⟨rfl, rfl⟩, .inl rfl⟩, k_BadValues_init⟩,
    F_NoValue_init := ⟨⟨_, _, _, _, _, _, _, _, _, _, rfl, l_NoValue_init, c_NoValue_init, .inl ⟨rfl, rfl⟩, .inl rfl⟩, k_NoValue_init⟩,
    F_Ratio_init := ⟨⟨_, _, _, _, _, _, _, _, _, _, rfl, l_Ratio_init, c_Ratio_init, .inr ⟨by simp, T_Ratio_init, _, _, _, rfl, lT_Ratio_init, rfl, (.cons ⟨_, rfl⟩ .nil)⟩, .inl rfl⟩, k_Ratio_init⟩,
    m_Ratio_init := ⟨a_Ratio_init, i_Ratio_init, k_Ratio_init⟩,
    F_Ratio_add := ⟨⟨_, _, _, _, _, _, _, _, _, _, rfl, l_Ratio_add, c_Ratio_add, .inl ⟨rfl, rfl⟩, .inl rfl⟩, k_Ratio_add⟩,
    m_Ratio_add := ⟨a_Ratio_add, i_Ratio_add, k_Ratio_add⟩,
    F_Ratio_sub := ⟨⟨_, _, _, _, _, _, _, _, _, _, rfl, l_Ratio_sub, c_Ratio_sub, .inl ⟨rfl, rfl⟩, .inl rfl⟩, k_Ratio_sub⟩,
    m_Ratio_sub := ⟨a_Ratio_sub, i_Ratio_sub, k_Ratio_sub⟩,
    F_Ratio_mul := ⟨⟨_, _, _, _, _, _, _, _, _, _, rfl, l_Ratio_mul, c_Ratio_mul, .inl ⟨rfl, rfl⟩, .inl rfl⟩, k_Ratio_mul⟩,
    m_Ratio_mul := ⟨a_Ratio_mul, i_Ratio_mul, k_Ratio_mul⟩,
    F_Ratio_neg := ⟨⟨_, _, _, _, _, _, _, _, _, _, rfl, l_Ratio_neg, c_Ratio_neg, .inl ⟨rfl, rfl⟩, .inl rfl⟩, k_Ratio_neg⟩,
    m_Ratio_neg := ⟨a_Ratio_neg, i_Ratio_neg, k_Ratio_neg⟩,
    F_Ratio_eq := ⟨⟨_, _, _, _, _, _, _, _, _, _, rfl, l_Ratio_eq, c_Ratio_eq, .inl ⟨rfl, rfl⟩, .inl rfl⟩, k_Ratio_eq⟩,
    m_Ratio_eq := ⟨a_Ratio_eq, i_Ratio_eq, k_Ratio_eq⟩,
    F_Ratio_lt := ⟨⟨_, _, _, _, _, _, _, _, _, _, rfl, l_Ratio_lt, c_Ratio_lt, .inl ⟨rfl, rfl⟩, .inl rfl⟩, k_Ratio_lt⟩,
    m_Ratio_lt := ⟨a_Ratio_lt, i_Ratio_lt, k_Ratio_lt⟩,
    F_Ratio_le := ⟨⟨_, _, _, _, _, _, _, _, _, _, rfl, l_Ratio_le, c_Ratio_le, .inl ⟨rfl, rfl⟩, .inl rfl⟩, k_Ratio_le⟩,
    m_Ratio_le := ⟨a_Ratio_le, i_Ratio_le, k_Ratio_le⟩,
    g_is_whole := PySem.W.mg_of X G a_is_whole,
    F_is_whole := ⟨⟨_, _, _, _, _, _, _, _, _, _, rfl, l_is_whole, c_is_whole, .inl ⟨rfl, rfl⟩, .inl rfl⟩, k_is_whole⟩,
    g_is_number := PySem.W.mg_of X G a_is_number,
    F_is_number := ⟨⟨_, _, _, _, _, _, _, _, _, _, rfl, l_is_number, c_is_number, .inl ⟨rfl, rfl⟩, .inl rfl⟩, k_is_number⟩,
    g_are_numbers := PySem.W.mg_of X G a_are_numbers,
    F_are_numbers := ⟨⟨_, _, _, _, _, _, _, _, _, _, rfl, l_are_numbers, c_are_numbers, .inl ⟨rfl, rfl⟩, .inl rfl⟩, k_are_numbers⟩,
    g_as_ratio := PySem.W.mg_of X G a_as_ratio,
    F_as_ratio := ⟨⟨_, _, _, _, _, _, _, _, _, _, rfl, l_as_ratio, c_as_ratio, .inl ⟨rfl, rfl⟩, .inl rfl⟩, k_as_ratio⟩,
    F_Scale_init := ⟨⟨_, _, _, _, _, _, _, _, _, _, rfl, l_Scale_init, c_Scale_init, .inl ⟨rfl, rfl⟩, .inl rfl⟩, k_Scale_init⟩,
    m_Scale_init := ⟨a_Scale_init, i_Scale_init, k_Scale_init⟩,
    F_Scale_len := ⟨⟨_, _, _, _, _, _, _, _, _, _, rfl, l_Scale_len, c_Scale_len, .inl ⟨rfl, rfl⟩, .inl rfl⟩, k_Scale_len⟩,
    m_Scale_len := ⟨a_Scale_len, i_Scale_len, k_Scale_len⟩,
    F_Scale_eq := ⟨⟨_, _, _, _, _, _, _, _, _, _, rfl, l_Scale_eq, c_Scale_eq, .inl ⟨rfl, rfl⟩, .inl rfl⟩, k_Scale_eq⟩,
    m_Scale_eq := ⟨a_Scale_eq, i_Scale_eq, k_Scale_eq⟩,
    F_Scale_marks := ⟨⟨_, _, _, _, _, _, _, _, _, _, rfl, l_Scale_marks, c_Scale_marks, .inl ⟨rfl, rfl⟩, .inl rfl⟩, k_Scale_marks⟩,
    m_Scale_marks := ⟨a_Scale_marks, i_Scale_marks, k_Scale_marks⟩,
    F_Scale_place := ⟨⟨_, _, _, _, _, _, _, _, _, _, rfl, l_Scale_place, c_Scale_place, .inl ⟨rfl, rfl⟩, .inl rfl⟩, k_Scale_place⟩,
    m_Scale_place := ⟨a_Scale_place, i_Scale_place, k_Scale_place⟩,
    F_Scale_led := ⟨⟨_, _, _, _, _, _, _, _, _, _, rfl, l_Scale_led, c_Scale_led, .inl ⟨rfl, rfl⟩, .inl rfl⟩, k_Scale_led⟩,
    m_Scale_led := ⟨a_Scale_led, i_Scale_led, k_Scale_led⟩,
    g_insert_new := PySem.W.mg_of X G a_insert_new,
    F_insert_new := ⟨⟨_, _, _, _, _, _, _, _, _, _, rfl, l_insert_new, c_insert_new, .inl ⟨rfl, rfl⟩, .inl rfl⟩, k_insert_new⟩,
    g_distinct := PySem.W.mg_of X G a_distinct,
    F_distinct := ⟨⟨_, _, _, _, _, _, _, _, _, _, rfl, l_distinct, c_distinct, .inl ⟨rfl, rfl⟩, .inl rfl⟩, k_distinct⟩,
    g_climbs := PySem.W.mg_of X G a_climbs,
    F_climbs := ⟨⟨_, _, _, _, _, _, _, _, _, _, rfl, l_climbs, c_climbs, .inl ⟨rfl, rfl⟩, .inl rfl⟩, k_climbs⟩,
    g_Ltape := PySem.W.mg_of X G a_Ltape,
    F_Ltape := ⟨⟨_, _, _, _, _, _, _, _, _, _, rfl, l_Ltape, c_Ltape, .inl ⟨rfl, rfl⟩, .inl rfl⟩, k_Ltape⟩,
    g_Lpick := PySem.W.mg_of X G a_Lpick,
    F_Lpick := ⟨⟨_, _, _, _, _, _, _, _, _, _, rfl, l_Lpick, c_Lpick, .inl ⟨rfl, rfl⟩, .inl rfl⟩, k_Lpick⟩,
    g_Lmixed := PySem.W.mg_of X G a_Lmixed,
    F_Lmixed := ⟨⟨_, _, _, _, _, _, _, _, _, _, rfl, l_Lmixed, c_Lmixed, .inl ⟨rfl, rfl⟩, .inl rfl⟩, k_Lmixed⟩,
    g_Lshown := PySem.W.mg_of X G a_Lshown,
    F_Lshown := ⟨⟨_, _, _, _, _, _, _, _, _, _, rfl, l_Lshown, c_Lshown, .inl ⟨rfl, rfl⟩, .inl rfl⟩, k_Lshown⟩,
    g_Lvalues := PySem.W.mg_of X G a_Lvalues,
    F_Lvalues := ⟨⟨_, _, _, _, _, _, _, _, _, _, rfl, l_Lvalues, c_Lvalues, .inl ⟨rfl, rfl⟩, .inl rfl⟩, k_Lvalues⟩,
    g_Lmade := PySem.W.mg_of X G a_Lmade,
    F_Lmade := ⟨⟨_, _, _, _, _, _, _, _, _, _, rfl, l_Lmade, c_Lmade, .inl ⟨rfl, rfl⟩, .inl rfl⟩, k_Lmade⟩,
    g_Lis := PySem.W.mg_of X G a_Lis,
    F_Lis := ⟨⟨_, _, _, _, _, _, _, _, _, _, rfl, l_Lis, c_Lis, .inl ⟨rfl, rfl⟩, .inl rfl⟩, k_Lis⟩,
    g_Lrefused := PySem.W.mg_of X G a_Lrefused,
    F_Lrefused := ⟨⟨_, _, _, _, _, _, _, _, _, _, rfl, l_Lrefused, c_Lrefused, .inl ⟨rfl, rfl⟩, .inl rfl⟩, k_Lrefused⟩,
    g_Lrefused_right := PySem.W.mg_of X G a_Lrefused_right,
    F_Lrefused_right := ⟨⟨_, _, _, _, _, _, _, _, _, _, rfl, l_Lrefused_right, c_Lrefused_right, .inl ⟨rfl, rfl⟩, .inl rfl⟩, k_Lrefused_right⟩,
    g_law := PySem.W.mg_of X G a_law,
    F_law := ⟨⟨_, _, _, _, _, _, _, _, _, _, rfl, l_law, c_law, .inl ⟨rfl, rfl⟩, .inl rfl⟩, k_law⟩,
    x_ByZero := ⟨xex_ByZero, xkp_ByZero, xbx_ByZero, xty_ByZero, xcls_ByZero, xsub_ByZero⟩,
    x_BadText := ⟨xex_BadText, xkp_BadText, xbx_BadText, xty_BadText, xcls_BadText, xsub_BadText⟩,
    oc_BadNumber := ⟨⟨_, _, _, _, _, _, _, _, _, _, _, _, _, _, _, olk_BadNumber, orv_BadNumber⟩, osa_BadNumber, oex_BadNumber, oty_BadNumber, okp_BadNumber⟩,
    ti_BadNumber := oti_BadNumber,
    fi_BadNumber := a_BadNumber_init,
    xf_BadNumber := ⟨oga_BadNumber, ogg_BadNumber, oex_BadNumber, ohd_BadNumber⟩,
    xs_BadNumber := exm_sub oex_BadNumber ois_BadNumber oty_BadNumber oss_BadNumber,
    xa_BadNumber_given := oxa_BadNumber_given,
    xo_BadNumber_ByZero := exm_sub xbx_ByZero xcls_ByZero xty_ByZero oso_BadNumber_ByZero,
    xo_BadNumber_BadText := exm_sub xbx_BadText xcls_BadText xty_BadText oso_BadNumber_BadText,
    xo_BadNumber_BadValues := exm_sub oex_BadValues ois_BadValues oty_BadValues oso_BadNumber_BadValues,
    xo_BadNumber_NoValue := exm_sub oex_NoValue ois_NoValue oty_NoValue oso_BadNumber_NoValue,
    oc_BadValues := ⟨⟨_, _, _, _, _, _, _, _, _, _, _, _, _, _, _, olk_BadValues, orv_BadValues⟩, osa_BadValues, oex_BadValues, oty_BadValues, okp_BadValues⟩,
    ti_BadValues := oti_BadValues,
    fi_BadValues := a_BadValues_init,
    xf_BadValues := ⟨oga_BadValues, ogg_BadValues, oex_BadValues, ohd_BadValues⟩,
    xs_BadValues := exm_sub oex_BadValues ois_BadValues oty_BadValues oss_BadValues,
    xa_BadValues_given := oxa_BadValues_given,
    xo_BadValues_ByZero := exm_sub xbx_ByZero xcls_ByZero xty_ByZero oso_BadValues_ByZero,
    xo_BadValues_BadText := exm_sub xbx_BadText xcls_BadText xty_BadText oso_BadValues_BadText,
    xo_BadValues_BadNumber := exm_sub oex_BadNumber ois_BadNumber oty_BadNumber oso_BadValues_BadNumber,
    xo_BadValues_NoValue := exm_sub oex_NoValue ois_NoValue oty_NoValue oso_BadValues_NoValue,
    oc_NoValue := ⟨⟨_, _, _, _, _, _, _, _, _, _, _, _, _, _, _, olk_NoValue, orv_NoValue⟩, osa_NoValue, oex_NoValue, oty_NoValue, okp_NoValue⟩,
    ti_NoValue := oti_NoValue,
    fi_NoValue := a_NoValue_init,
    xf_NoValue := ⟨oga_NoValue, ogg_NoValue, oex_NoValue, ohd_NoValue⟩,
    xs_NoValue := exm_sub oex_NoValue ois_NoValue oty_NoValue oss_NoValue,
    xa_NoValue_given := oxa_NoValue_given,
    xo_NoValue_ByZero := exm_sub xbx_ByZero xcls_ByZero xty_ByZero oso_NoValue_ByZero,
    xo_NoValue_BadText := exm_sub xbx_BadText xcls_BadText xty_BadText oso_NoValue_BadText,
    xo_NoValue_BadNumber := exm_sub oex_BadNumber ois_BadNumber oty_BadNumber oso_NoValue_BadNumber,
    xo_NoValue_BadValues := exm_sub oex_BadValues ois_BadValues oty_BadValues oso_NoValue_BadValues,
    b_abs := PySem.W.mg_none_of X G z_abs,
    b_all := PySem.W.mg_none_of X G z_all,
    b_bool := PySem.W.mg_none_of X G z_bool,
    b_dict := PySem.W.mg_none_of X G z_dict,
    b_enumerate := PySem.W.mg_none_of X G z_enumerate,
    b_int := PySem.W.mg_none_of X G z_int,
    b_isinstance := PySem.W.mg_none_of X G z_isinstance,
    b_len := PySem.W.mg_none_of X G z_len,
    b_list := PySem.W.mg_none_of X G z_list,
    b_max := PySem.W.mg_none_of X G z_max,
    b_min := PySem.W.mg_none_of X G z_min,
    b_range := PySem.W.mg_none_of X G z_range,
    b_repr := PySem.W.mg_none_of X G z_repr,
    b_tuple := PySem.W.mg_none_of X G z_tuple,
    b_zip := PySem.W.mg_none_of X G z_zip,
    c_MOST_VALUES := ⟨_, PySem.W.mg_of X G ac_MOST_VALUES⟩,
    g_gcd := PySem.W.mg_of X G r_gcd,
    R := ⟨⟨r_pg, r_hd, r_po, r_sa⟩, r_nT, r_nB, r_ha, r_hn, r_htk, r_hm, r_si, r_own, r_ty, List.forall_mem_cons.mpr ⟨r_sub, List.forall_mem_cons.mpr ⟨r_nbool, List.forall_mem_cons.mpr ⟨r_nNoneType, List.forall_mem_cons.mpr ⟨r_nstr, List.forall_mem_cons.mpr ⟨r_nlist, List.forall_mem_cons.mpr ⟨r_ntuple, List.forall_mem_cons.mpr ⟨r_ndict, List.forall_mem_nil _⟩⟩⟩⟩⟩⟩⟩⟩,
    mk_Ratio := ⟨r_mk, a_Ratio_init, i_Ratio_init, r_kp⟩,
    o_add := ⟨r_sf, a_Ratio_add, i_Ratio_add, r_radd, ⟨_, r_iadd⟩, ⟨_, r_jadd⟩, r_sub⟩,
    o_sub := ⟨r_sf, a_Ratio_sub, i_Ratio_sub, r_rsub, ⟨_, r_isub⟩, ⟨_, r_jsub⟩, r_sub⟩,
    o_mul := ⟨r_sf, a_Ratio_mul, i_Ratio_mul, r_rmul, ⟨_, r_imul⟩, ⟨_, r_jmul⟩, r_sub⟩,
    p_lt := ⟨a_Ratio_lt, i_Ratio_lt⟩,
    p_le := ⟨a_Ratio_le, i_Ratio_le⟩,
    p_eq := ⟨a_Ratio_eq, i_Ratio_eq⟩,
    p_ne := ⟨r_ne, a_Ratio_eq, i_Ratio_eq, r_ob⟩,
    RS := ⟨⟨s_pg, s_hd, s_po, s_sa⟩, s_nM, s_ha, s_hm, s_own, s_ty, List.forall_mem_cons.mpr ⟨s_nint, List.forall_mem_cons.mpr ⟨s_nbool, List.forall_mem_cons.mpr ⟨s_nNoneType, List.forall_mem_cons.mpr ⟨s_nstr, List.forall_mem_cons.mpr ⟨s_nlist, List.forall_mem_cons.mpr ⟨s_ntuple, List.forall_mem_cons.mpr ⟨s_ndict, List.forall_mem_nil _⟩⟩⟩⟩⟩⟩⟩, s_rat⟩,
    R2 := ⟨s_rl, s_rt, s_rd⟩,
    mk_Scale := ⟨s_mk, a_Scale_init, i_Scale_init, s_kp⟩,
    ps_eq := ⟨a_Scale_eq, i_Scale_eq⟩,
    ps_ne := ⟨s_ne, a_Scale_eq, i_Scale_eq, s_ob⟩,
    ln_Scale := a_Scale_len,
    lf_Scale := i_Scale_len,
    neS := (fun e => by have e2 : C_Ratio = C_Scale := e; rw [← e2, s_nm] at a_Scale_marks; cases a_Scale_marks) }
  exact ⟨_, fun s v => .of_eq rfl, fun base _ _ => ok_law T⟩
theorem walk {l : PySem.W.OpenLaw} {q : Program} {loose : List Str} {XP : (Str → Option Value) → Heap → Prop} {YP : World → Heap → Prop} {d : DefRec} {KF : Params → PySem.W.Frag} (hn : l.most = some 63) (hdf : d.params.defaults = []) (hY : ∀ (w : World) (h : Heap), YP w h → (KF w.params).In h)
    (F : ∀ (w : World) (mg : Str → Option Value) (fa : Addr) (h : Heap), (KF w.params).In h → h.Ns mainGlobals mg → mg d.name = some (.ref fa) → ∃ fd : FuncData, (∀ (s : Shared) (u : Value), BindsTo s fd ⟨[u], []⟩ [("_law_script", u)]) ∧ ∀ base : Heap, (KF w.params).In base → base.Ns mainGlobals mg → FnOk l.prog w (KF w.params) mg base CX0 13 fa fd ["_law_script"] (spLaw (KF w.params))) :
    PySem.W.WalkO q loose XP YP l.row.toRowW d [] (fun f vs => PySem.call f vs) :=
  L2.walk_of (n := 63) (k := 13) (x := "_law_script") (CX := fun _ => CX0) (sp := fun w => spLaw (KF w.params)) hn (by decide) hdf ⟨rfl, by decide, by decide⟩ hY F (fun _ _ a ns hl _ hS => ⟨a, ns, rfl, hS, by omega, fun _ _ => rfl⟩) fun _ _ _ _ _ z => z
end Kx
open PySem PySem.W PyProof.Rows
set_option maxRecDepth 100000 in
set_option maxHeartbeats 0 in
theorem PySem.Challenge.cw_firstmeans_k03_scales_holds : PySem.Challenge.rw_firstmeans_k03_scales.Holds := by
  w_on; o_law; k_head; (case hw => w_witness2)
  k_fill
  refine Kx.walk (l := PySem.Challenge.rw_firstmeans_k03_scales) rfl rfl (fun w h Y => PySem.W.kIn_of Y) ?F
  case F =>
    intro w mg fa h KX G hmg
    refine' Kx.all_mk KX G hmg ?aC_MeansError ?aC_ByZero ?aC_BadText ?aC_BadNumber ?aC_BadValues ?aC_NoValue ?aC_Ratio ?aC_Scale ?a_BadNumber_init ?i_BadNumber_init ?l_BadNumber_init ?c_BadNumber_init ?k_BadNumber_init ?a_BadValues_init ?i_BadValues_init ?l_BadValues_init ?c_BadValues_init ?k_BadValues_init ?a_NoValue_init ?i_NoValue_init ?l_NoValue_init ?c_NoValue_init ?k_NoValue_init ?a_Ratio_init ?i_Ratio_init ?l_Ratio_init ?lT_Ratio_init ?c_Ratio_init ?k_Ratio_init ?a_Ratio_add ?i_Ratio_add ?l_Ratio_add ?c_Ratio_add ?k_Ratio_add ?a_Ratio_sub ?i_Ratio_sub ?l_Ratio_sub ?c_Ratio_sub ?k_Ratio_sub ?a_Ratio_mul ?i_Ratio_mul ?l_Ratio_mul ?c_Ratio_mul ?k_Ratio_mul ?a_Ratio_neg ?i_Ratio_neg ?l_Ratio_neg ?c_Ratio_neg ?k_Ratio_neg ?a_Ratio_eq ?i_Ratio_eq ?l_Ratio_eq ?c_Ratio_eq ?k_Ratio_eq ?a_Ratio_lt ?i_Ratio_lt ?l_Ratio_lt ?c_Ratio_lt ?k_Ratio_lt ?a_Ratio_le ?i_Ratio_le ?l_Ratio_le ?c_Ratio_le ?k_Ratio_le ?a_is_whole ?l_is_whole ?c_is_whole ?k_is_whole ?a_is_number ?l_is_number ?c_is_number ?k_is_number ?a_are_numbers ?l_are_numbers ?c_are_numbers ?k_are_numbers ?a_as_ratio ?l_as_ratio ?c_as_ratio ?k_as_ratio ?a_Scale_init ?i_Scale_init ?l_Scale_init ?c_Scale_init ?k_Scale_init ?a_Scale_len ?i_Scale_len ?l_Scale_len ?c_Scale_len ?k_Scale_len ?a_Scale_eq ?i_Scale_eq ?l_Scale_eq ?c_Scale_eq ?k_Scale_eq ?a_Scale_marks ?i_Scale_marks ?l_Scale_marks ?c_Scale_marks ?k_Scale_marks ?a_Scale_place ?i_Scale_place ?l_Scale_place ?c_Scale_place ?k_Scale_place ?a_Scale_led ?i_Scale_led ?l_Scale_led ?c_Scale_led ?k_Scale_led ?a_insert_new ?l_insert_new ?c_insert_new ?k_insert_new ?a_distinct ?l_distinct ?c_distinct ?k_distinct ?a_climbs ?l_climbs ?c_climbs ?k_climbs ?a_Ltape ?l_Ltape ?c_Ltape ?k_Ltape ?a_Lpick ?l_Lpick ?c_Lpick ?k_Lpick ?a_Lmixed ?l_Lmixed ?c_Lmixed ?k_Lmixed ?a_Lshown ?l_Lshown ?c_Lshown ?k_Lshown ?a_Lvalues ?l_Lvalues ?c_Lvalues ?k_Lvalues ?a_Lmade ?l_Lmade ?c_Lmade ?k_Lmade ?a_Lis ?l_Lis ?c_Lis ?k_Lis ?a_Lrefused ?l_Lrefused ?c_Lrefused ?k_Lrefused ?a_Lrefused_right ?l_Lrefused_right ?c_Lrefused_right ?k_Lrefused_right ?a_law ?l_law ?c_law ?k_law ?xex_ByZero ?xkp_ByZero ?xbx_ByZero ?xty_ByZero ?xcls_ByZero ?xsub_ByZero ?xex_BadText ?xkp_BadText ?xbx_BadText ?xty_BadText ?xcls_BadText ?xsub_BadText ?olk_BadNumber ?orv_BadNumber ?osa_BadNumber ?oex_BadNumber ?oty_BadNumber ?okp_BadNumber ?oti_BadNumber ?oga_BadNumber ?ogg_BadNumber ?ohd_BadNumber ?ois_BadNumber ?oss_BadNumber ?oxa_BadNumber_given ?oso_BadNumber_ByZero ?oso_BadNumber_BadText ?oso_BadNumber_BadValues ?oso_BadNumber_NoValue ?olk_BadValues ?orv_BadValues ?osa_BadValues ?oex_BadValues ?oty_BadValues ?okp_BadValues ?oti_BadValues ?oga_BadValues ?ogg_BadValues ?ohd_BadValues ?ois_BadValues ?oss_BadValues ?oxa_BadValues_given ?oso_BadValues_ByZero ?oso_BadValues_BadText ?oso_BadValues_BadNumber ?oso_BadValues_NoValue ?olk_NoValue ?orv_NoValue ?osa_NoValue ?oex_NoValue ?oty_NoValue ?okp_NoValue ?oti_NoValue ?oga_NoValue ?ogg_NoValue ?ohd_NoValue ?ois_NoValue ?oss_NoValue ?oxa_NoValue_given ?oso_NoValue_ByZero ?oso_NoValue_BadText ?oso_NoValue_BadNumber ?oso_NoValue_BadValues ?z_abs ?z_all ?z_bool ?z_dict ?z_enumerate ?z_int ?z_isinstance ?z_len ?z_list ?z_max ?z_min ?z_range ?z_repr ?z_tuple ?z_zip ?ac_MOST_VALUES ?r_gcd ?r_pg ?r_hd ?r_po ?r_sa ?r_nT ?r_nB ?r_ha ?r_hn ?r_htk ?r_hm ?r_si ?r_own ?r_ty ?r_mk ?r_kp ?r_sf ?r_sub ?r_ne ?r_ob ?r_nbool ?r_nNoneType ?r_nstr ?r_nlist ?r_ntuple ?r_ndict ?r_radd ?r_iadd ?r_jadd ?r_rsub ?r_isub ?r_jsub ?r_rmul ?r_imul ?r_jmul ?s_pg ?s_hd ?s_po ?s_sa ?s_nM ?s_ha ?s_hm ?s_own ?s_ty ?s_rat ?s_mk ?s_kp ?s_ne ?s_ob ?s_nm ?s_rl ?s_rt ?s_rd ?s_nint ?s_nbool ?s_nNoneType ?s_nstr ?s_nlist ?s_ntuple ?s_ndict
    (case aC_MeansError => k_is)
    (case aC_ByZero => k_is)
    (case aC_BadText => k_is)
    (case aC_BadNumber => k_is)
    (case aC_BadValues => k_is)
    (case aC_NoValue => k_is)
    (case aC_Ratio => k_is)
    (case aC_Scale => k_is)
    (case a_BadNumber_init => k_is)
    (case i_BadNumber_init => k_is)
    (case l_BadNumber_init => k_is)
    (case c_BadNumber_init => k_is)
    (case k_BadNumber_init => k_is)
    (case a_BadValues_init => k_is)
    (case i_BadValues_init => k_is)
    (case l_BadValues_init => k_is)
    (case c_BadValues_init => k_is)
    (case k_BadValues_init => k_is)
    (case a_NoValue_init => k_is)
    (case i_NoValue_init => k_is)
    (case l_NoValue_init => k_is)
    (case c_NoValue_init => k_is)
    (case k_NoValue_init => k_is)
    (case a_Ratio_init => k_is)
    (case i_Ratio_init => k_is)
    (case l_Ratio_init => k_is)
    (case lT_Ratio_init => k_is)
    (case c_Ratio_init => k_is)
    (case k_Ratio_init => k_is)
    (case a_Ratio_add => k_is)
    (case i_Ratio_add => k_is)
    (case l_Ratio_add => k_is)
    (case c_Ratio_add => k_is)
    (case k_Ratio_add => k_is)
    (case a_Ratio_sub => k_is)
    (case i_Ratio_sub => k_is)
    (case l_Ratio_sub => k_is)
    (case c_Ratio_sub => k_is)
    (case k_Ratio_sub => k_is)
    (case a_Ratio_mul => k_is)
    (case i_Ratio_mul => k_is)
    (case l_Ratio_mul => k_is)
    (case c_Ratio_mul => k_is)
    (case k_Ratio_mul => k_is)
    (case a_Ratio_neg => k_is)
    (case i_Ratio_neg => k_is)
    (case l_Ratio_neg => k_is)
    (case c_Ratio_neg => k_is)
    (case k_Ratio_neg => k_is)
    (case a_Ratio_eq => k_is)
    (case i_Ratio_eq => k_is)
    (case l_Ratio_eq => k_is)
    (case c_Ratio_eq => k_is)
    (case k_Ratio_eq => k_is)
    (case a_Ratio_lt => k_is)
    (case i_Ratio_lt => k_is)
    (case l_Ratio_lt => k_is)
    (case c_Ratio_lt => k_is)
    (case k_Ratio_lt => k_is)
    (case a_Ratio_le => k_is)
    (case i_Ratio_le => k_is)
    (case l_Ratio_le => k_is)
    (case c_Ratio_le => k_is)
    (case k_Ratio_le => k_is)
    (case a_is_whole => k_is)
    (case l_is_whole => k_is)
    (case c_is_whole => k_is)
    (case k_is_whole => k_is)
    (case a_is_number => k_is)
    (case l_is_number => k_is)
    (case c_is_number => k_is)
    (case k_is_number => k_is)
    (case a_are_numbers => k_is)
    (case l_are_numbers => k_is)
    (case c_are_numbers => k_is)
    (case k_are_numbers => k_is)
    (case a_as_ratio => k_is)
    (case l_as_ratio => k_is)
    (case c_as_ratio => k_is)
    (case k_as_ratio => k_is)
    (case a_Scale_init => k_is)
    (case i_Scale_init => k_is)
    (case l_Scale_init => k_is)
    (case c_Scale_init => k_is)
    (case k_Scale_init => k_is)
    (case a_Scale_len => k_is)
    (case i_Scale_len => k_is)
    (case l_Scale_len => k_is)
    (case c_Scale_len => k_is)
    (case k_Scale_len => k_is)
    (case a_Scale_eq => k_is)
    (case i_Scale_eq => k_is)
    (case l_Scale_eq => k_is)
    (case c_Scale_eq => k_is)
    (case k_Scale_eq => k_is)
    (case a_Scale_marks => k_is)
    (case i_Scale_marks => k_is)
    (case l_Scale_marks => k_is)
    (case c_Scale_marks => k_is)
    (case k_Scale_marks => k_is)
    (case a_Scale_place => k_is)
    (case i_Scale_place => k_is)
    (case l_Scale_place => k_is)
    (case c_Scale_place => k_is)
    (case k_Scale_place => k_is)
    (case a_Scale_led => k_is)
    (case i_Scale_led => k_is)
    (case l_Scale_led => k_is)
    (case c_Scale_led => k_is)
    (case k_Scale_led => k_is)
    (case a_insert_new => k_is)
    (case l_insert_new => k_is)
    (case c_insert_new => k_is)
    (case k_insert_new => k_is)
    (case a_distinct => k_is)
    (case l_distinct => k_is)
    (case c_distinct => k_is)
    (case k_distinct => k_is)
    (case a_climbs => k_is)
    (case l_climbs => k_is)
    (case c_climbs => k_is)
    (case k_climbs => k_is)
    (case a_Ltape => k_is)
    (case l_Ltape => k_is)
    (case c_Ltape => k_is)
    (case k_Ltape => k_is)
    (case a_Lpick => k_is)
    (case l_Lpick => k_is)
    (case c_Lpick => k_is)
    (case k_Lpick => k_is)
    (case a_Lmixed => k_is)
    (case l_Lmixed => k_is)
    (case c_Lmixed => k_is)
    (case k_Lmixed => k_is)
    (case a_Lshown => k_is)
    (case l_Lshown => k_is)
    (case c_Lshown => k_is)
    (case k_Lshown => k_is)
    (case a_Lvalues => k_is)
    (case l_Lvalues => k_is)
    (case c_Lvalues => k_is)
    (case k_Lvalues => k_is)
    (case a_Lmade => k_is)
    (case l_Lmade => k_is)
    (case c_Lmade => k_is)
    (case k_Lmade => k_is)
    (case a_Lis => k_is)
    (case l_Lis => k_is)
    (case c_Lis => k_is)
    (case k_Lis => k_is)
    (case a_Lrefused => k_is)
    (case l_Lrefused => k_is)
    (case c_Lrefused => k_is)
    (case k_Lrefused => k_is)
    (case a_Lrefused_right => k_is)
    (case l_Lrefused_right => k_is)
    (case c_Lrefused_right => k_is)
    (case k_Lrefused_right => k_is)
    (case a_law => k_is)
    (case l_law => k_is)
    (case c_law => k_is)
    (case k_law => k_is)
    (case xex_ByZero => k_exc)
    (case xkp_ByZero => k_is)
    (case xbx_ByZero => k_is)
    (case xty_ByZero => k_is)
    (case xcls_ByZero => k_is)
    (case xsub_ByZero => first | rfl | k_is)
    (case xex_BadText => k_exc)
    (case xkp_BadText => k_is)
    (case xbx_BadText => k_is)
    (case xty_BadText => k_is)
    (case xcls_BadText => k_is)
    (case xsub_BadText => first | rfl | k_is)
    (case olk_BadNumber => k_is)
    (case orv_BadNumber => first | rfl | decide +kernel)
    (case osa_BadNumber => k_is)
    (case oex_BadNumber => k_is)
    (case oty_BadNumber => k_is)
    (case okp_BadNumber => k_is)
    (case oti_BadNumber => k_is)
    (case oga_BadNumber => k_is)
    (case ogg_BadNumber => k_is)
    (case ohd_BadNumber => k_is)
    (case ois_BadNumber => k_is)
    (case oss_BadNumber => first | rfl | k_is)
    (case oxa_BadNumber_given => k_is)
    (case oso_BadNumber_ByZero => k_is)
    (case oso_BadNumber_BadText => k_is)
    (case oso_BadNumber_BadValues => k_is)
    (case oso_BadNumber_NoValue => k_is)
    (case olk_BadValues => k_is)
    (case orv_BadValues => first | rfl | decide +kernel)
    (case osa_BadValues => k_is)
    (case oex_BadValues => k_is)
    (case oty_BadValues => k_is)
    (case okp_BadValues => k_is)
    (case oti_BadValues => k_is)
    (case oga_BadValues => k_is)
    (case ogg_BadValues => k_is)
    (case ohd_BadValues => k_is)
    (case ois_BadValues => k_is)
    (case oss_BadValues => first | rfl | k_is)
    (case oxa_BadValues_given => k_is)
    (case oso_BadValues_ByZero => k_is)
    (case oso_BadValues_BadText => k_is)
    (case oso_BadValues_BadNumber => k_is)
    (case oso_BadValues_NoValue => k_is)
    (case olk_NoValue => k_is)
    (case orv_NoValue => first | rfl | decide +kernel)
    (case osa_NoValue => k_is)
    (case oex_NoValue => k_is)
    (case oty_NoValue => k_is)
    (case okp_NoValue => k_is)
    (case oti_NoValue => k_is)
    (case oga_NoValue => k_is)
    (case ogg_NoValue => k_is)
    (case ohd_NoValue => k_is)
    (case ois_NoValue => k_is)
    (case oss_NoValue => first | rfl | k_is)
    (case oxa_NoValue_given => k_is)
    (case oso_NoValue_ByZero => k_is)
    (case oso_NoValue_BadText => k_is)
    (case oso_NoValue_BadNumber => k_is)
    (case oso_NoValue_BadValues => k_is)
    (case z_abs => k_is)
    (case z_all => k_is)
    (case z_bool => k_is)
    (case z_dict => k_is)
    (case z_enumerate => k_is)
    (case z_int => k_is)
    (case z_isinstance => k_is)
    (case z_len => k_is)
    (case z_list => k_is)
    (case z_max => k_is)
    (case z_min => k_is)
    (case z_range => k_is)
    (case z_repr => k_is)
    (case z_tuple => k_is)
    (case z_zip => k_is)
    (case ac_MOST_VALUES => k_is)
    (case r_gcd => k_is)
    (case r_pg => k_is)
    (case r_hd => k_is)
    (case r_po => k_is)
    (case r_sa => k_is)
    (case r_nT => k_is)
    (case r_nB => k_is)
    (case r_ha => k_is)
    (case r_hn => k_is)
    (case r_htk => k_is)
    (case r_hm => k_is)
    (case r_si => k_is)
    (case r_own => k_is)
    (case r_ty => k_is)
    (case r_mk => k_is)
    (case r_kp => k_is)
    (case r_sf => k_is)
    (case r_sub => k_is)
    (case r_ne => k_is)
    (case r_ob => k_is)
    (case r_nbool => k_is)
    (case r_nNoneType => k_is)
    (case r_nstr => k_is)
    (case r_nlist => k_is)
    (case r_ntuple => k_is)
    (case r_ndict => k_is)
    (case r_radd => k_is)
    (case r_iadd => k_is)
    (case r_jadd => k_is)
    (case r_rsub => k_is)
    (case r_isub => k_is)
    (case r_jsub => k_is)
    (case r_rmul => k_is)
    (case r_imul => k_is)
    (case r_jmul => k_is)
    (case s_pg => k_is)
    (case s_hd => k_is)
    (case s_po => k_is)
    (case s_sa => k_is)
    (case s_nM => k_is)
    (case s_ha => k_is)
    (case s_hm => k_is)
    (case s_own => k_is)
    (case s_ty => k_is)
    (case s_rat => k_is)
    (case s_mk => k_is)
    (case s_kp => k_is)
    (case s_ne => k_is)
    (case s_ob => k_is)
    (case s_nm => k_is)
    (case s_rl => k_is)
    (case s_rt => k_is)
    (case s_rd => k_is)
    (case s_nint => k_is)
    (case s_nbool => k_is)
    (case s_nNoneType => k_is)
    (case s_nstr => k_is)
    (case s_nlist => k_is)
    (case s_ntuple => k_is)
    (case s_ndict => k_is)


