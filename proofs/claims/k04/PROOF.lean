import PyProof.Rows.All
import Wide.All
import OpenK.AllK
import Wide.FinOn
import KE.KOpsOwn
import HandS.ForMost
import HandS.ForExc
import HandS.IsInst
import HandS.Gcd
import HandS.Wide
import HandS.Defaults
import HandS.MakeKw
import HandS.OwnEq
import HandS.Codes
import HandS.Style
import HandS.StrMore
import HandS.ExcInit
import PyProof.NeKinds
import HandS.MakeKwOnly
import HandS.TryMany
import HandS.Steps
import PyProof.P3Eq
import HandS.ExcField
import PySem.Challenge.RW_firstmeans_k04_lots_and_means
import HandS.More
import HandS.RaiseMore
import PyProof.CallFns
import HandS.Conv
import HandS.ExcCtx
import HandS.HotCalls
import HandS.Iter
import HandS.Zip
import HandS.ExcOwn
import HandS.TupLe
set_option Elab.async false
set_option linter.all false
set_option maxRecDepth 100000
set_option maxHeartbeats 2000000
namespace Fm
open PySem PySem.Spec PyProof.Rows L2
section
variable {X : Cx} {CX : CXT} {k : Nat} {f C : Addr} {fd : FuncData} {ps : List Str} {sp : Sp} {E : XK}

theorem back_of {pins : List (Addr × Obj)} {σ : L2.St} {Q : VK} {v : Value} {s : Shared} (h : EP X pins σ Q v s) : PySem.W.CmpBack (EP X pins σ Q) v s := by
  cases v with
  | notImplemented =>
    obtain ⟨x, H, _, r, _⟩ := h
    cases x <;> first | exact nomatch r | (obtain ⟨t, e⟩ := r; exact nomatch e)
  | _ => exact h
theorem run_back {pins : List (Addr × Obj)} {σ : L2.St} {H : Hp} {s : Shared} {Q : VK} {us : List Value} {vs : List V} (F : FnOk X.prog X.w X.K X.mg X.base CX k f fd ps sp) (hr : Room k X.A) (hb : Binds X.K fd ps []) (hx : Passes CX X E)
    (I : Inv X pins σ H s) (r : Vals vs us) (h : sp vs H Q E) : wpAny (model X.prog X.w) X.A (call (.ref f) us) (PySem.W.CmpBack (EP X pins σ Q)) X.xe s :=
  thn (run_fn F hr hb .nil hx I r (by rw [List.append_nil]; exact h)) fun _ _ q => back_of q

/-- a value of the type that is known: an int, or another instance of the class at C -/
def NumLike (C : Addr) (y : V) (H : Hp) : Prop := (∃ j, y = .int j) ∨ ∃ b db gs, y = .ref b ∧ H b = some (.ins C db gs)
def rOwn (C : Addr) (sp : Sp) (E : XK) : R2 := fun x y H Q => (∃ a dx fs, x = .ref a ∧ H a = some (.ins C dx fs)) ∧ NumLike C y H ∧ sp [x, y] H Q E
theorem inst_of {pins : List (Addr × Obj)} {σ : L2.St} {H : Hp} {s : Shared} {a dx : Addr} {fs : List (Str × V)} (I : Inv X pins σ H s) (h : H a = some (.ins C dx fs)) : ∃ ox od, PySem.W.InstAt s.heap a ox C od := by
  obtain ⟨mA, J, _⟩ := ins_get I.hok h
  obtain ⟨od, J, _⟩ := J.look
  exact ⟨_, _, J⟩
/-- what the written part says of an own operator: name its dunder, rname the reflected one -/
structure OpFn (K : PySem.W.Frag) (C f : Addr) (op : Operator) : Prop where
  sf : PySem.W.selfFirst K C = true
  hs : PySem.W.findIn K (.ref C) (PySem.dunder op.info.2) = some (some (.ref f))
  fn : PySem.W.isFn K (.ref f) = true
  hr : PySem.W.findIn K (.ref C) (dunderR op.info.2) = some none
  h1 : ∃ fo, PySem.W.findIn K (.type "int") (PySem.dunder op.info.2) = some fo
  h2 : ∃ ro, PySem.W.findIn K (.type "int") (dunderR op.info.2) = some ro
  sub : PySem.W.subIn K (.type "int") (.ref C) = some false
theorem op_own {op : Operator} (T : OpFn X.K C f op) (F : FnOk X.prog X.w X.K X.mg X.base CX k f fd ps sp) (hr : Room k X.A) (hb : Binds X.K fd ps []) (hx : Passes CX X E) : OpR X (binaryOp op) (rOwn C sp E) := by
  intro pins s σ H x y v u Q I rx ry h
  obtain ⟨⟨a, dx, fs, rfl, ha⟩, hy, q⟩ := h
  cases rx
  obtain ⟨ox, od, J⟩ := inst_of I ha
  obtain ⟨m, hF⟩ := I.fr
  rcases hy with ⟨j, rfl⟩ | ⟨b, db, gs, rfl, hb'⟩
  · obtain ⟨t, rfl⟩ := ry
    obtain ⟨fo, e1⟩ := T.h1
    obtain ⟨ro, e2⟩ := T.h2
    exact PySem.W.ksp_binT (T := "int") hF I.ok.mod.kin J rfl T.sf T.hs T.fn T.hr (.inl rfl) e1 e2 T.sub (run_back (vs := [.ref a, .int j]) F hr hb hx I (.cons rfl (.cons ⟨t, rfl⟩ .nil)) q)
  · cases ry
    obtain ⟨oy, oyd, J'⟩ := inst_of I hb'
    exact PySem.W.binop_K hF I.ok.mod.kin J J'.type T.sf T.hs T.fn (run_back (vs := [.ref a, .ref b]) F hr hb hx I (.cons rfl (.cons rfl .nil)) q)
/-- -x -/
def rOwnU (C : Addr) (sp : Sp) (E : XK) : V → Hp → VK → Prop := fun x H Q => (∃ a dx fs, x = .ref a ∧ H a = some (.ins C dx fs)) ∧ sp [x] H Q E
theorem un_own (hs : PySem.W.findIn X.K (.ref C) "__neg__" = some (some (.ref f))) (hf : PySem.W.isFn X.K (.ref f) = true) (F : FnOk X.prog X.w X.K X.mg X.base CX k f fd ps sp) (hr : Room k X.A) (hb : Binds X.K fd ps []) (hx : Passes CX X E) :
    UnR X (unaryOp .USub) (rOwnU C sp E) := by
  intro pins s σ H x v Q I rx h
  obtain ⟨⟨a, dx, fs, rfl, ha⟩, q⟩ := h
  cases rx
  obtain ⟨ox, od, J⟩ := inst_of I ha
  obtain ⟨m, hF⟩ := I.fr
  exact PySem.W.ksp_neg hF I.ok.mod.kin J hs hf (run_fn (us := [.ref a]) (vs := [.ref a]) (dvs := []) (ds := []) F hr hb .nil hx I (.cons rfl .nil) q)
/-- comparisons: the left one an own instance, the right one of a known type -/
structure CmpFn (K : PySem.W.Frag) (C f : Addr) (op : CmpOp) : Prop where
  hs : PySem.W.findIn K (.ref C) (cmpInfo op).2.1 = some (some (.ref f))
  fn : PySem.W.isFn K (.ref f) = true
def rCmpOwn (K : PySem.W.Frag) (C : Addr) (sp : Sp) (E : XK) : R2 := fun x y H Q => (∃ a dx fs, x = .ref a ∧ H a = some (.ins C dx fs)) ∧ (∃ t, TyX K H y t ∧ PySem.W.notFirst K C t = true) ∧ sp [x, y] H Q E
theorem rel_kit {pins : List (Addr × Obj)} {σ : L2.St} {H : Hp} {s : Shared} {y : V} {u t : Value} (I : Inv X pins σ H s) (ry : RelV y u) (ty : TyX X.K H y t) : PySem.W.Looks (model X.prog X.w) s.heap (typeOf u) t := by
  obtain ⟨P, Z, p, _⟩ := kit_of I ry ty
  exact Z.ty _ _ I.kIn p
theorem op_cmp {op : CmpOp} (hop : ∀ v u : Value, compareOp op v u = richCompare op v u) (T : CmpFn X.K C f op) (F : FnOk X.prog X.w X.K X.mg X.base CX k f fd ps sp) (hr : Room k X.A) (hb : Binds X.K fd ps []) (hx : Passes CX X E) :
    OpR X (compareOp op) (rCmpOwn X.K C sp E) := by
  intro pins s σ H x y v u Q I rx ry h
  obtain ⟨⟨a, dx, fs, rfl, ha⟩, ⟨t, ty, hn⟩, q⟩ := h
  cases rx
  obtain ⟨ox, od, J⟩ := inst_of I ha
  obtain ⟨m, hF⟩ := I.fr
  rw [hop]
  exact PySem.W.cmp_K hr.units0 hF I.ok.mod.kin J (rel_kit I ry ty) hn T.hs T.fn (run_back (vs := [.ref a, y]) F hr hb hx I (.cons rfl (.cons ry .nil)) q)
/-- object.__ne__ over an own __eq__ -/
structure NeFn (K : PySem.W.Frag) (C f : Addr) : Prop where
  hn : PySem.W.findIn K (.ref C) "__ne__" = some (some (.builtin "object.__ne__"))
  hs : PySem.W.findIn K (.ref C) "__eq__" = some (some (.ref f))
  fn : PySem.W.isFn K (.ref f) = true
  ob : PySem.W.subIn K (.ref C) (.type "object") = some true
theorem ne_bind (self : Value) : bindSpecial (.builtin "object.__ne__") self = pure (.builtin "object.__ne__", [self]) := F.cmp_object.ne.bind self
theorem ne_entry {M : Model} {A : Around} {E : Value → Shared → Prop} {s : Shared} {K : PySem.W.Frag} {x C f : Addr} {ox : Obj} {od : Option Obj} {b : Value} (X : K.In s.heap) (I : PySem.W.InstAt s.heap x ox C od)
    (hs : PySem.W.findIn K (.ref C) "__eq__" = some (some (.ref f))) (hf : PySem.W.isFn K (.ref f) = true) (hu : A.units < cLine) {Q : Fin → Shared → Prop}
    (hcall : wpAny M A (call (.ref f) [.ref x, b]) (fun v s' => ∃ c, v = .bool c ∧ Q (.done (.ret (.bool (!c)))) s') E s) :
    wpAny M A (Builtin.«object.__ne__» ⟨[.ref x, b], []⟩) Q E s := by
  obtain ⟨h, g, d, t, os⟩ := s
  unfold Builtin.«object.__ne__»
  repeat (first
    | with_reducible refine wpAny_cRoomFor hu ?_
    | (refine wpAny_bind (m := callSpecialIfBound? (.ref x) (Str.ofString "__eq__") [b])
        (PySem.W.ifBound_K X I hs hf (wpAny_mono hcall (fun r s' hr => by
          obtain ⟨c, rfl, hq⟩ := hr
          repeat (first | exact hq | exact wpAny_pure hq | exact wpAny_truthy_bool hq | (refine wpAny_bind (m := truthy (.bool _)) (wpAny_truthy_bool ?_)) | wp_step)) fun _ _ e => e)))
    | wp_step)
theorem ne_own {prog : Program} {w : World} {A : Around} {E : Value → Shared → Prop} {s : Shared} {K : PySem.W.Frag} {x C f L : Addr} {h₀ : Heap} {m : Str → Option Value} {ox : Obj} {od : Option Obj} {b tb : Value} {Q : Value → Shared → Prop}
    (hu : A.units + 1 < cLine) (hF : Fr h₀ L s.heap m) (X₀ : K.In h₀) (I : PySem.W.InstAt s.heap x ox C od) (hb : PySem.W.Looks (model prog w) s.heap (typeOf b) tb) (hn : PySem.W.notFirst K C tb = true) (T : NeFn K C f)
    (h : wpAny (model prog w) A.in1 (call (.ref f) [.ref x, b]) (fun v s' => ∃ c, v = .bool c ∧ Q (.bool (!c)) s') E s) : wpAny (model prog w) A (compareOp .NotEq (.ref x) b) Q E s := by
  have X := X₀.keeps hF.keep
  have one : wpAny (model prog w) A (tryCompare (.ref x) "__ne__" b) (fun r s' => ∃ v, r = some v ∧ Q v s') E s := by
    unfold tryCompare
    have hc : wpAny (model prog w) A (call (.builtin "object.__ne__") [.ref x, b]) (fun v s' => ∃ c, v = .bool c ∧ Q (.bool c) s') E s := by
      refine wpAny_call (codeAny_call_builtin PySem.F.cmp_object.ne.plain PySem.F.cmpEntry_ne ?_)
      refine @PySem.W.check_slot (model prog w) _ _ s "object.__ne__" "object" "__ne__" (.ref x) [b] [] _ PySem.F.cmpKind_ne PySem.F.cmpSplit_ne (I.type.andThen (PySem.W.looks_subIn X T.ob)) (PySem.F.cmpArgs_ne _ _) ?_
      refine ne_entry (A := A.in1) X I T.hs T.fn hu (wpAny_mono h (fun v s' hv => ?_) fun _ _ e => e)
      obtain ⟨c, rfl, hq⟩ := hv
      exact ⟨c, rfl, _, rfl, hq⟩
    have fin : wpAny (model prog w) A (call (.builtin "object.__ne__") ([.ref x] ++ [b]) >>= fun v => pure (some v)) (fun r s' => ∃ c, r = some (Value.bool c) ∧ Q (.bool c) s') E s :=
      wpAny_bind (wpAny_mono hc (fun v s' h' => by
        obtain ⟨c, rfl, hq⟩ := h'
        exact wpAny_pure ⟨c, rfl, hq⟩) fun _ _ h' => h')
    have sp : wpAny (model prog w) A (callSpecialIfBound? (.ref x) "__ne__" [b]) (fun r s' => ∃ c, r = some (Value.bool c) ∧ Q (.bool c) s') E s := by
      simp only [callSpecialIfBound?, bindSpecialIfBound?]
      refine wpAny_holding (wpAny_bind (wpAny_bind (wpAny_bind (I.type.here ((PySem.W.looks_findIn X T.hn).here ?_)))))
      refine wpAny_bind (wpAny_askSetting (wpAny_ite ?_))
      simp only [ne_bind]
      split
      · exact wpAny_bind (wpAny_pure (wpAny_pure fin))
      · exact wpAny_tryCatch (wpAny_bind (wpAny_pure (wpAny_pure fin)))
    refine wpAny_bind (wpAny_mono sp (fun r s' z => ?_) fun _ _ e => e)
    obtain ⟨c, rfl, hq⟩ := z
    exact wpAny_pure ⟨_, rfl, hq⟩
  show wpAny (model prog w) A (richCompare .NotEq (.ref x) b) Q E s
  unfold richCompare
  simp only [oneThing_ref]
  refine wpAny_holding (wpAny_bind (wpAny_cRoomFor (Nat.lt_of_succ_lt hu) ?_))
  rw [cmpInfo_NotEq]
  dsimp only
  refine wpAny_bind (I.type.here (wpAny_bind (hb.here ?_)))
  split
  · rename_i q
    have e : PySem.W.subIn K tb (.ref C) = some false := by
      rcases Bool.or_eq_true_iff.mp hn with e | e
      · rw [beq_iff_eq.mp e] at q; simp at q
      · exact beq_iff_eq.mp e
    refine wpAny_bind ((PySem.W.looks_subIn X e).here ?_)
    simp only [Bool.false_eq_true, if_false]
    refine wpAny_bind (wpAny_mono one (fun r s' z => ?_) fun _ _ e => e)
    obtain ⟨v, rfl, hq⟩ := z
    exact wpAny_pure hq
  · refine wpAny_bind (wpAny_pure ?_)
    simp only [Bool.false_eq_true, if_false]
    refine wpAny_bind (wpAny_mono one (fun r s' z => ?_) fun _ _ e => e)
    obtain ⟨v, rfl, hq⟩ := z
    exact wpAny_pure hq
/-- x != y by the text's own ==: sp tells what == gives, a bool -/
def rNeOwn (K : PySem.W.Frag) (C : Addr) (sp : Sp) (E : XK) : R2 := fun x y H Q => (∃ a dx fs, x = .ref a ∧ H a = some (.ins C dx fs)) ∧ (∃ t, TyX K H y t ∧ PySem.W.notFirst K C t = true) ∧
  sp [x, y] H (fun v H' => ∃ b, v = .bl b ∧ Q (.bl (!b)) H') E
theorem op_neOwn (T : NeFn X.K C f) (hF' : FnOk X.prog X.w X.K X.mg X.base CX k f fd ps sp) (hr : Room (k + 1) X.A) (hb : Binds X.K fd ps []) (hx : Passes CX X E) : OpR X (compareOp .NotEq) (rNeOwn X.K C sp E) := by
  intro pins s σ H x y v u Q I rx ry h
  obtain ⟨⟨a, dx, fs, rfl, ha⟩, ⟨t, ty, hn⟩, q⟩ := h
  cases rx
  obtain ⟨ox, od, J⟩ := inst_of I ha
  obtain ⟨m, hF⟩ := I.fr
  refine ne_own (by have := hr.units0; have := hr.units; omega) hF I.ok.mod.kin J (rel_kit I ry ty) hn T ?_
  have e0 : Env0 X.prog X.w X.K X.mg X.base X.A.in1 X.stack s H := I.env0.in1
  have r : Vals [V.ref a, y] [Value.ref a, u] := .cons rfl (.cons ry .nil)
  have hl : ([Value.ref a, u] ++ []).length = ps.length := by
    rw [List.append_nil, ← r.length]; exact hF'.len _ _ _ _ q
  have hbb := hb s [Value.ref a, u] I.kIn hl
  rw [List.append_nil] at hbb
  refine wpAny_call (codeAny_mono (hF'.run X.A.in1 X.stack s H ⟨[.ref a, u], []⟩ [.ref a, u] [.ref a, y] _ E hr.in1 e0 hbb r q) fun r s' hq => ?_)
  cases r with
  | error e => exact hx pins σ H s e s' I hq
  | ok fl =>
    cases fl with
    | ret w =>
      obtain ⟨z, H', I', rz, b, ez, q'⟩ := I.after hq
      subst ez
      cases rz
      exact ⟨b, rfl, .bl (!b), H', I', rfl, q'⟩
    | next => exact False.elim hq
    | brk => exact False.elim hq
    | cont => exact False.elim hq
end
end Fm

set_option maxHeartbeats 2000000
namespace Fm
open PySem PySem.Spec PyProof.Rows L2

/-! ### quotients and their sizes -/
/-- what lowest terms divide by -/
def sg (t b : Int) : Int := if b < 0 then -((Nat.gcd t.natAbs b.natAbs : Nat) : Int) else ((Nat.gcd t.natAbs b.natAbs : Nat) : Int)
theorem gcd_pos {t b : Int} (hb : b ≠ 0) : 0 < Nat.gcd t.natAbs b.natAbs := Nat.gcd_pos_of_pos_right _ (Int.natAbs_pos.mpr hb)
theorem sg_ne {t b : Int} (hb : b ≠ 0) : sg t b ≠ 0 := by
  have := gcd_pos (t := t) hb
  unfold sg; split <;> omega
theorem sg_abs (t b : Int) : (sg t b).natAbs = Nat.gcd t.natAbs b.natAbs := by
  unfold sg; split <;> omega
theorem sg_sz {t b : Int} {k : Nat} (hb : b ≠ 0) (h : b.natAbs < 2 ^ k) : (sg t b).natAbs < 2 ^ k := by
  rw [sg_abs]
  exact Nat.lt_of_le_of_lt (Nat.gcd_le_right _ (Int.natAbs_pos.mpr hb)) h
theorem top_eq {t b : Int} (hb : b ≠ 0) : t.fdiv (sg t b) = (Rat.divInt t b).num := by
  rw [Rat.num_divInt]
  have g0 := gcd_pos (t := t) hb
  have hg : ((b.gcd t : Nat) : Int) = ((Nat.gcd t.natAbs b.natAbs : Nat) : Int) := by rw [Int.gcd_eq_natAbs_gcd_natAbs, Nat.gcd_comm]
  have hd : (((Nat.gcd t.natAbs b.natAbs : Nat)) : Int) ∣ t := Int.ofNat_dvd_left.mpr (Nat.gcd_dvd_left _ _)
  rw [hg]
  generalize hG : ((Nat.gcd t.natAbs b.natAbs : Nat) : Int) = G at hd
  have hG0 : 0 < G := by omega
  have hs : sg t b = if b < 0 then -G else G := by unfold sg; rw [hG]
  obtain ⟨c, rfl⟩ := hd
  rw [hs]
  split
  · rename_i h
    rw [Int.sign_eq_neg_one_of_neg h, show (-1 * (G * c)) = G * (-c) by rw [Int.mul_neg, Int.neg_one_mul] , Int.mul_ediv_cancel_left _ (by omega), show G * c = (-G) * (-c) by rw [Int.neg_mul_neg]]
    exact Int.mul_fdiv_cancel_left _ (by omega)
  · rename_i h
    rw [Int.sign_eq_one_of_pos (by omega), Int.one_mul, Int.mul_ediv_cancel_left _ (by omega)]
    exact Int.mul_fdiv_cancel_left _ (by omega)
theorem bot_eq {t b : Int} (hb : b ≠ 0) : b.fdiv (sg t b) = ((Rat.divInt t b).den : Int) := by
  rw [Rat.den_divInt, if_neg hb]
  have g0 := gcd_pos (t := t) hb
  have hg : b.gcd t = Nat.gcd t.natAbs b.natAbs := by rw [Int.gcd_eq_natAbs_gcd_natAbs, Nat.gcd_comm]
  have hd : (((Nat.gcd t.natAbs b.natAbs : Nat)) : Int) ∣ b := Int.ofNat_dvd_left.mpr (Nat.gcd_dvd_right _ _)
  rw [hg, Int.natCast_ediv]
  generalize hG : ((Nat.gcd t.natAbs b.natAbs : Nat) : Int) = G at hd
  have hG0 : 0 < G := by omega
  have hs : sg t b = if b < 0 then -G else G := by unfold sg; rw [hG]
  obtain ⟨c, hc⟩ := hd
  rw [hs]
  split
  · rename_i h
    have e : ((b.natAbs : Nat) : Int) = G * (-c) := by rw [Int.mul_neg, ← hc]; omega
    rw [e, Int.mul_ediv_cancel_left _ (by omega), hc, show G * c = (-G) * (-c) by rw [Int.neg_mul_neg]]
    exact Int.mul_fdiv_cancel_left _ (by omega)
  · rename_i h
    have e : ((b.natAbs : Nat) : Int) = G * c := by rw [← hc]; omega
    rw [e, Int.mul_ediv_cancel_left _ (by omega), hc]
    exact Int.mul_fdiv_cancel_left _ (by omega)
/-- k bits are enough for both parts -/
def Sz (k : Nat) (q : Rat) : Prop := q.num.natAbs < 2 ^ k ∧ q.den < 2 ^ k
theorem pw {a b : Nat} (h : a ≤ b) : 2 ^ a ≤ 2 ^ b := Nat.pow_le_pow_right (by decide) h
theorem Sz.mono {j k : Nat} {q : Rat} (h : Sz j q) (e : j ≤ k) : Sz k q := ⟨Nat.lt_of_lt_of_le h.1 (pw e), Nat.lt_of_lt_of_le h.2 (pw e)⟩
theorem Sz.divInt {k : Nat} {t b : Int} (ht : t.natAbs < 2 ^ k) (hb : b.natAbs < 2 ^ k) (h0 : b ≠ 0) : Sz k (Rat.divInt t b) := by
  have g0 := gcd_pos (t := t) h0
  have hg : b.gcd t = Nat.gcd t.natAbs b.natAbs := by rw [Int.gcd_eq_natAbs_gcd_natAbs, Nat.gcd_comm]
  constructor
  · rw [← top_eq h0]
    refine Nat.lt_of_le_of_lt ?_ ht
    have hd : sg t b ∣ t := by
      have : (((Nat.gcd t.natAbs b.natAbs : Nat)) : Int) ∣ t := Int.ofNat_dvd_left.mpr (Nat.gcd_dvd_left _ _)
      unfold sg; split
      · exact Int.neg_dvd.mpr this
      · exact this
    obtain ⟨c, hc⟩ := hd
    have hs := sg_ne (t := t) h0
    generalize sg t b = S at hc hs
    have h1 : 0 < S.natAbs := Int.natAbs_pos.mpr hs
    rw [hc, Int.mul_fdiv_cancel_left _ hs, Int.natAbs_mul]
    exact Nat.le_mul_of_pos_left _ h1
  · rw [Rat.den_divInt, if_neg h0]
    exact Nat.lt_of_le_of_lt (Nat.div_le_self _ _) hb
theorem abs_mul_lt {i j : Int} {a b : Nat} (ha : i.natAbs < 2 ^ a) (hb : j.natAbs < 2 ^ b) : (i * j).natAbs < 2 ^ (a + b) := wide_lt ha hb
theorem abs_add_lt {i j : Int} {a : Nat} (ha : i.natAbs < 2 ^ a) (hb : j.natAbs < 2 ^ a) : (i + j).natAbs < 2 ^ (a + 1) := by
  rw [Nat.pow_succ]; omega
theorem abs_sub_lt {i j : Int} {a : Nat} (ha : i.natAbs < 2 ^ a) (hb : j.natAbs < 2 ^ a) : (i - j).natAbs < 2 ^ (a + 1) := by
  rw [Nat.pow_succ]; omega
theorem lt_up {n a b : Nat} (h : n < 2 ^ a) (e : a ≤ b) : n < 2 ^ b := Nat.lt_of_lt_of_le h (pw e)
theorem den_abs (q : Rat) : ((q.den : Nat) : Int).natAbs = q.den := Int.natAbs_natCast _
theorem den_ne (q : Rat) : ((q.den : Nat) : Int) ≠ 0 := by have := q.den_pos; omega
theorem dd_ne (a b : Rat) : ((a.den : Nat) : Int) * ((b.den : Nat) : Int) ≠ 0 := by
  have := a.den_pos
  have := b.den_pos
  exact Int.mul_ne_zero (by omega) (by omega)
theorem add_divInt (a b : Rat) : Rat.divInt (a.num * b.den + b.num * a.den) ((a.den : Int) * (b.den : Int)) = a + b := by
  rw [Rat.add_def', ← Int.natCast_mul, Rat.divInt_ofNat]
theorem sub_divInt (a b : Rat) : Rat.divInt (a.num * b.den - b.num * a.den) ((a.den : Int) * (b.den : Int)) = a - b := by
  rw [Rat.sub_def', ← Int.natCast_mul, Rat.divInt_ofNat]
theorem mul_divInt (a b : Rat) : Rat.divInt (a.num * b.num) ((a.den : Int) * (b.den : Int)) = a * b := by
  rw [Rat.mul_def', ← Int.natCast_mul, Rat.divInt_ofNat]
theorem neg_divInt1 (a : Rat) : Rat.divInt (-a.num) ((a.den : Nat) : Int) = -a := by
  rw [← Rat.neg_divInt, Rat.num_divInt_den]
theorem over_divInt (a b : Rat) : Rat.divInt (a.num * b.den) ((a.den : Int) * b.num) = a / b := by
  rw [Rat.div_def, Rat.inv_def, ← Rat.divInt_mul_divInt, Rat.num_divInt_den]
theorem int_divInt (n : Int) : Rat.divInt n 1 = (n : Rat) := by
  have h := Rat.num_divInt_den (n : Rat)
  simpa using h
theorem Sz.add {k : Nat} {a b : Rat} (ha : Sz k a) (hb : Sz k b) : Sz (k + k + 1) (a + b) := by
  rw [← add_divInt]
  refine Sz.divInt (abs_add_lt (abs_mul_lt ha.1 (by rw [den_abs]; exact hb.2)) (abs_mul_lt hb.1 (by rw [den_abs]; exact ha.2))) (lt_up (abs_mul_lt (by rw [den_abs]; exact ha.2) (by rw [den_abs]; exact hb.2)) (by omega)) (dd_ne _ _)
theorem Sz.sub {k : Nat} {a b : Rat} (ha : Sz k a) (hb : Sz k b) : Sz (k + k + 1) (a - b) := by
  rw [← sub_divInt]
  refine Sz.divInt (abs_sub_lt (abs_mul_lt ha.1 (by rw [den_abs]; exact hb.2)) (abs_mul_lt hb.1 (by rw [den_abs]; exact ha.2))) (lt_up (abs_mul_lt (by rw [den_abs]; exact ha.2) (by rw [den_abs]; exact hb.2)) (by omega)) (dd_ne _ _)
theorem Sz.mul {k : Nat} {a b : Rat} (ha : Sz k a) (hb : Sz k b) : Sz (k + k) (a * b) := by
  rw [← mul_divInt]
  exact Sz.divInt (abs_mul_lt ha.1 hb.1) (abs_mul_lt (by rw [den_abs]; exact ha.2) (by rw [den_abs]; exact hb.2)) (dd_ne _ _)
theorem Sz.neg {k : Nat} {a : Rat} (ha : Sz k a) : Sz k (-a) := ⟨by rw [Rat.neg_num, Int.natAbs_neg]; exact ha.1, by rw [Rat.neg_den]; exact ha.2⟩
theorem Sz.int {k : Nat} {n : Int} (h : n.natAbs < 2 ^ k) (hk : 1 ≤ k) : Sz k (n : Rat) := ⟨by simpa using h, by simpa using (Nat.lt_of_lt_of_le (by decide : 1 < 2 ^ 1) (pw hk))⟩
theorem Sz.n {k : Nat} {a : Rat} (h : Sz k a) : a.num.natAbs < 2 ^ k := h.1
theorem Sz.d {k : Nat} {a : Rat} (h : Sz k a) : ((a.den : Nat) : Int).natAbs < 2 ^ k := by rw [den_abs]; exact h.2
theorem eq_iff_parts (a b : Rat) : (a = b) ↔ (a.num = b.num ∧ ((a.den : Nat) : Int) = ((b.den : Nat) : Int)) :=
  ⟨fun h => by subst h; exact ⟨rfl, rfl⟩, fun h => Rat.ext h.1 (by have := h.2; omega)⟩
end Fm

set_option maxHeartbeats 2000000
namespace Fm
open PySem PySem.Spec PyProof.Rows L2

/-! ### heaps that only grow -/
def Ex (H H' : Hp) : Prop := ∀ a o, H a = some o → H' a = some o
theorem Ex.refl (H : Hp) : Ex H H := fun _ _ h => h
theorem Ex.trans {H H1 H2 : Hp} (a : Ex H H1) (b : Ex H1 H2) : Ex H H2 := fun x o h => b x o (a x o h)
theorem Ex.new {H : Hp} {p : Addr} {o : HO} (h : H p = none) : Ex H (upd H p o) := fun a u e => by
  rw [upd_ne (ne_of_none e h)]
  exact e
theorem Ex.at {H H' : Hp} {p : Addr} {o : HO} (e : Ex H H') (h : H p = some o) : H' p = some o := e p o h
theorem Ex.mut {H H' : Hp} {p : Addr} {o : HO} (e : Ex H H') (h : H p = none) : Ex H (upd H' p o) := fun a u ha => by
  rw [upd_ne (ne_of_none ha h)]
  exact e a u ha
theorem Ex.free {H H' : Hp} {p : Addr} (e : Ex H H') (h : H' p = none) : H p = none := by
  cases h1 : H p with
  | none => rfl
  | some o =>
    rw [e p o h1] at h
    cases h
theorem Ex.sql {K : PySem.W.Frag} {H H' : Hp} {a : Addr} {xs : List V} (e : Ex H H') (h : SqL K H a xs) : SqL K H' a xs := SqL.ext h e
theorem Ex.sqt {K : PySem.W.Frag} {H H' : Hp} {a : Addr} {xs : List V} (e : Ex H H') (h : SqT K H a xs) : SqT K H' a xs := SqT.ext h e

/-! ### readings, a head at a time -/
section
variable {σ : L2.St} {H : Hp} {Q : VK} {D : Ends} {ta tb tc te : TE} {t u : TT} {ts tu : TS} {x y v : V} {r : R2} {i j : Int} {K : PySem.W.Frag} {W : Bool → Hp → Prop}
theorem g_var {n : Nat} (h : σ[n]? = some (some v)) (q : Q v H) : tVar n σ H Q := ⟨v, h, q⟩
theorem g_c (q : Q v H) : tC v σ H Q := q
theorem g_op (q : ta σ H fun x H1 => tb σ H1 fun y H2 => r x y H2 Q) : tOp r ta tb σ H Q := q
theorem g_un {r : V → Hp → VK → Prop} (q : ta σ H fun x H1 => r x H1 Q) : tUn r ta σ H Q := q
theorem g_I0 {g : Int → Int → V} (q : Q (g i j) H) : rI0 g (.int i) (.int j) H Q := ⟨i, j, rfl, rfl, q⟩
theorem g_I {C : Int → Int → Prop} {g : Int → Int → V} (c : C i j) (q : Q (g i j) H) : rI C g (.int i) (.int j) H Q := ⟨i, j, rfl, rfl, c, q⟩
theorem g_U {g : Int → V} (q : Q (g i) H) : rU g (.int i) H Q := ⟨i, rfl, q⟩
theorem g_eqI (q : Q (.bl (decide (i = j))) H) : rEq (.int i) (.int j) H Q := ⟨rfl, by
  rw [show decide (V.int i = V.int j) = decide (i = j) by by_cases h : i = j <;> simp [h]]; exact q⟩
theorem g_neI (q : Q (.bl (!decide (i = j))) H) : rNe (.int i) (.int j) H Q := ⟨rfl, by
  rw [show decide (V.int i = V.int j) = decide (i = j) by by_cases h : i = j <;> simp [h]]; exact q⟩
theorem g_eqS {a b : Str} (q : Q (.bl (decide (a = b))) H) : rEq (.str a) (.str b) H Q := ⟨rfl, by
  rw [show decide (V.str a = V.str b) = decide (a = b) by by_cases h : a = b <;> simp [h]]; exact q⟩
theorem g_neS {a b : Str} (q : Q (.bl (!decide (a = b))) H) : rNe (.str a) (.str b) H Q := ⟨rfl, by
  rw [show decide (V.str a = V.str b) = decide (a = b) by by_cases h : a = b <;> simp [h]]; exact q⟩
theorem g_test {W : Bool → Hp → Prop} (q : te σ H fun x H' => ∃ k, x = .bl k ∧ W k H') : tTest te σ H W := q
theorem g_B {W : Bool → Hp → Prop} (q : te σ H fun x H' => ∃ k, x = .bl k ∧ W k H') : tB te σ H W := q
theorem g_bl {W : Bool → Prop} {b : Bool} (q : W b) : ∃ k, V.bl b = .bl k ∧ W k := ⟨b, rfl, q⟩
theorem g_not (q : t σ H fun c H1 => W (!c) H1) : tNot t σ H W := q
theorem g_and (q : t σ H fun c H1 => if c = true then u σ H1 W else W false H1) : tAnd t u σ H W := q
theorem g_or (q : t σ H fun c H1 => if c = true then W true H1 else u σ H1 W) : tOr t u σ H W := q
theorem g_andV (q : ta σ H fun x H1 => ∃ c, x = .bl c ∧ if c = true then tb σ H1 Q else Q (.bl false) H1) : tAndV ta tb σ H Q := q
theorem g_orV (q : ta σ H fun x H1 => ∃ c, x = .bl c ∧ if c = true then Q (.bl true) H1 else tb σ H1 Q) : tOrV ta tb σ H Q := q
theorem g_notV (q : ta σ H fun x H1 => ∃ c, x = .bl c ∧ Q (.bl (!c)) H1) : tNotV ta σ H Q := q
theorem g_chain {r r' : R2} (q : ta σ H fun x H1 => tb σ H1 fun y H2 => r x y H2 fun z H3 => ∃ k, z = .bl k ∧ (if k = true then tc σ H3 fun w' H4 => r' y w' H4 Q else Q (.bl false) H3)) : tChain r r' ta tb tc σ H Q := q
theorem g_if (q : t σ H fun c H1 => if c = true then ta σ H1 Q else tb σ H1 Q) : tIf t ta tb σ H Q := q
theorem g_ifS (q : t σ H fun b H1 => if b = true then ts D σ H1 else tu D σ H1) : tIfS t ts tu D σ H := q
theorem g_seq (q : ts { D with nx := tu D } σ H) : tSeq ts tu D σ H := q
theorem g_next (q : D.nx σ H) : tNext D σ H := q
theorem g_break (q : D.bk σ H) : tBreak D σ H := q
theorem g_cont (q : D.ct σ H) : tCont D σ H := q
theorem g_drop (q : te σ H fun _ H1 => D.nx σ H1) : tDrop te D σ H := q
theorem g_ret (q : te σ H D.rt) : tRet te D σ H := q
theorem g_retN (q : D.rt .non H) : tRetN D σ H := q
theorem g_asg {g : TG} (q : te σ H fun x H1 => g x σ H1 D.nx) : tAsg te g D σ H := q
theorem g_name {n : Nat} {N : L2.St → Hp → Prop} (q : N (σ.set n (some v)) H) : gName n v σ H N := q
theorem g_par {n m : Nat} {t : TA} (q : t σ H fun vs H1 => ∃ v w, vs = [v, w] ∧ D.nx ((σ.set n (some v)).set m (some w)) H1) : tPar n m t D σ H := q
theorem g_par2 {v w : V} {N : V → V → Prop} (q : N v w) : ∃ v1 w1, [v, w] = [v1, w1] ∧ N v1 w1 := ⟨v, w, rfl, q⟩
theorem g_fld {f : Str} (q : ta σ H fun x H1 => ∃ a C dx fs v, x = .ref a ∧ H1 a = some (.ins C dx fs) ∧ Cls K C ∧ NoAttr K C f ∧ fs.lookup f = some v ∧ Q v H1) : tFld K ta f σ H Q := q
theorem g_sfld {f : Str} {tv : TE} (q : tv σ H fun y H1 => ta σ H1 fun x H2 => ∃ a C dx fs, x = .ref a ∧ H2 a = some (.ins C dx fs) ∧ Cls K C ∧ NoAttr K C f ∧ fs.length < 1000 ∧ D.nx σ (upd H2 a (.ins C dx (putF f y fs)))) : sFld K ta tv f D σ H := q
theorem g_nil {P : List V → Hp → Prop} (q : P [] H) : tNil σ H P := q
theorem g_cons {tr : TA} {P : List V → Hp → Prop} (q : ta σ H fun x H1 => tr σ H1 fun xs H2 => P (x :: xs) H2) : tCons ta tr σ H P := q
theorem g_tup {t : TA} (q : t σ H fun xs H1 => xs.length ≤ sizeLine ∧ ∀ p, H1 p = none → Q (.ref p) (upd H1 p (.tup xs))) : tTup t σ H Q := q
theorem g_lst {t : TA} (q : t σ H fun xs H1 => xs.length ≤ sizeLine ∧ ∀ p, H1 p = none → Q (.ref p) (upd H1 p (.lst xs))) : tLst t σ H Q := q
theorem g_call {sp : Sp} {E : XK} {t : TA} (q : t σ H fun vs H1 => sp vs H1 Q E) : tCall sp [] E t σ H Q := by
  unfold tCall
  have e : (fun vs H1 => sp (vs ++ []) H1 Q E) = fun vs H1 => sp vs H1 Q E := by funext vs H1; rw [List.append_nil]
  rw [e]; exact q
theorem g_meth {C : Addr} {m : Str} {sp : Sp} {E : XK} {t : TA} (q : ta σ H fun x H1 => ∃ a dx fs, x = .ref a ∧ H1 a = some (.ins C dx fs) ∧ fs.lookup m = none ∧ t σ H1 fun vs H2 => sp (x :: vs) H2 Q E) : tMeth C m sp [] E ta t σ H Q := by
  unfold tMeth
  have e : ∀ x H1, (t σ H1 fun vs H2 => sp (x :: (vs ++ [])) H2 Q E) = (t σ H1 fun vs H2 => sp (x :: vs) H2 Q E) := fun x H1 => by
    have : (fun vs H2 => sp (x :: (vs ++ [])) H2 Q E) = fun vs H2 => sp (x :: vs) H2 Q E := by funext vs H2; rw [List.append_nil]
    rw [this]
  simp only [e]
  exact q
theorem g_make {C : Addr} {sp : Sp} {E : XK} {t : TA} (q : t σ H fun vs H1 => ∀ x dx, H1 x = none → H1 dx = none → dx ≠ x → sp (.ref x :: vs) (upd (upd H1 dx (.own x)) x (.ins C dx [])) (fun v H2 => v = .non ∧ Q (.ref x) H2) E) : tMake C sp [] E t σ H Q := by
  unfold tMake
  have e : (fun vs H1 => ∀ x dx, H1 x = none → H1 dx = none → dx ≠ x → sp (.ref x :: (vs ++ [])) (upd (upd H1 dx (.own x)) x (.ins C dx [])) (fun v H2 => v = .non ∧ Q (.ref x) H2) E) = (fun vs H1 => ∀ x dx, H1 x = none → H1 dx = none → dx ≠ x → sp (.ref x :: vs) (upd (upd H1 dx (.own x)) x (.ins C dx [])) (fun v H2 => v = .non ∧ Q (.ref x) H2) E) := by funext vs H1; rw [List.append_nil]
  rw [e]; exact q
theorem g_make1 {C : Addr} {sp : Sp} {E : XK} {d : V} (q : te σ H fun z H1 => ∀ x dx, H1 x = none → H1 dx = none → dx ≠ x → sp [.ref x, z, d] (upd (upd H1 dx (.own x)) x (.ins C dx [])) (fun v H2 => v = .non ∧ Q (.ref x) H2) E) : tMake C sp [d] E (tCons te tNil) σ H Q := q
theorem g_sub {to ti : TE} {t : TSet} {N : L2.St → Hp → Prop} (q : to σ H fun o H1 => ti σ H1 fun i H2 => t o i v H2 fun H3 => N σ H3) : gSub to ti t v σ H N := q
theorem len_lit {α : Type} {xs : List α} (h : Nat.ble xs.length 1000 = true) : xs.length ≤ sizeLine := Nat.le_trans (Nat.le_of_ble_eq_true h) (by decide)
theorem g_cb {r : List V → Hp → VK → Prop} {t : TA} (q : t σ H fun vs H1 => r vs H1 Q) : tCB r t σ H Q := q
end
end Fm

set_option maxHeartbeats 2000000
namespace Fm
open PySem PySem.Spec PyProof.Rows L2

/-! ### operators on great ints -/
def CDivA (_ j : Int) : Prop := j ≠ 0 ∧ j.natAbs.log2 < 9000
theorem op_fdivA {X : Cx} : OpR X (binaryOp .FloorDiv) (rI CDivA fun i j => .int (i.fdiv j)) := opI fun i j _ _ _ _ _ hc q => floordiv_int hc.1 q (.inl (PyProof.noPylong_of_log2 hc.2))
theorem divA {i j : Int} {k : Nat} (h : j ≠ 0) (hb : j.natAbs < 2 ^ k) (h9 : k ≤ 8000) : CDivA i j := by
  refine ⟨h, Nat.lt_of_lt_of_le ((Nat.log2_lt (by omega)).mpr hb) (by omega)⟩
theorem mulA {i j : Int} {a b : Nat} (ha : i.natAbs < 2 ^ a) (hb : j.natAbs < 2 ^ b) (h : a + b ≤ 900000) : CMulW i j :=
  wide_mul (a := a + 1) (b := b + 1) (lt_up ha (by omega)) (lt_up hb (by omega)) (by omega) (by omega) (by omega)
def rGcd' := rGcd
theorem g_gcd {H : Hp} {Q : VK} {i j : Int} (q : Q (.int ((Nat.gcd i.natAbs j.natAbs : Nat) : Int)) H) : rGcd [.int i, .int j] H Q := ⟨i, j, rfl, q⟩
theorem g_ite {A B : Prop} {c : Bool} (h1 : c = true → A) (h2 : c = false → B) : if c = true then A else B := by
  cases c with
  | true => rw [if_pos rfl]; exact h1 rfl
  | false => rw [if_neg Bool.false_ne_true]; exact h2 rfl
theorem g_dec {p : Prop} [Decidable p] {A B : Prop} (h1 : p → A) (h2 : ¬ p → B) : if decide p = true then A else B := g_ite (fun h => h1 (of_decide_eq_true h)) (fun h => h2 (of_decide_eq_false h))

/-! ### quotients in the heap -/
theorem nTB : ¬ (("top" : Str) = "bottom") := by decide +kernel
def flR (q : Rat) : List (Str × V) := putF "bottom" (.int (q.den : Int)) (putF "top" (.int q.num) [])
theorem flR_top (q : Rat) : (flR q).lookup ("top" : Str) = some (.int q.num) := by
  unfold flR
  rw [lookup_putF, if_neg nTB, lookup_putF, if_pos rfl]
theorem flR_bottom (q : Rat) : (flR q).lookup ("bottom" : Str) = some (.int (q.den : Int)) := by
  unfold flR
  rw [lookup_putF, if_pos rfl]
theorem flR_no (q : Rat) {m : Str} (h1 : ¬ m = "bottom") (h2 : ¬ m = "top") : (flR q).lookup m = none := by
  unfold flR
  rw [lookup_putF, if_neg h1, lookup_putF, if_neg h2]
  all_goals rfl
/-- at p a Ratio that is q -/
def RatAt (C : Addr) (H : Hp) (p : Addr) (q : Rat) : Prop := ∃ dx, H p = some (.ins C dx (flR q))
def RatV (C : Addr) (H : Hp) (v : V) (q : Rat) : Prop := ∃ p, v = .ref p ∧ RatAt C H p q
/-- an int or a Ratio -/
def NumV (C : Addr) (H : Hp) (v : V) (q : Rat) : Prop := (∃ n : Int, v = .int n ∧ q = (n : Rat)) ∨ RatV C H v q
section
variable {C : Addr} {H H' : Hp} {p : Addr} {v : V} {q : Rat}
theorem RatAt.mono (e : Ex H H') (h : RatAt C H p q) : RatAt C H' p q := let ⟨dx, h⟩ := h; ⟨dx, e _ _ h⟩
theorem RatV.mono (e : Ex H H') (h : RatV C H v q) : RatV C H' v q := let ⟨p, a, h⟩ := h; ⟨p, a, h.mono e⟩
theorem NumV.mono (e : Ex H H') (h : NumV C H v q) : NumV C H' v q := h.elim .inl fun h => .inr (h.mono e)
theorem RatV.num (h : RatV C H v q) : NumV C H v q := .inr h
theorem NumV.int {n : Int} : NumV C H (.int n) (n : Rat) := .inl ⟨n, rfl, rfl⟩
theorem RatV.like (h : RatV C H v q) : NumLike C v H := let ⟨p, a, dx, h⟩ := h; .inr ⟨p, dx, _, a, h⟩
theorem NumV.like (h : NumV C H v q) : NumLike C v H := h.elim (fun ⟨n, a, _⟩ => .inl ⟨n, a⟩) RatV.like
theorem RatV.inst (h : RatV C H v q) : ∃ a dx fs, v = .ref a ∧ H a = some (.ins C dx fs) := let ⟨p, a, dx, h⟩ := h; ⟨p, dx, _, a, h⟩
end
section
variable {K : PySem.W.Frag} {C : Addr} {H : Hp} {Q : VK} {v : V} {q : Rat}
theorem g_top (c : Cls K C) (n : NoAttr K C "top") {W : V → Prop} (h : RatV C H v q) (k : W (.int q.num)) : ∃ a C dx fs w, v = .ref a ∧ H a = some (.ins C dx fs) ∧ Cls K C ∧ NoAttr K C "top" ∧ fs.lookup ("top" : Str) = some w ∧ W w := by
  obtain ⟨p, rfl, dx, h⟩ := h
  exact ⟨p, C, dx, _, _, rfl, h, c, n, flR_top q, k⟩
theorem g_bottom (c : Cls K C) (n : NoAttr K C "bottom") {W : V → Prop} (h : RatV C H v q) (k : W (.int (q.den : Int))) : ∃ a C dx fs w, v = .ref a ∧ H a = some (.ins C dx fs) ∧ Cls K C ∧ NoAttr K C "bottom" ∧ fs.lookup ("bottom" : Str) = some w ∧ W w := by
  obtain ⟨p, rfl, dx, h⟩ := h
  exact ⟨p, C, dx, _, _, rfl, h, c, n, flR_bottom q, k⟩
end

/-! ### promises that many defs make -/
/-- a new Ratio's __init__, no error -/
def spInit (C : Addr) : Sp := fun vs H Q _ => ∃ (p dx : Addr) (t b : Int) (k : Nat), vs = [.ref p, .int t, .int b] ∧ b ≠ 0 ∧ t.natAbs < 2 ^ k ∧ b.natAbs < 2 ^ k ∧ k ≤ 8000 ∧ H p = some (.ins C dx []) ∧
  ∀ H', (∀ a o, H a = some o → a ≠ p → H' a = some o) → H' p = some (.ins C dx (flR (Rat.divInt t b))) → Q .non H'
theorem use_init {C : Addr} {vs : List V} {H : Hp} {Q : VK} {E : XK} {t b : Int} {k : Nat} (hv : vs = [.int t, .int b]) (hb : b ≠ 0) (h1 : t.natAbs < 2 ^ k) (h2 : b.natAbs < 2 ^ k) (hk : k ≤ 8000)
    (q : ∀ v H', Ex H H' → RatV C H' v (Rat.divInt t b) → Q v H') : ∀ x dx, H x = none → H dx = none → dx ≠ x → spInit C (.ref x :: vs) (upd (upd H dx (.own x)) x (.ins C dx [])) (fun v H2 => v = .non ∧ Q (.ref x) H2) E := by
  intro x dx hx hdx hne
  refine ⟨x, dx, t, b, k, by rw [hv], hb, h1, h2, hk, upd_same, fun H' e hp => ⟨rfl, q _ _ (fun a o ha => ?_) ⟨x, rfl, dx, hp⟩⟩⟩
  refine e a o ?_ (ne_of_none ha hx)
  rw [upd_ne (ne_of_none ha hx), upd_ne (ne_of_none ha hdx)]
  exact ha
/-- x op y, a Ratio and a number -/
def spNum2 (C : Addr) (g : Rat → Rat → Rat) : Sp := fun vs H Q _ => ∃ (x y : V) (a b : Rat) (k : Nat), vs = [x, y] ∧ RatV C H x a ∧ NumV C H y b ∧ Sz k a ∧ Sz k b ∧ k ≤ 3000 ∧ ∀ v H', Ex H H' → RatV C H' v (g a b) → Q v H'
def spNum1 (C : Addr) (g : Rat → Rat) : Sp := fun vs H Q _ => ∃ (x : V) (a : Rat) (k : Nat), vs = [x] ∧ RatV C H x a ∧ Sz k a ∧ k ≤ 3000 ∧ ∀ v H', Ex H H' → RatV C H' v (g a) → Q v H'
def spRel2 (C : Addr) (g : Rat → Rat → Bool) : Sp := fun vs H Q _ => ∃ (x y : V) (a b : Rat) (k : Nat), vs = [x, y] ∧ RatV C H x a ∧ NumV C H y b ∧ Sz k a ∧ Sz k b ∧ k ≤ 3000 ∧ ∀ H', Ex H H' → Q (.bl (g a b)) H'
/-- the types that values have here: the class at C, or a built-in one -/
inductive KTy (C : Addr) : Value → Prop where
  | own : KTy C (.ref C)
  | int : KTy C (.type "int")
  | bool : KTy C (.type "bool")
  | non : KTy C (.type "NoneType")
  | str : KTy C (.type "str")
  | list : KTy C (.type "list")
  | tuple : KTy C (.type "tuple")
  | dict : KTy C (.type "dict")
def isT (t : Value) : Bool := t == .type "int"
def spWhole (K : PySem.W.Frag) (C : Addr) : Sp := fun vs H Q _ => ∃ (x : V) (t : Value), vs = [x] ∧ TyX K H x t ∧ KTy C t ∧ ∀ H', Ex H H' → Q (.bl (t == .type "int")) H'
def spNumber (K : PySem.W.Frag) (C : Addr) : Sp := fun vs H Q _ => ∃ (x : V) (t : Value), vs = [x] ∧ TyX K H x t ∧ KTy C t ∧ ∀ H', Ex H H' → Q (.bl (t == .ref C || t == .type "int")) H'
/-- what the written part says of the class -/
structure RC (K : PySem.W.Frag) (C : Addr) : Prop where
  cl : Cls K C
  nT : NoAttr K C "top"
  nB : NoAttr K C "bottom"
  ha : PySem.W.findIn K (.ref C) "__class__" = some (some (.builtin "object.__class__"))
  hn : PySem.W.specialIn K (.builtin "object.__class__") "__get__" = some (some (.builtin "getset_descriptor.__get__"))
  htk : PySem.W.takesIn K (.builtin "object.__class__") = some true
  hm : PySem.W.mroIn K C (.type "object") = some true
  si : PySem.W.subIn K (.ref C) (.type "int") = some false
  own : (PySem.W.clsIn K C).isSome = true
  ty : PySem.W.typeIn K (.ref C) = some (.type "type")
  noRef : ∀ n ∈ ["int", "bool", "NoneType", "str", "list", "tuple", "dict"], PySem.W.subIn K (.type n) (.ref C) = some false
theorem ty_rat {K : PySem.W.Frag} {C : Addr} {H : Hp} {v : V} {q : Rat} (R : RC K C) (h : RatV C H v q) : TyX K H v (.ref C) := by
  obtain ⟨p, rfl, dx, h⟩ := h
  exact .base (.ins h R.cl R.ha R.hn R.htk R.hm)
theorem ty_num {K : PySem.W.Frag} {C : Addr} {H : Hp} {v : V} {q : Rat} (R : RC K C) (h : NumV C H v q) : ∃ t, TyX K H v t ∧ KTy C t ∧ (t == .ref C || t == .type "int") = true := by
  rcases h with ⟨n, rfl, _⟩ | h
  · exact ⟨_, .base (.int n), .int, by simp⟩
  · exact ⟨_, ty_rat R h, .own, by simp⟩
theorem kit_int {K : PySem.W.Frag} {C : Addr} {t : Value} (R : RC K C) (k : KTy C t) : PySem.W.kitOne K t (.type "int") = some (t == .type "int" || t == .type "bool") := by
  have hm : PySem.W.kitMeta "int" = true := by decide +kernel
  cases k with
  | own =>
    show (if (Value.ref C == Value.type "int") = true then some true else PySem.W.kitCls K (.ref C) (.type "int")) = _
    rw [if_neg (by simp)]
    show (if PySem.W.kitMeta "int" = true then PySem.W.subIn K (.ref C) (.type "int") else none) = _
    rw [if_pos hm, R.si]
    simp
  | int => exact kit_ty (by decide +kernel)
  | bool => exact kit_ty (by decide +kernel)
  | non => exact kit_ty (by decide +kernel)
  | str => exact kit_ty (by decide +kernel)
  | list => exact kit_ty (by decide +kernel)
  | tuple => exact kit_ty (by decide +kernel)
  | dict => exact kit_ty (by decide +kernel)
theorem kit_bool {K : PySem.W.Frag} {C : Addr} {t : Value} (R : RC K C) (k : KTy C t) (h : (t == .type "int" || t == .type "bool") = true) : PySem.W.kitOne K t (.type "bool") = some (t == .type "bool") := by
  cases k with
  | own => simp at h
  | int => exact kit_ty (by decide +kernel)
  | bool => exact kit_ty (by decide +kernel)
  | non => simp at h
  | str => simp at h
  | list => simp at h
  | tuple => simp at h
  | dict => simp at h
theorem kit_own {K : PySem.W.Frag} {C : Addr} {t : Value} (R : RC K C) (k : KTy C t) : PySem.W.kitOne K t (.ref C) = some (t == .ref C) := by
  have base : ∀ n, n ∈ ["int", "bool", "NoneType", "str", "list", "tuple", "dict"] → PySem.W.kitOne K (.type n) (.ref C) = some (Value.type n == .ref C) := fun n hn => by
    have e : (Value.type n == Value.ref C) = false := by simp
    show (if (Value.type n == Value.ref C) = true then some true else PySem.W.kitCls K (.type n) (.ref C)) = _
    rw [e, if_neg Bool.false_ne_true]
    show (if ((PySem.W.clsIn K C).isSome && PySem.W.typeIn K (.ref C) == some (.type "type")) = true then PySem.W.subIn K (.type n) (.ref C) else none) = _
    rw [R.own, R.ty, if_pos (by simp), R.noRef n hn]
  cases k with
  | own =>
    show (if (Value.ref C == Value.ref C) = true then some true else _) = _
    rw [if_pos (by simp)]
    simp
  | int => exact base _ (by simp)
  | bool => exact base _ (by simp)
  | non => exact base _ (by simp)
  | str => exact base _ (by simp)
  | list => exact base _ (by simp)
  | tuple => exact base _ (by simp)
  | dict => exact base _ (by simp)
theorem not_first {K : PySem.W.Frag} {C : Addr} {t : Value} (R : RC K C) (k : KTy C t) : PySem.W.notFirst K C t = true := by
  have base : ∀ n, n ∈ ["int", "bool", "NoneType", "str", "list", "tuple", "dict"] → PySem.W.notFirst K C (.type n) = true := fun n hn => by
    unfold PySem.W.notFirst
    rw [R.noRef n hn]
    simp
  cases k with
  | own => unfold PySem.W.notFirst; simp
  | int => exact base _ (by simp)
  | bool => exact base _ (by simp)
  | non => exact base _ (by simp)
  | str => exact base _ (by simp)
  | list => exact base _ (by simp)
  | tuple => exact base _ (by simp)
  | dict => exact base _ (by simp)
def spAsRatio (C : Addr) : Sp := fun vs H Q _ => ∃ (x : V) (a : Rat) (k : Nat), vs = [x] ∧ NumV C H x a ∧ Sz k a ∧ k ≤ 3000 ∧ ∀ v H', Ex H H' → RatV C H' v a → Q v H'
theorem g_isi {K : PySem.W.Frag} {H : Hp} {Q : VK} {x c : V} {t u : Value} {b : Bool} (ty : TyX K H x t) (k : ClsV c u) (e : PySem.W.kitOne K t u = some b) (q : Q (.bl b) H) : rIsi K [x, c] H Q := ⟨x, c, t, u, b, rfl, k, ty, e, q⟩
theorem cx_K {CX : CXT} {P : Program} {w : World} {K : PySem.W.Frag} {mg : Str → Option Value} {base : Heap} {N : List Str} {q : Str} {sc : Scope} {f : Addr} {cdv : Value} {A : Around} {outer : List Env} {s : Shared} {H : Hp} {E : XK} :
    (cxOf CX P w K mg base N q sc f cdv A outer s H E).K = K := rfl
/-- a def without defaults as the top left it -/
abbrev Def (K : PySem.W.Frag) (x qual : Str) (st : Stmt) (f : Addr) (fd : FuncData) : Prop := FunD K x qual (defArgs st) (defBody st) (defScope st) [] [] f fd
/-- x == y for a Ratio and any value of a known type -/
def spEqV (K : PySem.W.Frag) (C : Addr) : Sp := fun vs H Q _ => ∃ (x y : V) (a : Rat) (r : Bool), vs = [x, y] ∧ RatV C H x a ∧
  ((∃ (c : Rat) (k : Nat), NumV C H y c ∧ Sz k c ∧ k ≤ 3000 ∧ r = decide (a = c)) ∨ (∃ t, TyX K H y t ∧ KTy C t ∧ (t == .ref C || t == .type "int") = false ∧ r = false)) ∧ ∀ H', Ex H H' → Q (.bl r) H'
theorem use_isnot {K : PySem.W.Frag} {C : Addr} {H : Hp} {Q : VK} {E : XK} {x : V} {t : Value} (ty : TyX K H x t) (kt : KTy C t) (e : (t == .ref C || t == .type "int") = false) (q : ∀ H', Ex H H' → Q (.bl false) H') : spNumber K C [x] H Q E :=
  ⟨x, t, rfl, ty, kt, fun H' z => by rw [e]; exact q H' z⟩
theorem use_eqN {K : PySem.W.Frag} {C : Addr} {H : Hp} {Q : VK} {E : XK} {x y : V} {a c : Rat} {k : Nat} (hx : RatV C H x a) (hy : NumV C H y c) (sc : Sz k c) (hk : k ≤ 3000) (q : ∀ H', Ex H H' → Q (.bl (decide (a = c))) H') : spEqV K C [x, y] H Q E :=
  ⟨x, y, a, _, rfl, hx, .inl ⟨c, k, hy, sc, hk, rfl⟩, q⟩
theorem use_eqO {K : PySem.W.Frag} {C : Addr} {H : Hp} {Q : VK} {E : XK} {x y : V} {a : Rat} {t : Value} (hx : RatV C H x a) (ty : TyX K H y t) (kt : KTy C t) (e : (t == .ref C || t == .type "int") = false) (q : ∀ H', Ex H H' → Q (.bl false) H') : spEqV K C [x, y] H Q E :=
  ⟨x, y, a, _, rfl, hx, .inr ⟨t, ty, kt, e, rfl⟩, q⟩
/-- x.over(y), y not 0 -/
def spOver (C : Addr) : Sp := fun vs H Q _ => ∃ (x y : V) (a b : Rat) (k : Nat), vs = [x, y] ∧ RatV C H x a ∧ NumV C H y b ∧ b ≠ 0 ∧ Sz k a ∧ Sz k b ∧ k ≤ 3000 ∧ ∀ v H', Ex H H' → RatV C H' v (a / b) → Q v H'
theorem Sz.div {k : Nat} {a b : Rat} (ha : Sz k a) (hb : Sz k b) (h0 : b ≠ 0) : Sz (k + k) (a / b) := by
  have h1 : b.num ≠ 0 := fun z => h0 (Rat.num_eq_zero.mp z)
  rw [← over_divInt]
  exact Sz.divInt (abs_mul_lt ha.n hb.d) (abs_mul_lt ha.d hb.n) (Int.mul_ne_zero (den_ne a) h1)
theorem dec_and (p q : Prop) [Decidable p] [Decidable q] : (decide p && decide q) = decide (p ∧ q) := by
  by_cases hp : p <;> by_cases hq : q <;> simp [hp, hq]
theorem dec_eqR (a b : Rat) : decide (a = b) = (decide (a.num = b.num) && decide (((a.den : Nat) : Int) = ((b.den : Nat) : Int))) := by
  rw [dec_and]
  exact decide_eq_decide.mpr (eq_iff_parts a b)
theorem dec_ltR (a b : Rat) : decide (a < b) = decide (a.num * b.den < b.num * a.den) := decide_eq_decide.mpr (Rat.lt_iff a b)
theorem dec_leR (a b : Rat) : decide (a ≤ b) = decide (a.num * b.den ≤ b.num * a.den) := decide_eq_decide.mpr (Rat.le_iff a b)
theorem b_nt : (!true) = false := rfl
theorem b_nf : (!false) = true := rfl
theorem use_num2 {C : Addr} {g : Rat → Rat → Rat} {H : Hp} {Q : VK} {E : XK} {x y : V} {a b : Rat} {k : Nat} (hx : RatV C H x a) (hy : NumV C H y b) (sa : Sz k a) (sb : Sz k b) (hk : k ≤ 3000) (q : ∀ v H', Ex H H' → RatV C H' v (g a b) → Q v H') : spNum2 C g [x, y] H Q E :=
  ⟨x, y, a, b, k, rfl, hx, hy, sa, sb, hk, q⟩
theorem use_num1 {C : Addr} {g : Rat → Rat} {H : Hp} {Q : VK} {E : XK} {x : V} {a : Rat} {k : Nat} (hx : RatV C H x a) (sa : Sz k a) (hk : k ≤ 3000) (q : ∀ v H', Ex H H' → RatV C H' v (g a) → Q v H') : spNum1 C g [x] H Q E :=
  ⟨x, a, k, rfl, hx, sa, hk, q⟩
theorem use_rel2 {C : Addr} {g : Rat → Rat → Bool} {H : Hp} {Q : VK} {E : XK} {x y : V} {a b : Rat} {k : Nat} (hx : RatV C H x a) (hy : NumV C H y b) (sa : Sz k a) (sb : Sz k b) (hk : k ≤ 3000) (q : ∀ H', Ex H H' → Q (.bl (g a b)) H') : spRel2 C g [x, y] H Q E :=
  ⟨x, y, a, b, k, rfl, hx, hy, sa, sb, hk, q⟩
theorem use_asr {C : Addr} {H : Hp} {Q : VK} {E : XK} {x : V} {a : Rat} {k : Nat} (hx : NumV C H x a) (sa : Sz k a) (hk : k ≤ 3000) (q : ∀ v H', Ex H H' → RatV C H' v a → Q v H') : spAsRatio C [x] H Q E := ⟨x, a, k, rfl, hx, sa, hk, q⟩
theorem use_isnum {K : PySem.W.Frag} {C : Addr} {H : Hp} {Q : VK} {E : XK} {x : V} {a : Rat} (R : RC K C) (hx : NumV C H x a) (q : ∀ H', Ex H H' → Q (.bl true) H') : spNumber K C [x] H Q E := by
  obtain ⟨t, ty, kt, e⟩ := ty_num R hx
  exact ⟨x, t, rfl, ty, kt, fun H' z => by rw [e]; exact q H' z⟩
theorem def_ok0 {P : Program} {w : World} {K : PySem.W.Frag} {mg : Str → Option Value} {base : Heap} {x qual : Str} {params : Arguments} {bd : List Stmt} {scope : Scope} {dvs : List V} {kws : List (Str × V)} {f : Addr} {fd : FuncData} {N ps : List Str} {k : Nat} {sp : Sp}
    (F : FunD K x qual params bd scope dvs kws f fd) (S : FnScope N ps scope) (len : ∀ vs H Q E, sp vs H Q E → vs.length = ps.length)
    (hbody : ∀ (cdv : Value) (A : Around) (outer : List Env) (s : Shared) (H : Hp) (vs : List V) (Q : VK) (E : XK), Room k (A.deeper (envOfC qual scope s.heap.objs.size f cdv)) → sp vs H Q E →
      ∃ t, PSs (cxOf CX0 P w K mg base N qual scope f cdv A outer s H E).nox bd t ∧ t { nx := fun _ H' => Q .non H', rt := Q } (L2.start N vs) H) : FnOk P w K mg base CX0 (k + 1) f fd ps sp :=
  F.ok S len fun cdv A outer s H vs Q E hr hsp => let ⟨t, h, q⟩ := hbody cdv A outer s H vs Q E hr hsp; ⟨t, h.nox, q⟩
theorem cx_Kn {CX : CXT} {P : Program} {w : World} {K : PySem.W.Frag} {mg : Str → Option Value} {base : Heap} {N : List Str} {q : Str} {sc : Scope} {f : Addr} {cdv : Value} {A : Around} {outer : List Env} {s : Shared} {H : Hp} {E : XK} :
    (cxOf CX P w K mg base N q sc f cdv A outer s H E).nox.K = K := rfl
/-! ### the law's draws -/
/-- at p a tape: two numbers from 0 on -/
def TapeAt (H : Hp) (p : Addr) : Prop := ∃ t0 t1 : Int, 0 ≤ t0 ∧ 0 ≤ t1 ∧ t1 < 2 ^ 40 ∧ H p = some (.lst [.int t0, .int t1])
/-- all but p is as it was -/
def Mo (p : Addr) (H H' : Hp) : Prop := ∀ a o, H a = some o → a ≠ p → H' a = some o
theorem Mo.refl (p : Addr) (H : Hp) : Mo p H H := fun _ _ h _ => h
theorem Mo.trans {p : Addr} {H H1 H2 : Hp} (a : Mo p H H1) (b : Mo p H1 H2) : Mo p H H2 := fun x o h n => b x o (a x o h n) n
theorem Mo.ex {p : Addr} {H H1 H2 : Hp} (a : Mo p H H1) (b : Ex H1 H2) : Mo p H H2 := fun x o h n => b x o (a x o h n)
theorem Ex.mo {p : Addr} {H H1 : Hp} (a : Ex H H1) : Mo p H H1 := fun x o h _ => a x o h
theorem Mo.set {p : Addr} {H : Hp} {o : HO} : Mo p H (upd H p o) := fun x u h n => by rw [upd_ne n]; exact h
theorem TapeAt.mono {H H' : Hp} {p : Addr} (e : Ex H H') (h : TapeAt H p) : TapeAt H' p := let ⟨t0, t1, a, b, c, h⟩ := h; ⟨t0, t1, a, b, c, e _ _ h⟩
def spTape (K : PySem.W.Frag) : Sp := fun vs H Q _ => ∃ (a : Addr) (ns : List Int) (k : Nat), vs = [.ref a, .int (k : Int)] ∧ SqL K H a (ns.map V.int) ∧ k ≤ 100 ∧ ∀ p H', H p = none → Ex H H' → TapeAt H' p → Q (.ref p) H'
def spPick : Sp := fun vs H Q _ => ∃ (p : Addr) (m : Int), vs = [.ref p, .int m] ∧ 0 < m ∧ m < 2 ^ 100 ∧ TapeAt H p ∧ ∀ d H', 0 ≤ d → d < m → Mo p H H' → TapeAt H' p → Q (.int d) H'
theorem use_pick {H : Hp} {Q : VK} {E : XK} {p : Addr} {m : Int} (h0 : 0 < m) (h1 : m < 2 ^ 100) (h : TapeAt H p) (q : ∀ d H', 0 ≤ d → d < m → Mo p H H' → TapeAt H' p → Q (.int d) H') : spPick [.ref p, .int m] H Q E := ⟨p, m, rfl, h0, h1, h, q⟩
theorem g_ixL {K : PySem.W.Frag} {H : Hp} {Q : VK} {p : Addr} {xs : List V} {i : Int} {v : V} (h : SqL K H p xs) (a : atI xs i = some v) (q : Q v H) : rIxL K (.ref p) (.int i) H Q := ⟨p, xs, i, v, rfl, rfl, h, a, q⟩
theorem g_ixT {K : PySem.W.Frag} {H : Hp} {Q : VK} {p : Addr} {xs : List V} {i : Int} {v : V} (h : SqT K H p xs) (a : atI xs i = some v) (q : Q v H) : rIxT K (.ref p) (.int i) H Q := ⟨p, xs, i, v, rfl, rfl, h, a, q⟩
def rLenQ (K : PySem.W.Frag) : List V → Hp → VK → Prop := fun xs H Q => ∃ p ys, xs = [.ref p] ∧ (SqL K H p ys ∨ SqT K H p ys) ∧ Q (.int ys.length) H
theorem call_lenQ {X : Cx} : CallR X (.builtin "len") (rLenQ X.K) := call_len_seq
theorem g_lenL {K : PySem.W.Frag} {H : Hp} {Q : VK} {p : Addr} {xs : List V} (h : SqL K H p xs) (q : Q (.int xs.length) H) : rLenQ K [.ref p] H Q := ⟨p, xs, rfl, .inl h, q⟩
theorem g_lenT {K : PySem.W.Frag} {H : Hp} {Q : VK} {p : Addr} {xs : List V} (h : SqT K H p xs) (q : Q (.int xs.length) H) : rLenQ K [.ref p] H Q := ⟨p, xs, rfl, .inr h, q⟩
def rAbsI : List V → Hp → VK → Prop := fun xs H Q => ∃ i, xs = [.int i] ∧ Q (.int (if i < 0 then -i else i)) H
theorem cr_absI {X : Cx} : CallR X (.builtin "abs") rAbsI := call_abs
theorem g_absI {H : Hp} {Q : VK} {i : Int} (q : Q (.int ((i.natAbs : Nat) : Int)) H) : rAbsI [.int i] H Q := ⟨i, rfl, by
  have e : (if i < 0 then -i else i) = ((i.natAbs : Nat) : Int) := by split <;> omega
  rw [e]; exact q⟩
def rIntI : List V → Hp → VK → Prop := fun xs H Q => (∃ i, xs = [.int i] ∧ Q (.int i) H) ∨ ∃ k, xs = [.bl k] ∧ Q (.int (if k then 1 else 0)) H
theorem cr_intI {X : Cx} : CallR X (.type "int") rIntI := call_int1
theorem g_intI {H : Hp} {Q : VK} {i : Int} (q : Q (.int i) H) : rIntI [.int i] H Q := .inl ⟨i, rfl, q⟩
def gSetL (N : Hp → Prop) (p : Addr) (xs : List V) (i : Int) (v : V) (H : Hp) : Prop := ∃ j, ixN xs.length i = some j ∧ N (upd H p (.lst (xs.set j v)))
theorem g_setL {H : Hp} {N : Hp → Prop} {p : Addr} {xs : List V} {i : Int} {v : V} {j : Nat} (h : H p = some (.lst xs)) (hj : ixN xs.length i = some j) (q : N (upd H p (.lst (xs.set j v)))) : rSetL (.ref p) (.int i) v H N := ⟨p, xs, i, j, rfl, rfl, h, hj, q⟩
end Fm

set_option maxHeartbeats 2000000
namespace Fm
open PySem PySem.Spec PyProof.Rows L2 SX

/-! ### texts of quotients -/
def dg (c : Nat) : Bool := decide (48 ≤ c) && decide (c ≤ 57)
def dig (l : List Nat) : Bool := !l.isEmpty && l.all dg
def body (l : List Nat) : List Nat := if l.head? = some 45 then l.tail else l
def txN (n : Int) : List Nat := if n < 0 then 45 :: TL.numL n.natAbs else TL.numL n.natAbs
def txR (q : Rat) : List Nat := txN q.num ++ (if q.den = 1 then [] else 47 :: TL.numL q.den)
def dv (l : List Nat) : Nat := NumText.digitsVal l
/-- as the package reads -/
def rdP (l : List Nat) : Option Rat :=
  let p := (TL.par [47] [] l).getD (l, [])
  let bottom := if (TL.par [47] [] l).isSome = true then p.2 else [49]
  if (dig (body p.1) && dig bottom && !decide (bottom.head? = some 48)) = true then
    let q := Rat.divInt (dv (body p.1)) (dv bottom)
    let q := if p.1.head? = some 45 then -q else q
    if txR q = l then some q else none
  else none
/-- as the law reads -/
def badPart (p : List Nat) : Bool := !dig p || (decide (p ≠ [48]) && decide (p.head? = some 48))
def rdL (l : List Nat) : Option Rat :=
  match TL.spl [47] 0 [] (body l) with
  | [u] => if badPart u = true then none else if u = [48] ∧ l.head? = some 45 then none else some ((if l.head? = some 45 then -(dv u : Int) else (dv u : Int) : Int) : Rat)
  | [u, d] => if (badPart u || badPart d) = true then none else if u = [48] then none else if dv d < 2 then none else if Nat.gcd (dv u) (dv d) ≠ 1 then none
      else some (Rat.divInt (if l.head? = some 45 then -(dv u : Int) else (dv u : Int)) (dv d : Int))
  | _ => none

theorem numL_dg (n : Nat) : (TL.numL n).all dg = true := by
  rw [List.all_eq_true]
  intro c hc
  have := TL.numL_digits n c hc
  unfold dg
  simp; omega
theorem dig_numL (n : Nat) : dig (TL.numL n) = true := by
  unfold dig
  rw [numL_dg]
  have := TL.numL_ne n
  cases h : TL.numL n with
  | nil => exact absurd h this
  | cons a r => rfl
theorem dv_numL (n : Nat) : dv (TL.numL n) = n := TL.numL_val n
theorem numL_head {n : Nat} (h : 0 < n) : (TL.numL n).head? ≠ some 48 := by
  induction n using Nat.strongRecOn with
  | _ n ih =>
    by_cases h10 : n < 10
    · rw [TL.numL_lt h10]
      simp
      omega
    · rw [TL.numL_step (by omega)]
      have h1 := ih (n / 10) (by omega) (by omega)
      have h2 := TL.numL_ne (n / 10)
      cases e : TL.numL (n / 10) with
      | nil => exact absurd e h2
      | cons a r =>
        rw [e] at h1
        simpa using h1
theorem numL_head45 (n : Nat) : (TL.numL n).head? ≠ some 45 := by
  intro h
  have h2 : 45 ∈ TL.numL n := by
    cases e : TL.numL n with
    | nil => rw [e] at h; simp at h
    | cons a r => rw [e] at h; simp at h; rw [h]; exact List.mem_cons_self ..
  exact TL.numL_free (n := n) (s := 45) (.inl (by decide)) h2
theorem numL_zero {n : Nat} (h : TL.numL n = [48]) : n = 0 := by
  have := dv_numL n
  rw [h] at this
  exact this.symm
theorem body_txN (n : Int) : body (txN n) = TL.numL n.natAbs := by
  unfold body txN
  by_cases h : n < 0
  · rw [if_pos h]; simp
  · rw [if_neg h, if_neg (numL_head45 _)]
theorem txN_head (n : Int) : ((txN n).head? = some 45) ↔ n < 0 := by
  unfold txN
  by_cases h : n < 0
  · rw [if_pos h]; simp [h]
  · rw [if_neg h]; simp [h, numL_head45]
theorem txN_ne (n : Int) : txN n ≠ [] := by
  unfold txN
  split
  · simp
  · exact TL.numL_ne _
theorem free47 (n : Int) : 47 ∉ txN n := by
  have h := TL.numL_free (n := n.natAbs) (s := 47) (.inl (by decide))
  unfold txN
  split
  · simp [h]
  · exact h
theorem free47N (n : Nat) : 47 ∉ TL.numL n := TL.numL_free (.inl (by decide))
theorem dv_app (l : List Nat) (c : Nat) : dv (l ++ [c]) = dv l * 10 + (c - 48) := by
  unfold dv NumText.digitsVal
  rw [List.foldl_append]
  rfl
theorem dv_pos : ∀ {l : List Nat}, dig l = true → l.head? ≠ some 48 → 0 < dv l := by
  intro l h hh
  cases l with
  | nil => simp [dig] at h
  | cons a r =>
    have ha : 49 ≤ a := by
      simp [dig, dg] at h
      simp at hh
      omega
    unfold dv NumText.digitsVal
    rw [List.foldl_cons]
    have key : ∀ (r : List Nat) (x : Nat), 0 < x → 0 < r.foldl (fun acc c => acc * 10 + (c - 48)) x := by
      intro r
      induction r with
      | nil => intro x h; exact h
      | cons b t ih => intro x h; exact ih _ (show 0 < x * 10 + (b - 48) by omega)
    exact key r _ (show 0 < 0 * 10 + (a - 48) by omega)
theorem canon {l : List Nat} (h : dig l = true) (hz : l = [48] ∨ l.head? ≠ some 48) : TL.numL (dv l) = l := by
  have key : ∀ (n : Nat) (l : List Nat), l.length = n → dig l = true → (l = [48] ∨ l.head? ≠ some 48) → TL.numL (dv l) = l := by
    intro n
    induction n with
    | zero =>
      intro l hl h _
      have := List.eq_nil_of_length_eq_zero hl
      subst this
      simp [dig] at h
    | succ n ih =>
      intro l hl h hz
      rcases List.eq_nil_or_concat l with e | ⟨r, c, e⟩
      · subst e; simp at hl
      · rw [List.concat_eq_append] at e
        subst e
        rw [dv_app]
        have hd : r.all dg = true ∧ dg c = true := by
          simp [dig] at h
          exact ⟨List.all_eq_true.mpr h.1, h.2⟩
        have hc : 48 ≤ c ∧ c ≤ 57 := by
          have := hd.2
          simp [dg] at this
          exact this
        cases r with
        | nil =>
          have : dv [] = 0 := rfl
          rw [this, TL.numL_lt (by omega)]
          simp; omega
        | cons a t =>
          have hh : (a :: t).head? ≠ some 48 := by
            rcases hz with hz | hz
            · simp at hz
            · simpa using hz
          have hdr : dig (a :: t) = true := by
            unfold dig
            rw [hd.1]; rfl
          have hpos := dv_pos hdr hh
          rw [TL.numL_step (by omega), show (dv (a :: t) * 10 + (c - 48)) / 10 = dv (a :: t) by omega, ih (a :: t) (by simpa using hl) hdr (.inr hh), show 48 + (dv (a :: t) * 10 + (c - 48)) % 10 = c by omega]
  exact key l.length l rfl h hz
theorem join_spl (l : List Nat) : ∀ acc, TL.joinL [47] (TL.spl [47] 0 acc l) = acc ++ l := by
  have ne : ∀ (l acc : List Nat), TL.spl [47] 0 acc l ≠ [] := by
    intro l
    induction l with
    | nil => intro acc; rw [TL.spl_nil]; simp
    | cons c r ih =>
      intro acc
      by_cases h : TL.pre [47] (c :: r) = true
      · rw [TL.spl_hit h]; simp
      · rw [TL.spl_miss (by simpa using h)]; exact ih _
  induction l with
  | nil => intro acc; rw [TL.spl_nil]; simp [TL.joinL]
  | cons c r ih =>
    intro acc
    by_cases h : TL.pre [47] (c :: r) = true
    · rw [TL.spl_hit h]
      have hc : c = 47 := by simpa [TL.pre] using h
      subst hc
      have h2 := ih []
      have h3 := ne r []
      show TL.joinL [47] (acc :: TL.spl [47] 0 [] r) = acc ++ 47 :: r
      cases e : TL.spl [47] 0 [] r with
      | nil => exact absurd e h3
      | cons x y =>
        rw [e] at h2
        show acc ++ ([47] ++ TL.joinL [47] (x :: y)) = acc ++ 47 :: r
        rw [h2]; simp
    · rw [TL.spl_miss (by simpa using h), ih]; simp
theorem body_join {l : List Nat} : l = (if l.head? = some 45 then [45] else []) ++ body l := by
  unfold body
  cases l with
  | nil => simp
  | cons a r =>
    by_cases h : a = 45
    · subst h; simp
    · have : (a :: r).head? ≠ some 45 := by simp [h]
      rw [if_neg this, if_neg this]; simp
theorem bad_ok {p : List Nat} (h : badPart p = false) : dig p = true ∧ (p = [48] ∨ p.head? ≠ some 48) := by
  unfold badPart at h
  rw [Bool.or_eq_false_iff] at h
  refine ⟨by simpa using h.1, ?_⟩
  by_cases e : p = [48]
  · exact .inl e
  · refine .inr fun hh => ?_
    have := h.2
    simp [e, hh] at this
theorem ok_bad {p : List Nat} (h : dig p = true) (h2 : p = [48] ∨ p.head? ≠ some 48) : badPart p = false := by
  unfold badPart
  rw [h]
  rcases h2 with rfl | h2
  · simp
  · simp [h2]
theorem bad_numL (n : Nat) : badPart (TL.numL n) = false := by
  refine ok_bad (dig_numL n) ?_
  by_cases h : n = 0
  · subst h; exact .inl (by rw [TL.numL_lt (by decide)])
  · exact .inr (numL_head (by omega))
theorem head_body {l u : List Nat} (h : dig u = true) (r : List Nat) (e : body l = u ++ r) (hn : l.head? ≠ some 45) : l = u ++ r := by
  have := body_join (l := l)
  rw [if_neg hn] at this
  rw [this, e]; rfl
/-- A: what the law reads has this text -/
theorem rdL_text {l : List Nat} {q : Rat} (h : rdL l = some q) : txR q = l := by
  have hj := join_spl (body l) []
  have hb := body_join (l := l)
  unfold rdL at h
  split at h
  · rename_i u hs
    rw [hs] at hj
    split at h
    · cases h
    · rename_i hbad
      split at h
      · cases h
      · rename_i hz
        cases h
        obtain ⟨h1, h2⟩ := bad_ok (by simpa using hbad)
        have hc := canon h1 h2
        have hu : u = body l := hj
        unfold txR
        rw [Rat.den_intCast, Rat.num_intCast, if_pos rfl, List.append_nil]
        unfold txN
        by_cases hn : l.head? = some 45
        · rw [if_pos hn]
          have hpos : 0 < dv u := by
            rcases h2 with e | e
            · exact absurd ⟨e, hn⟩ hz
            · exact dv_pos h1 e
          rw [if_pos (by omega), Int.natAbs_neg, Int.natAbs_natCast, hc, hb, if_pos hn, hu]; rfl
        · rw [if_neg hn, if_neg (by omega), Int.natAbs_natCast, hc, hb, if_neg hn, hu]; rfl
  · rename_i u d hs
    rw [hs] at hj
    split at h
    · cases h
    · rename_i hbad
      split at h
      · cases h
      · rename_i hz
        split at h
        · cases h
        · rename_i h2d
          split at h
          · cases h
          · rename_i hg
            cases h
            rw [Bool.not_eq_true, Bool.or_eq_false_iff] at hbad
            obtain ⟨u1, u2⟩ := bad_ok hbad.1
            obtain ⟨d1, d2⟩ := bad_ok hbad.2
            have cu := canon u1 u2
            have cd := canon d1 d2
            have upos : 0 < dv u := by
              rcases u2 with e | e
              · exact absurd e hz
              · exact dv_pos u1 e
            have hg' : Nat.gcd (dv u) (dv d) = 1 := by omega
            have hbody : u ++ ([47] ++ d) = body l := hj
            have core : ∀ n : Int, n.natAbs = dv u → (Rat.divInt n (dv d : Int)).num = n ∧ (Rat.divInt n (dv d : Int)).den = dv d := by
              intro n hn
              have hgg : Int.gcd (dv d : Int) n = 1 := by
                rw [Int.gcd_eq_natAbs_gcd_natAbs, hn, Int.natAbs_natCast, Nat.gcd_comm]; exact hg'
              constructor
              · rw [Rat.num_divInt, hgg, Int.sign_eq_one_of_pos (by omega)]; simp
              · rw [Rat.den_divInt, if_neg (by omega), hgg]; simp
            by_cases hn : l.head? = some 45
            · rw [if_pos hn]
              obtain ⟨e1, e2⟩ := core (-(dv u : Int)) (by omega)
              unfold txR
              rw [e1, e2, if_neg (by omega)]
              unfold txN
              rw [if_pos (by omega), Int.natAbs_neg, Int.natAbs_natCast, cu, cd, hb, if_pos hn, ← hbody]
              simp
            · rw [if_neg hn]
              obtain ⟨e1, e2⟩ := core (dv u : Int) (by omega)
              unfold txR
              rw [e1, e2, if_neg (by omega)]
              unfold txN
              rw [if_neg (by omega), Int.natAbs_natCast, cu, cd, hb, if_neg hn, ← hbody]
              simp
  · cases h
theorem par_app (n : Int) (r : List Nat) : TL.par [47] [] (txN n ++ 47 :: r) = some (txN n, r) := TL.par_part1 (s := 47) (S := []) (acc := []) (free47 n)
theorem sgn_abs (n : Int) : (if n < 0 then -((n.natAbs : Nat) : Int) else ((n.natAbs : Nat) : Int)) = n := by split <;> omega
theorem head_txR (q : Rat) : ((txR q).head? = some 45) ↔ q.num < 0 := by
  rw [← txN_head]
  unfold txR
  have := txN_ne q.num
  cases e : txN q.num with
  | nil => exact absurd e this
  | cons a r => simp
/-- B: the package reads what it writes -/
theorem rdP_text (q : Rat) : rdP (txR q) = some q := by
  by_cases h1 : q.den = 1
  · have e : txR q = txN q.num := by unfold txR; rw [if_pos h1, List.append_nil]
    have hp : TL.par [47] [] (txN q.num) = none := TL.par_none1 (s := 47) (S := []) (free47 _)
    have hq : Rat.divInt (dv (TL.numL q.num.natAbs) : Int) (dv [49] : Int) = ((q.num.natAbs : Nat) : Rat) := by
      rw [dv_numL]
      show Rat.divInt _ 1 = _
      rw [int_divInt]; rfl
    have hqq : (if (txN q.num).head? = some 45 then -((q.num.natAbs : Nat) : Rat) else ((q.num.natAbs : Nat) : Rat)) = q := by
      have hqn : q = ((q.num : Int) : Rat) := Rat.ext (by simp) (by simp [h1])
      by_cases hn : q.num < 0
      · rw [if_pos ((txN_head _).mpr hn)]
        conv => rhs; rw [hqn]
        rw [show q.num = -((q.num.natAbs : Nat) : Int) by omega]
        simp
        rfl
      · rw [if_neg (fun z => hn ((txN_head _).mp z))]
        conv => rhs; rw [hqn]
        rw [show q.num = ((q.num.natAbs : Nat) : Int) by omega]
        simp
        rfl
    unfold rdP
    rw [e, hp]
    simp only [Option.getD_none, Option.isSome_none, Bool.false_eq_true, if_false, body_txN, dig_numL, hq, hqq, e]
    simp [dig, dg]
  · have e : txR q = txN q.num ++ 47 :: TL.numL q.den := by unfold txR; rw [if_neg h1]
    have hp := par_app q.num (TL.numL q.den)
    have hd := numL_head q.den_pos
    have hq : Rat.divInt (dv (TL.numL q.num.natAbs) : Int) (dv (TL.numL q.den) : Int) = Rat.divInt ((q.num.natAbs : Nat) : Int) ((q.den : Nat) : Int) := by rw [dv_numL, dv_numL]
    have hqq : (if (txN q.num).head? = some 45 then -(Rat.divInt ((q.num.natAbs : Nat) : Int) ((q.den : Nat) : Int)) else Rat.divInt ((q.num.natAbs : Nat) : Int) ((q.den : Nat) : Int)) = q := by
      by_cases hn : q.num < 0
      · rw [if_pos ((txN_head _).mpr hn), Rat.neg_divInt, show -((q.num.natAbs : Nat) : Int) = q.num by omega, Rat.num_divInt_den]
      · rw [if_neg (fun z => hn ((txN_head _).mp z)), show ((q.num.natAbs : Nat) : Int) = q.num by omega, Rat.num_divInt_den]
    unfold rdP
    rw [e, hp]
    simp only [Option.getD_some, Option.isSome_some, if_true, body_txN, dig_numL, hq, hqq, e]
    simp [hd]
/-- D: so does the law -/
theorem rdL_of (q : Rat) : rdL (txR q) = some q := by
  have hh := head_txR q
  by_cases h1 : q.den = 1
  · have e : txR q = txN q.num := by unfold txR; rw [if_pos h1, List.append_nil]
    have hs : TL.spl [47] 0 [] (body (txR q)) = [TL.numL q.num.natAbs] := by
      rw [e, body_txN]
      exact TL.spl_last1 (s := 47) (S := []) (free47N _)
    unfold rdL
    rw [hs]
    simp only [bad_numL, Bool.false_eq_true, if_false]
    have hz : ¬ (TL.numL q.num.natAbs = [48] ∧ (txR q).head? = some 45) := fun z => by
      have := numL_zero z.1
      have := hh.mp z.2
      omega
    rw [if_neg hz, dv_numL]
    have hqn : q = ((q.num : Int) : Rat) := Rat.ext (by simp) (by simp [h1])
    congr 1
    conv => rhs; rw [hqn]
    congr 1
    by_cases hn : q.num < 0
    · rw [if_pos (hh.mpr hn)]; omega
    · rw [if_neg (fun z => hn (hh.mp z))]; omega
  · have e : txR q = txN q.num ++ 47 :: TL.numL q.den := by unfold txR; rw [if_neg h1]
    have hb : body (txR q) = TL.numL q.num.natAbs ++ 47 :: TL.numL q.den := by
      rw [e]
      unfold body txN
      by_cases hn : q.num < 0
      · rw [if_pos hn]; simp
      · rw [if_neg hn]
        have h2 := TL.numL_ne q.num.natAbs
        have h3 := numL_head45 q.num.natAbs
        cases ee : TL.numL q.num.natAbs with
        | nil => exact absurd ee h2
        | cons x r =>
          rw [ee] at h3
          rw [if_neg (by simpa using h3)]
    have hs : TL.spl [47] 0 [] (body (txR q)) = [TL.numL q.num.natAbs, TL.numL q.den] := by
      rw [hb]
      have s1 := TL.spl_part1 (s := 47) (S := []) (acc := []) (rest := TL.numL q.den) (free47N q.num.natAbs)
      have s2 := TL.spl_last1 (s := 47) (S := []) (acc := []) (free47N q.den)
      rw [s2] at s1
      exact s1
    unfold rdL
    rw [hs]
    simp only [bad_numL, Bool.or_self, Bool.false_eq_true, if_false]
    have hz : ¬ TL.numL q.num.natAbs = [48] := fun z => by
      have h0 : q.num = 0 := by have := numL_zero z; omega
      have hr := q.reduced
      rw [h0] at hr
      simp at hr
      exact h1 hr
    have hd2 : ¬ dv (TL.numL q.den) < 2 := by rw [dv_numL]; have := q.den_pos; omega
    have hg : ¬ Nat.gcd (dv (TL.numL q.num.natAbs)) (dv (TL.numL q.den)) ≠ 1 := by rw [dv_numL, dv_numL]; exact fun z => z q.reduced
    rw [if_neg hz, if_neg hd2, if_neg hg, dv_numL, dv_numL]
    congr 1
    conv => rhs; rw [← Rat.num_divInt_den q]
    congr 1
    by_cases hn : q.num < 0
    · rw [if_pos (hh.mpr hn)]; omega
    · rw [if_neg (fun z => hn (hh.mp z))]; omega
theorem rdP_some {l : List Nat} {q : Rat} (h : rdP l = some q) : txR q = l := by
  unfold rdP at h
  dsimp only at h
  rw [Option.ite_none_right_eq_some] at h
  obtain ⟨_, h⟩ := h
  rw [Option.ite_none_right_eq_some] at h
  obtain ⟨e, h⟩ := h
  cases h
  exact e
theorem rd_eq (l : List Nat) : rdP l = rdL l := by
  cases h : rdL l with
  | some q => rw [← rdL_text h]; exact rdP_text q
  | none =>
    cases h2 : rdP l with
    | none => rfl
    | some q =>
      have := rdP_some h2
      rw [← this, rdL_of] at h
      cases h
/-! ### texts in the readings -/
def rAdS : R2 := fun x y H Q => ∃ i j, x = .str i ∧ y = .str j ∧ i.length + j.length ≤ sizeLine ∧ Q (.str (i ++ j)) H
theorem op_adS {X : Cx} : OpR X (binaryOp .Add) rAdS := op_add_str
def rStrI : List V → Hp → VK → Prop := fun xs H Q => ∃ i, xs = [.int i] ∧ i.natAbs.log2 < 1920 ∧ Q (.str (toString i)) H
theorem cr_strI {X : Cx} : CallR X (.type "str") rStrI := call_str_int
def rIntS : List V → Hp → VK → Prop := fun xs H Q => ∃ a n, xs = [.str a] ∧ PySem.intText? a = some n ∧ a.length ≤ 640 ∧ Q (.int n) H
theorem cr_intS {X : Cx} : CallR X (.type "int") rIntS := call_int_str
def rLenS : List V → Hp → VK → Prop := fun xs H Q => ∃ z, xs = [.str z] ∧ z.length ≤ sizeLine ∧ Q (.int z.length) H
theorem call_lenS {X : Cx} : CallR X (.builtin "len") rLenS := by
  intro pins s σ H xs us Q I r h
  obtain ⟨z, e, hz, q⟩ := h
  exact call_len_str pins s σ H xs us Q I r ⟨z, e, hz, q⟩
theorem str_S (n : Int) : (toString n : String).toList.map Char.toNat = txN n := by
  cases n with
  | ofNat m =>
    have h := congrArg (fun x : Str => x.cps.toList) (num_S m)
    have h2 : (Str.ofString (toString ((m : Nat) : Int))).cps.toList = (toString ((m : Nat) : Int) : String).toList.map Char.toNat := PyProof.Rows.signs_ofString _
    unfold txN
    show (toString ((m : Nat) : Int) : String).toList.map Char.toNat = if ((m : Nat) : Int) < 0 then 45 :: TL.numL (Int.natAbs ((m : Nat) : Int)) else TL.numL (Int.natAbs ((m : Nat) : Int))
    rw [if_neg (show ¬ ((m : Nat) : Int) < 0 by omega)]
    rw [← h2, Int.natAbs_natCast]
    exact h
  | negSucc m =>
    have h := congrArg (fun x : Str => x.cps.toList) (num_S (m + 1))
    have h2 : (Str.ofString (toString (((m + 1 : Nat)) : Int))).cps.toList = (toString (((m + 1 : Nat)) : Int) : String).toList.map Char.toNat := PyProof.Rows.signs_ofString _
    have e : (toString (Int.negSucc m) : String) = "-" ++ (toString (((m + 1 : Nat)) : Int) : String) := rfl
    unfold txN
    rw [if_pos (by omega), e, String.toList_append, List.map_append, ← h2]
    have h3 : (Str.ofString (toString (((m + 1 : Nat)) : Int))).cps.toList = TL.numL (m + 1) := h
    rw [h3]
    rfl
theorem strS (n : Int) : (Str.ofString (toString n) : Str) = S (txN n) := TL.ext_tl ((PyProof.Rows.signs_ofString _).trans (str_S n))
section
variable {K : PySem.W.Frag} {σ : L2.St} {H : Hp} {Q : VK} {D : Ends} {ta te : TE}
theorem g_m0 {r : V → List V → Hp → VK → Prop} (q : te σ H fun x H1 => (∃ a, x = .str a) ∧ r x [] H1 Q) : tM0 r te σ H Q := q
theorem g_m1 {r : V → List V → Hp → VK → Prop} (q : ta σ H fun x H1 => (∃ a, x = .str a) ∧ te σ H1 fun y H2 => r x [y] H2 Q) : tM1 r ta te σ H Q := q
theorem g_isS {z : Str} {A : Prop} (q : A) : (∃ a, V.str z = .str a) ∧ A := ⟨⟨z, rfl⟩, q⟩
theorem g_adS {a b : List Nat} (h : a.length + b.length ≤ 100000) (q : Q (.str (S (a ++ b))) H) : rAdS (.str (S a)) (.str (S b)) H Q :=
  ⟨S a, S b, rfl, rfl, by rw [S_len, S_len]; exact Nat.le_trans h (by decide), by rw [S_cat]; exact q⟩
theorem g_strI {n : Int} (h : n.natAbs < 2 ^ 240) (q : Q (.str (S (txN n))) H) : rStrI [.int n] H Q :=
  ⟨n, rfl, by
    by_cases h0 : n.natAbs = 0
    · rw [h0]; decide
    · exact Nat.lt_of_lt_of_le ((Nat.log2_lt h0).mpr h) (by decide), by
    have e := strS n
    show Q (.str (Str.ofString (toString n))) H
    rw [e]; exact q⟩
theorem g_intS {l : List Nat} (h : dig l = true) (hl : l.length ≤ 600) (q : Q (.int ((dv l : Nat) : Int)) H) : rIntS [.str (S l)] H Q := by
  have hne : l ≠ [] := fun e => by subst e; simp [dig] at h
  have ha : l.all dg = true := by
    unfold dig at h
    rw [Bool.and_eq_true] at h
    exact h.2
  exact ⟨S l, _, rfl, int_S ha hne (by omega), by rw [S_len]; omega, q⟩
theorem g_lenS {l : List Nat} (hl : l.length ≤ 100000) (q : Q (.int (l.length : Int)) H) : rLenS [.str (S l)] H Q :=
  ⟨S l, rfl, by rw [S_len]; exact Nat.le_trans hl (by decide), by rw [S_len]; exact q⟩
theorem g_app {p : Addr} {xs : List V} {y : V} (h : H p = some (.lst xs)) (hl : xs.length ≤ 100000) (q : Q .non (upd H p (.lst (xs ++ [y])))) : rAppend (.ref p) [y] H Q := ⟨p, xs, y, rfl, rfl, h, Nat.lt_of_le_of_lt hl (by decide), q⟩
theorem g_bm {T : String} {r : V → List V → Hp → VK → Prop} {t : TA} (q : te σ H fun x H1 => tyV K T x H1 ∧ t σ H1 fun xs H2 => r x xs H2 Q) : tBM K T r te t σ H Q := q
theorem tyL {p : Addr} {xs : List V} (h : H p = some (.lst xs)) : tyV K "list" (.ref p) H := .inl ⟨rfl, _, SqL.of h⟩
theorem g_revL (q : te σ H fun x H1 => ∃ a xs, x = .ref a ∧ SqL K H1 a xs ∧ ∀ p, H1 p = none → Q (.ref p) (upd H1 p (.lst xs.reverse))) : tRevL K te σ H Q := q
theorem while_no {c : TT} {tb : TS} (h : c σ H fun b H1 => b = false ∧ H1 = H) (mono : ∀ σ H (Q Q' : Bool → Hp → Prop), (∀ b H1, Q b H1 → Q' b H1) → c σ H Q → c σ H Q') (q : D.nx σ H) : tWhile c tb D σ H := by
  refine ⟨fun m σ' H' => σ' = σ ∧ H' = H, ⟨0, rfl, rfl⟩, ?_⟩
  rintro m σ' H' ⟨rfl, rfl⟩
  refine mono _ _ _ _ (fun b H1 hb => ?_) h
  obtain ⟨rfl, rfl⟩ := hb
  rw [if_neg Bool.false_ne_true]
  exact q
end
theorem isDigit_ascii : ∀ c, c < 128 → Unicode.isDigit c = dg c := by decide +kernel
theorem isdig_eq (l : List Nat) : (if Txt.isascii (S l) = true then Txt.isdigit (S l) else false) = dig l := by
  have ea : Txt.isascii (S l) = l.all (· < 128) := by unfold Txt.isascii; rw [← Array.all_toList]
  have ed : Txt.isdigit (S l) = (decide (0 < l.length) && l.all Unicode.isDigit) := by unfold Txt.isdigit; rw [← Array.all_toList, S_len]
  rw [ea, ed]
  have en : decide (0 < l.length) = !l.isEmpty := by cases l <;> simp
  rw [en]
  by_cases h : l.all (· < 128) = true
  · rw [if_pos h]
    unfold dig
    congr 1
    rw [List.all_eq_true] at h
    have : ∀ c ∈ l, Unicode.isDigit c = dg c := fun c hc => isDigit_ascii c (by simpa using h c hc)
    clear h ea ed en
    induction l with
    | nil => rfl
    | cons a r ih =>
      rw [List.all_cons, List.all_cons, this a (List.mem_cons_self ..), ih fun c hc => this c (List.mem_cons_of_mem _ hc)]
  · rw [if_neg h]
    unfold dig
    have : l.all dg = false := by
      cases e : l.all dg with
      | false => rfl
      | true =>
        refine absurd ?_ h
        rw [List.all_eq_true] at e ⊢
        intro c hc
        have := e c hc
        simp [dg] at this
        simp; omega
    rw [this]; simp
theorem remove_S (l : List Nat) : Txt.removeprefix (S l) (S [45]) = S (body l) := by
  rw [StrLaws.removeprefix_eq]
  have e : (decide (0 + (S [45]).length ≤ (S l).length) && Builtin.Str.subAt (S l) (S [45]) 0) = decide (l.head? = some 45) := by
    cases l with
    | nil => rfl
    | cons a r =>
      rw [S_len, S_len]
      have h1 : decide (0 + [45].length ≤ (a :: r).length) = true := by simp
      rw [h1, Bool.true_and]
      unfold Builtin.Str.subAt
      show ((S (a :: r)).cps.extract 0 (0 + 1) == #[45]) = _
      have : (S (a :: r)).cps.extract 0 (0 + 1) = #[a] := by
        show (a :: r).toArray.extract 0 1 = #[a]
        simp
      rw [this]
      by_cases h : a = 45
      · subst h; simp
      · simp [h]
  rw [e]
  unfold body
  by_cases h : l.head? = some 45
  · rw [if_pos (by simp [h]), if_pos h]
    rw [S_len, S_len]
    cases l with
    | nil => simp at h
    | cons a r => simp
  · rw [if_neg (by simp [h]), if_neg h]
theorem starts_S (l : List Nat) (c : Nat) : Txt.startswith (S l) (S [c]) = decide (l.head? = some c) := by
  cases l with
  | nil => rfl
  | cons a r =>
    unfold Txt.startswith
    rw [S_len, S_len]
    have h1 : decide (0 + [c].length ≤ (a :: r).length) = true := by simp
    rw [h1, Bool.true_and]
    unfold Builtin.Str.subAt
    show ((S (a :: r)).cps.extract 0 (0 + 1) == #[c]) = _
    have : (S (a :: r)).cps.extract 0 (0 + 1) = #[a] := by
      show (a :: r).toArray.extract 0 1 = #[a]
      simp
    rw [this]
    by_cases h : a = c
    · subst h; simp
    · simp [h]
theorem cut_to (l : List Nat) (k : Nat) : cutS (S l) none (some (k : Int)) = S (l.take k) := by
  unfold cutS
  rw [HT.sIx_none, HT.sIx_nat, S_len]
  show S ((l.drop 0).take (min k l.length - 0)) = S (l.take k)
  have e : List.take (min k l.length) l = List.take k l := List.take_eq_take_iff.mpr (by omega)
  rw [List.drop_zero, Nat.sub_zero, e]
theorem cut_from (l : List Nat) (k : Nat) : cutS (S l) (some (k : Int)) none = S (l.drop k) := by
  unfold cutS
  rw [HT.sIx_none, HT.sIx_nat, S_len]
  show S ((l.drop (min k l.length)).take (l.length - min k l.length)) = S (l.drop k)
  by_cases h : k ≤ l.length
  · rw [Nat.min_eq_left h, List.take_of_length_le (by rw [List.length_drop]; omega)]
  · rw [Nat.min_eq_right (by omega), List.drop_of_length_le (by omega), List.drop_of_length_le (by omega), List.take_nil]
section
variable {K : PySem.W.Frag} {σ : L2.St} {H : Hp} {Q : VK} {D : Ends} {ta te : TE} {tl th : TO}
theorem g_sl {r : V → Option Int → Option Int → Hp → VK → Prop} (q : te σ H fun x H1 => tl σ H1 fun l H2 => th σ H2 fun u H3 => r x l u H3 Q) : tSl r te tl th σ H Q := q
theorem g_nopart {W : Option Int → Hp → Prop} (q : W none H) : tNoPart σ H W := q
theorem g_part {W : Option Int → Hp → Prop} (q : te σ H fun x H1 => ∃ i, x = .int i ∧ W (some i) H1) : tPart te σ H W := q
theorem g_exI {W : Int → Prop} {i : Int} (q : W i) : ∃ j, V.int i = .int j ∧ W j := ⟨i, rfl, q⟩
theorem g_slS {l m : List Nat} {lo hi : Option Int} (hl : l.length ≤ 100000) (e : cutS (S l) lo hi = S m) (q : Q (.str (S m)) H) : rSlS (.str (S l)) lo hi H Q :=
  ⟨S l, rfl, by rw [S_len]; exact Nat.le_trans hl (by decide), by rw [e]; exact q⟩
theorem g_iteC {p : Prop} [Decidable p] {v w u : V} (h1 : p → v = u) (h2 : ¬ p → w = u) (q : Q u H) : if decide p = true then tC v σ H Q else tC w σ H Q := by
  by_cases h : p
  · rw [decide_eq_true h, if_pos rfl, h1 h]; exact q
  · rw [decide_eq_false h, if_neg Bool.false_ne_true, h2 h]; exact q
end
theorem rg_none : ∀ n, n < 60 → RgC (n : Nat) (n : Nat) 60 0 := fun n hn => by
  have h : ∀ n, n < 60 → (Builtin.Range.small ((n : Nat) : Int) ((n : Nat) : Int) 60 = true ∧ Builtin.Range.rangeSize ((n : Nat) : Int) ((n : Nat) : Int) 60 = ((0 : Nat) : Int)) := by decide
  exact ⟨by decide, by decide, (h n hn).1, (h n hn).2⟩
theorem txR_one {q : Rat} (h : ((q.den : Nat) : Int) = 1) : txR q = txN q.num := by unfold txR; rw [if_pos (by omega), List.append_nil]
theorem txR_more {q : Rat} (h : ¬ ((q.den : Nat) : Int) = 1) : txR q = txN q.num ++ 47 :: TL.numL q.den := by unfold txR; rw [if_neg (by omega)]
theorem txN_abs (n : Int) : (if n < 0 then [45] else []) ++ TL.numL n.natAbs = txN n := by unfold txN; split <;> rfl
theorem dig0 {l : List Nat} (h : dig l = true) : dig (48 :: l) = true := by
  unfold dig at h ⊢
  rw [Bool.and_eq_true] at h
  rw [List.all_cons, h.2]; rfl
theorem dv0 (l : List Nat) : dv (48 :: l) = dv l := rfl
end Fm

set_option maxHeartbeats 2000000
namespace Fm
open PySem PySem.Spec PyProof.Rows L2
/-! ### loops and comprehensions by named parts -/
/-- what a for asks once its iterator J stands -/
def Lp (J : It) (g : TG) (tb : TS) (D : Ends) (σ : L2.St) (H : Hp) : Prop := tFor (fun _ H R => R J H) g tb D σ H
/-- what a comprehension asks once its iterator J stands -/
def Cp (J : It) (g : TG) (tt : TT) (te : TE) (vs : List Nat) (σ : L2.St) (H : Hp) (Q : VK) : Prop := tLc (fun _ H R => R J H) g tt te vs σ H Q
section
variable {K : PySem.W.Frag} {σ : L2.St} {H : Hp} {Q : VK} {D : Ends} {g : TG} {tb : TS} {tt : TT} {te tl : TE} {ta : TA} {vs : List Nat} {wi : TI} {R : It → Hp → Prop}
theorem g_for (q : wi σ H fun J H1 => Lp J g tb D σ H1) : tFor wi g tb D σ H := q
theorem g_lc (q : wi σ H fun J H1 => Cp J g tt te vs σ H1 Q) : tLc wi g tt te vs σ H Q := q
theorem g_ilist (q : tl σ H fun x H1 => ∃ a, x = .ref a ∧ (∃ xs, SqL K H1 a xs) ∧ R (Itl K a) H1) : iList K tl σ H R := q
theorem g_itup (q : tl σ H fun x H1 => ∃ a, x = .ref a ∧ (∃ xs, SqT K H1 a xs) ∧ R (Itt K a) H1) : iTup K tl σ H R := q
theorem g_rng1 (q : ta σ H fun vs H1 => ∃ j : Int, vs = [.int j] ∧ -(2 ^ 62) ≤ j ∧ j < 2 ^ 62 ∧ R (Itr 0 j.toNat) H1) : iRng1 ta σ H R := q
theorem g_rng3 (q : ta σ H fun vs H1 => ∃ (i j c : Int) (n : Nat), vs = [.int i, .int j, .int c] ∧ RgC i j c n ∧ R (Itc i c n) H1) : iRng3 ta σ H R := q
theorem g_rng1k {n : Nat} (h : n ≤ 1000000) {W : Nat → Prop} (q : W n) : ∃ j : Int, [V.int (n : Int)] = [.int j] ∧ -(2 ^ 62) ≤ j ∧ j < 2 ^ 62 ∧ W j.toNat := ⟨n, rfl, by omega, by omega, by rw [Int.toNat_natCast]; exact q⟩
theorem lp_C {lo c : Int} {n : Nat} (Pv : Nat → L2.St → Hp → Prop) (h0 : Pv 0 σ H)
    (hs : ∀ i σ H, i < n → Pv i σ H → g (.int (lo + (i : Nat) * c)) σ H fun s2 H2 => tb { D with nx := Pv (i + 1), ct := Pv (i + 1), bk := D.nx } s2 H2) (hd : ∀ σ H, Pv n σ H → D.nx σ H) : Lp (Itc lo c n) g tb D σ H := for_rangeC Pv h0 hs hd
theorem lp_R {lo : Int} {n : Nat} (Pv : Nat → L2.St → Hp → Prop) (h0 : Pv 0 σ H)
    (hs : ∀ i σ H, i < n → Pv i σ H → g (.int (lo + i)) σ H fun s2 H2 => tb { D with nx := Pv (i + 1), ct := Pv (i + 1), bk := D.nx } s2 H2) (hd : ∀ σ H, Pv n σ H → D.nx σ H) : Lp (Itr lo n) g tb D σ H := for_range Pv h0 hs hd
theorem lp_L {a : Addr} {xs : List V} (Pv : Nat → L2.St → Hp → Prop) (h0 : Pv 0 σ H) (hl : ∀ i σ H, i ≤ xs.length → Pv i σ H → SqL K H a xs)
    (hs : ∀ i x σ H, xs[i]? = some x → Pv i σ H → g x σ H fun s2 H2 => tb { D with nx := Pv (i + 1), ct := Pv (i + 1), bk := D.nx } s2 H2) (hd : ∀ σ H, Pv xs.length σ H → D.nx σ H) : Lp (Itl K a) g tb D σ H := for_list Pv h0 hl hs hd
theorem lp_T {a : Addr} {xs : List V} (Pv : Nat → L2.St → Hp → Prop) (h0 : Pv 0 σ H) (hl : ∀ i σ H, i ≤ xs.length → Pv i σ H → SqT K H a xs)
    (hs : ∀ i x σ H, xs[i]? = some x → Pv i σ H → g x σ H fun s2 H2 => tb { D with nx := Pv (i + 1), ct := Pv (i + 1), bk := D.nx } s2 H2) (hd : ∀ σ H, Pv xs.length σ H → D.nx σ H) : Lp (Itt K a) g tb D σ H := for_tup Pv h0 hl hs hd
/-- one turn of a comprehension: the item x is taken, the element put behind -/
def Turn (g : TG) (tt : TT) (te : TE) (vs : List Nat) (σ : L2.St) (D : Addr) (N : Hp → Prop) (x : V) (H : Hp) : Prop := g x (wipe σ vs) H fun s2 H2 => wipe s2 vs = wipe σ vs ∧ tt s2 H2 fun b H3 =>
  if b = true then te s2 H3 fun y H4 => ∃ acc, H4 D = some (.lst acc) ∧ acc.length < sizeLine ∧ N (upd H4 D (.lst (acc ++ [y]))) else N H3
theorem cp_R {lo : Int} {n : Nat} (Pv : Addr → Nat → Hp → Prop) (h0 : ∀ D, H D = none → Pv D 0 (upd H D (.lst [])))
    (hs : ∀ D, H D = none → ∀ i H', i < n → Pv D i H' → Turn g tt te vs σ D (Pv D (i + 1)) (.int (lo + i)) H') (hd : ∀ D, H D = none → ∀ H', Pv D n H' → Q (.ref D) H') : Cp (Itr lo n) g tt te vs σ H Q :=
  fun D hD => lc_range (Pv D) (h0 D hD) (hs D hD) (hd D hD)
theorem cp_L {a : Addr} {xs : List V} (Pv : Addr → Nat → Hp → Prop) (h0 : ∀ D, H D = none → Pv D 0 (upd H D (.lst []))) (hl : ∀ D, H D = none → ∀ i H', i ≤ xs.length → Pv D i H' → SqL K H' a xs)
    (hs : ∀ D, H D = none → ∀ i x H', xs[i]? = some x → Pv D i H' → Turn g tt te vs σ D (Pv D (i + 1)) x H') (hd : ∀ D, H D = none → ∀ H', Pv D xs.length H' → Q (.ref D) H') : Cp (Itl K a) g tt te vs σ H Q :=
  fun D hD => lc_list (Pv D) (h0 D hD) (hl D hD) (hs D hD) (hd D hD)
theorem g_yes {W : Bool → Hp → Prop} (q : W true H) : tYes σ H W := q
end
/-- a walk of what may be a list or a tuple -/
theorem pi_seq {X : Cx} {tg l : Expr} {tl : TE} (hl : PE X l tl) : PI X tg l (fun σ H R => iList X.K tl σ H R ∨ iTup X.K tl σ H R) := by
  refine ⟨fun pins s σ H R I h => ?_⟩
  rcases h with h | h
  · exact (pi_list hl).run pins s σ H R I h
  · exact (pi_tup hl).run pins s σ H R I h
end Fm

set_option maxHeartbeats 2000000
namespace Fm
open PySem PySem.Spec PyProof.Rows L2
/-! ### own errors -/
def veMro : List Value := [.type "ValueError", .type "Exception", .type "BaseException", .type "object"]
/-- an error class of the text without an own __init__ -/
structure XC (K : PySem.W.Frag) (C : Addr) : Prop where
  ex : PySem.W.excIn K C [.type "ValueError", .type "Exception", .type "BaseException", .type "object"] "ValueError.__new__" = true
  kp : PySem.W.keepIn K (.ref C) = true
  bx : PySem.W.subIn K (.ref C) (.type "BaseException") = some true
  ty : PySem.W.typeIn K (.ref C) = some (.type "type")
  cls : PySem.W.isClsIn K C = true
  sub : PySem.W.subIn K (.ref C) (.ref C) = some true
/-- X() -/
theorem pmk_own0 {X : Cx} {C : Addr} {bmB : List Value} {B newId initId : String} {x : Str} {p pos : Pos} (F : ExcBaseFacts B newId initId bmB) (q : PySem.W.excIn X.K C bmB newId = true) (gC : X.mg x = some (.ref C))
    (kC : PySem.W.keepIn X.K (.ref C) = true) (r : Raises X (.ref C)) (hg : Gl X x) (hdb : (x == ("__debug__" : Str)) = false := by decide) : PMk X (.Call (.Name x p) [] [] pos) (fun _ H Q => Q (.ref C) none H) := by
  intro pins s σ H Q I h
  refine wpAny_Call_Name_kw (ld_glob I hg gC ?_ hdb)
  refine PySem.W.callWith_K0 I.kIn kC ?_
  obtain ⟨bm, N, nm, qn, bs, hdct, sn, sub, ab, col, dd, k0, k1, k2, k3, k5, mN, hC, hN, hni, T⟩ := exc_obj I.kIn q
  refine wpAny_call_exc_subT F T hC hN hni (fun h' e hm => ?_) (by show 0 ≤ sizeLine; exact Nat.zero_le _)
  exact mk_of I hm r h (I.hok.gone hm.new)
theorem ps_raise0 {X : Cx} {W : WX} {C : Addr} {x : Str} {p pos pos2 : Pos} (hc : X.calm = true) (tk : Takes X W) (T : XC X.K C) (gC : X.mg x = some (.ref C)) (hg : Gl X x) (hdb : (x == ("__debug__" : Str)) = false := by decide) :
    PS X (.Raise (some (.Call (.Name x p) [] [] pos)) none pos2) (fun _ σ H => W (.ref C) none σ H) :=
  ps_raise hc tk (pmk_own0 PySem.F.excBase_ValueError T.ex gC T.kp (raises_own T.bx T.ty) hg hdb)
section
variable {K : PySem.W.Frag} {σ : L2.St} {H : Hp} {Q : VK} {C : Addr} {v : V} {q : Rat} {N : L2.St → Hp → Prop} {E : XK}
theorem g_gtup {n : Nat} {t : TGs} {p : Addr} {xs : List V} (h : SqT K H p xs) (hl : xs.length = n) (k : t xs σ H N) : gTup K n t (.ref p) σ H N := ⟨p, xs, rfl, h, hl, k⟩
theorem g_gcons {t : TG} {u : TGs} {r : List V} (k : t v σ H fun s1 H1 => u r s1 H1 N) : gCons t u (v :: r) σ H N := ⟨v, r, rfl, k⟩
theorem g_gnil (k : N σ H) : gNil [] σ H N := ⟨rfl, k⟩
theorem g_methR {m : Str} {W : Prop} (h : RatV C H v q) (h1 : ¬ m = "bottom") (h2 : ¬ m = "top") (k : W) : ∃ a dx fs, v = .ref a ∧ H a = some (.ins C dx fs) ∧ fs.lookup m = none ∧ W := by
  obtain ⟨p, rfl, dx, hp⟩ := h
  exact ⟨p, dx, _, rfl, hp, flR_no q h1 h2, k⟩
theorem g_neg {k : Nat} (h : RatV C H v q) (sz : Sz k q) (hk : k ≤ 3000) (z : ∀ u H', Ex H H' → RatV C H' u (-q) → Q u H') : rOwnU C (spNum1 C (- ·)) E v H Q := ⟨h.inst, use_num1 h sz hk z⟩
theorem g_own {sp : Sp} {y : V} (h : RatV C H v q) (hy : NumLike C y H) (z : sp [v, y] H Q E) : rOwn C sp E v y H Q := ⟨h.inst, hy, z⟩
theorem g_num2 {g : Rat → Rat → Rat} {y : V} {b : Rat} {k : Nat} (hx : RatV C H v q) (hy : NumV C H y b) (sa : Sz k q) (sb : Sz k b) (hk : k ≤ 3000) (z : ∀ u H', Ex H H' → RatV C H' u (g q b) → Q u H') : rOwn C (spNum2 C g) E v y H Q :=
  ⟨hx.inst, hy.like, use_num2 hx hy sa sb hk z⟩
theorem g_rel2 {g : Rat → Rat → Bool} {y : V} {b : Rat} {k : Nat} (R : RC K C) (hx : RatV C H v q) (hy : NumV C H y b) (sa : Sz k q) (sb : Sz k b) (hk : k ≤ 3000) (z : ∀ H', Ex H H' → Q (.bl (g q b)) H') : rCmpOwn K C (spRel2 C g) E v y H Q := by
  obtain ⟨t, ty, kt, _⟩ := ty_num R hy
  exact ⟨hx.inst, ⟨t, ty, not_first R kt⟩, use_rel2 hx hy sa sb hk z⟩
theorem g_eqN {y : V} {b : Rat} {k : Nat} (R : RC K C) (hx : RatV C H v q) (hy : NumV C H y b) (sb : Sz k b) (hk : k ≤ 3000) (z : ∀ H', Ex H H' → Q (.bl (decide (q = b))) H') : rCmpOwn K C (spEqV K C) E v y H Q := by
  obtain ⟨t, ty, kt, _⟩ := ty_num R hy
  exact ⟨hx.inst, ⟨t, ty, not_first R kt⟩, use_eqN hx hy sb hk z⟩
theorem g_eqO {y : V} {t : Value} (R : RC K C) (hx : RatV C H v q) (ty : TyX K H y t) (kt : KTy C t) (e : (t == .ref C || t == .type "int") = false) (z : ∀ H', Ex H H' → Q (.bl false) H') : rCmpOwn K C (spEqV K C) E v y H Q :=
  ⟨hx.inst, ⟨t, ty, not_first R kt⟩, use_eqO hx ty kt e z⟩
theorem g_neN {y : V} {b : Rat} {k : Nat} (R : RC K C) (hx : RatV C H v q) (hy : NumV C H y b) (sb : Sz k b) (hk : k ≤ 3000) (z : ∀ H', Ex H H' → Q (.bl (!decide (q = b))) H') : rNeOwn K C (spEqV K C) E v y H Q := by
  obtain ⟨t, ty, kt, _⟩ := ty_num R hy
  exact ⟨hx.inst, ⟨t, ty, not_first R kt⟩, use_eqN hx hy sb hk fun H' e => ⟨_, rfl, z H' e⟩⟩
end
theorem num_le {t b : Int} (h0 : b ≠ 0) : (Rat.divInt t b).num.natAbs ≤ t.natAbs ∧ (Rat.divInt t b).den ≤ b.natAbs := by
  have hg : b.gcd t = Nat.gcd t.natAbs b.natAbs := by rw [Int.gcd_eq_natAbs_gcd_natAbs, Nat.gcd_comm]
  have hp := gcd_pos (t := t) h0
  constructor
  · rw [← top_eq h0]
    have hd : sg t b ∣ t := by
      have : (((Nat.gcd t.natAbs b.natAbs : Nat)) : Int) ∣ t := Int.ofNat_dvd_left.mpr (Nat.gcd_dvd_left _ _)
      unfold sg; split
      · exact Int.neg_dvd.mpr this
      · exact this
    obtain ⟨c, hc⟩ := hd
    have hs := sg_ne (t := t) h0
    generalize sg t b = S at hc hs
    have h1 : 0 < S.natAbs := Int.natAbs_pos.mpr hs
    rw [hc, Int.mul_fdiv_cancel_left _ hs, Int.natAbs_mul]
    exact Nat.le_mul_of_pos_left _ h1
  · rw [Rat.den_divInt, if_neg h0]
    exact Nat.div_le_self _ _
theorem dv_lt : ∀ {l : List Nat}, dig l = true → dv l < 10 ^ l.length := by
  have key : ∀ (n : Nat) (l : List Nat), l.length = n → l.all dg = true → dv l < 10 ^ n := by
    intro n
    induction n with
    | zero =>
      intro l hl _
      have := List.eq_nil_of_length_eq_zero hl
      subst this
      exact (by decide : 0 < 10 ^ 0)
    | succ n ih =>
      intro l hl h
      rcases List.eq_nil_or_concat l with e | ⟨r, c, e⟩
      · subst e; simp at hl
      · rw [List.concat_eq_append] at e
        subst e
        have hr : r.all dg = true ∧ dg c = true := by simpa using h
        have hc : c ≤ 57 := by have := hr.2; simp [dg] at this; exact this.2
        have h1 := ih r (by simpa using hl) hr.1
        rw [dv_app, Nat.pow_succ]
        omega
  intro l h
  unfold dig at h
  rw [Bool.and_eq_true] at h
  exact key _ l rfl h.2
theorem dv_lt60 {l : List Nat} (h : dig l = true) (hl : l.length ≤ 60) : dv l < 10 ^ 60 := Nat.lt_of_lt_of_le (dv_lt h) (Nat.pow_le_pow_right (by decide) hl)
theorem neS {a b : List Nat} : decide (SX.S a = SX.S b) = decide (a = b) := decide_eq_decide.mpr ⟨SX.S_inj, fun h => by rw [h]⟩
theorem par_split {l p q : List Nat} : ∀ {acc : List Nat}, TL.par [47] acc l = some (p, q) → p ++ 47 :: q = acc ++ l := by
  induction l with
  | nil => intro acc h; cases h
  | cons c r ih =>
    intro acc h
    by_cases hc : TL.pre [47] (c :: r) = true
    · rw [TL.par_hit hc] at h
      have e : c = 47 := by simpa [TL.pre] using hc
      subst e
      cases h
      rfl
    · rw [TL.par_miss (by simpa using hc)] at h
      have := ih h
      rw [this]; simp
/-- the parts that the package reads: head, whether a stroke stands behind it, tail -/
def hd (l : List Nat) : List Nat := ((TL.par [47] [] l).getD (l, [])).1
def tlp (l : List Nat) : List Nat := ((TL.par [47] [] l).getD (l, [])).2
def strk (l : List Nat) : Bool := (TL.par [47] [] l).isSome
def bot (l : List Nat) : List Nat := if strk l = true then tlp l else [49]
theorem part_S (l : List Nat) : Txt.partition (SX.S l) (SX.S [47]) = (SX.S (hd l), SX.S (if strk l = true then [47] else []), SX.S (tlp l)) := by
  unfold hd tlp strk
  cases h : TL.par [47] [] l with
  | none => rw [SX.partition_none (by simp) h]; rfl
  | some pq =>
    obtain ⟨p, q⟩ := pq
    rw [SX.partition_some (by simp) h]; rfl
theorem part_len (l : List Nat) : (hd l).length ≤ l.length ∧ (tlp l).length ≤ l.length := by
  unfold hd tlp
  cases h : TL.par [47] [] l with
  | none => simp
  | some pq =>
    obtain ⟨p, q⟩ := pq
    have := congrArg List.length (par_split h)
    simp at this
    simp; omega
theorem body_len (l : List Nat) : (body l).length ≤ l.length := by
  unfold body; split
  · rw [List.length_tail]; omega
  · omega
theorem bot_len {l : List Nat} (h : l.length < 60) : (bot l).length < 60 := by
  have := (part_len l).2
  unfold bot; split
  · omega
  · decide
theorem rdP_eq (l : List Nat) : rdP l = if (dig (body (hd l)) && dig (bot l) && !decide ((bot l).head? = some 48)) = true then
    (let q := (if (hd l).head? = some 45 then -(Rat.divInt (dv (body (hd l))) (dv (bot l))) else Rat.divInt (dv (body (hd l))) (dv (bot l))); if txR q = l then some q else none) else none := rfl
theorem strk_dec (l : List Nat) : decide (SX.S (if strk l = true then [47] else []) = SX.S [47]) = strk l := by
  cases strk l with
  | true => simp
  | false =>
    rw [neS]; simp
theorem g_iteVC {σ : L2.St} {H : Hp} {Q : VK} {n : Nat} {b : Bool} {v w : V} (h : σ[n]? = some (some v)) (q : Q (if b = true then v else w) H) : if b = true then tVar n σ H Q else tC w σ H Q := by
  cases b with
  | true => exact ⟨v, h, q⟩
  | false => exact q
theorem use_initW {C : Addr} {H : Hp} {W : Addr → Hp → Prop} {E : XK} {t b : Int} {k : Nat} (hb : b ≠ 0) (h1 : t.natAbs < 2 ^ k) (h2 : b.natAbs < 2 ^ k) (hk : k ≤ 8000)
    (q : ∀ p H', Ex H H' → RatV C H' (.ref p) (Rat.divInt t b) → W p H') : ∀ x dx, H x = none → H dx = none → dx ≠ x → spInit C [.ref x, .int t, .int b] (upd (upd H dx (.own x)) x (.ins C dx [])) (fun v H2 => v = .non ∧ W x H2) E := by
  intro x dx hx hdx hne
  refine ⟨x, dx, t, b, k, rfl, hb, h1, h2, hk, upd_same, fun H' e hp => ⟨rfl, q _ _ (fun a o ha => ?_) ⟨x, rfl, dx, hp⟩⟩⟩
  refine e a o ?_ (ne_of_none ha hx)
  rw [upd_ne (ne_of_none ha hx), upd_ne (ne_of_none ha hdx)]
  exact ha
end Fm

set_option maxHeartbeats 2000000
/-! lists whose items have an own ==: equal or not, the heap may grow -/
namespace GQ
open PySem PySem.SeqAt
open AutoSeq1 (wpAny_loadPart')
open MeetsSeq MeetsSeq2 MeetsSeq3 SeqRoads2
section
variable {prog : Program} {w : World} {A : Around} {R : Result → Shared → Prop}
/-- two lists of N items each, read anew at each turn; the i-th two are equal as e i says -/
def LsB (prog : Program) (w : World) (A : Around) (E : Value → Shared → Prop) (l m : Addr) (N : Nat) (e : Nat → Bool) (J : Nat → Shared → Prop) : Prop :=
  ∀ i s, J i s → ∃ (xs ys : Array Value) (k j : Nat), s.heap.get? l = some { cls := .type "list", data := .seq xs k } ∧ s.heap.get? m = some { cls := .type "list", data := .seq ys j } ∧ xs.size = N ∧ ys.size = N ∧
    ∀ (h1 : i < xs.size) (h2 : i < ys.size), wpAny (model prog w) A.in1 (eqBool xs[i] ys[i]) (fun r s' => r = e i ∧ J (i + 1) s') E s
/-- whether the items from the i-th on are equal -/
def fromB (e : Nat → Bool) (N : Nat) : Nat → Nat → Bool
  | 0, _ => true
  | k + 1, i => e i && fromB e N k (i + 1)
theorem lb_eq {l m : Addr} {N : Nat} {e : Nat → Bool} {J : Nat → Shared → Prop} (hl : LsB prog w A (fun v s' => R (.error v) s') l m N e J) (k : Nat) : ∀ i : Nat, N - i = k → i ≤ N → ∀ s, J i s → (∀ t j, J j t → R (.ok (.ret (.bool (fromB e N k i)))) t) →
    wpAny (model prog w) A.in1 (Builtin.«list.__eq__.loop» ⟨[.ref l, .ref m, rawInt i, rawInt 2], []⟩) (FinOf prog w A R) (fun v s' => R (.error v) s') s := by
  induction k with
  | zero =>
    intro i hk hi s hJ fin
    obtain ⟨xs, ys, a, b, g1, g2, z1, z2, _⟩ := hl _ _ hJ
    have hR : R (.ok (.ret (.bool true))) s := fin s i hJ
    obtain ⟨h0, gn, dd, tk, os⟩ := s
    wp_walk using wpAny_loadPart' g1, wpAny_loadPart' g2
    have o1 : xs[((i : Nat) : Int).toNat]? = none := by simp; omega
    have o2 : ys[((i : Nat) : Int).toNat]? = none := by simp; omega
    rw [o1, o2]
    wp_walk using wpAny_loadPart' g1, wpAny_loadPart' g2
    show R (.ok (.ret (.bool (xs.size == ys.size)))) _
    rw [z1, z2, beq_self_eq_true]
    exact hR
  | succ k ih =>
    intro i hk hi s hJ fin
    obtain ⟨xs, ys, a, b, g1, g2, z1, z2, turn⟩ := hl _ _ hJ
    have l1 : i < xs.size := by omega
    have l2 : i < ys.size := by omega
    have ht := turn l1 l2
    obtain ⟨h0, gn, dd, tk, os⟩ := s
    wp_walk using wpAny_loadPart' g1, wpAny_loadPart' g2
    have o1 : xs[((i : Nat) : Int).toNat]? = some xs[i] := by simp [l1]
    have o2 : ys[((i : Nat) : Int).toNat]? = some ys[i] := by simp [l2]
    rw [o1, o2]
    refine wpAny_bind (wpAny_mono ht (fun r s2 q => ?_) fun _ _ x => x)
    obtain ⟨hr, q⟩ := q
    cases he : e i with
    | true =>
      rw [he] at hr
      subst hr
      have next := ih (i + 1) (by omega) (by omega) s2 q fun t j hj => by
        have f0 := fin t j hj
        unfold fromB at f0
        rw [he, Bool.true_and] at f0
        exact f0
      obtain ⟨h2, gn2, dd2, tk2, os2⟩ := s2
      wp_walk
      rw [show ((i : Int) + 1) = ((i + 1 : Nat) : Int) by omega]
      exact ⟨plainId_quiet plain_eq_loop _, codeAny_builtin entry_eq_loop (by rw [Around.under_plainId plain_eq_loop _]; exact next)⟩
    | false =>
      rw [he] at hr
      subst hr
      have f0 := fin s2 _ q
      unfold fromB at f0
      rw [he, Bool.false_and] at f0
      obtain ⟨xs2, ys2, a2, b2, g3, g4, z3, z4, _⟩ := hl _ _ q
      obtain ⟨h2, gn2, dd2, tk2, os2⟩ := s2
      wp_walk using wpAny_loadPart' g3, wpAny_loadPart' g4
      have o3 : xs2[((i : Nat) : Int).toNat]? = some (xs2[i]'(by omega)) := by simp
      have o4 : ys2[((i : Nat) : Int).toNat]? = some (ys2[i]'(by omega)) := by simp
      rw [o3, o4]
      wp_walk
      exact f0
theorem lb_ne {l m : Addr} {N : Nat} {e : Nat → Bool} {J : Nat → Shared → Prop} (hl : LsB prog w A (fun v s' => R (.error v) s') l m N e J) (k : Nat) : ∀ i : Nat, N - i = k → i ≤ N → ∀ s, J i s → (∀ t j, J j t → R (.ok (.ret (.bool (!fromB e N k i)))) t) →
    wpAny (model prog w) A.in1 (Builtin.«list.__eq__.loop» ⟨[.ref l, .ref m, rawInt i, rawInt 3], []⟩) (FinOf prog w A R) (fun v s' => R (.error v) s') s := by
  induction k with
  | zero =>
    intro i hk hi s hJ fin
    obtain ⟨xs, ys, a, b, g1, g2, z1, z2, _⟩ := hl _ _ hJ
    have hR : R (.ok (.ret (.bool false))) s := fin s i hJ
    obtain ⟨h0, gn, dd, tk, os⟩ := s
    wp_walk using wpAny_loadPart' g1, wpAny_loadPart' g2
    have o1 : xs[((i : Nat) : Int).toNat]? = none := by simp; omega
    have o2 : ys[((i : Nat) : Int).toNat]? = none := by simp; omega
    rw [o1, o2]
    wp_walk using wpAny_loadPart' g1, wpAny_loadPart' g2
    show R (.ok (.ret (.bool (xs.size != ys.size)))) _
    rw [z1, z2, bne_self_eq_false]
    exact hR
  | succ k ih =>
    intro i hk hi s hJ fin
    obtain ⟨xs, ys, a, b, g1, g2, z1, z2, turn⟩ := hl _ _ hJ
    have l1 : i < xs.size := by omega
    have l2 : i < ys.size := by omega
    have ht := turn l1 l2
    obtain ⟨h0, gn, dd, tk, os⟩ := s
    wp_walk using wpAny_loadPart' g1, wpAny_loadPart' g2
    have o1 : xs[((i : Nat) : Int).toNat]? = some xs[i] := by simp [l1]
    have o2 : ys[((i : Nat) : Int).toNat]? = some ys[i] := by simp [l2]
    rw [o1, o2]
    refine wpAny_bind (wpAny_mono ht (fun r s2 q => ?_) fun _ _ x => x)
    obtain ⟨hr, q⟩ := q
    cases he : e i with
    | true =>
      rw [he] at hr
      subst hr
      have next := ih (i + 1) (by omega) (by omega) s2 q fun t j hj => by
        have f0 := fin t j hj
        unfold fromB at f0
        rw [he, Bool.true_and] at f0
        exact f0
      obtain ⟨h2, gn2, dd2, tk2, os2⟩ := s2
      wp_walk
      rw [show ((i : Int) + 1) = ((i + 1 : Nat) : Int) by omega]
      exact ⟨plainId_quiet plain_eq_loop _, codeAny_builtin entry_eq_loop (by rw [Around.under_plainId plain_eq_loop _]; exact next)⟩
    | false =>
      rw [he] at hr
      subst hr
      have f0 := fin s2 _ q
      unfold fromB at f0
      rw [he, Bool.false_and] at f0
      obtain ⟨xs2, ys2, a2, b2, g3, g4, z3, z4, _⟩ := hl _ _ q
      obtain ⟨h2, gn2, dd2, tk2, os2⟩ := s2
      wp_walk using wpAny_loadPart' g3, wpAny_loadPart' g4
      have o3 : xs2[((i : Nat) : Int).toNat]? = some (xs2[i]'(by omega)) := by simp
      have o4 : ys2[((i : Nat) : Int).toNat]? = some (ys2[i]'(by omega)) := by simp
      rw [o3, o4]
      wp_walk
      exact f0
theorem lb_list {l m : Addr} {N : Nat} {e : Nat → Bool} {J : Nat → Shared → Prop} (hl : LsB prog w A (fun v s' => R (.error v) s') l m N e J) (fin : ∀ t j, J j t → R (.ok (.ret (.bool (fromB e N N 0)))) t) {s : Shared} (h : J 0 s) :
    wpAny (model prog w) A.in1 (Builtin.«list.__eq__» ⟨[.ref l, .ref m], []⟩) (FinOf prog w A R) (fun v s' => R (.error v) s') s := by
  obtain ⟨xs, ys, a, b, g1, g2, z1, z2, _⟩ := hl _ _ h
  have lap := lb_eq (A := A) (R := R) hl N 0 (by omega) (Nat.zero_le _) s h fin
  obtain ⟨h0, gn, dd, tk, os⟩ := s
  have f3 := AutoSeq1.sub_list_list
  have same : ¬ (xs.size != ys.size) = true := by simp [z1, z2]
  wp_walk using wpAny_loadPart' g1, wpAny_loadPart' g2
  exact ⟨plainId_quiet plain_eq_loop _, codeAny_builtin entry_eq_loop (by rw [Around.under_plainId plain_eq_loop _]; exact lap)⟩
theorem lb_listN {l m : Addr} {N : Nat} {e : Nat → Bool} {J : Nat → Shared → Prop} (hl : LsB prog w A (fun v s' => R (.error v) s') l m N e J) (fin : ∀ t j, J j t → R (.ok (.ret (.bool (!fromB e N N 0)))) t) {s : Shared} (h : J 0 s) :
    wpAny (model prog w) A.in1 (Builtin.«list.__ne__» ⟨[.ref l, .ref m], []⟩) (FinOf prog w A R) (fun v s' => R (.error v) s') s := by
  obtain ⟨xs, ys, a, b, g1, g2, z1, z2, _⟩ := hl _ _ h
  have lap := lb_ne (A := A) (R := R) hl N 0 (by omega) (Nat.zero_le _) s h fin
  obtain ⟨h0, gn, dd, tk, os⟩ := s
  have f3 := AutoSeq1.sub_list_list
  have same : ¬ (xs.size != ys.size) = true := by simp [z1, z2]
  wp_walk using wpAny_loadPart' g1, wpAny_loadPart' g2
  exact ⟨plainId_quiet plain_eq_loop _, codeAny_builtin entry_eq_loop (by rw [Around.under_plainId plain_eq_loop _]; exact lap)⟩
theorem lb_short {l m : Addr} {xs ys : Array Value} {k j : Nat} {s : Shared} (g1 : s.heap.get? l = some { cls := .type "list", data := .seq xs k }) (g2 : s.heap.get? m = some { cls := .type "list", data := .seq ys j }) (hz : (xs.size != ys.size) = true) (fin : R (.ok (.ret (.bool false))) s) :
    wpAny (model prog w) A.in1 (Builtin.«list.__eq__» ⟨[.ref l, .ref m], []⟩) (FinOf prog w A R) (fun v s' => R (.error v) s') s := by
  obtain ⟨h0, gn, dd, tk, os⟩ := s
  have f3 := AutoSeq1.sub_list_list
  wp_walk using wpAny_loadPart' g1, wpAny_loadPart' g2
  exact fin
theorem lb_shortN {l m : Addr} {xs ys : Array Value} {k j : Nat} {s : Shared} (g1 : s.heap.get? l = some { cls := .type "list", data := .seq xs k }) (g2 : s.heap.get? m = some { cls := .type "list", data := .seq ys j }) (hz : (xs.size != ys.size) = true) (fin : R (.ok (.ret (.bool true))) s) :
    wpAny (model prog w) A.in1 (Builtin.«list.__ne__» ⟨[.ref l, .ref m], []⟩) (FinOf prog w A R) (fun v s' => R (.error v) s') s := by
  obtain ⟨h0, gn, dd, tk, os⟩ := s
  have f3 := AutoSeq1.sub_list_list
  wp_walk using wpAny_loadPart' g1, wpAny_loadPart' g2
  exact fin
end
section
variable {prog : Program} {w : World} {A : Around} {E : Value → Shared → Prop} {s : Shared}
theorem rcB_eq {l m : Addr} {N : Nat} {e : Nat → Bool} {J : Nat → Shared → Prop} {Q : Value → Shared → Prop} (hu : A.units < cLine) (hl : LsB prog w A E l m N e J) (fin : ∀ t j, J j t → Q (.bool (fromB e N N 0)) t) (h : J 0 s) : wpAny (model prog w) A (richCompare .Eq (.ref l) (.ref m)) Q E s := by
  obtain ⟨xs, ys, a, b, g1, g2, _, _, _⟩ := hl _ _ h
  refine wpAny_richCompare_same_room (op := .Eq) ⟨_, g1, rfl⟩ ⟨_, g2, rfl⟩ F.slot_list_eq (call_here F.slot_list_eq ⟨_, g1, rfl⟩ F.entry_list_eq (F.args_list_eq_2 _ _) ?_) hu
  exact lb_list (R := wants (fun v s' => v ≠ .notImplemented ∧ Q v s') E) hl (fun t j hj => ⟨(fun x => nomatch x), fin t j hj⟩) h
theorem rcB_ne {l m : Addr} {N : Nat} {e : Nat → Bool} {J : Nat → Shared → Prop} {Q : Value → Shared → Prop} (hu : A.units < cLine) (hl : LsB prog w A E l m N e J) (fin : ∀ t j, J j t → Q (.bool (!fromB e N N 0)) t) (h : J 0 s) : wpAny (model prog w) A (richCompare .NotEq (.ref l) (.ref m)) Q E s := by
  obtain ⟨xs, ys, a, b, g1, g2, _, _, _⟩ := hl _ _ h
  refine wpAny_richCompare_same_room (op := .NotEq) ⟨_, g1, rfl⟩ ⟨_, g2, rfl⟩ F.slot_list_ne (call_here F.slot_list_ne ⟨_, g1, rfl⟩ F.entry_list_ne (F.args_list_ne_2 _ _) ?_) hu
  exact lb_listN (R := wants (fun v s' => v ≠ .notImplemented ∧ Q v s') E) hl (fun t j hj => ⟨(fun x => nomatch x), fin t j hj⟩) h
theorem rcB_eqS {l m : Addr} {xs ys : Array Value} {k j : Nat} {Q : Value → Shared → Prop} (hu : A.units < cLine) (g1 : s.heap.get? l = some { cls := .type "list", data := .seq xs k }) (g2 : s.heap.get? m = some { cls := .type "list", data := .seq ys j }) (hz : (xs.size != ys.size) = true) (fin : Q (.bool false) s) :
    wpAny (model prog w) A (richCompare .Eq (.ref l) (.ref m)) Q E s := by
  refine wpAny_richCompare_same_room (op := .Eq) ⟨_, g1, rfl⟩ ⟨_, g2, rfl⟩ F.slot_list_eq (call_here F.slot_list_eq ⟨_, g1, rfl⟩ F.entry_list_eq (F.args_list_eq_2 _ _) ?_) hu
  exact lb_short (R := wants (fun v s' => v ≠ .notImplemented ∧ Q v s') E) g1 g2 hz ⟨(fun x => nomatch x), fin⟩
theorem rcB_neS {l m : Addr} {xs ys : Array Value} {k j : Nat} {Q : Value → Shared → Prop} (hu : A.units < cLine) (g1 : s.heap.get? l = some { cls := .type "list", data := .seq xs k }) (g2 : s.heap.get? m = some { cls := .type "list", data := .seq ys j }) (hz : (xs.size != ys.size) = true) (fin : Q (.bool true) s) :
    wpAny (model prog w) A (richCompare .NotEq (.ref l) (.ref m)) Q E s := by
  refine wpAny_richCompare_same_room (op := .NotEq) ⟨_, g1, rfl⟩ ⟨_, g2, rfl⟩ F.slot_list_ne (call_here F.slot_list_ne ⟨_, g1, rfl⟩ F.entry_list_ne (F.args_list_ne_2 _ _) ?_) hu
  exact lb_shortN (R := wants (fun v s' => v ≠ .notImplemented ∧ Q v s') E) g1 g2 hz ⟨(fun x => nomatch x), fin⟩
end
end GQ
namespace Fm
open PySem PySem.Spec PyProof.Rows L2
/-- a context one C call deeper -/
abbrev in1X (X : Cx) : Cx := { X with A := X.A.in1 }
theorem in1_inv {X : Cx} {pins : List (Addr × Obj)} {σ : L2.St} {H : Hp} {s : Shared} (I : Inv X pins σ H s) : Inv (in1X X) pins σ H s := by
  obtain ⟨⟨a1, a2, a3, a4, a5, a6, a7, a8, a9, a10, a11, a12, a13, a14, a15, a16, a17, a18⟩, b2, b3, b4, b5, b6, b7, b8, b9, b10, b11⟩ := I
  exact ⟨⟨a1, a2, a3, a4, a5, a6, a7, a8, a9, a10, a11, a12, a13, a14, a15, a16, a17, a18⟩, b2, b3, b4, b5, b6, b7, b8, b9, b10, b11⟩
theorem un_in1 {X : Cx} {pins : List (Addr × Obj)} {σ : L2.St} {H : Hp} {s : Shared} (I : Inv (in1X X) pins σ H s) : Inv X pins σ H s := by
  obtain ⟨⟨a1, a2, a3, a4, a5, a6, a7, a8, a9, a10, a11, a12, a13, a14, a15, a16, a17, a18⟩, b2, b3, b4, b5, b6, b7, b8, b9, b10, b11⟩ := I
  exact ⟨⟨a1, a2, a3, a4, a5, a6, a7, a8, a9, a10, a11, a12, a13, a14, a15, a16, a17, a18⟩, b2, b3, b4, b5, b6, b7, b8, b9, b10, b11⟩
theorem flR_inj {p q : Rat} (h : flR p = flR q) : p = q := by
  have h1 := flR_top p
  have h2 := flR_bottom p
  rw [h, flR_top] at h1
  rw [h, flR_bottom] at h2
  refine (eq_iff_parts p q).mpr ⟨?_, ?_⟩
  · have := Option.some.inj h1; injection this with e; exact e.symm
  · have := Option.some.inj h2; injection this with e; exact e.symm
abbrev RatsV (C : Addr) (H : Hp) : List V → List Rat → Prop := Paired (RatV C H)
abbrev NumsV (C : Addr) (H : Hp) : List V → List Rat → Prop := Paired (NumV C H)
theorem RatsV.mono {C : Addr} {H H' : Hp} (e : Ex H H') {xs : List V} {qs : List Rat} (h : RatsV C H xs qs) : RatsV C H' xs qs := Paired.mapP h fun _ _ r => r.mono e
theorem NumsV.mono {C : Addr} {H H' : Hp} (e : Ex H H') {xs : List V} {qs : List Rat} (h : NumsV C H xs qs) : NumsV C H' xs qs := Paired.mapP h fun _ _ r => r.mono e
theorem RatsV.nums {C : Addr} {H : Hp} {xs : List V} {qs : List Rat} (h : RatsV C H xs qs) : NumsV C H xs qs := Paired.mapP h fun _ _ r => r.num
theorem Prd.at {α β : Type} {F : α → β → Prop} : ∀ {xs : List α} {ys : List β} {i : Nat}, Paired F xs ys → ∀ {x : α} {y : β}, xs[i]? = some x → ys[i]? = some y → F x y
  | _, _, _, .nil, _, _, h, _ => by simp at h
  | _, _, 0, .cons r _, x, y, h1, h2 => by simp at h1 h2; subst h1 h2; exact r
  | _, _, _ + 1, .cons _ t, x, y, h1, h2 => Prd.at t (by simpa using h1) (by simpa using h2)
theorem eqB_item {X : Cx} {C : Addr} (R : RC X.K C) (ho : OpR (in1X X) (compareOp .Eq) (rCmpOwn X.K C (spEqV X.K C) E0)) {pins : List (Addr × Obj)} {s : Shared} {σ : L2.St} {H : Hp} {x y : V} {u v : Value} {q c : Rat} (I : Inv X pins σ H s) (rx : RelV x u) (ry : RelV y v)
    (hx : RatV C H x q) (hy : NumV C H y c) (sc : Sz 3000 c) : wpAny (model X.prog X.w) X.A.in1 (eqBool u v) (fun r s' => r = decide (q = c) ∧ ∃ H', Inv X pins σ H' s' ∧ Ex H H') X.xe s := by
  have go : ∀ a : Addr, u = .ref a → v ≠ .ref a → wpAny (model X.prog X.w) X.A.in1 (eqBool u v) (fun r s' => r = decide (q = c) ∧ ∃ H', Inv X pins σ H' s' ∧ Ex H H') X.xe s := fun a hu hv => by
    subst hu
    have h := ho pins s σ H x y (.ref a) v (fun z H' => z = .bl (decide (q = c)) ∧ Ex H H') (in1_inv I) rx ry (g_eqN R hx hy sc (by decide) fun H' e => ⟨rfl, e⟩)
    unfold eqBool
    refine wpAny_holding (wpAny_ite_split (fun e => absurd (eq_of_beq e).symm hv) fun _ => wpAny_bind (wpAny_mono h (fun z s' hz => ?_) fun _ _ e => e))
    obtain ⟨z', H', J, rz, ez, ex⟩ := hz
    subst ez
    cases rz
    exact wpAny_truthy_bool ⟨rfl, H', un_in1 J, ex⟩
  obtain ⟨p, rfl, dx, hp⟩ := id hx
  cases rx
  rcases id hy with ⟨n, rfl, _⟩ | ⟨p2, rfl, dx2, hp2⟩
  · obtain ⟨t, rfl⟩ := ry
    exact go p rfl (by simp)
  · cases ry
    by_cases e : p2 = p
    · subst e
      rw [hp] at hp2
      injection hp2 with e1
      injection e1 with _ _ e2
      have e3 := flR_inj e2
      subst e3
      exact SeqAt.EqAt.same (A := X.A.in1) (s := s) (.ref p2) X.prog X.w X.xe _ ⟨by rw [decide_eq_true rfl], H, I, Ex.refl H⟩
    · exact go p rfl fun h => e (by injection h)
theorem fromB_all {e : Nat → Bool} : ∀ {N k i : Nat}, GQ.fromB e N k i = true ↔ ∀ j, j < k → e (i + j) = true
  | N, 0, i => by simp [GQ.fromB]
  | N, k + 1, i => by
    unfold GQ.fromB
    rw [Bool.and_eq_true, fromB_all]
    constructor
    · rintro ⟨h0, h1⟩ j hj
      cases j with
      | zero => exact h0
      | succ j => have := h1 j (by omega); rw [show i + (j + 1) = i + 1 + j by omega]; exact this
    · intro h
      exact ⟨h 0 (by omega), fun j hj => by have := h (j + 1) (by omega); rw [show i + 1 + j = i + (j + 1) by omega]; exact this⟩
theorem fromB_lists {qs cs : List Rat} (h : qs.length = cs.length) : GQ.fromB (fun i => decide (qs[i]? = cs[i]?)) qs.length qs.length 0 = decide (qs = cs) := by
  rw [Bool.eq_iff_iff, fromB_all, decide_eq_true_iff]
  constructor
  · intro hh
    refine List.ext_getElem? fun i => ?_
    by_cases hi : i < qs.length
    · have := hh i hi
      rw [Nat.zero_add] at this
      exact of_decide_eq_true this
    · rw [List.getElem?_eq_none (by omega), List.getElem?_eq_none (by omega)]
  · rintro rfl j _
    exact decide_eq_true rfl
/-- two lists, Ratios and numbers: equal, or not -/
def rLsR (C : Addr) (ne : Bool) : R2 := fun x y H Q => ∃ (a b : Addr) (xs ys : List V) (qs cs : List Rat), x = .ref a ∧ y = .ref b ∧ H a = some (.lst xs) ∧ H b = some (.lst ys) ∧ RatsV C H xs qs ∧ NumsV C H ys cs ∧ (∀ c ∈ cs, Sz 3000 c) ∧ ∀ H', Ex H H' → Q (.bl (if ne = true then !decide (qs = cs) else decide (qs = cs))) H'
theorem lsB_of {X : Cx} {C : Addr} (R : RC X.K C) (ho : OpR (in1X X) (compareOp .Eq) (rCmpOwn X.K C (spEqV X.K C) E0)) {pins : List (Addr × Obj)} {σ : L2.St} {H : Hp} {a b : Addr} {xs ys : List V} {qs cs : List Rat} (ha : H a = some (.lst xs)) (hb : H b = some (.lst ys)) (hx : RatsV C H xs qs)
    (hy : NumsV C H ys cs) (sz : ∀ c ∈ cs, Sz 3000 c) (hl : qs.length = cs.length) : GQ.LsB X.prog X.w X.A X.xe a b qs.length (fun i => decide (qs[i]? = cs[i]?)) (fun _ s' => ∃ H', Inv X pins σ H' s' ∧ Ex H H') := by
  rintro i s ⟨H1, I1, e1⟩
  obtain ⟨_, its, k, r, g1⟩ := I1.hok a _ (e1 _ _ ha)
  obtain ⟨_, its2, k2, r2, g2⟩ := I1.hok b _ (e1 _ _ hb)
  have n1 : its.length = qs.length := by rw [← r.length, hx.length]
  have n2 : its2.length = qs.length := by rw [← r2.length, hy.length, hl]
  refine ⟨its.toArray, its2.toArray, k, k2, g1, g2, by simpa using n1, by simpa using n2, fun h1 h2 => ?_⟩
  have i1 : i < its.length := by simpa using h1
  have i2 : i < its2.length := by simpa using h2
  obtain ⟨u, hu, ru⟩ := r.get (List.getElem?_eq_getElem (show i < xs.length by rw [r.length]; exact i1))
  obtain ⟨v, hv, rv⟩ := r2.get (List.getElem?_eq_getElem (show i < ys.length by rw [r2.length]; exact i2))
  have w1 : its.toArray[i] = u := by
    rw [List.getElem?_eq_getElem i1] at hu
    simpa using Option.some.inj hu
  have w2 : its2.toArray[i] = v := by
    rw [List.getElem?_eq_getElem i2] at hv
    simpa using Option.some.inj hv
  rw [w1, w2]
  have q1 : qs[i]? = some (qs[i]'(by omega)) := List.getElem?_eq_getElem _
  have q2 : cs[i]? = some (cs[i]'(by omega)) := List.getElem?_eq_getElem _
  have rr := Prd.at hx (List.getElem?_eq_getElem (show i < xs.length by rw [r.length]; exact i1)) q1
  have nn := Prd.at hy (List.getElem?_eq_getElem (show i < ys.length by rw [r2.length]; exact i2)) q2
  refine wpAny_mono (eqB_item R ho I1 ru rv (rr.mono e1) (nn.mono e1) (sz _ (List.mem_of_getElem? q2))) (fun t s' z => ?_) fun _ _ z => z
  obtain ⟨ht, H2, I2, e2⟩ := z
  refine ⟨?_, H2, I2, e1.trans e2⟩
  rw [ht]
  show _ = decide (qs[i]? = cs[i]?)
  rw [q1, q2]
  simp
theorem op_lsR {X : Cx} {C : Addr} (hu : X.A.units < cLine) (R : RC X.K C) (ho : OpR (in1X X) (compareOp .Eq) (rCmpOwn X.K C (spEqV X.K C) E0)) : OpR X (compareOp .Eq) (rLsR C false) := by
  intro pins s σ H x y v u Q I rx ry h
  obtain ⟨a, b, xs, ys, qs, cs, rfl, rfl, ha, hb, hx, hy, sz, q⟩ := h
  cases rx
  cases ry
  show wpAny _ _ (richCompare .Eq _ _) _ _ s
  by_cases hl : qs.length = cs.length
  · refine GQ.rcB_eq hu (lsB_of R ho ha hb hx hy sz hl) (fun t j hj => ?_) ⟨H, I, Ex.refl H⟩
    obtain ⟨H', J, e⟩ := hj
    rw [fromB_lists hl]
    exact ⟨.bl _, H', J, rfl, q H' e⟩
  · obtain ⟨_, its, k, r, g1⟩ := I.hok a _ ha
    obtain ⟨_, its2, k2, r2, g2⟩ := I.hok b _ hb
    have hn : qs ≠ cs := fun e => hl (by rw [e])
    have q' := q H (Ex.refl H)
    rw [decide_eq_false hn] at q'
    refine GQ.rcB_eqS hu g1 g2 ?_ ⟨.bl false, H, I, rfl, q'⟩
    simp only [List.size_toArray, bne_iff_ne, ne_eq]
    rw [← r.length, ← r2.length, hx.length, hy.length]
    exact hl
theorem op_lsRN {X : Cx} {C : Addr} (hu : X.A.units < cLine) (R : RC X.K C) (ho : OpR (in1X X) (compareOp .Eq) (rCmpOwn X.K C (spEqV X.K C) E0)) : OpR X (compareOp .NotEq) (rLsR C true) := by
  intro pins s σ H x y v u Q I rx ry h
  obtain ⟨a, b, xs, ys, qs, cs, rfl, rfl, ha, hb, hx, hy, sz, q⟩ := h
  cases rx
  cases ry
  show wpAny _ _ (richCompare .NotEq _ _) _ _ s
  by_cases hl : qs.length = cs.length
  · refine GQ.rcB_ne hu (lsB_of R ho ha hb hx hy sz hl) (fun t j hj => ?_) ⟨H, I, Ex.refl H⟩
    obtain ⟨H', J, e⟩ := hj
    rw [fromB_lists hl]
    exact ⟨.bl _, H', J, rfl, q H' e⟩
  · obtain ⟨_, its, k, r, g1⟩ := I.hok a _ ha
    obtain ⟨_, its2, k2, r2, g2⟩ := I.hok b _ hb
    have hn : qs ≠ cs := fun e => hl (by rw [e])
    have q' := q H (Ex.refl H)
    rw [decide_eq_false hn] at q'
    refine GQ.rcB_neS hu g1 g2 ?_ ⟨.bl true, H, I, rfl, q'⟩
    simp only [List.size_toArray, bne_iff_ne, ne_eq]
    rw [← r.length, ← r2.length, hx.length, hy.length]
    exact hl
end Fm

set_option maxHeartbeats 2000000
namespace Fm
open PySem PySem.Spec PyProof.Rows L2
/-! ### calls with keywords alone, calls whose errors are wished for at the caller's slots -/
/-- a def without defaults, n values in front, the names ks behind -/
theorem kbN {K : PySem.W.Frag} {x qual : Str} {params : Arguments} {bd : List Stmt} {scope : Scope} {f : Addr} {fd : FuncData} {ps : List Str} (F : FunD K x qual params bd scope [] [] f fd) (n : Nat) (ks : List Str) (g : {α : Type} → List α → List α → List α)
    (hrel : ∀ {vs zs : List V} {us ws : List Value}, Vals vs us → Vals zs ws → Vals (g vs zs) (g us ws))
    (h : ∀ (kV doc pm : Value) (an : Option Addr) (cdv ct : Value) (us ws : List Value), us.length = n → ws.length = ks.length → bindArgs (PySem.W.fnOf x qual params bd scope .none kV doc pm an cdv ct) ⟨us, ks.zip ws⟩ = pure (ps.zip (g us ws))) :
    KBn K fd ps n ks (fun us ws => g us ws) (fun vs zs => g vs zs) := by
  obtain ⟨oc, od, dV, kV, doc, pm, an, cdv, ct, osl, rfl, lk, hcd, hD, hK⟩ := F.ex
  rcases hD with ⟨_, rfl⟩ | ⟨e, _⟩
  · exact ⟨fun s us ws _ l1 l2 => .of_eq (h kV doc pm an cdv ct us ws l1 l2), fun r1 r2 => hrel r1 r2⟩
  · exact absurd rfl e
section
variable {X : Cx} {CX : CXT} {k n : Nat} {f C : Addr} {fd : FuncData} {ps ks : List Str} {sp : Sp} {E : L2.St → XK} {x m : Str} {p pos apos : Pos} {e o : Expr} {es : List Expr} {kws : List Keyword} {t tk : TA} {ta : TE} {g : List Value → List Value → List Value} {gV : List V → List V → List V}
theorem run_kwS {pins : List (Addr × Obj)} {σ : L2.St} {H : Hp} {s : Shared} {Q : VK} {us ws : List Value} {vs zs : List V} (F : FnOk X.prog X.w X.K X.mg X.base CX k f fd ps sp) (hr : Room k X.A) (hb : KBn X.K fd ps n ks g gV) (hx : PassesAt CX X σ (E σ))
    (I : Inv X pins σ H s) (r : Vals vs us) (rz : Vals zs ws) (l1 : vs.length = n) (l2 : zs.length = ks.length) (h : sp (gV vs zs) H Q (E σ)) : wpAny (model X.prog X.w) X.A (call (.ref f) us (ks.zip ws)) (EP X pins σ Q) X.xe s := by
  have bb := hb.to s us ws I.kIn (r.length.symm.trans l1) (rz.length.symm.trans l2)
  refine wpAny_call (codeAny_mono (F.run X.A X.stack s H _ _ _ Q (E σ) hr I.env0 bb (hb.rel r rz) h) fun rr s' hq => ?_)
  cases rr with
  | error ee => exact hx pins H s ee s' I hq
  | ok fl =>
    cases fl with
    | ret u => exact I.after hq
    | next => exact False.elim hq
    | brk => exact False.elim hq
    | cont => exact False.elim hq
/-- f(k = v, ..) -/
def tCallW (sp : Sp) (gV : List V → List V → List V) (m : Nat) (E : L2.St → XK) (tk : TA) : TE := fun σ H Q => tk σ H fun zs H2 => zs.length = m ∧ sp (gV [] zs) H2 Q (E σ)
theorem pe_callW (F : FnOk X.prog X.w X.K X.mg X.base CX k f fd ps sp) (hr : Room k X.A) (hg : Gl X x) (hm : X.mg x = some (.ref f)) (hk : PySem.W.keepIn X.K (.ref f) = true) (hb : KBn X.K fd ps 0 ks g gV) (hx : ∀ σ, PassesAt CX X σ (E σ)) (hkw : PK X kws tk)
    (hall : (backToKw pos (keywordEach kws X.env)).all (·.1.isSome) = true := by rfl) (hks : (backToKw pos (keywordEach kws X.env)).filterMap (·.1) = ks := by rfl) (hdb : (x == ("__debug__" : Str)) = false := by decide)
    (hpl : ((backTo pos (starEach [] X.env)).any (·.1) || (backToKw pos (keywordEach kws X.env)).any (·.1.isNone)) = false := by rfl) : PE X (.Call (.Name x p) [] kws pos) (tCallW sp gV ks.length E tk) := by
  refine ⟨fun pins s σ H Q I h => ?_⟩
  refine wpAny_Call_Name_kw (ld_glob I hg hm ?_ hdb)
  refine PySem.W.callWith_KW0 (h₀ := X.base) I.ok.mod.kin hk hall ?_ hpl
  refine thn (hkw.run pos pins s σ H _ I h) fun ws s2 hh => ?_
  obtain ⟨zs, H2, I2, rz, l2, q2⟩ := hh
  refine ⟨I2.kIn, ?_⟩
  rw [hks]
  exact run_kwS (us := []) (vs := []) F hr hb (hx σ) I2 .nil rz rfl l2 q2
/-- o.m(k = v, ..) -/
def tMethW (C : Addr) (m : Str) (sp : Sp) (gV : List V → List V → List V) (j : Nat) (E : L2.St → XK) (ta : TE) (tk : TA) : TE := fun σ H Q => ta σ H fun x H1 => ∃ a dx fs, x = .ref a ∧ H1 a = some (.ins C dx fs) ∧ fs.lookup m = none ∧
  tk σ H1 fun zs H2 => zs.length = j ∧ sp (gV [x] zs) H2 Q (E σ)
theorem pe_methW {pl : Sem Bool} (he : PE X o ta) (c : Cls X.K C) (hm : Meth X.K C m f) (F : FnOk X.prog X.w X.K X.mg X.base CX k f fd ps sp) (hr : Room k X.A) (hb : KBn X.K fd ps 1 ks g gV) (hx : ∀ σ, PassesAt CX X σ (E σ)) (hkw : PK X kws tk)
    (hall : (backToKw pos (keywordEach kws X.env)).all (·.1.isSome) = true := by rfl) (hks : (backToKw pos (keywordEach kws X.env)).filterMap (·.1) = ks := by rfl)
    (hpl : ((backTo pos (starEach [] X.env)).any (·.1) || (backToKw pos (keywordEach kws X.env)).any (·.1.isNone)) = false := by rfl)
    (ht : eval (.Call (.Attribute o m apos) [] kws pos) X.env = (do
      let ov ← eval o X.env
      standAt apos.atName
      let (f, first) ← holding [ov] (getMethod ov m pl)
      callWith pos f first (backTo pos (starEach [] X.env)) (backToKw pos (keywordEach kws X.env))) := by rfl) :
    PE X (.Call (.Attribute o m apos) [] kws pos) (tMethW C m sp gV ks.length E ta tk) := by
  refine ⟨fun pins s σ H Q I h => ?_⟩
  refine PySem.W.methodCall_KW (pl := pl) (thn (he.run pins s σ H _ I h) fun u s1 hh => ?_) ht
  obtain ⟨x, H1, I1, rx, a, dx, fs, ex, ea, l, q⟩ := hh
  subst ex
  cases rx
  refine getmeth_ok I1 ea c hm l ?_
  refine PySem.W.callWith_KW0 (first := [.ref a]) (h₀ := X.base) I.ok.mod.kin hm.kp hall ?_ hpl
  refine thn (hkw.run pos pins s1 σ H1 _ I1 q) fun ws s2 hh => ?_
  obtain ⟨zs, H2, I2, rz, l2, q2⟩ := hh
  refine ⟨I2.kIn, ?_⟩
  rw [hks]
  exact run_kwS (us := [.ref a]) (vs := [.ref a]) F hr hb (hx σ) I2 (.cons rfl .nil) rz rfl l2 q2
/-- C(e, ..), the errors of its __init__ wished for at the slots -/
def tMakeS (C : Addr) (sp : Sp) (E : L2.St → XK) (t : TA) : TE := fun σ H Q => t σ H fun vs H1 => ∀ x dx, H1 x = none → H1 dx = none → dx ≠ x → sp (.ref x :: vs) (upd (upd H1 dx (.own x)) x (.ins C dx [])) (fun v H2 => v = .non ∧ Q (.ref x) H2) (E σ)
theorem pe_makeS (M : Mk X.K C f) (F : FnOk X.prog X.w X.K X.mg X.base CX k f fd ps sp) (hr : Room (k + 1) X.A) (hg : Gl X x) (hm : X.mg x = some (.ref C)) (hb : Binds X.K fd ps []) (hx : ∀ σ, PassesAt CX X σ (E σ))
    (ha : PA X (e :: es) t) (hdb : (x == ("__debug__" : Str)) = false := by decide) (he : starEach (e :: es) X.env = (false, eval e X.env) :: starEach es X.env := by rfl) (hpl : (backTo pos (starEach es X.env)).any (·.1) = false := by rfl) :
    PE X (.Call (.Name x p) (e :: es) [] pos) (tMakeS C sp E t) := by
  refine ⟨fun pins s σ H Q I h => ?_⟩
  refine wpAny_Call_Name_kw (ld_glob I hg hm ?_ hdb)
  refine PySem.W.callWith_K (h₀ := X.base) I.ok.mod.kin M.kp (thn (ha.run pos pins s σ H _ I h) fun us s1 hh => ?_) he hpl
  obtain ⟨vs, H1, I1, r, q⟩ := hh
  refine ⟨I1.kIn, ?_⟩
  have hq := q (s1.heap.objs.size + 1) s1.heap.objs.size (I1.hok.fresh (Nat.le_succ _)) (I1.hok.fresh (Nat.le_refl _)) (Nat.ne_of_lt (Nat.lt_succ_self _))
  have I2 := Inv.made (C := C) I1
  have r2 : Vals (V.ref (s1.heap.objs.size + 1) :: vs) (Value.ref (s1.heap.objs.size + 1) :: us) := .cons rfl r
  have hl : (Value.ref (s1.heap.objs.size + 1) :: us ++ []).length = ps.length := by
    have e0 := r2.length
    rw [F.len _ _ _ _ hq] at e0
    rw [List.append_nil]
    exact e0.symm
  have hbb := hb _ (Value.ref (s1.heap.objs.size + 1) :: us) I2.kIn hl
  rw [List.append_nil] at hbb
  show wpAny _ _ (call (.ref C) us) _ _ _
  refine wpAny_call (make_map (f := f) I1.kIn M.makes M.init (beq_iff_eq.mp M.fn) (codeAny_mono (F.run _ X.stack _ _ ⟨Value.ref (s1.heap.objs.size + 1) :: us, []⟩ _ _ _ (E σ) (hr.make C us []) (I2.env0.make C us []) hbb r2 hq) fun rr s' hq' => ?_))
  cases rr with
  | error ee => exact hx σ pins _ _ ee s' I2 hq'
  | ok fl =>
    cases fl with
    | ret u =>
      obtain ⟨v, H', I3, rv, ev, q3⟩ := I2.after hq'
      subst ev
      exact ⟨rv, ⟨V.ref (s1.heap.objs.size + 1), H', I3, rfl, q3⟩⟩
    | next => exact False.elim hq'
    | brk => exact False.elim hq'
    | cont => exact False.elim hq'
end
theorem at0 {X : Cx} : ∀ σ : L2.St, PassesAt CX0 X σ ((fun _ => E0) σ) := fun _ _ _ _ _ _ _ h => h.elim
section
variable {σ : L2.St} {H : Hp} {Q : VK} {sp : Sp} {gV : List V → List V → List V} {E : L2.St → XK} {tk t : TA} {ta : TE} {m : Nat} {C : Addr} {nm : Str}
theorem g_callW (q : tk σ H fun zs H2 => zs.length = m ∧ sp (gV [] zs) H2 Q (E σ)) : tCallW sp gV m E tk σ H Q := q
theorem g_methW (q : ta σ H fun x H1 => ∃ a dx fs, x = .ref a ∧ H1 a = some (.ins C dx fs) ∧ fs.lookup nm = none ∧ tk σ H1 fun zs H2 => zs.length = m ∧ sp (gV [x] zs) H2 Q (E σ)) : tMethW C nm sp gV m E ta tk σ H Q := q
theorem g_makeS (q : t σ H fun vs H1 => ∀ x dx, H1 x = none → H1 dx = none → dx ≠ x → sp (.ref x :: vs) (upd (upd H1 dx (.own x)) x (.ins C dx [])) (fun v H2 => v = .non ∧ Q (.ref x) H2) (E σ)) : tMakeS C sp E t σ H Q := q
theorem g_callS (q : t σ H fun vs H1 => sp vs H1 Q (E σ)) : tCallS sp E t σ H Q := q
end
end Fm

set_option maxHeartbeats 2000000
namespace Fm
open PySem PySem.Spec PyProof.Rows L2
/-! ### lists of numbers -/
def sumR (qs : List Rat) : Rat := qs.foldl (· + ·) 0
theorem sumR_take {qs : List Rat} {i : Nat} {q : Rat} (h : qs[i]? = some q) : sumR (qs.take (i + 1)) = sumR (qs.take i) + q := by
  have e : qs.take (i + 1) = qs.take i ++ [q] := by
    rw [List.take_add_one, h]; rfl
  unfold sumR
  rw [e, List.foldl_append]
  rfl
def Nums (C : Addr) (H : Hp) (xs : List V) (qs : List Rat) : Prop := xs.length = qs.length ∧ ∀ (i : Nat) (v : V) (q : Rat), xs[i]? = some v → qs[i]? = some q → NumV C H v q
theorem Nums.mono {C : Addr} {H H' : Hp} {xs : List V} {qs : List Rat} (e : Ex H H') (h : Nums C H xs qs) : Nums C H' xs qs := ⟨h.1, fun i v q a b => (h.2 i v q a b).mono e⟩
theorem Nums.nil {C : Addr} {H : Hp} : Nums C H [] [] := ⟨rfl, fun i v q a => by simp at a⟩
theorem Nums.cons {C : Addr} {H : Hp} {x : V} {q : Rat} {xs : List V} {qs : List Rat} (h : NumV C H x q) (t : Nums C H xs qs) : Nums C H (x :: xs) (q :: qs) := by
  refine ⟨by rw [List.length_cons, List.length_cons, t.1], fun i v r a b => ?_⟩
  cases i with
  | zero => simp at a b; subst a; subst b; exact h
  | succ i => exact t.2 i v r (by simpa using a) (by simpa using b)
def spTotal (K : PySem.W.Frag) (C : Addr) : Sp := fun vs H Q _ => ∃ (p : Addr) (xs : List V) (qs : List Rat) (k : Nat), vs = [.ref p] ∧ (SqL K H p xs ∨ SqT K H p xs) ∧ Nums C H xs qs ∧ (∀ i, i ≤ qs.length → Sz k (sumR (qs.take i))) ∧ (∀ q, q ∈ qs → Sz k q) ∧ k ≤ 3000 ∧
  ∀ v H', Ex H H' → RatV C H' v (sumR qs) → Q v H'
end Fm

set_option maxHeartbeats 2000000
namespace Fm
open PySem PySem.Spec PyProof.Rows L2
/-! ### what the laws reckon -/
theorem parts_of {z : Rat} {t b : Int} (hb : b ≠ 0) (e : z = Rat.divInt t b) : z.num * b = t * z.den := by
  refine (Rat.divInt_eq_divInt_iff (den_ne z) hb).mp ?_
  rw [Rat.num_divInt_den, e]
theorem divInt_lt {p q r s : Int} (hq : 0 < q) (hs : 0 < s) : Rat.divInt p q < Rat.divInt r s ↔ p * s < r * q := by
  rw [Rat.divInt_eq_div, Rat.divInt_eq_div]
  have hq' : (0 : Rat) < (q : Rat) := by
    have := Rat.lt_iff 0 (q : Rat)
    rw [this]; simp; exact hq
  have hs' : (0 : Rat) < (s : Rat) := by
    have := Rat.lt_iff 0 (s : Rat)
    rw [this]; simp; exact hs
  rw [Rat.div_lt_iff hq', Rat.div_def, Rat.mul_assoc, Rat.mul_comm (s : Rat)⁻¹, ← Rat.mul_assoc, ← Rat.div_def, Rat.lt_div_iff hs', ← Rat.intCast_mul, ← Rat.intCast_mul]
  rw [Rat.lt_iff, Rat.num_intCast, Rat.num_intCast, Rat.den_intCast, Rat.den_intCast]; simp
theorem divInt_eq {p q r s : Int} (hq : 0 < q) (hs : 0 < s) : Rat.divInt p q = Rat.divInt r s ↔ p * s = r * q := Rat.divInt_eq_divInt_iff (by omega) (by omega)
theorem divInt_le {p q r s : Int} (hq : 0 < q) (hs : 0 < s) : Rat.divInt p q ≤ Rat.divInt r s ↔ p * s ≤ r * q := by
  rw [← Rat.not_lt, divInt_lt hs hq]; omega
theorem add_div2 {p q r s : Int} (hq : q ≠ 0) (hs : s ≠ 0) : Rat.divInt p q + Rat.divInt r s = Rat.divInt (p * s + r * q) (q * s) := Rat.divInt_add_divInt _ _ hq hs
theorem sub_div2 {p q r s : Int} (hq : q ≠ 0) (hs : s ≠ 0) : Rat.divInt p q - Rat.divInt r s = Rat.divInt (p * s - r * q) (q * s) := Rat.divInt_sub_divInt _ _ hq hs
theorem mul_div2 {p q r s : Int} : Rat.divInt p q * Rat.divInt r s = Rat.divInt (p * r) (q * s) := Rat.divInt_mul_divInt _ _
theorem over_div2 {p q r s : Int} : Rat.divInt p q / Rat.divInt r s = Rat.divInt (p * s) (q * r) := by
  rw [Rat.div_def, Rat.inv_divInt, Rat.divInt_mul_divInt]
theorem divInt_zero' {r s : Int} (hs : s ≠ 0) : Rat.divInt r s = 0 ↔ r = 0 := by
  constructor
  · intro h
    have := parts_of hs h.symm
    simp at this
    exact this.symm ▸ rfl
  · intro h; rw [h, Rat.zero_divInt]
section
variable {H : Hp} {Q : VK}
theorem g_eqB {a b : Bool} (q : Q (.bl (decide (a = b))) H) : rEq (.bl a) (.bl b) H Q := ⟨rfl, by
  rw [show decide (V.bl a = V.bl b) = decide (a = b) by cases a <;> cases b <;> rfl]; exact q⟩
theorem g_neB {a b : Bool} (q : Q (.bl (!decide (a = b))) H) : rNe (.bl a) (.bl b) H Q := ⟨rfl, by
  rw [show decide (V.bl a = V.bl b) = decide (a = b) by cases a <;> cases b <;> rfl]; exact q⟩
end
def spLis (C : Addr) : Sp := fun vs H Q _ => ∃ (x : V) (q : Rat) (u p : Int), vs = [x, .int u, .int p] ∧ RatV C H x q ∧ q.num * p = u * q.den ∧ q.num.natAbs < 10 ^ 60 ∧ q.den < 10 ^ 60 ∧ u.natAbs < 2 ^ 250 ∧ p.natAbs < 2 ^ 250 ∧ ∀ H', Ex H H' → Q (.bl true) H'
theorem use_Lis {C : Addr} {H : Hp} {Q : VK} {E : XK} {x : V} {z : Rat} {u p : Int} (hx : RatV C H x z) (e : z = Rat.divInt u p) (hp : p ≠ 0) (h1 : u.natAbs < 2 ^ 150) (h2 : p.natAbs < 2 ^ 150) (q : ∀ H', Ex H H' → Q (.bl true) H') : spLis C [x, .int u, .int p] H Q E := by
  have hle := num_le (t := u) hp
  rw [← e] at hle
  have b1 : (2 : Nat) ^ 150 < 10 ^ 60 := by decide
  have b2 : (2 : Nat) ^ 150 < 2 ^ 250 := by decide
  exact ⟨x, z, u, p, rfl, hx, parts_of hp e, by omega, by omega, by omega, by omega, q⟩
def spPairR (K : PySem.W.Frag) (C : Addr) : Sp := fun vs H Q _ => ∃ (x y : V) (ta tb : Addr) (p q r s : Int), vs = [x, y, .ref ta, .ref tb] ∧ RatV C H x (Rat.divInt p q) ∧ NumV C H y (Rat.divInt r s) ∧ SqT K H ta [.int p, .int q] ∧ SqT K H tb [.int r, .int s] ∧
  0 < q ∧ 0 < s ∧ p.natAbs < 2 ^ 60 ∧ q.natAbs < 2 ^ 60 ∧ r.natAbs < 2 ^ 60 ∧ s.natAbs < 2 ^ 60 ∧ ∀ H', Ex H H' → Q (.bl true) H'
theorem g_guard {c : Bool} {tc : TE} {σ : L2.St} {H : Hp} {A B : Hp → Prop} {Z : Prop} (h : c = true → ∀ Q : VK, (∀ H', Ex H H' → Q (.bl true) H') → tc σ H Q) (hz : B H → Z) (next : ∀ H', Ex H H' → B H') :
    if c = true then tNot (tB tc) σ H (fun b H1 => if b = true then A H1 else B H1) else Z := by
  cases c with
  | true =>
    rw [if_pos rfl]
    exact h rfl _ fun H' e => ⟨true, rfl, by show (if (!true) = true then A H' else B H'); rw [if_neg (by decide)]; exact next H' e⟩
  | false =>
    rw [if_neg Bool.false_ne_true]
    exact hz (next H (Ex.refl H))
end Fm

set_option maxHeartbeats 2000000
namespace Fm
open PySem PySem.Spec PyProof.Rows L2 SX
/-! ### texts: walks, lists of texts -/
section
variable {K : PySem.W.Frag} {σ : L2.St} {H : Hp} {Q : VK} {D : Ends} {g : TG} {tb : TS} {tt : TT} {te t1 t2 : TE} {ta : TA} {vs : List Nat} {wi : TI} {R : It → Hp → Prop} {v x y : V}
theorem g_istr (q : te σ H fun v H1 => ∃ x, v = .str x ∧ R (Its x) H1) : iStr te σ H R := q
theorem cp_S {l : List Nat} (Pv : Addr → Nat → Hp → Prop) (h0 : ∀ D, H D = none → Pv D 0 (upd H D (.lst [])))
    (hs : ∀ D, H D = none → ∀ i c H', l[i]? = some c → Pv D i H' → Turn g tt te vs σ D (Pv D (i + 1)) (.str (S [c])) H') (hd : ∀ D, H D = none → ∀ H', Pv D l.length H' → Q (.ref D) H') : Cp (Its (S l)) g tt te vs σ H Q := by
  intro D hD
  refine ⟨fun i m H => m = l.length - i ∧ i ≤ l.length ∧ Pv D i H, ⟨l.length, by simp, Nat.zero_le _, h0 D hD⟩, ?_⟩
  rintro i m H' ⟨rfl, hi, p⟩
  by_cases hlt : i < l.length
  · refine .inr ⟨by show i < (S l).cps.size; simpa using hlt, Pv D (i + 1), fun H' p' => ⟨l.length - (i + 1), by omega, rfl, hlt, p'⟩, fun x H2 y => ?_⟩
    obtain ⟨e, c, hc, e2⟩ := y
    subst e
    subst e2
    exact hs D hD i c _ (by simpa using hc) p
  · have e : i = l.length := by omega
    subst e
    exact .inl ⟨by show (S l).cps.size ≤ l.length; simp, hd D hD _ p⟩
theorem g_iteQ {p : Prop} [Decidable p] (h1 : p → ∀ Q : VK, Q v H → t1 σ H Q) (h2 : ¬ p → ∀ Q : VK, Q v H → t2 σ H Q) (q : Q v H) : if decide p = true then t1 σ H Q else t2 σ H Q := g_dec (fun h => h1 h Q q) (fun h => h2 h Q q)
theorem g_ixS {l : List Nat} {i : Int} {c : Nat} (hl : l.length ≤ 100000) (h : atI l i = some c) (q : Q (.str (S [c])) H) : rIxS (.str (S l)) (.int i) H Q :=
  ⟨S l, i, c, rfl, rfl, by rw [S_len]; exact Nat.le_trans hl (by decide), h, q⟩
theorem g_notInS {c : Nat} {l : List Nat} (q : Q (.bl (!decide (c ∈ l))) H) : rNotInS (.str (S [c])) (.str (S l)) H Q := ⟨c, S l, rfl, rfl, q⟩
end
theorem canLay_strs : ∀ l : List Str, (∀ x ∈ l, PyData.strOk x = true) → PyData.canLayAll0 (l.map PyData.str) = true
  | [], _ => by simp [PyData.canLayAll0]
  | n :: r, h => by simp [PyData.canLayAll0, PyData.canLay0, h n (List.mem_cons_self ..), canLay_strs r fun x hx => h x (List.mem_cons_of_mem _ hx)]
theorem strOk_S {l : List Nat} (h : ∀ c ∈ l, c < 256) : PyData.strOk (S l) = true := by
  show (S l).cps.all (· < 0x110000) = true
  rw [Array.all_eq_true_iff_forall_mem]
  intro c hc
  have := h c (by simpa using hc)
  exact decide_eq_true (by omega)
theorem depth_strs : ∀ l : List Str, PyData.depthAll (l.map PyData.str) ≤ 1
  | [] => by simp [PyData.depthAll]
  | n :: r => by
    have := depth_strs r
    simp only [List.map_cons, PyData.depthAll, PyData.depth]
    omega
theorem shaped_strs (l : List Str) (h : ∀ x ∈ l, PyData.strOk x = true) : SeqAt.shaped (.list (l.map PyData.str)) = true := by
  have h1 := depth_strs l
  have h2 : PyData.depth (.list (l.map PyData.str)) ≤ 64 := by simp only [PyData.depth]; omega
  show (PyData.canLay0 (.list (l.map PyData.str)) && decide (PyData.depth (.list (l.map PyData.str)) ≤ 64)) = true
  rw [Bool.and_eq_true]
  exact ⟨by simp only [PyData.canLay0]; exact canLay_strs l h, decide_eq_true h2⟩
theorem eqv_strs : ∀ l r : List Str, PyData.eqvAll (l.map PyData.str) (r.map PyData.str) = decide (l = r)
  | [], [] => by simp [PyData.eqvAll]
  | [], _ :: _ => by simp [PyData.eqvAll]
  | _ :: _, [] => by simp [PyData.eqvAll]
  | a :: r, b :: q => by
    simp only [List.map_cons, PyData.eqvAll, PyData.eqv, eqv_strs r q]
    by_cases h : a = b <;> simp [h]
section
variable {K : PySem.W.Frag} {H : Hp} {Q : VK}
theorem dpAll_strs : ∀ l : List Str, DpAll K H (l.map V.str) (l.map PyData.str)
  | [] => .nil
  | _ :: r => .cons (.str _) (dpAll_strs r)
theorem dp_strs {p : Addr} {l : List Str} (h : SqL K H p (l.map V.str)) : Dp K H (.ref p) (.list (l.map PyData.str)) := .lst h (dpAll_strs l)
theorem g_neStrs {p r : Addr} {l m : List Str} (o1 : ∀ x ∈ l, PyData.strOk x = true) (o2 : ∀ x ∈ m, PyData.strOk x = true) (h1 : SqL K H p (l.map V.str)) (h2 : SqL K H r (m.map V.str)) (q : Q (.bl (!decide (l = m))) H) : rNeD K (.ref p) (.ref r) H Q :=
  ⟨_, _, dp_strs h1, dp_strs h2, shaped_strs l o1, shaped_strs m o2, by rw [show PyData.eqv (.list (l.map PyData.str)) (.list (m.map PyData.str)) = decide (l = m) by simp only [PyData.eqv]; exact eqv_strs l m]; exact q⟩
theorem g_eqStrs {p r : Addr} {l m : List Str} (o1 : ∀ x ∈ l, PyData.strOk x = true) (o2 : ∀ x ∈ m, PyData.strOk x = true) (h1 : SqL K H p (l.map V.str)) (h2 : SqL K H r (m.map V.str)) (q : Q (.bl (decide (l = m))) H) : rEqD K (.ref p) (.ref r) H Q :=
  ⟨_, _, dp_strs h1, dp_strs h2, shaped_strs l o1, shaped_strs m o2, by rw [show PyData.eqv (.list (l.map PyData.str)) (.list (m.map PyData.str)) = decide (l = m) by simp only [PyData.eqv]; exact eqv_strs l m]; exact q⟩
end
end Fm
namespace Fm
open PySem PySem.Spec PyProof.Rows L2 SX
theorem sign_iff (l : List Nat) : (S (l.take 1) = (Str.ofString "-" : Str)) ↔ l.head? = some 45 := by
  rw [show (Str.ofString "-" : Str) = S [45] from rfl]
  constructor
  · intro h
    have := S_inj h
    cases l with
    | nil => simp at this
    | cons c r => simpa using this
  · intro h
    cases l with
    | nil => simp at h
    | cons c r =>
      simp at h
      subst h
      rfl
theorem join_parts : ∀ ps : List (List Nat), ps.length ≤ (TL.joinL [47] ps).length + 1 ∧ ∀ p ∈ ps, p.length ≤ (TL.joinL [47] ps).length ∧ ∀ c ∈ p, c ∈ TL.joinL [47] ps
  | [] => ⟨Nat.zero_le _, fun _ h => nomatch h⟩
  | [p] => ⟨by simp, fun q h => by
      have e : q = p := by simpa using h
      subst e
      exact ⟨by simp [TL.joinL], fun c hc => by simpa [TL.joinL] using hc⟩⟩
  | p :: q :: r => by
    obtain ⟨h1, h2⟩ := join_parts (q :: r)
    have e : TL.joinL [47] (p :: q :: r) = p ++ ([47] ++ TL.joinL [47] (q :: r)) := rfl
    rw [e]
    refine ⟨by simp at h1 ⊢; omega, fun x hx => ?_⟩
    rcases List.mem_cons.mp hx with rfl | hx
    · exact ⟨by simp, fun c hc => by simp [hc]⟩
    · obtain ⟨h3, h4⟩ := h2 x hx
      exact ⟨by simp; omega, fun c hc => by simp [h4 c hc]⟩
theorem digs_mem (c : Nat) : (!decide (c ∈ [48, 49, 50, 51, 52, 53, 54, 55, 56, 57])) = !dg c := by
  congr 1
  unfold dg
  rw [Bool.eq_iff_iff]
  simp
  omega
theorem take_succ_get {α : Type} {l : List α} {i : Nat} {x : α} (h : l[i]? = some x) : l.take (i + 1) = l.take i ++ [x] := by
  rw [List.take_add_one, h]; rfl
theorem bad_eq (p : List Nat) : badPart p = (decide (p = []) || (!decide ((p.filter fun c => !dg c).map (fun c => S [c]) = []) || (!decide (p = [48]) && decide (p.head? = some 48)))) := by
  unfold badPart dig
  cases p with
  | nil => rfl
  | cons c r =>
    rw [Bool.eq_iff_iff]
    simp
end Fm
namespace Fm
open PySem PySem.Spec PyProof.Rows L2 SX
theorem rdL_bad {l q : List Nat} (h : q ∈ TL.spl [47] 0 [] (body l)) (hb : badPart q = true) : rdL l = none := by
  unfold rdL
  generalize TL.spl [47] 0 [] (body l) = parts at h ⊢
  match parts, h with
  | [u], h =>
    have e : q = u := by simpa using h
    subst e
    simp only [hb, if_true]
  | [u, d], h =>
    have e : q = u ∨ q = d := by simpa using h
    have : (badPart u || badPart d) = true := by
      rcases e with rfl | rfl
      · rw [hb]; rfl
      · rw [hb, Bool.or_true]
    simp only [this, if_true]
  | _ :: _ :: _ :: _, _ => rfl
theorem spl_ne (l : List Nat) : TL.spl [47] 0 [] l ≠ [] := by
  intro h
  have := join_spl l []
  rw [h] at this
  have e : l = [] := by simpa [TL.joinL] using this.symm
  subst e
  cases h
end Fm
namespace Fm
open PySem PySem.Spec PyProof.Rows L2 SX
theorem g_lenQ {K : PySem.W.Frag} {H : Hp} {Q : VK} {p : Addr} {xs : List V} (h : SqL K H p xs) (q : Q (.int (xs.length : Int)) H) : rLenQ K [.ref p] H Q := ⟨p, xs, rfl, .inl h, q⟩
theorem at_zero {α : Type} {c : α} {r : List α} : atI (c :: r) 0 = some c := by
  unfold atI ixN
  simp
theorem at_one {α : Type} {b c : α} {r : List α} : atI (b :: c :: r) 1 = some c := by
  unfold atI ixN
  simp
  rw [if_pos (by omega)]
  rfl
theorem head_48 {c : Nat} {r : List Nat} : decide (S [c] = Str.ofString "0") = decide ((c :: r).head? = some 48) := by
  refine decide_eq_decide.mpr ⟨fun h => ?_, fun h => ?_⟩
  · have := S_inj (b := [48]) h
    simpa using this
  · have e : c = 48 := by simpa using h
    rw [e]
    rfl
end Fm
namespace Fm
open PySem PySem.Spec PyProof.Rows L2 SX
section
variable {σ : L2.St} {H : Hp} {t u : TT} {W : Bool → Hp → Prop} {b c : Bool}
theorem g_orB (h1 : ∀ W : Bool → Hp → Prop, W b H → t σ H W) (h2 : b = false → ∀ W : Bool → Hp → Prop, W c H → u σ H W) (q : W (b || c) H) : tOr t u σ H W := by
  refine g_or (h1 _ ?_)
  cases b with
  | true => exact q
  | false => exact h2 rfl _ q
theorem g_andB (h1 : ∀ W : Bool → Hp → Prop, W b H → t σ H W) (h2 : b = true → ∀ W : Bool → Hp → Prop, W c H → u σ H W) (q : W (b && c) H) : tAnd t u σ H W := by
  refine g_and (h1 _ ?_)
  cases b with
  | true => exact h2 rfl _ q
  | false => exact q
end
def dnOf : List (List Nat) → Nat
  | [d] => dv d
  | _ => 1
def sgnOf (l : List Nat) (n : Nat) : Int := if l.head? = some 45 then 0 - (n : Int) else n
theorem rdL_form {l u : List Nat} {r : List (List Nat)} (h : TL.spl [47] 0 [] (body l) = u :: r) (hall : ∀ q ∈ u :: r, badPart q = false) {n : Nat} (hn : n = (u :: r).length) :
    rdL l = if (decide (2 < (n : Int)) || (decide (u = [48]) && (decide ((n : Int) = 2) || decide (l.head? = some 45)))) = true then none
      else if (decide ((n : Int) = 2) && decide (((dnOf r : Nat) : Int) < 2)) = true then none
      else if (!decide (((Nat.gcd (dv u) (dnOf r) : Nat) : Int) = 1) && decide ((n : Int) = 2)) = true then none
      else some (Rat.divInt (sgnOf l (dv u)) ((dnOf r : Nat) : Int)) := by
  subst hn
  unfold rdL
  rw [h]
  match r, hall with
  | [], hall =>
    have b := hall u (by simp)
    simp only [b, dnOf, sgnOf]
    by_cases h1 : u = [48] <;> by_cases h2 : l.head? = some 45 <;> simp [h1, h2, int_divInt]
  | [d], hall =>
    have b := hall u (by simp)
    have b2 := hall d (by simp)
    have e : ((dv d : Nat) : Int) < 2 ↔ dv d < 2 := by omega
    have e3 : (((Nat.gcd (dv u) (dv d) : Nat) : Int) = 1) ↔ Nat.gcd (dv u) (dv d) = 1 := by omega
    simp only [b, b2, dnOf, sgnOf]
    by_cases h1 : u = [48] <;> by_cases h2 : l.head? = some 45 <;> by_cases h3 : dv d < 2 <;> by_cases h4 : Nat.gcd (dv u) (dv d) = 1 <;> simp [h1, h2, h3, h4, e, e3]
  | x :: y :: m, _ =>
    have e : (decide (2 < (((u :: x :: y :: m : List (List Nat)).length : Nat) : Int))) = true := decide_eq_true (by simp only [List.length_cons]; omega)
    simp only [e, Bool.true_or, if_true]
end Fm
namespace Fm
open PySem PySem.Spec PyProof.Rows L2 SX
/-! ### phrases: short texts of plain signs -/
def okS (s : Str) : Bool := decide (s.cps.toList.length < 60) && s.cps.toList.all (· < 256)
def okV : V → Bool
  | .str s => okS s
  | _ => false
theorem S_cps (s : Str) : S s.cps.toList = s := by
  show (⟨s.cps.toList.toArray⟩ : Str) = s
  rw [Array.toArray_toList]
theorem okV_S {x : V} (h : okV x = true) : ∃ l, x = .str (S l) ∧ l.length < 60 ∧ ∀ c ∈ l, c < 256 := by
  cases x with
  | str s =>
    have h' : okS s = true := h
    unfold okS at h'
    rw [Bool.and_eq_true] at h'
    exact ⟨s.cps.toList, by rw [S_cps], of_decide_eq_true h'.1, fun c hc => by have := List.all_eq_true.mp h'.2 c hc; simpa using this⟩
  | _ => cases h
theorem okV_of {l : List Nat} (h : l.length < 60) (h2 : ∀ c ∈ l, c < 256) : okV (.str (S l)) = true := by
  show okS (S l) = true
  unfold okS
  rw [Bool.and_eq_true]
  exact ⟨decide_eq_true h, List.all_eq_true.mpr fun c hc => decide_eq_true (h2 c hc)⟩
theorem numL_256 {n c : Nat} (h : c ∈ TL.numL n) : c < 256 := by
  have := List.all_eq_true.mp (numL_dg n) c h
  unfold dg at this
  rw [Bool.and_eq_true] at this
  have := of_decide_eq_true this.2
  omega
theorem txN_256 {n : Int} {c : Nat} (h : c ∈ txN n) : c < 256 := by
  unfold txN at h
  split at h
  · rcases List.mem_cons.mp h with rfl | h
    · omega
    · exact numL_256 h
  · exact numL_256 h
theorem txR_256 {q : Rat} {c : Nat} (h : c ∈ txR q) : c < 256 := by
  unfold txR at h
  rcases List.mem_append.mp h with h | h
  · exact txN_256 h
  · split at h
    · cases h
    · rcases List.mem_cons.mp h with rfl | h
      · omega
      · exact numL_256 h
theorem txR_len {q : Rat} {k : Nat} (hk : 0 < k) (h1 : q.num.natAbs < 10 ^ k) (h2 : q.den < 10 ^ k) : (txR q).length ≤ 2 * k + 2 := by
  have l1 := TL.numL_len hk h1
  have l2 := TL.numL_len hk h2
  have l3 : (txN q.num).length ≤ k + 1 := by rw [← txN_abs]; split <;> simp <;> omega
  unfold txR
  split
  · simp; omega
  · simp; omega
theorem numL_lt (n : Nat) : n < 10 ^ (TL.numL n).length := by
  have := dv_lt (dig_numL n)
  rw [dv_numL] at this
  exact this
theorem txR_big {q : Rat} {l : List Nat} (h : txR q = l) (hl : l.length < 60) : q.num.natAbs < 10 ^ 60 ∧ q.den < 10 ^ 60 := by
  have e1 : (TL.numL q.num.natAbs).length ≤ 60 := by
    have e : (txN q.num).length ≤ l.length := by rw [← h]; unfold txR; simp
    have e2 : (TL.numL q.num.natAbs).length ≤ (txN q.num).length := by unfold txN; split <;> simp
    omega
  refine ⟨Nat.lt_of_lt_of_le (numL_lt _) (Nat.pow_le_pow_right (by decide) e1), ?_⟩
  by_cases hd : q.den = 1
  · rw [hd]; decide
  · have e2 : (TL.numL q.den).length ≤ 60 := by
      have e : (TL.numL q.den).length ≤ l.length := by rw [← h]; unfold txR; rw [if_neg hd]; simp; omega
      omega
    exact Nat.lt_of_lt_of_le (numL_lt _) (Nat.pow_le_pow_right (by decide) e2)
end Fm
namespace Fm
open PySem PySem.Spec PyProof.Rows L2 SX
section
variable {H : Hp} {Q : VK} {m n : Addr} {xs ys : List V} {k j : Nat}
theorem g_lstOk (k : Nat) (h : xs.all okV = true) (hl : xs.length ≤ k) (hk : k ≤ 1000) (q : ∀ p ys H', ys.all okV = true → ys.length ≤ k → H p = none → Ex H H' → H' p = some (.lst ys) → Q (.ref p) H') :
    xs.length ≤ sizeLine ∧ ∀ p, H p = none → Q (.ref p) (upd H p (.lst xs)) :=
  ⟨Nat.le_trans (Nat.le_trans hl hk) (by decide), fun p hp => q p xs _ h hl hp (Ex.new hp) upd_same⟩
theorem g_catOk (hm : H m = some (.lst xs)) (hn : H n = some (.lst ys)) (h1 : xs.all okV = true) (h2 : ys.all okV = true) (l1 : xs.length ≤ k) (l2 : ys.length ≤ j) (hk : k + j ≤ 1000)
    (q : ∀ p zs H', zs.all okV = true → zs.length ≤ k + j → H p = none → Ex H H' → H' p = some (.lst zs) → Q (.ref p) H') : rCat (.ref m) (.ref n) H Q :=
  ⟨m, n, xs, ys, rfl, rfl, hm, hn, Nat.le_trans (show _ ≤ 1000 by omega) (by decide), fun p hp => q p _ _ (by rw [List.all_append, h1, h2]; rfl) (by rw [List.length_append]; omega) hp (Ex.new hp) upd_same⟩
end
end Fm
namespace Fm
open PySem PySem.Spec PyProof.Rows L2 SX
theorem lstFacts {H G : Hp} {p : Addr} {xs : List V} {k : Nat} (hG : upd H p (.lst xs) = G) (hp : H p = none) (h : xs.all okV = true) (hl : xs.length ≤ k) : ∃ ys, ys.all okV = true ∧ ys.length ≤ k ∧ Ex H G ∧ G p = some (.lst ys) := by
  subst hG
  exact ⟨xs, h, hl, Ex.new hp, upd_same⟩
theorem catFacts {H : Hp} {m n : Addr} {xs ys : List V} {k j : Nat} {W : Addr → Hp → Prop} (hm : H m = some (.lst xs)) (hn : H n = some (.lst ys)) (l1 : xs.length ≤ k) (l2 : ys.length ≤ j) (hk : k + j ≤ 1000)
    (q : ∀ p, H p = none → W p (upd H p (.lst (xs ++ ys)))) : ∃ l b xs zs, V.ref m = .ref l ∧ V.ref n = .ref b ∧ H l = some (.lst xs) ∧ H b = some (.lst zs) ∧ xs.length + zs.length ≤ sizeLine ∧ ∀ p, H p = none → W p (upd H p (.lst (xs ++ zs))) :=
  ⟨m, n, xs, ys, rfl, rfl, hm, hn, Nat.le_trans (show _ ≤ 1000 by omega) (by decide), q⟩
end Fm
namespace Fm
open PySem PySem.Spec PyProof.Rows L2 SX
theorem Ex.mo_new {H H1 H2 : Hp} {t : Addr} (e : Ex H H1) (h : H t = none) (m : Mo t H1 H2) : Ex H H2 := fun a o ha => m a o (e a o ha) (ne_of_none ha h)
theorem TapeAt.ne {H : Hp} {t x : Addr} {o : HO} (h : TapeAt H t) (hx : H x = some o) (hl : ∀ l, o ≠ .lst l) : x ≠ t := fun e => by
  obtain ⟨_, _, _, _, _, z⟩ := h
  rw [e, z] at hx
  exact hl _ (by cases hx; rfl)
theorem TapeAt.new {H : Hp} {t x : Addr} (h : TapeAt H t) (hx : H x = none) : x ≠ t := fun e => by
  obtain ⟨_, _, _, _, _, z⟩ := h
  rw [e, z] at hx
  cases hx
theorem RatV.mo {C : Addr} {H H' : Hp} {v : V} {q : Rat} {t : Addr} (h : TapeAt H t) (m : Mo t H H') (r : RatV C H v q) : RatV C H' v q := by
  obtain ⟨p, rfl, dx, hp⟩ := r
  exact ⟨p, rfl, dx, m _ _ hp (h.ne hp fun l => by intro z; cases z)⟩
end Fm
namespace Fm
open PySem PySem.Spec PyProof.Rows L2 SX
def rMaxI : List V → Hp → VK → Prop := fun xs H Q => ∃ i j, xs = [.int i, .int j] ∧ Q (.int (if j > i then j else i)) H
def rMinI : List V → Hp → VK → Prop := fun xs H Q => ∃ i j, xs = [.int i, .int j] ∧ Q (.int (if j < i then j else i)) H
theorem cr_max2 {X : Cx} (hc : X.calm = true) : CallR X (.builtin "max") rMaxI := call_max2 hc
theorem cr_min2 {X : Cx} (hc : X.calm = true) : CallR X (.builtin "min") rMinI := call_min2 hc
end Fm
namespace Fm
open PySem PySem.Spec PyProof.Rows L2 SX
/-- a pair that the law drew, at its place -/
structure PrOk (H : Hp) (t : Addr) (e : Addr × Int × Int) : Prop where
  ne : e.1 ≠ t
  at_ : H e.1 = some (.tup [.int e.2.1, .int e.2.2])
  l1 : -(10 ^ 11) ≤ e.2.1
  l2 : e.2.1 ≤ 10 ^ 11
  l3 : 1 ≤ e.2.2
  l4 : e.2.2 ≤ 10 ^ 11
theorem PrOk.mono {H H' : Hp} {t : Addr} {e : Addr × Int × Int} (x : Ex H H') (h : PrOk H t e) : PrOk H' t e := ⟨h.ne, x _ _ h.at_, h.l1, h.l2, h.l3, h.l4⟩
theorem PrOk.mo {H H' : Hp} {t : Addr} {e : Addr × Int × Int} (x : Mo t H H') (h : PrOk H t e) : PrOk H' t e := ⟨h.ne, x _ _ h.at_ h.ne, h.l1, h.l2, h.l3, h.l4⟩
def rtOf (e : Addr × Int × Int) : Rat := Rat.divInt e.2.1 e.2.2
/-- what stands in a lap of the law -/
structure Bn (C : Addr) (H0 H : Hp) (t D F : Addr) (e0 e1 e2 : Addr × Int × Int) (r0 r1 r2 : V) : Prop where
  ex : Ex H0 H
  nw : H0 t = none
  tp : TapeAt H t
  hD : H D = some (.lst [.ref e0.1, .ref e1.1, .ref e2.1])
  hF : H F = some (.lst [r0, r1, r2])
  dt : D ≠ t
  ft : F ≠ t
  p0 : PrOk H t e0
  p1 : PrOk H t e1
  p2 : PrOk H t e2
  q0 : RatV C H r0 (rtOf e0)
  q1 : RatV C H r1 (rtOf e1)
  q2 : RatV C H r2 (rtOf e2)
section
variable {C : Addr} {H0 H H' : Hp} {t D F : Addr} {e0 e1 e2 : Addr × Int × Int} {r0 r1 r2 : V}
theorem Bn.mono (b : Bn C H0 H t D F e0 e1 e2 r0 r1 r2) (e : Ex H H') : Bn C H0 H' t D F e0 e1 e2 r0 r1 r2 :=
  ⟨b.ex.trans e, b.nw, b.tp.mono e, e _ _ b.hD, e _ _ b.hF, b.dt, b.ft, b.p0.mono e, b.p1.mono e, b.p2.mono e, b.q0.mono e, b.q1.mono e, b.q2.mono e⟩
theorem Bn.mo (b : Bn C H0 H t D F e0 e1 e2 r0 r1 r2) (m : Mo t H H') (h : TapeAt H' t) : Bn C H0 H' t D F e0 e1 e2 r0 r1 r2 :=
  ⟨b.ex.mo_new b.nw m, b.nw, h, m _ _ b.hD b.dt, m _ _ b.hF b.ft, b.dt, b.ft, b.p0.mo m, b.p1.mo m, b.p2.mo m, b.q0.mo b.tp m, b.q1.mo b.tp m, b.q2.mo b.tp m⟩
end
end Fm
namespace Fm
open PySem PySem.Spec PyProof.Rows L2 SX
theorem g_makeK {C : Addr} {n m : Nat} {sp : Sp} {gV : List V → List V → List V} {E : XK} {t tk : TA} {σ : L2.St} {H : Hp} {Q : VK} (q : t σ H fun vs H1 => tk σ H1 fun zs H2 => vs.length = n ∧ zs.length = m ∧ ∀ x dx, H2 x = none → H2 dx = none → dx ≠ x →
  sp (gV (.ref x :: vs) zs) (upd (upd H2 dx (.own x)) x (.ins C dx [])) (fun v H3 => v = .non ∧ Q (.ref x) H3) E) : tMakeK C n m sp gV E t tk σ H Q := q
theorem flip_divInt {u p : Int} (hp : p ≠ 0) : Rat.divInt u (0 - p) = Rat.divInt (0 - u) p := by
  rw [Rat.divInt_eq_divInt_iff (by omega) hp, Int.zero_sub, Int.zero_sub, Int.neg_mul_neg]
theorem use_pairR {K : PySem.W.Frag} {C : Addr} {H : Hp} {Q : VK} {E : XK} {x y : V} {ta tb : Addr} {p q r s : Int} (hx : RatV C H x (Rat.divInt p q)) (hy : NumV C H y (Rat.divInt r s)) (ha : SqT K H ta [.int p, .int q]) (hb : SqT K H tb [.int r, .int s])
    (hq : 0 < q) (hs : 0 < s) (b1 : p.natAbs < 2 ^ 60) (b2 : q.natAbs < 2 ^ 60) (b3 : r.natAbs < 2 ^ 60) (b4 : s.natAbs < 2 ^ 60) (z : ∀ H', Ex H H' → Q (.bl true) H') : spPairR K C [x, y, .ref ta, .ref tb] H Q E :=
  ⟨x, y, ta, tb, p, q, r, s, rfl, hx, hy, ha, hb, hq, hs, b1, b2, b3, b4, z⟩
theorem sumR1 {x : Rat} : sumR [x] = x := by
  show 0 + x = x
  exact Rat.zero_add x
theorem sumR2 {x y : Rat} : sumR [x, y] = x + y := by
  show 0 + x + y = x + y
  rw [Rat.zero_add]
theorem sumR3 {x y z : Rat} : sumR [x, y, z] = x + y + z := by
  show 0 + x + y + z = x + y + z
  rw [Rat.zero_add]
theorem add_int {p q w : Int} (hq : q ≠ 0) : Rat.divInt p q + (w : Rat) = Rat.divInt (p + w * q) q := by
  rw [← int_divInt w, Rat.divInt_add_divInt _ _ hq (by decide), Int.mul_one, Int.mul_one]
end Fm

set_option maxHeartbeats 2000000
namespace Fm
open PySem PySem.Spec PyProof.Rows L2
/-! ### any value that is handed in: of None, bools, ints, texts, Ratios, lists, tuples, dicts of texts -/
inductive Da where
  | non | bl (b : Bool) | int (i : Int) | str (s : Str) | rat (q : Rat) | lst (l : List Da) | tup (l : List Da) | dic (l : List (Str × Da))
mutual
/-- what the law shows of it -/
def Da.sh : Da → PyData
  | .non => .str "None"
  | .bl b => .str (if b then "True" else "False" : String)
  | .int i => .str (toString i)
  | .str s => .str (reprText s)
  | .rat q => .list [.str "ratio", .int q.num, .int (q.den : Int)]
  | .lst l => .list [.str "list", .list (shL l)]
  | .tup l => .list [.str "tuple", .list (shL l)]
  | .dic l => .list [.str "dict", .list (shD l)]
def shL : List Da → List PyData
  | [] => []
  | d :: r => d.sh :: shL r
def shD : List (Str × Da) → List PyData
  | [] => []
  | (s, d) :: r => .tuple [.str (reprText s), d.sh] :: shD r
end
mutual
/-- how deep -/
def Da.dp : Da → Nat
  | .lst l => dpL l + 1
  | .tup l => dpL l + 1
  | .dic l => dpD l + 1
  | _ => 0
def dpL : List Da → Nat
  | [] => 0
  | d :: r => max d.dp (dpL r)
def dpD : List (Str × Da) → Nat
  | [] => 0
  | (_, d) :: r => max d.dp (dpD r)
end
/-- a plain text -/
def fineS (s : Str) : Bool := decide (s.cps.toList.length ≤ 200) && PyData.strOk (reprText s) && decide ((reprText s).length ≤ sizeLine)
mutual
/-- no dict in it -/
def Da.noDic : Da → Bool
  | .lst l => noDicL l
  | .tup l => noDicL l
  | .dic _ => false
  | _ => true
def noDicL : List Da → Bool
  | [] => true
  | d :: r => d.noDic && noDicL r
end
mutual
/-- of moderate size -/
def Da.fine : Da → Bool
  | .int i => decide (i.natAbs < 2 ^ 200)
  | .str s => fineS s
  | .rat q => decide (q.num.natAbs < 2 ^ 200) && decide (q.den < 2 ^ 200)
  | .lst l => decide (l.length ≤ 1000) && fineL l
  | .tup l => decide (l.length ≤ 1000) && fineL l
  | .dic l => decide (l.length ≤ 8 ∧ (l.map (·.1)).Nodup) && fineD l
  | _ => true
def fineL : List Da → Bool
  | [] => true
  | d :: r => d.fine && fineL r
def fineD : List (Str × Da) → Bool
  | [] => true
  | (s, d) :: r => fineS s && d.fine && d.noDic && fineD r
end
mutual
inductive DaV (C : Addr) (H : Hp) : V → Da → Prop
  | non : DaV C H .non .non
  | bl (b : Bool) : DaV C H (.bl b) (.bl b)
  | int (i : Int) : DaV C H (.int i) (.int i)
  | str (s : Str) : DaV C H (.str s) (.str s)
  | rat {v : V} {q : Rat} (h : RatV C H v q) : DaV C H v (.rat q)
  | lst {p : Addr} {xs : List V} {ds : List Da} (h : H p = some (.lst xs)) (r : DaVs C H xs ds) : DaV C H (.ref p) (.lst ds)
  | tup {p : Addr} {xs : List V} {ds : List Da} (h : H p = some (.tup xs)) (r : DaVs C H xs ds) : DaV C H (.ref p) (.tup ds)
  | dic {p : Addr} {ks : List (Key × V)} {ds : List (Str × Da)} (h : H p = some (.dK ks)) (r : DaKs C H ks ds) : DaV C H (.ref p) (.dic ds)
inductive DaVs (C : Addr) (H : Hp) : List V → List Da → Prop
  | nil : DaVs C H [] []
  | cons {v : V} {d : Da} {vs : List V} {ds : List Da} (h : DaV C H v d) (r : DaVs C H vs ds) : DaVs C H (v :: vs) (d :: ds)
inductive DaKs (C : Addr) (H : Hp) : List (Key × V) → List (Str × Da) → Prop
  | nil : DaKs C H [] []
  | cons {s : Str} {v : V} {d : Da} {vs : List (Key × V)} {ds : List (Str × Da)} (h : DaV C H v d) (r : DaKs C H vs ds) : DaKs C H ((.inr s, v) :: vs) ((s, d) :: ds)
end
section
variable {C : Addr} {H H' : Hp}
mutual
theorem DaV.mono (e : Ex H H') : ∀ {v : V} {d : Da}, DaV C H v d → DaV C H' v d
  | _, _, .non => .non
  | _, _, .bl b => .bl b
  | _, _, .int i => .int i
  | _, _, .str s => .str s
  | _, _, .rat h => .rat (h.mono e)
  | _, _, .lst h r => .lst (e _ _ h) (DaVs.mono e r)
  | _, _, .tup h r => .tup (e _ _ h) (DaVs.mono e r)
  | _, _, .dic h r => .dic (e _ _ h) (DaKs.mono e r)
theorem DaVs.mono (e : Ex H H') : ∀ {vs : List V} {ds : List Da}, DaVs C H vs ds → DaVs C H' vs ds
  | _, _, .nil => .nil
  | _, _, .cons h r => .cons (DaV.mono e h) (DaVs.mono e r)
theorem DaKs.mono (e : Ex H H') : ∀ {vs : List (Key × V)} {ds : List (Str × Da)}, DaKs C H vs ds → DaKs C H' vs ds
  | _, _, .nil => .nil
  | _, _, .cons h r => .cons (DaV.mono e h) (DaKs.mono e r)
end
theorem DaVs.length : ∀ {vs : List V} {ds : List Da}, DaVs C H vs ds → vs.length = ds.length
  | _, _, .nil => rfl
  | _, _, .cons _ r => congrArg Nat.succ r.length
theorem DaVs.at : ∀ {vs : List V} {ds : List Da} {i : Nat} {v : V}, DaVs C H vs ds → vs[i]? = some v → ∃ d, ds[i]? = some d ∧ DaV C H v d
  | _, _, _, _, .nil, h => by simp at h
  | _, _, 0, _, .cons h _, e => by simp at e; subst e; exact ⟨_, rfl, h⟩
  | _, _, i + 1, v, .cons _ r, e => by
    obtain ⟨d, h1, h2⟩ := DaVs.at (i := i) (v := v) r (by simpa using e)
    exact ⟨d, by simpa using h1, h2⟩
theorem RatsV.da {vs : List V} {qs : List Rat} (h : RatsV C H vs qs) : DaVs C H vs (qs.map .rat) := by
  unfold RatsV at h
  induction h with
  | nil => exact .nil
  | cons h _ ih => exact .cons (.rat h) ih
/-- its type -/
def Da.ty (C : Addr) : Da → Value
  | .non => .type "NoneType"
  | .bl _ => .type "bool"
  | .int _ => .type "int"
  | .str _ => .type "str"
  | .rat _ => .ref C
  | .lst _ => .type "list"
  | .tup _ => .type "tuple"
  | .dic _ => .type "dict"
theorem Da.kty (d : Da) : KTy C (d.ty C) := by
  cases d
  · exact .non
  · exact .bool
  · exact .int
  · exact .str
  · exact .own
  · exact .list
  · exact .tuple
  · exact .dict
theorem DaV.tyx {K : PySem.W.Frag} (R : RC K C) {v : V} {d : Da} (h : DaV C H v d) : TyX K H v (d.ty C) := by
  cases h with
  | non => exact .base .non
  | bl b => exact .base (.bl b)
  | int i => exact .base (.int i)
  | str s => exact .base (.str s)
  | rat h => exact ty_rat R h
  | lst h _ => exact .base (.lst h)
  | tup h _ => exact .base (.tup h)
  | dic h _ => exact .base (.dK h)
/-- a number -/
def Da.isNum : Da → Bool
  | .int _ => true
  | .rat _ => true
  | _ => false
def Da.num : Da → Rat
  | .int i => (i : Rat)
  | .rat q => q
  | _ => 0
theorem Da.ty_num (d : Da) : (d.ty C == .ref C || d.ty C == .type "int") = d.isNum := by
  cases d <;> simp [Da.ty, Da.isNum]
theorem DaV.num {v : V} {d : Da} (h : DaV C H v d) (n : d.isNum = true) : NumV C H v d.num := by
  cases h with
  | int i => exact .inl ⟨i, rfl, rfl⟩
  | rat h => exact .inr h
  | _ => cases n
theorem Da.numSz {d : Da} (h : d.fine = true) : Sz 201 d.num := by
  cases d with
  | int i =>
    have h1 : i.natAbs < 2 ^ 200 := by unfold Da.fine at h; exact of_decide_eq_true h
    show Sz 201 (i : Rat)
    rw [← int_divInt]
    exact Sz.divInt (by omega) (by decide) (by decide)
  | rat q =>
    have h1 : q.num.natAbs < 2 ^ 200 ∧ q.den < 2 ^ 200 := by
      unfold Da.fine at h
      simpa using h
    show Sz 201 q
    exact ⟨by omega, by omega⟩
  | _ => exact (⟨by decide, by decide⟩ : Sz 201 (0 : Rat))
/-- a list of numbers, perhaps of none -/
def Da.nums : Da → Bool
  | .lst l => l.all Da.isNum
  | .tup l => l.all Da.isNum
  | _ => false
end
end Fm
namespace Fm
open PySem PySem.Spec PyProof.Rows L2
/-! ### isinstance, len -/
def kinds : List String := ["int", "bool", "NoneType", "str", "list", "tuple", "dict"]
/-- the class of the Ratios is no list, tuple or dict -/
structure RC2 (K : PySem.W.Frag) (C : Addr) : Prop where
  lst : PySem.W.subIn K (.ref C) (.type "list") = some false
  tup : PySem.W.subIn K (.ref C) (.type "tuple") = some false
  dic : PySem.W.subIn K (.ref C) (.type "dict") = some false
/-- the class of the scales at CS, beside that of the Ratios at C -/
structure SC (K : PySem.W.Frag) (CS C : Addr) : Prop where
  cl : Cls K CS
  nM : NoAttr K CS "_marks"
  ha : PySem.W.findIn K (.ref CS) "__class__" = some (some (.builtin "object.__class__"))
  hm : PySem.W.mroIn K CS (.type "object") = some true
  own : (PySem.W.clsIn K CS).isSome = true
  ty : PySem.W.typeIn K (.ref CS) = some (.type "type")
  noRef : ∀ n ∈ kinds, PySem.W.subIn K (.type n) (.ref CS) = some false
  rat : PySem.W.subIn K (.ref C) (.ref CS) = some false
theorem kit_meta {n : String} (h : n = "list" ∨ n = "tuple" ∨ n = "dict") : PySem.W.kitMeta n = true := by
  rcases h with rfl | rfl | rfl <;> decide +kernel
theorem kit_ref {K : PySem.W.Frag} {C : Addr} {n : String} {b : Bool} (hm : PySem.W.kitMeta n = true) (h : PySem.W.subIn K (.ref C) (.type n) = some b) : PySem.W.kitOne K (.ref C) (.type n) = some b := by
  show (if (Value.ref C == Value.type n) = true then some true else PySem.W.kitCls K (.ref C) (.type n)) = _
  rw [if_neg (by simp)]
  show (if PySem.W.kitMeta n = true then PySem.W.subIn K (.ref C) (.type n) else none) = _
  rw [if_pos hm, h]
def Da.isLst : Da → Bool
  | .lst _ => true
  | _ => false
def Da.isTup : Da → Bool
  | .tup _ => true
  | _ => false
def Da.isDic : Da → Bool
  | .dic _ => true
  | _ => false
section
variable {K : PySem.W.Frag} {C CS : Addr}
theorem kit_lst (R : RC2 K C) (d : Da) : PySem.W.kitOne K (d.ty C) (.type "list") = some d.isLst := by
  cases d <;> first | exact kit_ref (kit_meta (.inl rfl)) R.lst | exact kit_ty (r := true) (by decide +kernel) | exact kit_ty (r := false) (by decide +kernel)
theorem kit_tup (R : RC2 K C) (d : Da) : PySem.W.kitOne K (d.ty C) (.type "tuple") = some d.isTup := by
  cases d <;> first | exact kit_ref (kit_meta (.inr (.inl rfl))) R.tup | exact kit_ty (r := true) (by decide +kernel) | exact kit_ty (r := false) (by decide +kernel)
theorem kit_dic (R : RC2 K C) (d : Da) : PySem.W.kitOne K (d.ty C) (.type "dict") = some d.isDic := by
  cases d <;> first | exact kit_ref (kit_meta (.inr (.inr rfl))) R.dic | exact kit_ty (r := true) (by decide +kernel) | exact kit_ty (r := false) (by decide +kernel)
theorem kit_lt (R : RC2 K C) (d : Da) : PySem.W.kitAny K (d.ty C) [.type "list", .type "tuple"] = some (d.isLst || d.isTup) := by
  unfold PySem.W.kitAny
  rw [kit_lst R d]
  cases d.isLst with
  | true => rfl
  | false =>
    unfold PySem.W.kitAny
    rw [kit_tup R d]
    cases d.isTup <;> rfl
theorem kit_rat (R : RC K C) (d : Da) : PySem.W.kitOne K (d.ty C) (.ref C) = some (d.ty C == .ref C) := kit_own R d.kty
theorem kit_sc0 (S : SC K CS C) {n : String} (h : n ∈ kinds) : PySem.W.kitOne K (.type n) (.ref CS) = some false := by
  show (if (Value.type n == Value.ref CS) = true then some true else PySem.W.kitCls K (.type n) (.ref CS)) = _
  rw [if_neg (by simp)]
  show (if ((PySem.W.clsIn K CS).isSome && PySem.W.typeIn K (.ref CS) == some (.type "type")) = true then PySem.W.subIn K (.type n) (.ref CS) else none) = _
  rw [S.own, S.ty, if_pos (by simp), S.noRef n h]
theorem kit_sc (S : SC K CS C) (hne : C ≠ CS) (d : Da) : PySem.W.kitOne K (d.ty C) (.ref CS) = some false := by
  cases d <;> first | exact kit_sc0 S (by decide) | skip
  show (if (Value.ref C == Value.ref CS) = true then some true else PySem.W.kitCls K (.ref C) (.ref CS)) = _
  rw [if_neg (by simpa using hne)]
  show (if ((PySem.W.clsIn K CS).isSome && PySem.W.typeIn K (.ref CS) == some (.type "type")) = true then PySem.W.subIn K (.ref C) (.ref CS) else none) = _
  rw [S.own, S.ty, if_pos (by simp), S.rat]
theorem kit_scS : PySem.W.kitOne K (.ref CS) (.ref CS) = some true := by
  show (if (Value.ref CS == Value.ref CS) = true then some true else _) = _
  rw [if_pos (by simp)]
theorem first_sc (S : SC K CS C) (d : Da) : PySem.W.notFirst K CS (d.ty C) = true := by
  cases d
  case rat =>
    unfold PySem.W.notFirst Da.ty
    rw [S.rat]
    simp
  all_goals
    unfold PySem.W.notFirst Da.ty
    rw [S.noRef _ (by decide)]
    simp
theorem ty_sc (R : RC K C) (S : SC K CS C) {H : Hp} {p dx : Addr} {fs : List (Str × V)} (h : H p = some (.ins CS dx fs)) : TyX K H (.ref p) (.ref CS) := .base (.ins h S.cl S.ha R.hn R.htk S.hm)
end
theorem g_isiT {K : PySem.W.Frag} {H : Hp} {Q : VK} {x : V} {tp : Addr} {cs : List V} {t : Value} {us : List Value} {b : Bool} (ht : H tp = some (.tup cs)) (hc : Paired ClsV cs us) (ty : TyX K H x t) (e : PySem.W.kitAny K t us = some b) (q : Q (.bl b) H) : rIsiT K [x, .ref tp] H Q := ⟨x, tp, cs, t, us, b, rfl, ht, hc, ty, e, q⟩
/-- len of an own instance -/
def rLenOwn (C : Addr) (sp : Sp) (E : XK) : List V → Hp → VK → Prop := fun xs H Q => ∃ (a dx : Addr) (fs : List (Str × V)), xs = [.ref a] ∧ H a = some (.ins C dx fs) ∧ sp [.ref a] H (fun v H' => ∃ n : Nat, v = .int (n : Int) ∧ n < 2 ^ 62 ∧ Q (.int (n : Int)) H') E
theorem cr_lenOwn {X : Cx} {CX : CXT} {k : Nat} {f C : Addr} {fd : FuncData} {ps : List Str} {sp : Sp} {E : XK} (hs : PySem.W.findIn X.K (.ref C) "__len__" = some (some (.ref f))) (hf : PySem.W.isFn X.K (.ref f) = true)
    (F : FnOk X.prog X.w X.K X.mg X.base CX k f fd ps sp) (hr : Room (k + 1) X.A) (hb : Binds X.K fd ps []) (hx : Passes CX (in1X X) E) : CallR X (.builtin "len") (rLenOwn C sp E) := by
  intro pins s σ H xs us Q I r h
  obtain ⟨a, dx, fs, rfl, ha, q⟩ := h
  obtain ⟨u, rfl, hv⟩ := vals1 r
  cases hv
  obtain ⟨ox, od, J⟩ := inst_of I ha
  obtain ⟨m, hF⟩ := I.fr
  have R := run_fn (X := in1X X) (us := [.ref a]) (vs := [.ref a]) (dvs := []) (ds := []) F hr.in1 hb .nil hx (in1_inv I) (.cons rfl .nil) q
  refine PySem.W.len_K hF I.ok.mod.kin J hs hf (wpAny_mono R (fun v s' z => ?_) fun _ _ e => e)
  obtain ⟨w, H', J2, rv, n, e, hn, q2⟩ := z
  subst e
  obtain ⟨t, rfl⟩ := rv
  exact ⟨⟨by omega, by omega⟩, .int _, H', (un_in1 J2).tok _, ⟨_, rfl⟩, q2⟩
end Fm
namespace Fm
open PySem PySem.Spec PyProof.Rows L2
/-! ### own errors that keep what was passed -/
def spBadInit (fld : Str) (C : Addr) : Sp := fun vs H Q _ => ∃ (e : Addr) (v : V), vs = [.ref e, v] ∧ H e = some (exo e C none) ∧ ∀ d, H d = none → d ≠ e → Q .non (upd (upd H d (exd d [(fld, v)])) e (exo e C (some d)))
theorem g_oex {C : Addr} {fld : Str} {v : V} {H : Hp} {Q : XK} (z : ∀ d H', H d = none → Ex H H' → H' d = some (.xd [(fld, v)]) → Q (.ref C) (some d) H') : [v].length ≤ 1000 ∧ ∀ e, H e = none → spBadInit fld C (.ref e :: ([v] ++ [])) (upd H e (exo e C none))
    (fun v2 H2 => v2 = .non ∧ ∃ d fs, H2 e = some (exo e C (some d)) ∧ H2 d = some (exd d fs) ∧ H d = none ∧ Q (.ref C) (some d) (upd (del H2 e) d (.xd fs))) (fun _ _ _ => False) := by
  refine ⟨by show 1 ≤ 1000; decide, fun e he => ⟨e, v, rfl, upd_same, fun d hd hn => ⟨rfl, d, _, upd_same, by rw [upd_ne hn, upd_same], by rw [upd_ne hn] at hd; exact hd, ?_⟩⟩⟩
  have hd1 : H d = none := by rw [upd_ne hn] at hd; exact hd
  refine z d _ hd1 (fun b o hb => ?_) upd_same
  rw [upd_ne (ne_of_none hb hd1), del_ne (ne_of_none hb he), upd_ne (ne_of_none hb he), upd_ne (ne_of_none hb hd1), upd_ne (ne_of_none hb he)]
  exact hb
end Fm

set_option maxHeartbeats 4000000
namespace Kx
open PySem PySem.Spec PyProof.Rows L2 Fm
def top (i : Nat) : Stmt := PySem.Challenge.pw_firstmeans_k04_lots_and_means.main.body.getD i (.Pass ⟨0, 0, 0, 0⟩)
abbrev s_BadNumber_init : Stmt := inClass (top 6) 0
abbrev N_BadNumber_init : List Str := ["self", "given"]
abbrev P_BadNumber_init : List Str := ["self", "given"]
theorem sc_BadNumber_init : FnScope N_BadNumber_init P_BadNumber_init (defScope s_BadNumber_init) := ⟨rfl, rfl, rfl, by decide +kernel, rfl, by decide +kernel, by decide +kernel⟩
abbrev s_BadValues_init : Stmt := inClass (top 7) 0
abbrev N_BadValues_init : List Str := ["self", "given"]
abbrev P_BadValues_init : List Str := ["self", "given"]
theorem sc_BadValues_init : FnScope N_BadValues_init P_BadValues_init (defScope s_BadValues_init) := ⟨rfl, rfl, rfl, by decide +kernel, rfl, by decide +kernel, by decide +kernel⟩
abbrev s_NoValue_init : Stmt := inClass (top 8) 0
abbrev N_NoValue_init : List Str := ["self", "given"]
abbrev P_NoValue_init : List Str := ["self", "given"]
theorem sc_NoValue_init : FnScope N_NoValue_init P_NoValue_init (defScope s_NoValue_init) := ⟨rfl, rfl, rfl, by decide +kernel, rfl, by decide +kernel, by decide +kernel⟩
abbrev s_BadLot_init : Stmt := inClass (top 9) 0
abbrev N_BadLot_init : List Str := ["self", "given"]
abbrev P_BadLot_init : List Str := ["self", "given"]
theorem sc_BadLot_init : FnScope N_BadLot_init P_BadLot_init (defScope s_BadLot_init) := ⟨rfl, rfl, rfl, by decide +kernel, rfl, by decide +kernel, by decide +kernel⟩
abbrev s_BadCurve_init : Stmt := inClass (top 10) 0
abbrev N_BadCurve_init : List Str := ["self", "given"]
abbrev P_BadCurve_init : List Str := ["self", "given"]
theorem sc_BadCurve_init : FnScope N_BadCurve_init P_BadCurve_init (defScope s_BadCurve_init) := ⟨rfl, rfl, rfl, by decide +kernel, rfl, by decide +kernel, by decide +kernel⟩
abbrev s_BadCount_init : Stmt := inClass (top 11) 0
abbrev N_BadCount_init : List Str := ["self", "given"]
abbrev P_BadCount_init : List Str := ["self", "given"]
theorem sc_BadCount_init : FnScope N_BadCount_init P_BadCount_init (defScope s_BadCount_init) := ⟨rfl, rfl, rfl, by decide +kernel, rfl, by decide +kernel, by decide +kernel⟩
abbrev s_Ratio_init : Stmt := inClass (top 13) 0
abbrev N_Ratio_init : List Str := ["self", "top", "bottom", "shared"]
abbrev P_Ratio_init : List Str := ["self", "top", "bottom"]
theorem sc_Ratio_init : FnScope N_Ratio_init P_Ratio_init (defScope s_Ratio_init) := ⟨rfl, rfl, rfl, by decide +kernel, rfl, by decide +kernel, by decide +kernel⟩
abbrev s_Ratio_add : Stmt := inClass (top 13) 1
abbrev N_Ratio_add : List Str := ["self", "other", "number"]
abbrev P_Ratio_add : List Str := ["self", "other"]
theorem sc_Ratio_add : FnScope N_Ratio_add P_Ratio_add (defScope s_Ratio_add) := ⟨rfl, rfl, rfl, by decide +kernel, rfl, by decide +kernel, by decide +kernel⟩
abbrev s_Ratio_sub : Stmt := inClass (top 13) 2
abbrev N_Ratio_sub : List Str := ["self", "other", "number"]
abbrev P_Ratio_sub : List Str := ["self", "other"]
theorem sc_Ratio_sub : FnScope N_Ratio_sub P_Ratio_sub (defScope s_Ratio_sub) := ⟨rfl, rfl, rfl, by decide +kernel, rfl, by decide +kernel, by decide +kernel⟩
abbrev s_Ratio_mul : Stmt := inClass (top 13) 3
abbrev N_Ratio_mul : List Str := ["self", "other", "number"]
abbrev P_Ratio_mul : List Str := ["self", "other"]
theorem sc_Ratio_mul : FnScope N_Ratio_mul P_Ratio_mul (defScope s_Ratio_mul) := ⟨rfl, rfl, rfl, by decide +kernel, rfl, by decide +kernel, by decide +kernel⟩
abbrev s_Ratio_neg : Stmt := inClass (top 13) 4
abbrev N_Ratio_neg : List Str := ["self"]
abbrev P_Ratio_neg : List Str := ["self"]
theorem sc_Ratio_neg : FnScope N_Ratio_neg P_Ratio_neg (defScope s_Ratio_neg) := ⟨rfl, rfl, rfl, by decide +kernel, rfl, by decide +kernel, by decide +kernel⟩
abbrev s_Ratio_eq : Stmt := inClass (top 13) 5
abbrev N_Ratio_eq : List Str := ["self", "other", "number"]
abbrev P_Ratio_eq : List Str := ["self", "other"]
theorem sc_Ratio_eq : FnScope N_Ratio_eq P_Ratio_eq (defScope s_Ratio_eq) := ⟨rfl, rfl, rfl, by decide +kernel, rfl, by decide +kernel, by decide +kernel⟩
abbrev s_Ratio_lt : Stmt := inClass (top 13) 6
abbrev N_Ratio_lt : List Str := ["self", "other", "number"]
abbrev P_Ratio_lt : List Str := ["self", "other"]
theorem sc_Ratio_lt : FnScope N_Ratio_lt P_Ratio_lt (defScope s_Ratio_lt) := ⟨rfl, rfl, rfl, by decide +kernel, rfl, by decide +kernel, by decide +kernel⟩
abbrev s_Ratio_le : Stmt := inClass (top 13) 7
abbrev N_Ratio_le : List Str := ["self", "other", "number"]
abbrev P_Ratio_le : List Str := ["self", "other"]
theorem sc_Ratio_le : FnScope N_Ratio_le P_Ratio_le (defScope s_Ratio_le) := ⟨rfl, rfl, rfl, by decide +kernel, rfl, by decide +kernel, by decide +kernel⟩
abbrev s_Ratio_text : Stmt := inClass (top 13) 9
abbrev N_Ratio_text : List Str := ["self", "sign", "top"]
abbrev P_Ratio_text : List Str := ["self"]
theorem sc_Ratio_text : FnScope N_Ratio_text P_Ratio_text (defScope s_Ratio_text) := ⟨rfl, rfl, rfl, by decide +kernel, rfl, by decide +kernel, by decide +kernel⟩
abbrev s_is_whole : Stmt := top 14
abbrev N_is_whole : List Str := ["value"]
abbrev P_is_whole : List Str := ["value"]
theorem sc_is_whole : FnScope N_is_whole P_is_whole (defScope s_is_whole) := ⟨rfl, rfl, rfl, by decide +kernel, rfl, by decide +kernel, by decide +kernel⟩
abbrev s_is_number : Stmt := top 15
abbrev N_is_number : List Str := ["value"]
abbrev P_is_number : List Str := ["value"]
theorem sc_is_number : FnScope N_is_number P_is_number (defScope s_is_number) := ⟨rfl, rfl, rfl, by decide +kernel, rfl, by decide +kernel, by decide +kernel⟩
abbrev s_are_numbers : Stmt := top 16
abbrev N_are_numbers : List Str := ["value", "item"]
abbrev P_are_numbers : List Str := ["value"]
theorem sc_are_numbers : FnScope N_are_numbers P_are_numbers (defScope s_are_numbers) := ⟨rfl, rfl, rfl, by decide +kernel, rfl, by decide +kernel, by decide +kernel⟩
abbrev s_as_ratio : Stmt := top 17
abbrev N_as_ratio : List Str := ["given"]
abbrev P_as_ratio : List Str := ["given"]
theorem sc_as_ratio : FnScope N_as_ratio P_as_ratio (defScope s_as_ratio) := ⟨rfl, rfl, rfl, by decide +kernel, rfl, by decide +kernel, by decide +kernel⟩
abbrev s_total : Stmt := top 18
abbrev N_total : List Str := ["numbers", "reached", "number"]
abbrev P_total : List Str := ["numbers"]
theorem sc_total : FnScope N_total P_total (defScope s_total) := ⟨rfl, rfl, rfl, by decide +kernel, rfl, by decide +kernel, by decide +kernel⟩
abbrev s_weighed : Stmt := top 19
abbrev N_weighed : List Str := ["numbers", "weights", "number", "weight"]
abbrev P_weighed : List Str := ["numbers", "weights"]
theorem sc_weighed : FnScope N_weighed P_weighed (defScope s_weighed) := ⟨rfl, rfl, rfl, by decide +kernel, rfl, by decide +kernel, by decide +kernel⟩
abbrev s_read_ratio : Stmt := top 20
abbrev N_read_ratio : List Str := ["text", "head", "slash", "tail", "digits", "bottom", "ratio"]
abbrev P_read_ratio : List Str := ["text"]
theorem sc_read_ratio : FnScope N_read_ratio P_read_ratio (defScope s_read_ratio) := ⟨rfl, rfl, rfl, by decide +kernel, rfl, by decide +kernel, by decide +kernel⟩
abbrev s_has_digits_only : Stmt := top 21
abbrev N_has_digits_only : List Str := ["word"]
abbrev P_has_digits_only : List Str := ["word"]
theorem sc_has_digits_only : FnScope N_has_digits_only P_has_digits_only (defScope s_has_digits_only) := ⟨rfl, rfl, rfl, by decide +kernel, rfl, by decide +kernel, by decide +kernel⟩
abbrev s_numeral : Stmt := top 22
abbrev N_numeral : List Str := ["number", "parts", "part"]
abbrev P_numeral : List Str := ["number"]
theorem sc_numeral : FnScope N_numeral P_numeral (defScope s_numeral) := ⟨rfl, rfl, rfl, by decide +kernel, rfl, by decide +kernel, by decide +kernel⟩
abbrev s_from_numeral : Stmt := top 23
abbrev N_from_numeral : List Str := ["digits", "lead", "number", "start"]
abbrev P_from_numeral : List Str := ["digits"]
theorem sc_from_numeral : FnScope N_from_numeral P_from_numeral (defScope s_from_numeral) := ⟨rfl, rfl, rfl, by decide +kernel, rfl, by decide +kernel, by decide +kernel⟩
abbrev s_Scale_init : Stmt := inClass (top 27) 0
abbrev N_Scale_init : List Str := ["self", "values"]
abbrev P_Scale_init : List Str := ["self", "values"]
theorem sc_Scale_init : FnScope N_Scale_init P_Scale_init (defScope s_Scale_init) := ⟨rfl, rfl, rfl, by decide +kernel, rfl, by decide +kernel, by decide +kernel⟩
abbrev s_Scale_len : Stmt := inClass (top 27) 1
abbrev N_Scale_len : List Str := ["self"]
abbrev P_Scale_len : List Str := ["self"]
theorem sc_Scale_len : FnScope N_Scale_len P_Scale_len (defScope s_Scale_len) := ⟨rfl, rfl, rfl, by decide +kernel, rfl, by decide +kernel, by decide +kernel⟩
abbrev s_Scale_eq : Stmt := inClass (top 27) 2
abbrev N_Scale_eq : List Str := ["self", "other"]
abbrev P_Scale_eq : List Str := ["self", "other"]
theorem sc_Scale_eq : FnScope N_Scale_eq P_Scale_eq (defScope s_Scale_eq) := ⟨rfl, rfl, rfl, by decide +kernel, rfl, by decide +kernel, by decide +kernel⟩
abbrev s_Scale_marks : Stmt := inClass (top 27) 3
abbrev N_Scale_marks : List Str := ["self"]
abbrev P_Scale_marks : List Str := ["self"]
theorem sc_Scale_marks : FnScope N_Scale_marks P_Scale_marks (defScope s_Scale_marks) := ⟨rfl, rfl, rfl, by decide +kernel, rfl, by decide +kernel, by decide +kernel⟩
abbrev s_Scale_place : Stmt := inClass (top 27) 4
abbrev N_Scale_place : List Str := ["self", "value", "place", "mark"]
abbrev P_Scale_place : List Str := ["self", "value"]
theorem sc_Scale_place : FnScope N_Scale_place P_Scale_place (defScope s_Scale_place) := ⟨rfl, rfl, rfl, by decide +kernel, rfl, by decide +kernel, by decide +kernel⟩
abbrev s_Scale_text : Stmt := inClass (top 27) 6
abbrev N_Scale_text : List Str := ["self", "mark"]
abbrev P_Scale_text : List Str := ["self"]
theorem sc_Scale_text : FnScope N_Scale_text P_Scale_text (defScope s_Scale_text) := ⟨rfl, rfl, rfl, by decide +kernel, rfl, by decide +kernel, by decide +kernel⟩
abbrev s_insert_new : Stmt := top 28
abbrev N_insert_new : List Str := ["ordered", "item", "place"]
abbrev P_insert_new : List Str := ["ordered", "item"]
theorem sc_insert_new : FnScope N_insert_new P_insert_new (defScope s_insert_new) := ⟨rfl, rfl, rfl, by decide +kernel, rfl, by decide +kernel, by decide +kernel⟩
abbrev s_distinct : Stmt := top 29
abbrev N_distinct : List Str := ["numbers", "found", "number"]
abbrev P_distinct : List Str := ["numbers"]
theorem sc_distinct : FnScope N_distinct P_distinct (defScope s_distinct) := ⟨rfl, rfl, rfl, by decide +kernel, rfl, by decide +kernel, by decide +kernel⟩
abbrev s_climbs : Stmt := top 30
abbrev N_climbs : List Str := ["ratios", "before", "behind"]
abbrev P_climbs : List Str := ["ratios"]
theorem sc_climbs : FnScope N_climbs P_climbs (defScope s_climbs) := ⟨rfl, rfl, rfl, by decide +kernel, rfl, by decide +kernel, by decide +kernel⟩
abbrev s_is_curve : Stmt := top 31
abbrev N_is_curve : List Str := ["scale", "value"]
abbrev P_is_curve : List Str := ["scale", "value"]
theorem sc_is_curve : FnScope N_is_curve P_is_curve (defScope s_is_curve) := ⟨rfl, rfl, rfl, by decide +kernel, rfl, by decide +kernel, by decide +kernel⟩
abbrev s_are_shares : Stmt := top 32
abbrev N_are_shares : List Str := ["value", "many", "share"]
abbrev P_are_shares : List Str := ["value", "many"]
theorem sc_are_shares : FnScope N_are_shares P_are_shares (defScope s_are_shares) := ⟨rfl, rfl, rfl, by decide +kernel, rfl, by decide +kernel, by decide +kernel⟩
abbrev s_is_lot : Stmt := top 33
abbrev N_is_lot : List Str := ["scale", "value"]
abbrev P_is_lot : List Str := ["scale", "value"]
theorem sc_is_lot : FnScope N_is_lot P_is_lot (defScope s_is_lot) := ⟨rfl, rfl, rfl, by decide +kernel, rfl, by decide +kernel, by decide +kernel⟩
abbrev s_check_lot : Stmt := top 34
abbrev N_check_lot : List Str := ["scale", "lot"]
abbrev P_check_lot : List Str := ["scale", "lot"]
theorem sc_check_lot : FnScope N_check_lot P_check_lot (defScope s_check_lot) := ⟨rfl, rfl, rfl, by decide +kernel, rfl, by decide +kernel, by decide +kernel⟩
abbrev s_check_curve : Stmt := top 35
abbrev N_check_curve : List Str := ["scale", "curve"]
abbrev P_check_curve : List Str := ["scale", "curve"]
theorem sc_check_curve : FnScope N_check_curve P_check_curve (defScope s_check_curve) := ⟨rfl, rfl, rfl, by decide +kernel, rfl, by decide +kernel, by decide +kernel⟩
abbrev s_mean : Stmt := top 36
abbrev N_mean : List Str := ["scale", "lot", "curve"]
abbrev P_mean : List Str := ["scale", "lot", "curve"]
theorem sc_mean : FnScope N_mean P_mean (defScope s_mean) := ⟨rfl, rfl, rfl, by decide +kernel, rfl, by decide +kernel, by decide +kernel⟩
abbrev s_means_of : Stmt := top 37
abbrev N_means_of : List Str := ["scale", "lot", "count", "marks", "parts", "share", "means", "_", "part", "mark"]
abbrev P_means_of : List Str := ["scale", "lot", "count"]
theorem sc_means_of : FnScope N_means_of P_means_of (defScope s_means_of) := ⟨rfl, rfl, rfl, by decide +kernel, rfl, by decide +kernel, by decide +kernel⟩
abbrev s_uses : Stmt := top 38
abbrev N_uses : List Str := ["scale", "lot", "place", "share"]
abbrev P_uses : List Str := ["scale", "lot"]
theorem sc_uses : FnScope N_uses P_uses (defScope s_uses) := ⟨rfl, rfl, rfl, by decide +kernel, rfl, by decide +kernel, by decide +kernel⟩
abbrev s_Ltape : Stmt := top 40
abbrev N_Ltape : List Str := ["_law_script", "_law_k", "_law_spot"]
abbrev P_Ltape : List Str := ["_law_script", "_law_k"]
theorem sc_Ltape : FnScope N_Ltape P_Ltape (defScope s_Ltape) := ⟨rfl, rfl, rfl, by decide +kernel, rfl, by decide +kernel, by decide +kernel⟩
abbrev s_Lpick : Stmt := top 41
abbrev N_Lpick : List Str := ["_law_tape_here", "_law_many", "_law_digit", "_law_blend"]
abbrev P_Lpick : List Str := ["_law_tape_here", "_law_many"]
theorem sc_Lpick : FnScope N_Lpick P_Lpick (defScope s_Lpick) := ⟨rfl, rfl, rfl, by decide +kernel, rfl, by decide +kernel, by decide +kernel⟩
abbrev s_Lmixed : Stmt := top 42
abbrev N_Lmixed : List Str := ["_law_tape_here", "_law_items", "_law_rest", "_law_found", "_law_k"]
abbrev P_Lmixed : List Str := ["_law_tape_here", "_law_items"]
theorem sc_Lmixed : FnScope N_Lmixed P_Lmixed (defScope s_Lmixed) := ⟨rfl, rfl, rfl, by decide +kernel, rfl, by decide +kernel, by decide +kernel⟩
abbrev s_Lshown : Stmt := top 43
abbrev N_Lshown : List Str := ["_law_mark", "_law_key", "_law_item"]
abbrev P_Lshown : List Str := ["_law_mark"]
theorem sc_Lshown : FnScope N_Lshown P_Lshown (defScope s_Lshown) := ⟨rfl, rfl, rfl, by decide +kernel, rfl, by decide +kernel, by decide +kernel⟩
abbrev s_Lvalues : Stmt := top 44
abbrev N_Lvalues : List Str := ["_law_tape_here", "_law_most", "_law_one", "_law_other", "_law_many", "_law_part", "_law_at", "_law_found", "_law_k"]
abbrev P_Lvalues : List Str := ["_law_tape_here", "_law_most"]
theorem sc_Lvalues : FnScope N_Lvalues P_Lvalues (defScope s_Lvalues) := ⟨rfl, rfl, rfl, by decide +kernel, rfl, by decide +kernel, by decide +kernel⟩
abbrev s_Lmade : Stmt := top 45
abbrev N_Lmade : List Str := ["_law_tape_here", "_law_values_here", "_law_handed", "_law_mark"]
abbrev P_Lmade : List Str := ["_law_tape_here", "_law_values_here"]
theorem sc_Lmade : FnScope N_Lmade P_Lmade (defScope s_Lmade) := ⟨rfl, rfl, rfl, by decide +kernel, rfl, by decide +kernel, by decide +kernel⟩
abbrev s_Llot : Stmt := top 46
abbrev N_Llot : List Str := ["_law_tape_here", "_law_many", "_law_units", "_law_k", "_law_unit"]
abbrev P_Llot : List Str := ["_law_tape_here", "_law_many"]
theorem sc_Llot : FnScope N_Llot P_Llot (defScope s_Llot) := ⟨rfl, rfl, rfl, by decide +kernel, rfl, by decide +kernel, by decide +kernel⟩
abbrev s_Lcurve : Stmt := top 47
abbrev N_Lcurve : List Str := ["_law_tape_here", "_law_many", "_law_size", "_law_k"]
abbrev P_Lcurve : List Str := ["_law_tape_here", "_law_many"]
theorem sc_Lcurve : FnScope N_Lcurve P_Lcurve (defScope s_Lcurve) := ⟨rfl, rfl, rfl, by decide +kernel, rfl, by decide +kernel, by decide +kernel⟩
abbrev s_Lpower : Stmt := top 48
abbrev N_Lpower : List Str := ["_law_mark", "_law_exponent", "_law_found", "_law_lap"]
abbrev P_Lpower : List Str := ["_law_mark", "_law_exponent"]
theorem sc_Lpower : FnScope N_Lpower P_Lpower (defScope s_Lpower) := ⟨rfl, rfl, rfl, by decide +kernel, rfl, by decide +kernel, by decide +kernel⟩
abbrev s_Lmean : Stmt := top 49
abbrev N_Lmean : List Str := ["_law_shares", "_law_heights", "_law_found", "_law_k"]
abbrev P_Lmean : List Str := ["_law_shares", "_law_heights"]
theorem sc_Lmean : FnScope N_Lmean P_Lmean (defScope s_Lmean) := ⟨rfl, rfl, rfl, by decide +kernel, rfl, by decide +kernel, by decide +kernel⟩
abbrev s_Lmeans : Stmt := top 50
abbrev N_Lmeans : List Str := ["_law_values_here", "_law_shares", "_law_tally", "_law_k", "_law_mark"]
abbrev P_Lmeans : List Str := ["_law_values_here", "_law_shares", "_law_tally"]
theorem sc_Lmeans : FnScope N_Lmeans P_Lmeans (defScope s_Lmeans) := ⟨rfl, rfl, rfl, by decide +kernel, rfl, by decide +kernel, by decide +kernel⟩
abbrev s_Lgiven : Stmt := top 51
abbrev N_Lgiven : List Str := ["_law_tape_here", "_law_numbers", "_law_found", "_law_number"]
abbrev P_Lgiven : List Str := ["_law_tape_here", "_law_numbers"]
theorem sc_Lgiven : FnScope N_Lgiven P_Lgiven (defScope s_Lgiven) := ⟨rfl, rfl, rfl, by decide +kernel, rfl, by decide +kernel, by decide +kernel⟩
abbrev s_Lis_numbers : Stmt := top 52
abbrev N_Lis_numbers : List Str := ["_law_mark", "_law_many", "_law_item"]
abbrev P_Lis_numbers : List Str := ["_law_mark", "_law_many"]
theorem sc_Lis_numbers : FnScope N_Lis_numbers P_Lis_numbers (defScope s_Lis_numbers) := ⟨rfl, rfl, rfl, by decide +kernel, rfl, by decide +kernel, by decide +kernel⟩
abbrev s_Lis_lot : Stmt := top 53
abbrev N_Lis_lot : List Str := ["_law_mark", "_law_many", "_law_whole", "_law_item"]
abbrev P_Lis_lot : List Str := ["_law_mark", "_law_many"]
theorem sc_Lis_lot : FnScope N_Lis_lot P_Lis_lot (defScope s_Lis_lot) := ⟨rfl, rfl, rfl, by decide +kernel, rfl, by decide +kernel, by decide +kernel⟩
abbrev s_Lnear : Stmt := top 54
abbrev N_Lnear : List Str := ["_law_tape_here", "_law_shares", "_law_found", "_law_at", "_law_to", "_law_way", "_law_k"]
abbrev P_Lnear : List Str := ["_law_tape_here", "_law_shares"]
theorem sc_Lnear : FnScope N_Lnear P_Lnear (defScope s_Lnear) := ⟨rfl, rfl, rfl, by decide +kernel, rfl, by decide +kernel, by decide +kernel⟩
abbrev s_Lasked : Stmt := top 55
abbrev N_Lasked : List Str := ["_law_door", "_law_scale", "_law_one", "_law_other", "e"]
abbrev P_Lasked : List Str := ["_law_door", "_law_scale", "_law_one", "_law_other"]
theorem sc_Lasked : FnScope N_Lasked P_Lasked (defScope s_Lasked) := ⟨rfl, rfl, rfl, by decide +kernel, rfl, by decide +kernel, by decide +kernel⟩
abbrev s_Lright : Stmt := top 56
abbrev N_Lright : List Str := ["_law_tape_here", "_law_scale", "_law_values_here", "_law_shares", "_law_heights", "_law_many", "_law_one", "_law_other", "_law_kept", "_law_told", "_law_tally", "_law_rows", "_law_number", "_law_due", "_law_k", "_law_some", "_law_more"]
abbrev P_Lright : List Str := ["_law_tape_here", "_law_scale", "_law_values_here", "_law_shares", "_law_heights"]
theorem sc_Lright : FnScope N_Lright P_Lright (defScope s_Lright) := ⟨rfl, rfl, rfl, by decide +kernel, rfl, by decide +kernel, by decide +kernel⟩
abbrev s_law : Stmt := top 57
abbrev N_law : List Str := ["_law_script", "_law_k", "_law_tape_here", "_law_values_here", "_law_scale", "_law_many", "_law_shares", "_law_heights", "_law_lap", "_law_near_here", "_law_good", "_law_fine", "_law_door", "_law_told", "_law_odd"]
abbrev P_law : List Str := ["_law_script"]
theorem sc_law : FnScope N_law P_law (defScope s_law) := ⟨rfl, rfl, rfl, by decide +kernel, rfl, by decide +kernel, by decide +kernel⟩
/-- where all stands -/
structure Ad where
  C_MeansError : Addr
  C_ByZero : Addr
  C_BadText : Addr
  C_BadNumber : Addr
  C_BadValues : Addr
  C_NoValue : Addr
  C_BadLot : Addr
  C_BadCurve : Addr
  C_BadCount : Addr
  C_Ratio : Addr
  C_Scale : Addr
  f_BadNumber_init : Addr
  d_BadNumber_init : FuncData
  f_BadValues_init : Addr
  d_BadValues_init : FuncData
  f_NoValue_init : Addr
  d_NoValue_init : FuncData
  f_BadLot_init : Addr
  d_BadLot_init : FuncData
  f_BadCurve_init : Addr
  d_BadCurve_init : FuncData
  f_BadCount_init : Addr
  d_BadCount_init : FuncData
  f_Ratio_init : Addr
  d_Ratio_init : FuncData
  f_Ratio_add : Addr
  d_Ratio_add : FuncData
  f_Ratio_sub : Addr
  d_Ratio_sub : FuncData
  f_Ratio_mul : Addr
  d_Ratio_mul : FuncData
  f_Ratio_neg : Addr
  d_Ratio_neg : FuncData
  f_Ratio_eq : Addr
  d_Ratio_eq : FuncData
  f_Ratio_lt : Addr
  d_Ratio_lt : FuncData
  f_Ratio_le : Addr
  d_Ratio_le : FuncData
  f_Ratio_text : Addr
  d_Ratio_text : FuncData
  f_is_whole : Addr
  d_is_whole : FuncData
  f_is_number : Addr
  d_is_number : FuncData
  f_are_numbers : Addr
  d_are_numbers : FuncData
  f_as_ratio : Addr
  d_as_ratio : FuncData
  f_total : Addr
  d_total : FuncData
  f_weighed : Addr
  d_weighed : FuncData
  f_read_ratio : Addr
  d_read_ratio : FuncData
  f_has_digits_only : Addr
  d_has_digits_only : FuncData
  f_numeral : Addr
  d_numeral : FuncData
  f_from_numeral : Addr
  d_from_numeral : FuncData
  f_Scale_init : Addr
  d_Scale_init : FuncData
  f_Scale_len : Addr
  d_Scale_len : FuncData
  f_Scale_eq : Addr
  d_Scale_eq : FuncData
  f_Scale_marks : Addr
  d_Scale_marks : FuncData
  f_Scale_place : Addr
  d_Scale_place : FuncData
  f_Scale_text : Addr
  d_Scale_text : FuncData
  f_insert_new : Addr
  d_insert_new : FuncData
  f_distinct : Addr
  d_distinct : FuncData
  f_climbs : Addr
  d_climbs : FuncData
  f_is_curve : Addr
  d_is_curve : FuncData
  f_are_shares : Addr
  d_are_shares : FuncData
  f_is_lot : Addr
  d_is_lot : FuncData
  f_check_lot : Addr
  d_check_lot : FuncData
  f_check_curve : Addr
  d_check_curve : FuncData
  f_mean : Addr
  d_mean : FuncData
  f_means_of : Addr
  d_means_of : FuncData
  f_uses : Addr
  d_uses : FuncData
  f_Ltape : Addr
  d_Ltape : FuncData
  f_Lpick : Addr
  d_Lpick : FuncData
  f_Lmixed : Addr
  d_Lmixed : FuncData
  f_Lshown : Addr
  d_Lshown : FuncData
  f_Lvalues : Addr
  d_Lvalues : FuncData
  f_Lmade : Addr
  d_Lmade : FuncData
  f_Llot : Addr
  d_Llot : FuncData
  f_Lcurve : Addr
  d_Lcurve : FuncData
  f_Lpower : Addr
  d_Lpower : FuncData
  f_Lmean : Addr
  d_Lmean : FuncData
  f_Lmeans : Addr
  d_Lmeans : FuncData
  f_Lgiven : Addr
  d_Lgiven : FuncData
  f_Lis_numbers : Addr
  d_Lis_numbers : FuncData
  f_Lis_lot : Addr
  d_Lis_lot : FuncData
  f_Lnear : Addr
  d_Lnear : FuncData
  f_Lasked : Addr
  d_Lasked : FuncData
  f_Lright : Addr
  d_Lright : FuncData
  f_law : Addr
  d_law : FuncData
/-- what the top has left of the text -/
structure Tx (K : PySem.W.Frag) (mg : Str → Option Value) (a : Ad) : Prop where
  g_MeansError : mg "MeansError" = some (.ref a.C_MeansError)
  g_ByZero : mg "ByZero" = some (.ref a.C_ByZero)
  g_BadText : mg "BadText" = some (.ref a.C_BadText)
  g_BadNumber : mg "BadNumber" = some (.ref a.C_BadNumber)
  g_BadValues : mg "BadValues" = some (.ref a.C_BadValues)
  g_NoValue : mg "NoValue" = some (.ref a.C_NoValue)
  g_BadLot : mg "BadLot" = some (.ref a.C_BadLot)
  g_BadCurve : mg "BadCurve" = some (.ref a.C_BadCurve)
  g_BadCount : mg "BadCount" = some (.ref a.C_BadCount)
  g_Ratio : mg "Ratio" = some (.ref a.C_Ratio)
  g_Scale : mg "Scale" = some (.ref a.C_Scale)
  F_BadNumber_init : Def K "__init__" "BadNumber.__init__" s_BadNumber_init a.f_BadNumber_init a.d_BadNumber_init
  F_BadValues_init : Def K "__init__" "BadValues.__init__" s_BadValues_init a.f_BadValues_init a.d_BadValues_init
  F_NoValue_init : Def K "__init__" "NoValue.__init__" s_NoValue_init a.f_NoValue_init a.d_NoValue_init
  F_BadLot_init : Def K "__init__" "BadLot.__init__" s_BadLot_init a.f_BadLot_init a.d_BadLot_init
  F_BadCurve_init : Def K "__init__" "BadCurve.__init__" s_BadCurve_init a.f_BadCurve_init a.d_BadCurve_init
  F_BadCount_init : Def K "__init__" "BadCount.__init__" s_BadCount_init a.f_BadCount_init a.d_BadCount_init
  F_Ratio_init : FunD K "__init__" "Ratio.__init__" (defArgs s_Ratio_init) (defBody s_Ratio_init) (defScope s_Ratio_init) [.int 1] [] a.f_Ratio_init a.d_Ratio_init
  m_Ratio_init : Meth K a.C_Ratio "__init__" a.f_Ratio_init
  F_Ratio_add : Def K "__add__" "Ratio.__add__" s_Ratio_add a.f_Ratio_add a.d_Ratio_add
  m_Ratio_add : Meth K a.C_Ratio "__add__" a.f_Ratio_add
  F_Ratio_sub : Def K "__sub__" "Ratio.__sub__" s_Ratio_sub a.f_Ratio_sub a.d_Ratio_sub
  m_Ratio_sub : Meth K a.C_Ratio "__sub__" a.f_Ratio_sub
  F_Ratio_mul : Def K "__mul__" "Ratio.__mul__" s_Ratio_mul a.f_Ratio_mul a.d_Ratio_mul
  m_Ratio_mul : Meth K a.C_Ratio "__mul__" a.f_Ratio_mul
  F_Ratio_neg : Def K "__neg__" "Ratio.__neg__" s_Ratio_neg a.f_Ratio_neg a.d_Ratio_neg
  m_Ratio_neg : Meth K a.C_Ratio "__neg__" a.f_Ratio_neg
  F_Ratio_eq : Def K "__eq__" "Ratio.__eq__" s_Ratio_eq a.f_Ratio_eq a.d_Ratio_eq
  m_Ratio_eq : Meth K a.C_Ratio "__eq__" a.f_Ratio_eq
  F_Ratio_lt : Def K "__lt__" "Ratio.__lt__" s_Ratio_lt a.f_Ratio_lt a.d_Ratio_lt
  m_Ratio_lt : Meth K a.C_Ratio "__lt__" a.f_Ratio_lt
  F_Ratio_le : Def K "__le__" "Ratio.__le__" s_Ratio_le a.f_Ratio_le a.d_Ratio_le
  m_Ratio_le : Meth K a.C_Ratio "__le__" a.f_Ratio_le
  F_Ratio_text : Def K "text" "Ratio.text" s_Ratio_text a.f_Ratio_text a.d_Ratio_text
  m_Ratio_text : Meth K a.C_Ratio "text" a.f_Ratio_text
  F_is_whole : Def K "is_whole" "is_whole" s_is_whole a.f_is_whole a.d_is_whole
  g_is_whole : mg "is_whole" = some (.ref a.f_is_whole)
  F_is_number : Def K "is_number" "is_number" s_is_number a.f_is_number a.d_is_number
  g_is_number : mg "is_number" = some (.ref a.f_is_number)
  F_are_numbers : Def K "are_numbers" "are_numbers" s_are_numbers a.f_are_numbers a.d_are_numbers
  g_are_numbers : mg "are_numbers" = some (.ref a.f_are_numbers)
  F_as_ratio : Def K "as_ratio" "as_ratio" s_as_ratio a.f_as_ratio a.d_as_ratio
  g_as_ratio : mg "as_ratio" = some (.ref a.f_as_ratio)
  F_total : Def K "total" "total" s_total a.f_total a.d_total
  g_total : mg "total" = some (.ref a.f_total)
  F_weighed : Def K "weighed" "weighed" s_weighed a.f_weighed a.d_weighed
  g_weighed : mg "weighed" = some (.ref a.f_weighed)
  F_read_ratio : Def K "read_ratio" "read_ratio" s_read_ratio a.f_read_ratio a.d_read_ratio
  g_read_ratio : mg "read_ratio" = some (.ref a.f_read_ratio)
  F_has_digits_only : Def K "has_digits_only" "has_digits_only" s_has_digits_only a.f_has_digits_only a.d_has_digits_only
  g_has_digits_only : mg "has_digits_only" = some (.ref a.f_has_digits_only)
  F_numeral : Def K "numeral" "numeral" s_numeral a.f_numeral a.d_numeral
  g_numeral : mg "numeral" = some (.ref a.f_numeral)
  F_from_numeral : Def K "from_numeral" "from_numeral" s_from_numeral a.f_from_numeral a.d_from_numeral
  g_from_numeral : mg "from_numeral" = some (.ref a.f_from_numeral)
  F_Scale_init : Def K "__init__" "Scale.__init__" s_Scale_init a.f_Scale_init a.d_Scale_init
  m_Scale_init : Meth K a.C_Scale "__init__" a.f_Scale_init
  F_Scale_len : Def K "__len__" "Scale.__len__" s_Scale_len a.f_Scale_len a.d_Scale_len
  m_Scale_len : Meth K a.C_Scale "__len__" a.f_Scale_len
  F_Scale_eq : Def K "__eq__" "Scale.__eq__" s_Scale_eq a.f_Scale_eq a.d_Scale_eq
  m_Scale_eq : Meth K a.C_Scale "__eq__" a.f_Scale_eq
  F_Scale_marks : Def K "marks" "Scale.marks" s_Scale_marks a.f_Scale_marks a.d_Scale_marks
  m_Scale_marks : Meth K a.C_Scale "marks" a.f_Scale_marks
  F_Scale_place : Def K "place" "Scale.place" s_Scale_place a.f_Scale_place a.d_Scale_place
  m_Scale_place : Meth K a.C_Scale "place" a.f_Scale_place
  F_Scale_text : Def K "text" "Scale.text" s_Scale_text a.f_Scale_text a.d_Scale_text
  m_Scale_text : Meth K a.C_Scale "text" a.f_Scale_text
  F_insert_new : Def K "insert_new" "insert_new" s_insert_new a.f_insert_new a.d_insert_new
  g_insert_new : mg "insert_new" = some (.ref a.f_insert_new)
  F_distinct : Def K "distinct" "distinct" s_distinct a.f_distinct a.d_distinct
  g_distinct : mg "distinct" = some (.ref a.f_distinct)
  F_climbs : Def K "climbs" "climbs" s_climbs a.f_climbs a.d_climbs
  g_climbs : mg "climbs" = some (.ref a.f_climbs)
  F_is_curve : Def K "is_curve" "is_curve" s_is_curve a.f_is_curve a.d_is_curve
  g_is_curve : mg "is_curve" = some (.ref a.f_is_curve)
  F_are_shares : Def K "are_shares" "are_shares" s_are_shares a.f_are_shares a.d_are_shares
  g_are_shares : mg "are_shares" = some (.ref a.f_are_shares)
  F_is_lot : Def K "is_lot" "is_lot" s_is_lot a.f_is_lot a.d_is_lot
  g_is_lot : mg "is_lot" = some (.ref a.f_is_lot)
  F_check_lot : Def K "check_lot" "check_lot" s_check_lot a.f_check_lot a.d_check_lot
  g_check_lot : mg "check_lot" = some (.ref a.f_check_lot)
  F_check_curve : Def K "check_curve" "check_curve" s_check_curve a.f_check_curve a.d_check_curve
  g_check_curve : mg "check_curve" = some (.ref a.f_check_curve)
  F_mean : Def K "mean" "mean" s_mean a.f_mean a.d_mean
  g_mean : mg "mean" = some (.ref a.f_mean)
  F_means_of : Def K "means_of" "means_of" s_means_of a.f_means_of a.d_means_of
  g_means_of : mg "means_of" = some (.ref a.f_means_of)
  F_uses : Def K "uses" "uses" s_uses a.f_uses a.d_uses
  g_uses : mg "uses" = some (.ref a.f_uses)
  F_Ltape : Def K "_law_tape" "_law_tape" s_Ltape a.f_Ltape a.d_Ltape
  g_Ltape : mg "_law_tape" = some (.ref a.f_Ltape)
  F_Lpick : Def K "_law_pick" "_law_pick" s_Lpick a.f_Lpick a.d_Lpick
  g_Lpick : mg "_law_pick" = some (.ref a.f_Lpick)
  F_Lmixed : Def K "_law_mixed" "_law_mixed" s_Lmixed a.f_Lmixed a.d_Lmixed
  g_Lmixed : mg "_law_mixed" = some (.ref a.f_Lmixed)
  F_Lshown : Def K "_law_shown" "_law_shown" s_Lshown a.f_Lshown a.d_Lshown
  g_Lshown : mg "_law_shown" = some (.ref a.f_Lshown)
  F_Lvalues : Def K "_law_values" "_law_values" s_Lvalues a.f_Lvalues a.d_Lvalues
  g_Lvalues : mg "_law_values" = some (.ref a.f_Lvalues)
  F_Lmade : Def K "_law_made" "_law_made" s_Lmade a.f_Lmade a.d_Lmade
  g_Lmade : mg "_law_made" = some (.ref a.f_Lmade)
  F_Llot : Def K "_law_lot" "_law_lot" s_Llot a.f_Llot a.d_Llot
  g_Llot : mg "_law_lot" = some (.ref a.f_Llot)
  F_Lcurve : Def K "_law_curve" "_law_curve" s_Lcurve a.f_Lcurve a.d_Lcurve
  g_Lcurve : mg "_law_curve" = some (.ref a.f_Lcurve)
  F_Lpower : Def K "_law_power" "_law_power" s_Lpower a.f_Lpower a.d_Lpower
  g_Lpower : mg "_law_power" = some (.ref a.f_Lpower)
  F_Lmean : Def K "_law_mean" "_law_mean" s_Lmean a.f_Lmean a.d_Lmean
  g_Lmean : mg "_law_mean" = some (.ref a.f_Lmean)
  F_Lmeans : Def K "_law_means" "_law_means" s_Lmeans a.f_Lmeans a.d_Lmeans
  g_Lmeans : mg "_law_means" = some (.ref a.f_Lmeans)
  F_Lgiven : Def K "_law_given" "_law_given" s_Lgiven a.f_Lgiven a.d_Lgiven
  g_Lgiven : mg "_law_given" = some (.ref a.f_Lgiven)
  F_Lis_numbers : Def K "_law_is_numbers" "_law_is_numbers" s_Lis_numbers a.f_Lis_numbers a.d_Lis_numbers
  g_Lis_numbers : mg "_law_is_numbers" = some (.ref a.f_Lis_numbers)
  F_Lis_lot : Def K "_law_is_lot" "_law_is_lot" s_Lis_lot a.f_Lis_lot a.d_Lis_lot
  g_Lis_lot : mg "_law_is_lot" = some (.ref a.f_Lis_lot)
  F_Lnear : Def K "_law_near" "_law_near" s_Lnear a.f_Lnear a.d_Lnear
  g_Lnear : mg "_law_near" = some (.ref a.f_Lnear)
  F_Lasked : Def K "_law_asked" "_law_asked" s_Lasked a.f_Lasked a.d_Lasked
  g_Lasked : mg "_law_asked" = some (.ref a.f_Lasked)
  F_Lright : Def K "_law_right" "_law_right" s_Lright a.f_Lright a.d_Lright
  g_Lright : mg "_law_right" = some (.ref a.f_Lright)
  F_law : Def K "law" "law" s_law a.f_law a.d_law
  g_law : mg "law" = some (.ref a.f_law)
  x_ByZero : XC K a.C_ByZero
  x_BadText : XC K a.C_BadText
  oc_BadNumber : OexC K a.C_BadNumber
  ti_BadNumber : PySem.W.typeIn K (.ref a.f_BadNumber_init) = some (.type "function")
  fi_BadNumber : PySem.W.findIn K (.ref a.C_BadNumber) "__init__" = some (some (.ref a.f_BadNumber_init))
  xf_BadNumber : XfC K a.C_BadNumber
  xs_BadNumber : PySem.W.exmOne K (.ref a.C_BadNumber) (.ref a.C_BadNumber) = some true
  xa_BadNumber_given : PySem.W.findIn K (.ref a.C_BadNumber) "given" = some none
  xo_BadNumber_ByZero : PySem.W.exmOne K (.ref a.C_BadNumber) (.ref a.C_ByZero) = some false
  xo_BadNumber_BadText : PySem.W.exmOne K (.ref a.C_BadNumber) (.ref a.C_BadText) = some false
  xo_BadNumber_BadValues : PySem.W.exmOne K (.ref a.C_BadNumber) (.ref a.C_BadValues) = some false
  xo_BadNumber_NoValue : PySem.W.exmOne K (.ref a.C_BadNumber) (.ref a.C_NoValue) = some false
  xo_BadNumber_BadLot : PySem.W.exmOne K (.ref a.C_BadNumber) (.ref a.C_BadLot) = some false
  xo_BadNumber_BadCurve : PySem.W.exmOne K (.ref a.C_BadNumber) (.ref a.C_BadCurve) = some false
  xo_BadNumber_BadCount : PySem.W.exmOne K (.ref a.C_BadNumber) (.ref a.C_BadCount) = some false
  oc_BadValues : OexC K a.C_BadValues
  ti_BadValues : PySem.W.typeIn K (.ref a.f_BadValues_init) = some (.type "function")
  fi_BadValues : PySem.W.findIn K (.ref a.C_BadValues) "__init__" = some (some (.ref a.f_BadValues_init))
  xf_BadValues : XfC K a.C_BadValues
  xs_BadValues : PySem.W.exmOne K (.ref a.C_BadValues) (.ref a.C_BadValues) = some true
  xa_BadValues_given : PySem.W.findIn K (.ref a.C_BadValues) "given" = some none
  xo_BadValues_ByZero : PySem.W.exmOne K (.ref a.C_BadValues) (.ref a.C_ByZero) = some false
  xo_BadValues_BadText : PySem.W.exmOne K (.ref a.C_BadValues) (.ref a.C_BadText) = some false
  xo_BadValues_BadNumber : PySem.W.exmOne K (.ref a.C_BadValues) (.ref a.C_BadNumber) = some false
  xo_BadValues_NoValue : PySem.W.exmOne K (.ref a.C_BadValues) (.ref a.C_NoValue) = some false
  xo_BadValues_BadLot : PySem.W.exmOne K (.ref a.C_BadValues) (.ref a.C_BadLot) = some false
  xo_BadValues_BadCurve : PySem.W.exmOne K (.ref a.C_BadValues) (.ref a.C_BadCurve) = some false
  xo_BadValues_BadCount : PySem.W.exmOne K (.ref a.C_BadValues) (.ref a.C_BadCount) = some false
  oc_NoValue : OexC K a.C_NoValue
  ti_NoValue : PySem.W.typeIn K (.ref a.f_NoValue_init) = some (.type "function")
  fi_NoValue : PySem.W.findIn K (.ref a.C_NoValue) "__init__" = some (some (.ref a.f_NoValue_init))
  xf_NoValue : XfC K a.C_NoValue
  xs_NoValue : PySem.W.exmOne K (.ref a.C_NoValue) (.ref a.C_NoValue) = some true
  xa_NoValue_given : PySem.W.findIn K (.ref a.C_NoValue) "given" = some none
  xo_NoValue_ByZero : PySem.W.exmOne K (.ref a.C_NoValue) (.ref a.C_ByZero) = some false
  xo_NoValue_BadText : PySem.W.exmOne K (.ref a.C_NoValue) (.ref a.C_BadText) = some false
  xo_NoValue_BadNumber : PySem.W.exmOne K (.ref a.C_NoValue) (.ref a.C_BadNumber) = some false
  xo_NoValue_BadValues : PySem.W.exmOne K (.ref a.C_NoValue) (.ref a.C_BadValues) = some false
  xo_NoValue_BadLot : PySem.W.exmOne K (.ref a.C_NoValue) (.ref a.C_BadLot) = some false
  xo_NoValue_BadCurve : PySem.W.exmOne K (.ref a.C_NoValue) (.ref a.C_BadCurve) = some false
  xo_NoValue_BadCount : PySem.W.exmOne K (.ref a.C_NoValue) (.ref a.C_BadCount) = some false
  oc_BadLot : OexC K a.C_BadLot
  ti_BadLot : PySem.W.typeIn K (.ref a.f_BadLot_init) = some (.type "function")
  fi_BadLot : PySem.W.findIn K (.ref a.C_BadLot) "__init__" = some (some (.ref a.f_BadLot_init))
  xf_BadLot : XfC K a.C_BadLot
  xs_BadLot : PySem.W.exmOne K (.ref a.C_BadLot) (.ref a.C_BadLot) = some true
  xa_BadLot_given : PySem.W.findIn K (.ref a.C_BadLot) "given" = some none
  xo_BadLot_ByZero : PySem.W.exmOne K (.ref a.C_BadLot) (.ref a.C_ByZero) = some false
  xo_BadLot_BadText : PySem.W.exmOne K (.ref a.C_BadLot) (.ref a.C_BadText) = some false
  xo_BadLot_BadNumber : PySem.W.exmOne K (.ref a.C_BadLot) (.ref a.C_BadNumber) = some false
  xo_BadLot_BadValues : PySem.W.exmOne K (.ref a.C_BadLot) (.ref a.C_BadValues) = some false
  xo_BadLot_NoValue : PySem.W.exmOne K (.ref a.C_BadLot) (.ref a.C_NoValue) = some false
  xo_BadLot_BadCurve : PySem.W.exmOne K (.ref a.C_BadLot) (.ref a.C_BadCurve) = some false
  xo_BadLot_BadCount : PySem.W.exmOne K (.ref a.C_BadLot) (.ref a.C_BadCount) = some false
  oc_BadCurve : OexC K a.C_BadCurve
  ti_BadCurve : PySem.W.typeIn K (.ref a.f_BadCurve_init) = some (.type "function")
  fi_BadCurve : PySem.W.findIn K (.ref a.C_BadCurve) "__init__" = some (some (.ref a.f_BadCurve_init))
  xf_BadCurve : XfC K a.C_BadCurve
  xs_BadCurve : PySem.W.exmOne K (.ref a.C_BadCurve) (.ref a.C_BadCurve) = some true
  xa_BadCurve_given : PySem.W.findIn K (.ref a.C_BadCurve) "given" = some none
  xo_BadCurve_ByZero : PySem.W.exmOne K (.ref a.C_BadCurve) (.ref a.C_ByZero) = some false
  xo_BadCurve_BadText : PySem.W.exmOne K (.ref a.C_BadCurve) (.ref a.C_BadText) = some false
  xo_BadCurve_BadNumber : PySem.W.exmOne K (.ref a.C_BadCurve) (.ref a.C_BadNumber) = some false
  xo_BadCurve_BadValues : PySem.W.exmOne K (.ref a.C_BadCurve) (.ref a.C_BadValues) = some false
  xo_BadCurve_NoValue : PySem.W.exmOne K (.ref a.C_BadCurve) (.ref a.C_NoValue) = some false
  xo_BadCurve_BadLot : PySem.W.exmOne K (.ref a.C_BadCurve) (.ref a.C_BadLot) = some false
  xo_BadCurve_BadCount : PySem.W.exmOne K (.ref a.C_BadCurve) (.ref a.C_BadCount) = some false
  oc_BadCount : OexC K a.C_BadCount
  ti_BadCount : PySem.W.typeIn K (.ref a.f_BadCount_init) = some (.type "function")
  fi_BadCount : PySem.W.findIn K (.ref a.C_BadCount) "__init__" = some (some (.ref a.f_BadCount_init))
  xf_BadCount : XfC K a.C_BadCount
  xs_BadCount : PySem.W.exmOne K (.ref a.C_BadCount) (.ref a.C_BadCount) = some true
  xa_BadCount_given : PySem.W.findIn K (.ref a.C_BadCount) "given" = some none
  xo_BadCount_ByZero : PySem.W.exmOne K (.ref a.C_BadCount) (.ref a.C_ByZero) = some false
  xo_BadCount_BadText : PySem.W.exmOne K (.ref a.C_BadCount) (.ref a.C_BadText) = some false
  xo_BadCount_BadNumber : PySem.W.exmOne K (.ref a.C_BadCount) (.ref a.C_BadNumber) = some false
  xo_BadCount_BadValues : PySem.W.exmOne K (.ref a.C_BadCount) (.ref a.C_BadValues) = some false
  xo_BadCount_NoValue : PySem.W.exmOne K (.ref a.C_BadCount) (.ref a.C_NoValue) = some false
  xo_BadCount_BadLot : PySem.W.exmOne K (.ref a.C_BadCount) (.ref a.C_BadLot) = some false
  xo_BadCount_BadCurve : PySem.W.exmOne K (.ref a.C_BadCount) (.ref a.C_BadCurve) = some false
  b_abs : mg "abs" = none
  b_all : mg "all" = none
  b_bool : mg "bool" = none
  b_dict : mg "dict" = none
  b_divmod : mg "divmod" = none
  b_enumerate : mg "enumerate" = none
  b_int : mg "int" = none
  b_isinstance : mg "isinstance" = none
  b_len : mg "len" = none
  b_list : mg "list" = none
  b_max : mg "max" = none
  b_min : mg "min" = none
  b_range : mg "range" = none
  b_repr : mg "repr" = none
  b_str : mg "str" = none
  b_sum : mg "sum" = none
  b_tuple : mg "tuple" = none
  b_zip : mg "zip" = none
  c_MOST_VALUES : ∃ t, mg "MOST_VALUES" = some (.int 8 t)
  c_MOST_POWERS : ∃ t, mg "MOST_POWERS" = some (.int 8 t)
  g_gcd : mg "gcd" = some (.builtin "math.gcd")
  R : RC K a.C_Ratio
  mk_Ratio : Mk K a.C_Ratio a.f_Ratio_init
  o_add : OpFn K a.C_Ratio a.f_Ratio_add .Add
  o_sub : OpFn K a.C_Ratio a.f_Ratio_sub .Sub
  o_mul : OpFn K a.C_Ratio a.f_Ratio_mul .Mult
  p_lt : CmpFn K a.C_Ratio a.f_Ratio_lt .Lt
  p_le : CmpFn K a.C_Ratio a.f_Ratio_le .LtE
  p_eq : CmpFn K a.C_Ratio a.f_Ratio_eq .Eq
  p_ne : NeFn K a.C_Ratio a.f_Ratio_eq
  RS : SC K a.C_Scale a.C_Ratio
  R2 : RC2 K a.C_Ratio
  R4 : PySem.W.subIn K (.ref a.C_Ratio) (.type "bool") = some false
  mk_Scale : Mk K a.C_Scale a.f_Scale_init
  ps_eq : CmpFn K a.C_Scale a.f_Scale_eq .Eq
  ps_ne : NeFn K a.C_Scale a.f_Scale_eq
  ln_Scale : PySem.W.findIn K (.ref a.C_Scale) "__len__" = some (some (.ref a.f_Scale_len))
  lf_Scale : PySem.W.isFn K (.ref a.f_Scale_len) = true
  neS : a.C_Ratio ≠ a.C_Scale
theorem bd_BadNumber_init {K : PySem.W.Frag} {mg : Str → Option Value} {a : Ad} (T : Tx K mg a) : Binds K a.d_BadNumber_init P_BadNumber_init [] := T.F_BadNumber_init.bindsN fun _ _ _ _ _ _ us hl => match us, hl with | [_, _], _ => rfl
theorem bd_BadValues_init {K : PySem.W.Frag} {mg : Str → Option Value} {a : Ad} (T : Tx K mg a) : Binds K a.d_BadValues_init P_BadValues_init [] := T.F_BadValues_init.bindsN fun _ _ _ _ _ _ us hl => match us, hl with | [_, _], _ => rfl
theorem bd_NoValue_init {K : PySem.W.Frag} {mg : Str → Option Value} {a : Ad} (T : Tx K mg a) : Binds K a.d_NoValue_init P_NoValue_init [] := T.F_NoValue_init.bindsN fun _ _ _ _ _ _ us hl => match us, hl with | [_, _], _ => rfl
theorem bd_BadLot_init {K : PySem.W.Frag} {mg : Str → Option Value} {a : Ad} (T : Tx K mg a) : Binds K a.d_BadLot_init P_BadLot_init [] := T.F_BadLot_init.bindsN fun _ _ _ _ _ _ us hl => match us, hl with | [_, _], _ => rfl
theorem bd_BadCurve_init {K : PySem.W.Frag} {mg : Str → Option Value} {a : Ad} (T : Tx K mg a) : Binds K a.d_BadCurve_init P_BadCurve_init [] := T.F_BadCurve_init.bindsN fun _ _ _ _ _ _ us hl => match us, hl with | [_, _], _ => rfl
theorem bd_BadCount_init {K : PySem.W.Frag} {mg : Str → Option Value} {a : Ad} (T : Tx K mg a) : Binds K a.d_BadCount_init P_BadCount_init [] := T.F_BadCount_init.bindsN fun _ _ _ _ _ _ us hl => match us, hl with | [_, _], _ => rfl
theorem bd_Ratio_init {K : PySem.W.Frag} {mg : Str → Option Value} {a : Ad} (T : Tx K mg a) : Binds K a.d_Ratio_init P_Ratio_init [] := by
  obtain ⟨ds, hv, hb⟩ := T.F_Ratio_init.binds1 (ps := P_Ratio_init) 3 1 (by simp) rfl fun T kV doc pm an cdv ct us its h1 h2 => match us, its, h1, h2 with | [_, _, _], [_], _, _ => ⟨_, rfl, rfl⟩
  cases hv
  exact hb
theorem bd1_Ratio_init {K : PySem.W.Frag} {mg : Str → Option Value} {a : Ad} (T : Tx K mg a) : ∃ ds, Vals [.int 1] ds ∧ Binds K a.d_Ratio_init P_Ratio_init ds :=
  T.F_Ratio_init.binds1 (ps := P_Ratio_init) 2 0 (by simp) rfl fun T kV doc pm an cdv ct us its h1 h2 => match us, its, h1, h2 with | [_, _], [_], _, _ => ⟨_, rfl, rfl⟩
theorem bd_Ratio_add {K : PySem.W.Frag} {mg : Str → Option Value} {a : Ad} (T : Tx K mg a) : Binds K a.d_Ratio_add P_Ratio_add [] := T.F_Ratio_add.bindsN fun _ _ _ _ _ _ us hl => match us, hl with | [_, _], _ => rfl
theorem bd_Ratio_sub {K : PySem.W.Frag} {mg : Str → Option Value} {a : Ad} (T : Tx K mg a) : Binds K a.d_Ratio_sub P_Ratio_sub [] := T.F_Ratio_sub.bindsN fun _ _ _ _ _ _ us hl => match us, hl with | [_, _], _ => rfl
theorem bd_Ratio_mul {K : PySem.W.Frag} {mg : Str → Option Value} {a : Ad} (T : Tx K mg a) : Binds K a.d_Ratio_mul P_Ratio_mul [] := T.F_Ratio_mul.bindsN fun _ _ _ _ _ _ us hl => match us, hl with | [_, _], _ => rfl
theorem bd_Ratio_neg {K : PySem.W.Frag} {mg : Str → Option Value} {a : Ad} (T : Tx K mg a) : Binds K a.d_Ratio_neg P_Ratio_neg [] := T.F_Ratio_neg.bindsN fun _ _ _ _ _ _ us hl => match us, hl with | [_], _ => rfl
theorem bd_Ratio_eq {K : PySem.W.Frag} {mg : Str → Option Value} {a : Ad} (T : Tx K mg a) : Binds K a.d_Ratio_eq P_Ratio_eq [] := T.F_Ratio_eq.bindsN fun _ _ _ _ _ _ us hl => match us, hl with | [_, _], _ => rfl
theorem bd_Ratio_lt {K : PySem.W.Frag} {mg : Str → Option Value} {a : Ad} (T : Tx K mg a) : Binds K a.d_Ratio_lt P_Ratio_lt [] := T.F_Ratio_lt.bindsN fun _ _ _ _ _ _ us hl => match us, hl with | [_, _], _ => rfl
theorem bd_Ratio_le {K : PySem.W.Frag} {mg : Str → Option Value} {a : Ad} (T : Tx K mg a) : Binds K a.d_Ratio_le P_Ratio_le [] := T.F_Ratio_le.bindsN fun _ _ _ _ _ _ us hl => match us, hl with | [_, _], _ => rfl
theorem bd_Ratio_text {K : PySem.W.Frag} {mg : Str → Option Value} {a : Ad} (T : Tx K mg a) : Binds K a.d_Ratio_text P_Ratio_text [] := T.F_Ratio_text.bindsN fun _ _ _ _ _ _ us hl => match us, hl with | [_], _ => rfl
theorem bd_is_whole {K : PySem.W.Frag} {mg : Str → Option Value} {a : Ad} (T : Tx K mg a) : Binds K a.d_is_whole P_is_whole [] := T.F_is_whole.bindsN fun _ _ _ _ _ _ us hl => match us, hl with | [_], _ => rfl
theorem bd_is_number {K : PySem.W.Frag} {mg : Str → Option Value} {a : Ad} (T : Tx K mg a) : Binds K a.d_is_number P_is_number [] := T.F_is_number.bindsN fun _ _ _ _ _ _ us hl => match us, hl with | [_], _ => rfl
theorem bd_are_numbers {K : PySem.W.Frag} {mg : Str → Option Value} {a : Ad} (T : Tx K mg a) : Binds K a.d_are_numbers P_are_numbers [] := T.F_are_numbers.bindsN fun _ _ _ _ _ _ us hl => match us, hl with | [_], _ => rfl
theorem bd_as_ratio {K : PySem.W.Frag} {mg : Str → Option Value} {a : Ad} (T : Tx K mg a) : Binds K a.d_as_ratio P_as_ratio [] := T.F_as_ratio.bindsN fun _ _ _ _ _ _ us hl => match us, hl with | [_], _ => rfl
theorem bd_total {K : PySem.W.Frag} {mg : Str → Option Value} {a : Ad} (T : Tx K mg a) : Binds K a.d_total P_total [] := T.F_total.bindsN fun _ _ _ _ _ _ us hl => match us, hl with | [_], _ => rfl
theorem bd_weighed {K : PySem.W.Frag} {mg : Str → Option Value} {a : Ad} (T : Tx K mg a) : Binds K a.d_weighed P_weighed [] := T.F_weighed.bindsN fun _ _ _ _ _ _ us hl => match us, hl with | [_, _], _ => rfl
theorem bd_read_ratio {K : PySem.W.Frag} {mg : Str → Option Value} {a : Ad} (T : Tx K mg a) : Binds K a.d_read_ratio P_read_ratio [] := T.F_read_ratio.bindsN fun _ _ _ _ _ _ us hl => match us, hl with | [_], _ => rfl
theorem bd_has_digits_only {K : PySem.W.Frag} {mg : Str → Option Value} {a : Ad} (T : Tx K mg a) : Binds K a.d_has_digits_only P_has_digits_only [] := T.F_has_digits_only.bindsN fun _ _ _ _ _ _ us hl => match us, hl with | [_], _ => rfl
theorem bd_numeral {K : PySem.W.Frag} {mg : Str → Option Value} {a : Ad} (T : Tx K mg a) : Binds K a.d_numeral P_numeral [] := T.F_numeral.bindsN fun _ _ _ _ _ _ us hl => match us, hl with | [_], _ => rfl
theorem bd_from_numeral {K : PySem.W.Frag} {mg : Str → Option Value} {a : Ad} (T : Tx K mg a) : Binds K a.d_from_numeral P_from_numeral [] := T.F_from_numeral.bindsN fun _ _ _ _ _ _ us hl => match us, hl with | [_], _ => rfl
theorem bd_Scale_init {K : PySem.W.Frag} {mg : Str → Option Value} {a : Ad} (T : Tx K mg a) : Binds K a.d_Scale_init P_Scale_init [] := T.F_Scale_init.bindsN fun _ _ _ _ _ _ us hl => match us, hl with | [_, _], _ => rfl
theorem bd_Scale_len {K : PySem.W.Frag} {mg : Str → Option Value} {a : Ad} (T : Tx K mg a) : Binds K a.d_Scale_len P_Scale_len [] := T.F_Scale_len.bindsN fun _ _ _ _ _ _ us hl => match us, hl with | [_], _ => rfl
theorem bd_Scale_eq {K : PySem.W.Frag} {mg : Str → Option Value} {a : Ad} (T : Tx K mg a) : Binds K a.d_Scale_eq P_Scale_eq [] := T.F_Scale_eq.bindsN fun _ _ _ _ _ _ us hl => match us, hl with | [_, _], _ => rfl
theorem bd_Scale_marks {K : PySem.W.Frag} {mg : Str → Option Value} {a : Ad} (T : Tx K mg a) : Binds K a.d_Scale_marks P_Scale_marks [] := T.F_Scale_marks.bindsN fun _ _ _ _ _ _ us hl => match us, hl with | [_], _ => rfl
theorem bd_Scale_place {K : PySem.W.Frag} {mg : Str → Option Value} {a : Ad} (T : Tx K mg a) : Binds K a.d_Scale_place P_Scale_place [] := T.F_Scale_place.bindsN fun _ _ _ _ _ _ us hl => match us, hl with | [_, _], _ => rfl
theorem bd_Scale_text {K : PySem.W.Frag} {mg : Str → Option Value} {a : Ad} (T : Tx K mg a) : Binds K a.d_Scale_text P_Scale_text [] := T.F_Scale_text.bindsN fun _ _ _ _ _ _ us hl => match us, hl with | [_], _ => rfl
theorem bd_insert_new {K : PySem.W.Frag} {mg : Str → Option Value} {a : Ad} (T : Tx K mg a) : Binds K a.d_insert_new P_insert_new [] := T.F_insert_new.bindsN fun _ _ _ _ _ _ us hl => match us, hl with | [_, _], _ => rfl
theorem bd_distinct {K : PySem.W.Frag} {mg : Str → Option Value} {a : Ad} (T : Tx K mg a) : Binds K a.d_distinct P_distinct [] := T.F_distinct.bindsN fun _ _ _ _ _ _ us hl => match us, hl with | [_], _ => rfl
theorem bd_climbs {K : PySem.W.Frag} {mg : Str → Option Value} {a : Ad} (T : Tx K mg a) : Binds K a.d_climbs P_climbs [] := T.F_climbs.bindsN fun _ _ _ _ _ _ us hl => match us, hl with | [_], _ => rfl
theorem bd_is_curve {K : PySem.W.Frag} {mg : Str → Option Value} {a : Ad} (T : Tx K mg a) : Binds K a.d_is_curve P_is_curve [] := T.F_is_curve.bindsN fun _ _ _ _ _ _ us hl => match us, hl with | [_, _], _ => rfl
theorem bd_are_shares {K : PySem.W.Frag} {mg : Str → Option Value} {a : Ad} (T : Tx K mg a) : Binds K a.d_are_shares P_are_shares [] := T.F_are_shares.bindsN fun _ _ _ _ _ _ us hl => match us, hl with | [_, _], _ => rfl
theorem bd_is_lot {K : PySem.W.Frag} {mg : Str → Option Value} {a : Ad} (T : Tx K mg a) : Binds K a.d_is_lot P_is_lot [] := T.F_is_lot.bindsN fun _ _ _ _ _ _ us hl => match us, hl with | [_, _], _ => rfl
theorem bd_check_lot {K : PySem.W.Frag} {mg : Str → Option Value} {a : Ad} (T : Tx K mg a) : Binds K a.d_check_lot P_check_lot [] := T.F_check_lot.bindsN fun _ _ _ _ _ _ us hl => match us, hl with | [_, _], _ => rfl
theorem bd_check_curve {K : PySem.W.Frag} {mg : Str → Option Value} {a : Ad} (T : Tx K mg a) : Binds K a.d_check_curve P_check_curve [] := T.F_check_curve.bindsN fun _ _ _ _ _ _ us hl => match us, hl with | [_, _], _ => rfl
theorem bd_mean {K : PySem.W.Frag} {mg : Str → Option Value} {a : Ad} (T : Tx K mg a) : Binds K a.d_mean P_mean [] := T.F_mean.bindsN fun _ _ _ _ _ _ us hl => match us, hl with | [_, _, _], _ => rfl
theorem bd_means_of {K : PySem.W.Frag} {mg : Str → Option Value} {a : Ad} (T : Tx K mg a) : Binds K a.d_means_of P_means_of [] := T.F_means_of.bindsN fun _ _ _ _ _ _ us hl => match us, hl with | [_, _, _], _ => rfl
theorem bd_uses {K : PySem.W.Frag} {mg : Str → Option Value} {a : Ad} (T : Tx K mg a) : Binds K a.d_uses P_uses [] := T.F_uses.bindsN fun _ _ _ _ _ _ us hl => match us, hl with | [_, _], _ => rfl
theorem bd_Ltape {K : PySem.W.Frag} {mg : Str → Option Value} {a : Ad} (T : Tx K mg a) : Binds K a.d_Ltape P_Ltape [] := T.F_Ltape.bindsN fun _ _ _ _ _ _ us hl => match us, hl with | [_, _], _ => rfl
theorem bd_Lpick {K : PySem.W.Frag} {mg : Str → Option Value} {a : Ad} (T : Tx K mg a) : Binds K a.d_Lpick P_Lpick [] := T.F_Lpick.bindsN fun _ _ _ _ _ _ us hl => match us, hl with | [_, _], _ => rfl
theorem bd_Lmixed {K : PySem.W.Frag} {mg : Str → Option Value} {a : Ad} (T : Tx K mg a) : Binds K a.d_Lmixed P_Lmixed [] := T.F_Lmixed.bindsN fun _ _ _ _ _ _ us hl => match us, hl with | [_, _], _ => rfl
theorem bd_Lshown {K : PySem.W.Frag} {mg : Str → Option Value} {a : Ad} (T : Tx K mg a) : Binds K a.d_Lshown P_Lshown [] := T.F_Lshown.bindsN fun _ _ _ _ _ _ us hl => match us, hl with | [_], _ => rfl
theorem bd_Lvalues {K : PySem.W.Frag} {mg : Str → Option Value} {a : Ad} (T : Tx K mg a) : Binds K a.d_Lvalues P_Lvalues [] := T.F_Lvalues.bindsN fun _ _ _ _ _ _ us hl => match us, hl with | [_, _], _ => rfl
theorem bd_Lmade {K : PySem.W.Frag} {mg : Str → Option Value} {a : Ad} (T : Tx K mg a) : Binds K a.d_Lmade P_Lmade [] := T.F_Lmade.bindsN fun _ _ _ _ _ _ us hl => match us, hl with | [_, _], _ => rfl
theorem bd_Llot {K : PySem.W.Frag} {mg : Str → Option Value} {a : Ad} (T : Tx K mg a) : Binds K a.d_Llot P_Llot [] := T.F_Llot.bindsN fun _ _ _ _ _ _ us hl => match us, hl with | [_, _], _ => rfl
theorem bd_Lcurve {K : PySem.W.Frag} {mg : Str → Option Value} {a : Ad} (T : Tx K mg a) : Binds K a.d_Lcurve P_Lcurve [] := T.F_Lcurve.bindsN fun _ _ _ _ _ _ us hl => match us, hl with | [_, _], _ => rfl
theorem bd_Lpower {K : PySem.W.Frag} {mg : Str → Option Value} {a : Ad} (T : Tx K mg a) : Binds K a.d_Lpower P_Lpower [] := T.F_Lpower.bindsN fun _ _ _ _ _ _ us hl => match us, hl with | [_, _], _ => rfl
theorem bd_Lmean {K : PySem.W.Frag} {mg : Str → Option Value} {a : Ad} (T : Tx K mg a) : Binds K a.d_Lmean P_Lmean [] := T.F_Lmean.bindsN fun _ _ _ _ _ _ us hl => match us, hl with | [_, _], _ => rfl
theorem bd_Lmeans {K : PySem.W.Frag} {mg : Str → Option Value} {a : Ad} (T : Tx K mg a) : Binds K a.d_Lmeans P_Lmeans [] := T.F_Lmeans.bindsN fun _ _ _ _ _ _ us hl => match us, hl with | [_, _, _], _ => rfl
theorem bd_Lgiven {K : PySem.W.Frag} {mg : Str → Option Value} {a : Ad} (T : Tx K mg a) : Binds K a.d_Lgiven P_Lgiven [] := T.F_Lgiven.bindsN fun _ _ _ _ _ _ us hl => match us, hl with | [_, _], _ => rfl
theorem bd_Lis_numbers {K : PySem.W.Frag} {mg : Str → Option Value} {a : Ad} (T : Tx K mg a) : Binds K a.d_Lis_numbers P_Lis_numbers [] := T.F_Lis_numbers.bindsN fun _ _ _ _ _ _ us hl => match us, hl with | [_, _], _ => rfl
theorem bd_Lis_lot {K : PySem.W.Frag} {mg : Str → Option Value} {a : Ad} (T : Tx K mg a) : Binds K a.d_Lis_lot P_Lis_lot [] := T.F_Lis_lot.bindsN fun _ _ _ _ _ _ us hl => match us, hl with | [_, _], _ => rfl
theorem bd_Lnear {K : PySem.W.Frag} {mg : Str → Option Value} {a : Ad} (T : Tx K mg a) : Binds K a.d_Lnear P_Lnear [] := T.F_Lnear.bindsN fun _ _ _ _ _ _ us hl => match us, hl with | [_, _], _ => rfl
theorem bd_Lasked {K : PySem.W.Frag} {mg : Str → Option Value} {a : Ad} (T : Tx K mg a) : Binds K a.d_Lasked P_Lasked [] := T.F_Lasked.bindsN fun _ _ _ _ _ _ us hl => match us, hl with | [_, _, _, _], _ => rfl
theorem bd_Lright {K : PySem.W.Frag} {mg : Str → Option Value} {a : Ad} (T : Tx K mg a) : Binds K a.d_Lright P_Lright [] := T.F_Lright.bindsN fun _ _ _ _ _ _ us hl => match us, hl with | [_, _, _, _, _], _ => rfl
theorem bd_law {K : PySem.W.Frag} {mg : Str → Option Value} {a : Ad} (T : Tx K mg a) : Binds K a.d_law P_law [] := T.F_law.bindsN fun _ _ _ _ _ _ us hl => match us, hl with | [_], _ => rfl
end Kx


set_option maxHeartbeats 4000000
namespace Kx
open PySem PySem.Spec PyProof.Rows L2 Fm
local macro_rules | `(tactic| walk_at "gv") => `(tactic| ((with_reducible refine' g_var ?gh ?_); (case gh => exact rfl)))
local macro_rules | `(tactic| walk_at "g1") => `(tactic| first
  | walk_at "gv"
  | with_reducible refine g_c ?_ | with_reducible refine g_op ?_ | with_reducible refine g_un ?_ | with_reducible refine g_I0 ?_ | with_reducible refine g_U ?_
  | with_reducible refine g_eqI ?_ | with_reducible refine g_neI ?_ | with_reducible refine g_eqS ?_ | with_reducible refine g_neS ?_
  | with_reducible refine g_test ?_ | with_reducible refine g_B ?_ | with_reducible refine g_bl ?_ | with_reducible refine g_not ?_ | with_reducible refine g_and ?_ | with_reducible refine g_or ?_
  | with_reducible refine g_andV ?_ | with_reducible refine g_orV ?_ | with_reducible refine g_notV ?_ | with_reducible refine g_chain ?_ | with_reducible refine g_if ?_ | with_reducible refine g_ifS ?_
  | with_reducible refine g_seq ?_ | with_reducible refine g_next ?_ | with_reducible refine g_break ?_ | with_reducible refine g_cont ?_ | with_reducible refine g_drop ?_ | with_reducible refine g_ret ?_ | with_reducible refine g_retN ?_
  | with_reducible refine g_asg ?_ | with_reducible refine g_name ?_ | with_reducible refine g_par ?_ | with_reducible refine g_par2 ?_ | with_reducible refine g_fld ?_ | with_reducible refine g_sfld ?_
  | with_reducible refine g_nil ?_ | with_reducible refine g_cons ?_ | with_reducible refine g_tup ?_ | with_reducible refine g_lst ?_ | with_reducible refine g_call ?_ | with_reducible refine g_meth ?_ | with_reducible refine g_make1 ?_ | with_reducible refine g_make ?_ | with_reducible refine g_cb ?_ | with_reducible refine g_sub ?_ | with_reducible refine g_absI ?_ | with_reducible refine g_intI ?_
  | with_reducible refine iteT ?_ | with_reducible refine iteF ?_ | with_reducible refine g_gcd ?_)
local macro_rules | `(tactic| walk_at "g") => `(tactic| (repeat (first | walk_at "g1" | dsimp only [cx_K, cx_Kn, b_nt, b_nf])))
local macro_rules | `(tactic| walk_at "mul") => `(tactic| exact mulA (a := 200) (b := 200) (by omega) (by omega) (by decide))
local macro_rules | `(tactic| walk_at "pow") => `(tactic| exact ⟨by omega, by omega, by omega⟩)

section
variable {P : Program} {w : World} {K : PySem.W.Frag} {mg : Str → Option Value} {base : Heap} {a : Ad}
theorem ok_is_whole (T : Tx K mg a) : FnOk P w K mg base CX0 1 a.f_is_whole a.d_is_whole P_is_whole (spWhole K a.C_Ratio) := by
  refine T.F_is_whole.ok sc_is_whole (fun vs H Q E h => ?_) (fun cdv A outer s H vs Q E hr h => ?_)
  · obtain ⟨x, t, rfl, _⟩ := h
    rfl
  · obtain ⟨x, t, rfl, ty, kt, k⟩ := h
    refine ⟨_, (pss_one (ps_ret (pe_and (pe_callB call_isi (by rfl) T.b_isinstance (by decide +kernel) (pa_cons (pv 0) (pa_cons (pe_bltn (v := .ty "int") (by rfl) T.b_int (by decide +kernel) rfl) pa_nil))) (pe_one (pe_not (pe_callB call_isi (by rfl) T.b_isinstance (by decide +kernel) (pa_cons (pv 0) (pa_cons (pe_bltn (v := .ty "bool") (by rfl) T.b_bool (by decide +kernel) rfl) pa_nil)))))))), ?_⟩
    walk_at "g"
    refine g_isi ty (.ty _) (kit_int T.R kt) ?_
    walk_at "g"
    cases hb : (t == .type "int" || t == .type "bool") with
    | true =>
      walk_at "g"
      refine g_isi ty (.ty _) (kit_bool T.R kt hb) ?_
      walk_at "g"
      have e : (!(t == Value.type "bool")) = (t == .type "int") := by cases kt <;> first | rfl | simp at hb | simp
      rw [e]
      exact k H (Ex.refl H)
    | false =>
      walk_at "g"
      have e : (t == Value.type "int") = false := (Bool.or_eq_false_iff.mp hb).1
      rw [e] at k
      exact k H (Ex.refl H)
theorem ok_is_number (T : Tx K mg a) : FnOk P w K mg base CX0 2 a.f_is_number a.d_is_number P_is_number (spNumber K a.C_Ratio) := by
  refine T.F_is_number.ok sc_is_number (fun vs H Q E h => ?_) (fun cdv A outer s H vs Q E hr h => ?_)
  · obtain ⟨x, t, rfl, _⟩ := h
    rfl
  · obtain ⟨x, t, rfl, ty, kt, k⟩ := h
    refine ⟨_, (pss_one (ps_ret (pe_or (pe_callB call_isi (by rfl) T.b_isinstance (by decide +kernel) (pa_cons (pv 0) (pa_cons (pe_glob (v := .ref a.C_Ratio) rfl T.g_Ratio rfl) pa_nil))) (pe_one (pe_call (ok_is_whole T) (hr.mono (by decide)) (by rfl) T.g_is_whole T.F_is_whole.kp (bd_is_whole T) .nil pass0 (pa_cons (pv 0) pa_nil)))))), ?_⟩
    walk_at "g"
    refine g_isi ty (.own _) (kit_own T.R kt) ?_
    walk_at "g"
    cases hb : (t == .ref a.C_Ratio) with
    | true =>
      walk_at "g"
      rw [hb] at k
      exact k H (Ex.refl H)
    | false =>
      walk_at "g"
      rw [hb] at k
      exact ⟨x, t, rfl, ty, kt, fun H' e => k H' e⟩
theorem ok_Ratio_init (T : Tx K mg a) : FnOk P w K mg base CX0 1 a.f_Ratio_init a.d_Ratio_init P_Ratio_init (spInit a.C_Ratio) := by
  refine T.F_Ratio_init.ok sc_Ratio_init (fun vs H Q E h => ?_) (fun cdv A outer s H vs Q E hr h => ?_)
  · obtain ⟨p, dx, t, b, k, rfl, _⟩ := h
    rfl
  · obtain ⟨p, dx, t, b, k, rfl, hb, h1, h2, hk, hp, q⟩ := h
    refine ⟨_, (pss_cons (ps_if (pt_cmpR op_eq (pv 2) pe_int (nomark _)) (pss_one ps_never) pss_nil) (pss_cons (ps_set (i := 3) sc_Ratio_init.nd rfl (Or.inl rfl) (pe_callBfun cr_gcd (by rfl) T.g_gcd (pa_cons (pv 1) (pa_cons (pv 2) pa_nil)))) (pss_cons (ps_if (pt_cmpR op_lt (pv 2) pe_int (nomark _)) (pss_one (ps_set (i := 3) sc_Ratio_init.nd rfl (Or.inl rfl) (pe_un un_neg (pv 3)))) pss_nil) (pss_cons (ps_fld (pv 0) (pe_op op_fdivA (pv 1) (pv 3)) rfl) (pss_one (ps_fld (pv 0) (pe_op op_fdivA (pv 2) (pv 3)) rfl)))))), ?_⟩
    walk_at "g"
    refine g_dec (fun h => absurd h hb) (fun _ => ?_)
    walk_at "g"
    refine g_dec (fun hn => ?_) (fun hn => ?_)
    · walk_at "g"
      have ez : -((Nat.gcd t.natAbs b.natAbs : Nat) : Int) = sg t b := by unfold sg; rw [if_pos hn]
      rw [ez]
      refine g_I (divA (sg_ne hb) (sg_sz hb h2) hk) ?_
      walk_at "g"
      refine ⟨p, _, dx, [], rfl, hp, T.R.cl, T.R.nT, by decide, ?_⟩
      walk_at "g"
      refine g_I (divA (sg_ne hb) (sg_sz hb h2) hk) ?_
      walk_at "g"
      refine ⟨p, _, dx, _, rfl, upd_same, T.R.cl, T.R.nB, by show 1 < 1000; decide, ?_⟩
      walk_at "g"
      rw [top_eq hb, bot_eq hb]
      refine q _ (fun c o hc hne => ?_) upd_same
      rw [upd_ne hne, upd_ne hne]
      exact hc
    · walk_at "g"
      have ez : ((Nat.gcd t.natAbs b.natAbs : Nat) : Int) = sg t b := by unfold sg; rw [if_neg hn]
      rw [ez]
      refine g_I (divA (sg_ne hb) (sg_sz hb h2) hk) ?_
      walk_at "g"
      refine ⟨p, _, dx, [], rfl, hp, T.R.cl, T.R.nT, by decide, ?_⟩
      walk_at "g"
      refine g_I (divA (sg_ne hb) (sg_sz hb h2) hk) ?_
      walk_at "g"
      refine ⟨p, _, dx, _, rfl, upd_same, T.R.cl, T.R.nB, by show 1 < 1000; decide, ?_⟩
      walk_at "g"
      rw [top_eq hb, bot_eq hb]
      refine q _ (fun c o hc hne => ?_) upd_same
      rw [upd_ne hne, upd_ne hne]
      exact hc
theorem ok_as_ratio (T : Tx K mg a) : FnOk P w K mg base CX0 3 a.f_as_ratio a.d_as_ratio P_as_ratio (spAsRatio a.C_Ratio) := by
  refine T.F_as_ratio.ok sc_as_ratio (fun vs H Q E h => ?_) (fun cdv A outer s H vs Q E hr h => ?_)
  · obtain ⟨x, q, k, rfl, _⟩ := h
    rfl
  · obtain ⟨x, q, k, rfl, hx, sa, hk, z⟩ := h
    refine ⟨_, (pss_cons (ps_if (pt_val (pe_callB call_isi (by rfl) T.b_isinstance (by decide +kernel) (pa_cons (pv 0) (pa_cons (pe_glob (v := .ref a.C_Ratio) rfl T.g_Ratio rfl) pa_nil)))) (pss_one (ps_ret (pv 0))) pss_nil) (pss_cons (ps_if (pt_val (pe_call (ok_is_whole T) (hr.mono (by decide)) (by rfl) T.g_is_whole T.F_is_whole.kp (bd_is_whole T) .nil pass0 (pa_cons (pv 0) pa_nil))) (pss_one (ps_ret (pe_make T.mk_Ratio (ok_Ratio_init T) (hr.mono (by decide)) (by rfl) T.g_Ratio (bd1_Ratio_init T).choose_spec.2 (bd1_Ratio_init T).choose_spec.1 pass0 (pa_cons (pv 0) pa_nil)))) pss_nil) (pss_one ps_never))), ?_⟩
    walk_at "g"
    rcases hx with ⟨n, rfl, rfl⟩ | hx
    · refine g_isi (.base (.int n)) (.own _) (kit_own T.R .int) ?_
      walk_at "g"
      refine g_ite (fun h => by simp at h) (fun _ => ?_)
      walk_at "g"
      refine ⟨_, _, rfl, .base (.int n), .int, fun H1 e1 => ?_⟩
      walk_at "g"
      refine g_ite (fun _ => ?_) (fun h => by simp at h)
      walk_at "g"
      refine use_init (t := n) (b := 1) (k := k + 1) rfl (by decide) (by have := sa.1; rw [Rat.num_intCast] at this; exact lt_up this (by omega)) (lt_up (by decide : 1 < 2 ^ 1) (by omega)) (by omega) fun v H2 e2 hv => ?_
      rw [int_divInt] at hv
      exact z v H2 (e1.trans e2) hv
    · refine g_isi (ty_rat T.R hx) (.own _) (kit_own T.R .own) ?_
      walk_at "g"
      refine g_ite (fun _ => ?_) (fun h => by simp at h)
      walk_at "g"
      exact z x H (Ex.refl H) hx
theorem ok_Ratio_add (T : Tx K mg a) : FnOk P w K mg base CX0 4 a.f_Ratio_add a.d_Ratio_add P_Ratio_add (spNum2 a.C_Ratio (· + ·)) := by
  refine T.F_Ratio_add.ok sc_Ratio_add (fun vs H Q E h => ?_) (fun cdv A outer s H vs Q E hr h => ?_)
  · obtain ⟨x, y, p, q, k, rfl, _⟩ := h
    rfl
  · obtain ⟨x, y, p, q, k, rfl, hx, hy, sa, sb, hk, z⟩ := h
    refine ⟨_, (pss_cons (ps_if (pt_not (pt_val (pe_call (ok_is_number T) (hr.mono (by decide)) (by rfl) T.g_is_number T.F_is_number.kp (bd_is_number T) .nil pass0 (pa_cons (pv 1) pa_nil)))) (pss_one ps_never) pss_nil) (pss_cons (ps_set (i := 2) sc_Ratio_add.nd rfl (Or.inl rfl) (pe_call (ok_as_ratio T) (hr.mono (by decide)) (by rfl) T.g_as_ratio T.F_as_ratio.kp (bd_as_ratio T) .nil pass0 (pa_cons (pv 1) pa_nil))) (pss_one (ps_ret (pe_make T.mk_Ratio (ok_Ratio_init T) (hr.mono (by decide)) (by rfl) T.g_Ratio (bd_Ratio_init T) .nil pass0 (pa_cons (pe_op op_add (pe_op op_mulW (pe_fld (pv 0) rfl) (pe_fld (pv 2) rfl)) (pe_op op_mulW (pe_fld (pv 2) rfl) (pe_fld (pv 0) rfl))) (pa_cons (pe_op op_mulW (pe_fld (pv 0) rfl) (pe_fld (pv 2) rfl)) pa_nil))))))), ?_⟩
    walk_at "g"
    refine use_isnum T.R hy fun H0 e0 => ?_
    walk_at "g"
    have hy := hy.mono e0
    have hx := hx.mono e0
    refine use_asr hy sb hk fun u H1 e1 hn => ?_
    have hx' := hx.mono e1
    walk_at "g"
    refine g_top T.R.cl T.R.nT hx' ?_
    walk_at "g"
    refine g_bottom T.R.cl T.R.nB hn ?_
    refine g_I (mulA sa.n sb.d (by omega)) ?_
    walk_at "g"
    refine g_top T.R.cl T.R.nT hn ?_
    walk_at "g"
    refine g_bottom T.R.cl T.R.nB hx' ?_
    refine g_I (mulA sb.n sa.d (by omega)) ?_
    walk_at "g"
    refine g_bottom T.R.cl T.R.nB hx' ?_
    walk_at "g"
    refine g_bottom T.R.cl T.R.nB hn ?_
    refine g_I (mulA sa.d sb.d (by omega)) ?_
    walk_at "g"
    refine use_init (k := k + k + 1) rfl (dd_ne _ _) (abs_add_lt (abs_mul_lt sa.n sb.d) (abs_mul_lt sb.n sa.d)) (lt_up (abs_mul_lt sa.d sb.d) (by omega)) (by omega) fun v H2 e2 hv => ?_
    rw [add_divInt] at hv
    exact z v H2 ((e0.trans e1).trans e2) hv
theorem ok_Ratio_sub (T : Tx K mg a) : FnOk P w K mg base CX0 4 a.f_Ratio_sub a.d_Ratio_sub P_Ratio_sub (spNum2 a.C_Ratio (· - ·)) := by
  refine T.F_Ratio_sub.ok sc_Ratio_sub (fun vs H Q E h => ?_) (fun cdv A outer s H vs Q E hr h => ?_)
  · obtain ⟨x, y, p, q, k, rfl, _⟩ := h
    rfl
  · obtain ⟨x, y, p, q, k, rfl, hx, hy, sa, sb, hk, z⟩ := h
    refine ⟨_, (pss_cons (ps_if (pt_not (pt_val (pe_call (ok_is_number T) (hr.mono (by decide)) (by rfl) T.g_is_number T.F_is_number.kp (bd_is_number T) .nil pass0 (pa_cons (pv 1) pa_nil)))) (pss_one ps_never) pss_nil) (pss_cons (ps_set (i := 2) sc_Ratio_sub.nd rfl (Or.inl rfl) (pe_call (ok_as_ratio T) (hr.mono (by decide)) (by rfl) T.g_as_ratio T.F_as_ratio.kp (bd_as_ratio T) .nil pass0 (pa_cons (pv 1) pa_nil))) (pss_one (ps_ret (pe_make T.mk_Ratio (ok_Ratio_init T) (hr.mono (by decide)) (by rfl) T.g_Ratio (bd_Ratio_init T) .nil pass0 (pa_cons (pe_op op_sub (pe_op op_mulW (pe_fld (pv 0) rfl) (pe_fld (pv 2) rfl)) (pe_op op_mulW (pe_fld (pv 2) rfl) (pe_fld (pv 0) rfl))) (pa_cons (pe_op op_mulW (pe_fld (pv 0) rfl) (pe_fld (pv 2) rfl)) pa_nil))))))), ?_⟩
    walk_at "g"
    refine use_isnum T.R hy fun H0 e0 => ?_
    walk_at "g"
    have hy := hy.mono e0
    have hx := hx.mono e0
    refine use_asr hy sb hk fun u H1 e1 hn => ?_
    have hx' := hx.mono e1
    walk_at "g"
    refine g_top T.R.cl T.R.nT hx' ?_
    walk_at "g"
    refine g_bottom T.R.cl T.R.nB hn ?_
    refine g_I (mulA sa.n sb.d (by omega)) ?_
    walk_at "g"
    refine g_top T.R.cl T.R.nT hn ?_
    walk_at "g"
    refine g_bottom T.R.cl T.R.nB hx' ?_
    refine g_I (mulA sb.n sa.d (by omega)) ?_
    walk_at "g"
    refine g_bottom T.R.cl T.R.nB hx' ?_
    walk_at "g"
    refine g_bottom T.R.cl T.R.nB hn ?_
    refine g_I (mulA sa.d sb.d (by omega)) ?_
    walk_at "g"
    refine use_init (k := k + k + 1) rfl (dd_ne _ _) (abs_sub_lt (abs_mul_lt sa.n sb.d) (abs_mul_lt sb.n sa.d)) (lt_up (abs_mul_lt sa.d sb.d) (by omega)) (by omega) fun v H2 e2 hv => ?_
    rw [sub_divInt] at hv
    exact z v H2 ((e0.trans e1).trans e2) hv
theorem ok_Ratio_mul (T : Tx K mg a) : FnOk P w K mg base CX0 4 a.f_Ratio_mul a.d_Ratio_mul P_Ratio_mul (spNum2 a.C_Ratio (· * ·)) := by
  refine T.F_Ratio_mul.ok sc_Ratio_mul (fun vs H Q E h => ?_) (fun cdv A outer s H vs Q E hr h => ?_)
  · obtain ⟨x, y, p, q, k, rfl, _⟩ := h
    rfl
  · obtain ⟨x, y, p, q, k, rfl, hx, hy, sa, sb, hk, z⟩ := h
    refine ⟨_, (pss_cons (ps_if (pt_not (pt_val (pe_call (ok_is_number T) (hr.mono (by decide)) (by rfl) T.g_is_number T.F_is_number.kp (bd_is_number T) .nil pass0 (pa_cons (pv 1) pa_nil)))) (pss_one ps_never) pss_nil) (pss_cons (ps_set (i := 2) sc_Ratio_mul.nd rfl (Or.inl rfl) (pe_call (ok_as_ratio T) (hr.mono (by decide)) (by rfl) T.g_as_ratio T.F_as_ratio.kp (bd_as_ratio T) .nil pass0 (pa_cons (pv 1) pa_nil))) (pss_one (ps_ret (pe_make T.mk_Ratio (ok_Ratio_init T) (hr.mono (by decide)) (by rfl) T.g_Ratio (bd_Ratio_init T) .nil pass0 (pa_cons (pe_op op_mulW (pe_fld (pv 0) rfl) (pe_fld (pv 2) rfl)) (pa_cons (pe_op op_mulW (pe_fld (pv 0) rfl) (pe_fld (pv 2) rfl)) pa_nil))))))), ?_⟩
    walk_at "g"
    refine use_isnum T.R hy fun H0 e0 => ?_
    walk_at "g"
    have hy := hy.mono e0
    have hx := hx.mono e0
    refine use_asr hy sb hk fun u H1 e1 hn => ?_
    have hx' := hx.mono e1
    walk_at "g"
    refine g_top T.R.cl T.R.nT hx' ?_
    walk_at "g"
    refine g_top T.R.cl T.R.nT hn ?_
    refine g_I (mulA sa.n sb.n (by omega)) ?_
    walk_at "g"
    refine g_bottom T.R.cl T.R.nB hx' ?_
    walk_at "g"
    refine g_bottom T.R.cl T.R.nB hn ?_
    refine g_I (mulA sa.d sb.d (by omega)) ?_
    walk_at "g"
    refine use_init (k := k + k) rfl (dd_ne _ _) (abs_mul_lt sa.n sb.n) (abs_mul_lt sa.d sb.d) (by omega) fun v H2 e2 hv => ?_
    rw [mul_divInt] at hv
    exact z v H2 ((e0.trans e1).trans e2) hv
theorem ok_Ratio_lt (T : Tx K mg a) : FnOk P w K mg base CX0 4 a.f_Ratio_lt a.d_Ratio_lt P_Ratio_lt (spRel2 a.C_Ratio fun x y => decide (x < y)) := by
  refine T.F_Ratio_lt.ok sc_Ratio_lt (fun vs H Q E h => ?_) (fun cdv A outer s H vs Q E hr h => ?_)
  · obtain ⟨x, y, p, q, k, rfl, _⟩ := h
    rfl
  · obtain ⟨x, y, p, q, k, rfl, hx, hy, sa, sb, hk, z⟩ := h
    refine ⟨_, (pss_cons (ps_if (pt_not (pt_val (pe_call (ok_is_number T) (hr.mono (by decide)) (by rfl) T.g_is_number T.F_is_number.kp (bd_is_number T) .nil pass0 (pa_cons (pv 1) pa_nil)))) (pss_one ps_never) pss_nil) (pss_cons (ps_set (i := 2) sc_Ratio_lt.nd rfl (Or.inl rfl) (pe_call (ok_as_ratio T) (hr.mono (by decide)) (by rfl) T.g_as_ratio T.F_as_ratio.kp (bd_as_ratio T) .nil pass0 (pa_cons (pv 1) pa_nil))) (pss_one (ps_ret (pe_cmpR op_lt (pe_op op_mulW (pe_fld (pv 0) rfl) (pe_fld (pv 2) rfl)) (pe_op op_mulW (pe_fld (pv 2) rfl) (pe_fld (pv 0) rfl)) (nomark _)))))), ?_⟩
    walk_at "g"
    refine use_isnum T.R hy fun H0 e0 => ?_
    walk_at "g"
    have hy := hy.mono e0
    have hx := hx.mono e0
    refine use_asr hy sb hk fun u H1 e1 hn => ?_
    have hx' := hx.mono e1
    walk_at "g"
    refine g_top T.R.cl T.R.nT hx' ?_
    walk_at "g"
    refine g_bottom T.R.cl T.R.nB hn ?_
    refine g_I (mulA sa.n sb.d (by omega)) ?_
    walk_at "g"
    refine g_top T.R.cl T.R.nT hn ?_
    walk_at "g"
    refine g_bottom T.R.cl T.R.nB hx' ?_
    refine g_I (mulA sb.n sa.d (by omega)) ?_
    walk_at "g"
    have z := z H1 (e0.trans e1)
    dsimp only at z
    rw [dec_ltR] at z
    exact z
theorem ok_Ratio_le (T : Tx K mg a) : FnOk P w K mg base CX0 4 a.f_Ratio_le a.d_Ratio_le P_Ratio_le (spRel2 a.C_Ratio fun x y => decide (x ≤ y)) := by
  refine T.F_Ratio_le.ok sc_Ratio_le (fun vs H Q E h => ?_) (fun cdv A outer s H vs Q E hr h => ?_)
  · obtain ⟨x, y, p, q, k, rfl, _⟩ := h
    rfl
  · obtain ⟨x, y, p, q, k, rfl, hx, hy, sa, sb, hk, z⟩ := h
    refine ⟨_, (pss_cons (ps_if (pt_not (pt_val (pe_call (ok_is_number T) (hr.mono (by decide)) (by rfl) T.g_is_number T.F_is_number.kp (bd_is_number T) .nil pass0 (pa_cons (pv 1) pa_nil)))) (pss_one ps_never) pss_nil) (pss_cons (ps_set (i := 2) sc_Ratio_le.nd rfl (Or.inl rfl) (pe_call (ok_as_ratio T) (hr.mono (by decide)) (by rfl) T.g_as_ratio T.F_as_ratio.kp (bd_as_ratio T) .nil pass0 (pa_cons (pv 1) pa_nil))) (pss_one (ps_ret (pe_cmpR op_le (pe_op op_mulW (pe_fld (pv 0) rfl) (pe_fld (pv 2) rfl)) (pe_op op_mulW (pe_fld (pv 2) rfl) (pe_fld (pv 0) rfl)) (nomark _)))))), ?_⟩
    walk_at "g"
    refine use_isnum T.R hy fun H0 e0 => ?_
    walk_at "g"
    have hy := hy.mono e0
    have hx := hx.mono e0
    refine use_asr hy sb hk fun u H1 e1 hn => ?_
    have hx' := hx.mono e1
    walk_at "g"
    refine g_top T.R.cl T.R.nT hx' ?_
    walk_at "g"
    refine g_bottom T.R.cl T.R.nB hn ?_
    refine g_I (mulA sa.n sb.d (by omega)) ?_
    walk_at "g"
    refine g_top T.R.cl T.R.nT hn ?_
    walk_at "g"
    refine g_bottom T.R.cl T.R.nB hx' ?_
    refine g_I (mulA sb.n sa.d (by omega)) ?_
    walk_at "g"
    have z := z H1 (e0.trans e1)
    dsimp only at z
    rw [dec_leR] at z
    exact z
theorem ok_Ratio_eq (T : Tx K mg a) : FnOk P w K mg base CX0 4 a.f_Ratio_eq a.d_Ratio_eq P_Ratio_eq (spEqV K a.C_Ratio) := by
  refine T.F_Ratio_eq.ok sc_Ratio_eq (fun vs H Q E h => ?_) (fun cdv A outer s H vs Q E hr h => ?_)
  · obtain ⟨x, y, p, r, rfl, _⟩ := h
    rfl
  · obtain ⟨x, y, p, r, rfl, hx, hy, z⟩ := h
    refine ⟨_, (pss_cons (ps_if (pt_not (pt_val (pe_call (ok_is_number T) (hr.mono (by decide)) (by rfl) T.g_is_number T.F_is_number.kp (bd_is_number T) .nil pass0 (pa_cons (pv 1) pa_nil)))) (pss_one (ps_ret pe_bl)) pss_nil) (pss_cons (ps_set (i := 2) sc_Ratio_eq.nd rfl (Or.inl rfl) (pe_call (ok_as_ratio T) (hr.mono (by decide)) (by rfl) T.g_as_ratio T.F_as_ratio.kp (bd_as_ratio T) .nil pass0 (pa_cons (pv 1) pa_nil))) (pss_one (ps_ret (pe_and (pe_cmpR op_eq (pe_fld (pv 0) rfl) (pe_fld (pv 2) rfl) (nomark _)) (pe_one (pe_cmpR op_eq (pe_fld (pv 0) rfl) (pe_fld (pv 2) rfl) (nomark _)))))))), ?_⟩
    walk_at "g"
    rcases hy with ⟨q, k, hy, sb, hk, rfl⟩ | ⟨t, ty, kt, et, rfl⟩
    · refine use_isnum T.R hy fun H0 e0 => ?_
      walk_at "g"
      have hy := hy.mono e0
      have hx := hx.mono e0
      refine use_asr hy sb hk fun u H1 e1 hn => ?_
      have hx' := hx.mono e1
      walk_at "g"
      refine g_top T.R.cl T.R.nT hx' ?_
      walk_at "g"
      refine g_top T.R.cl T.R.nT hn ?_
      walk_at "g"
      have z := z H1 (e0.trans e1)
      rw [dec_eqR] at z
      refine g_dec (fun h => ?_) (fun h => ?_)
      · rw [decide_eq_true h] at z
        walk_at "g"
        refine g_bottom T.R.cl T.R.nB hx' ?_
        walk_at "g"
        refine g_bottom T.R.cl T.R.nB hn ?_
        walk_at "g"
        exact z
      · rw [decide_eq_false h] at z
        walk_at "g"
        exact z
    · refine use_isnot ty kt et fun H0 e0 => ?_
      walk_at "g"
      exact z H0 e0
theorem ok_Ratio_neg (T : Tx K mg a) : FnOk P w K mg base CX0 3 a.f_Ratio_neg a.d_Ratio_neg P_Ratio_neg (spNum1 a.C_Ratio (- ·)) := by
  refine T.F_Ratio_neg.ok sc_Ratio_neg (fun vs H Q E h => ?_) (fun cdv A outer s H vs Q E hr h => ?_)
  · obtain ⟨x, p, k, rfl, _⟩ := h
    rfl
  · obtain ⟨x, p, k, rfl, hx, sa, hk, z⟩ := h
    refine ⟨_, (pss_one (ps_ret (pe_make T.mk_Ratio (ok_Ratio_init T) (hr.mono (by decide)) (by rfl) T.g_Ratio (bd_Ratio_init T) .nil pass0 (pa_cons (pe_un un_neg (pe_fld (pv 0) rfl)) (pa_cons (pe_fld (pv 0) rfl) pa_nil))))), ?_⟩
    walk_at "g"
    refine g_top T.R.cl T.R.nT hx ?_
    walk_at "g"
    refine g_bottom T.R.cl T.R.nB hx ?_
    walk_at "g"
    refine use_init (k := k) rfl (den_ne _) (by rw [Int.natAbs_neg]; exact sa.n) sa.d (by omega) fun v H2 e2 hv => ?_
    rw [neg_divInt1] at hv
    exact z v H2 e2 hv
end
end Kx


set_option maxHeartbeats 4000000
namespace Kx
open PySem PySem.Spec PyProof.Rows L2 Fm
local macro_rules | `(tactic| walk_at "gv") => `(tactic| ((with_reducible refine' g_var ?gh ?_); (case gh => exact rfl)))
local macro_rules | `(tactic| walk_at "g1") => `(tactic| first
  | walk_at "gv"
  | with_reducible refine g_c ?_ | with_reducible refine g_op ?_ | with_reducible refine g_un ?_ | with_reducible refine g_I0 ?_ | with_reducible refine g_U ?_
  | with_reducible refine g_eqI ?_ | with_reducible refine g_neI ?_ | with_reducible refine g_eqS ?_ | with_reducible refine g_neS ?_
  | with_reducible refine g_test ?_ | with_reducible refine g_B ?_ | with_reducible refine g_bl ?_ | with_reducible refine g_not ?_ | with_reducible refine g_and ?_ | with_reducible refine g_or ?_
  | with_reducible refine g_andV ?_ | with_reducible refine g_orV ?_ | with_reducible refine g_notV ?_ | with_reducible refine g_chain ?_ | with_reducible refine g_if ?_ | with_reducible refine g_ifS ?_
  | with_reducible refine g_seq ?_ | with_reducible refine g_next ?_ | with_reducible refine g_break ?_ | with_reducible refine g_cont ?_ | with_reducible refine g_drop ?_ | with_reducible refine g_ret ?_ | with_reducible refine g_retN ?_
  | with_reducible refine g_asg ?_ | with_reducible refine g_name ?_ | with_reducible refine g_par ?_ | with_reducible refine g_par2 ?_ | with_reducible refine g_fld ?_ | with_reducible refine g_sfld ?_
  | with_reducible refine g_nil ?_ | with_reducible refine g_cons ?_ | with_reducible refine g_tup ?_ | with_reducible refine g_lst ?_ | with_reducible refine g_call ?_ | with_reducible refine g_meth ?_ | with_reducible refine g_make1 ?_ | with_reducible refine g_make ?_ | with_reducible refine g_cb ?_ | with_reducible refine g_sub ?_ | with_reducible refine g_absI ?_ | with_reducible refine g_intI ?_
  | with_reducible refine iteT ?_ | with_reducible refine iteF ?_ | with_reducible refine g_gcd ?_)
local macro_rules | `(tactic| walk_at "g") => `(tactic| (repeat (first | walk_at "g1" | dsimp only [cx_K, cx_Kn, b_nt, b_nf])))
local macro_rules | `(tactic| walk_at "mul") => `(tactic| exact mulA (a := 200) (b := 200) (by omega) (by omega) (by decide))
local macro_rules | `(tactic| walk_at "pow") => `(tactic| exact ⟨by omega, by omega, by omega⟩)

section
variable {P : Program} {w : World} {K : PySem.W.Frag} {mg : Str → Option Value} {base : Heap} {a : Ad}
theorem ok_Ltape (T : Tx K mg a) : FnOk P w K mg base CX0 1 a.f_Ltape a.d_Ltape P_Ltape (spTape K) := by
  refine T.F_Ltape.ok sc_Ltape (fun vs H Q E h => ?_) (fun cdv A outer s H vs Q E hr h => ?_)
  · obtain ⟨p, ns, k, rfl, _⟩ := h
    rfl
  · obtain ⟨p, ns, k, rfl, hs, hk, q⟩ := h
    refine ⟨_, (pss_cons (ps_set (i := 2) sc_Ltape.nd rfl (Or.inl rfl) pe_int) (pss_cons (ps_if (pt_cmpR op_lt (pv 1) (pe_callB call_lenQ (by rfl) T.b_len (by decide +kernel) (pa_cons (pv 0) pa_nil)) (nomark _)) (pss_one (ps_set (i := 2) sc_Ltape.nd rfl (Or.inl rfl) (pe_ix ix_list (pv 0) (pv 1) (fun _ _ => rfl)))) pss_nil) (pss_one (ps_ret (pe_lst (pa_cons (pe_callB cr_absI (by rfl) T.b_abs (by decide +kernel) (pa_cons (pv 2) pa_nil)) (pa_cons (pe_op op_add (pe_op op_mulW pe_int (pv 1)) pe_int) pa_nil))))))), ?_⟩
    walk_at "g"
    refine g_lenL hs ?_
    walk_at "g"
    have fin : ∀ z : Int, ∀ l, H l = none → Q (.ref l) (upd H l (.lst [.int ((z.natAbs : Nat) : Int), .int (7919 * (k : Int) + 15485863)])) := fun z l hl =>
      q l _ hl (Ex.new hl) ⟨_, _, by omega, by omega, by omega, upd_same⟩
    refine g_dec (fun hlt => ?_) (fun _ => ?_)
    · walk_at "g"
      rw [List.length_map] at hlt
      have hkn : k < ns.length := by omega
      refine g_ixL hs (atI_nat (by rw [List.getElem?_map, List.getElem?_eq_getElem hkn]; rfl)) ?_
      walk_at "g"
      refine g_I (by walk_at "mul") ?_
      walk_at "g"
      exact ⟨len_lit rfl, fun l hl => fin _ l hl⟩
    · walk_at "g"
      refine g_I (by walk_at "mul") ?_
      walk_at "g"
      exact ⟨len_lit rfl, fun l hl => fin 0 l hl⟩
theorem ok_Lpick (T : Tx K mg a) : FnOk P w K mg base CX0 1 a.f_Lpick a.d_Lpick P_Lpick spPick := by
  refine T.F_Lpick.ok sc_Lpick (fun vs H Q E h => ?_) (fun cdv A outer s H vs Q E hr h => ?_)
  · obtain ⟨p, m, rfl, _⟩ := h
    rfl
  · obtain ⟨p, m, rfl, h0, h1, ⟨t0, t1, a0, a1, a2, hp⟩, q⟩ := h
    refine ⟨_, (pss_cons (ps_if (pt_cmpR op_ge (pe_ix ix_list (pv 0) pe_int (fun _ _ => rfl)) (pe_op op_pow pe_int pe_int) (nomark _)) (pss_cons (ps_set (i := 2) sc_Lpick.nd rfl (Or.inl rfl) (pe_op op_mod (pe_callTy cr_intI (by rfl) T.b_int (by decide +kernel) (pa_cons (pe_ix ix_list (pv 0) pe_int (fun _ _ => rfl)) pa_nil)) (pv 1))) (pss_cons (ps_asg (pe_op op_fdivA (pe_ix ix_list (pv 0) pe_int (fun _ _ => rfl)) (pv 1)) (pg_sub (pv 0) pe_int set_list)) (pss_one (ps_ret (pv 2))))) pss_nil) (pss_cons (ps_asg (pe_op op_mod (pe_callTy cr_intI (by rfl) T.b_int (by decide +kernel) (pa_cons (pe_op op_add (pe_op op_add (pe_op op_mulW (pe_ix ix_list (pv 0) pe_int (fun _ _ => rfl)) pe_int) (pe_op op_mulW (pe_ix ix_list (pv 0) pe_int (fun _ _ => rfl)) pe_int)) pe_int) pa_nil)) pe_int) (pg_sub (pv 0) pe_int set_list)) (pss_cons (ps_set (i := 3) sc_Lpick.nd rfl (Or.inl rfl) (pe_op op_mod (pe_callTy cr_intI (by rfl) T.b_int (by decide +kernel) (pa_cons (pe_op op_add (pe_op op_add (pe_op op_mulW (pe_ix ix_list (pv 0) pe_int (fun _ _ => rfl)) (pe_ix ix_list (pv 0) pe_int (fun _ _ => rfl))) (pe_op op_mulW (pe_ix ix_list (pv 0) pe_int (fun _ _ => rfl)) pe_int)) pe_int) pa_nil)) pe_int)) (pss_one (ps_ret (pe_op op_mod (pe_callTy cr_intI (by rfl) T.b_int (by decide +kernel) (pa_cons (pe_op op_fdivA (pv 3) pe_int) pa_nil)) (pv 1))))))), ?_⟩
    walk_at "g"
    refine g_ixL (SqL.of hp) (atI_nat (j := 0) rfl) ?_
    walk_at "g"
    refine g_I (by walk_at "pow") ?_
    walk_at "g"
    refine g_dec (fun hge => ?_) (fun hlt => ?_)
    · walk_at "g"
      refine g_ixL (SqL.of hp) (atI_nat (j := 0) rfl) ?_
      walk_at "g"
      refine g_I h0 ?_
      walk_at "g"
      refine g_ixL (SqL.of hp) (atI_nat (j := 0) rfl) ?_
      walk_at "g"
      refine g_I (divA (k := 100) (by omega) (by omega) (by decide)) ?_
      walk_at "g"
      refine g_setL (j := 0) hp rfl ?_
      walk_at "g"
      refine q _ _ (Int.emod_nonneg _ (by omega)) (Int.emod_lt_of_pos _ h0) Mo.set ⟨_, _, ?_, a1, a2, upd_same⟩
      rw [Int.fdiv_eq_ediv_of_nonneg _ (by omega)]
      exact Int.ediv_nonneg a0 (by omega)
    · have hs : t0 < 2 ^ 64 := by
        have : ¬ ((10 : Int) ^ (18 : Int).toNat ≤ t0) := hlt
        have e : (10 : Int) ^ (18 : Int).toNat = 1000000000000000000 := by decide
        omega
      walk_at "g"
      refine g_ixL (SqL.of hp) (atI_nat (j := 1) rfl) ?_
      walk_at "g"
      refine g_I (by walk_at "mul") ?_
      walk_at "g"
      refine g_ixL (SqL.of hp) (atI_nat (j := 0) rfl) ?_
      walk_at "g"
      refine g_I (by walk_at "mul") ?_
      walk_at "g"
      refine g_I (by decide) ?_
      walk_at "g"
      refine g_setL (j := 1) hp rfl ?_
      have b0 : 0 ≤ (t1 * 48271 + t0 * 69621 + 29) % 2147483647 := Int.emod_nonneg _ (by decide)
      have b1 : (t1 * 48271 + t0 * 69621 + 29) % 2147483647 < 2147483647 := Int.emod_lt_of_pos _ (by decide)
      generalize (t1 * 48271 + t0 * 69621 + 29) % 2147483647 = u1 at b0 b1 ⊢
      have hp1 : (upd H p (.lst ([V.int t0, V.int t1].set 1 (.int u1)))) p = some (.lst [.int t0, .int u1]) := upd_same
      walk_at "g"
      refine g_ixL (SqL.of hp1) (atI_nat (j := 1) rfl) ?_
      walk_at "g"
      refine g_ixL (SqL.of hp1) (atI_nat (j := 1) rfl) ?_
      walk_at "g"
      refine g_I (by walk_at "mul") ?_
      walk_at "g"
      refine g_ixL (SqL.of hp1) (atI_nat (j := 1) rfl) ?_
      walk_at "g"
      refine g_I (by walk_at "mul") ?_
      walk_at "g"
      refine g_I (by decide) ?_
      walk_at "g"
      refine g_I (divA (k := 100) (by decide) (by decide) (by decide)) ?_
      walk_at "g"
      refine g_I h0 ?_
      exact q _ _ (Int.emod_nonneg _ (by omega)) (Int.emod_lt_of_pos _ h0) Mo.set ⟨_, _, a0, b0, by omega, hp1⟩
end
end Kx


set_option maxHeartbeats 2000000
namespace Fm
open PySem PySem.Spec PyProof.Rows L2 SX
/-! ### the sums that the law looks at -/
theorem at_two {α : Type} {x y z : α} {r : List α} : atI (x :: y :: z :: r) 2 = some z := by
  unfold atI ixN
  simp
  rw [if_pos (by omega)]
  rfl
theorem sz_int {w : Int} {k : Nat} (h : w.natAbs < 2 ^ k) (hk : 1 ≤ k) : Sz k (w : Rat) := by
  rw [← int_divInt]
  exact Sz.divInt h (Nat.lt_of_lt_of_le (by decide : (1 : Int).natAbs < 2 ^ 1) (Nat.pow_le_pow_right (by decide) hk)) (by decide)
theorem sz_le {k j : Nat} {q : Rat} (h : Sz k q) (hk : k ≤ j) : Sz j q := ⟨Nat.lt_of_lt_of_le h.1 (Nat.pow_le_pow_right (by decide) hk), Nat.lt_of_lt_of_le h.2 (Nat.pow_le_pow_right (by decide) hk)⟩
section
variable {p q r s w : Int}
theorem tot3 (hq : 0 < q) (hs : 0 < s) (b1 : p.natAbs < 2 ^ 40) (b2 : q.natAbs < 2 ^ 40) (b3 : r.natAbs < 2 ^ 40) (b4 : s.natAbs < 2 ^ 40) (b5 : w.natAbs < 2 ^ 40) :
    (∀ i, i ≤ 3 → Sz 200 (sumR ([Rat.divInt p q, Rat.divInt r s, (w : Rat)].take i))) ∧ (∀ x ∈ [Rat.divInt p q, Rat.divInt r s, (w : Rat)], Sz 200 x) ∧
      sumR [Rat.divInt p q, Rat.divInt r s, (w : Rat)] = Rat.divInt (p * s + r * q + w * q * s) (q * s) ∧ (p * s + r * q + w * q * s).natAbs < 2 ^ 150 ∧ (q * s).natAbs < 2 ^ 150 ∧ q * s ≠ 0 := by
  have hqs : q * s ≠ 0 := Int.mul_ne_zero (by omega) (by omega)
  have w1 : (p * s).natAbs < 2 ^ 80 := abs_mul_lt b1 b4
  have w2 : (r * q).natAbs < 2 ^ 80 := abs_mul_lt b3 b2
  have w3 : (q * s).natAbs < 2 ^ 80 := abs_mul_lt b2 b4
  have w4 : (w * q).natAbs < 2 ^ 80 := abs_mul_lt b5 b2
  have w5 : (w * q * s).natAbs < 2 ^ 120 := abs_mul_lt (a := 80) (b := 40) w4 b4
  have e2 : Rat.divInt p q + Rat.divInt r s = Rat.divInt (p * s + r * q) (q * s) := add_div2 (by omega) (by omega)
  have e3 : Rat.divInt p q + Rat.divInt r s + (w : Rat) = Rat.divInt (p * s + r * q + w * q * s) (q * s) := by
    rw [e2, add_int hqs, Int.mul_assoc w q s]
  have s1 : Sz 200 (Rat.divInt p q) := Sz.divInt (by omega) (by omega) (by omega)
  have s2 : Sz 200 (Rat.divInt r s) := Sz.divInt (by omega) (by omega) (by omega)
  have s3 : Sz 200 (w : Rat) := sz_int (by omega) (by decide)
  have s12 : Sz 200 (Rat.divInt p q + Rat.divInt r s) := by rw [e2]; exact Sz.divInt (by omega) (by omega) hqs
  have s123 : Sz 200 (Rat.divInt p q + Rat.divInt r s + (w : Rat)) := by rw [e3]; exact Sz.divInt (by omega) (by omega) hqs
  refine ⟨fun i hi => ?_, fun x hx => ?_, by rw [sumR3, e3], by omega, by omega, hqs⟩
  · have : i = 0 ∨ i = 1 ∨ i = 2 ∨ i = 3 := by omega
    rcases this with rfl | rfl | rfl | rfl
    · exact sz_int (w := 0) (by decide) (by decide)
    · show Sz 200 (sumR [Rat.divInt p q]); rw [sumR1]; exact s1
    · show Sz 200 (sumR [Rat.divInt p q, Rat.divInt r s]); rw [sumR2]; exact s12
    · show Sz 200 (sumR [Rat.divInt p q, Rat.divInt r s, (w : Rat)]); rw [sumR3]; exact s123
  · have : x = Rat.divInt p q ∨ x = Rat.divInt r s ∨ x = (w : Rat) := by simpa using hx
    rcases this with rfl | rfl | rfl
    · exact s1
    · exact s2
    · exact s3
theorem tot1 {x : Rat} (h : Sz 200 x) : (∀ i, i ≤ 1 → Sz 200 (sumR ([x].take i))) ∧ (∀ y ∈ [x], Sz 200 y) ∧ sumR [x] = x := by
  refine ⟨fun i hi => ?_, fun y hy => ?_, sumR1⟩
  · have : i = 0 ∨ i = 1 := by omega
    rcases this with rfl | rfl
    · exact sz_int (w := 0) (by decide) (by decide)
    · show Sz 200 (sumR [x]); rw [sumR1]; exact h
  · have : y = x := by simpa using hy
    rw [this]; exact h
theorem tot0 : (∀ i, i ≤ 0 → Sz 200 (sumR (([] : List Rat).take i))) ∧ (∀ y ∈ ([] : List Rat), Sz 200 y) ∧ sumR [] = Rat.divInt 0 1 := by
  refine ⟨fun i hi => ?_, fun y hy => by simp at hy, ?_⟩
  · have : i = 0 := by omega
    subst this
    exact sz_int (w := 0) (by decide) (by decide)
  · rw [int_divInt]; rfl
theorem tot2 (hq : 0 < q) (b1 : p.natAbs < 2 ^ 40) (b2 : q.natAbs < 2 ^ 40) (b5 : w.natAbs < 2 ^ 40) :
    (∀ i, i ≤ 2 → Sz 200 (sumR ([(w : Rat), Rat.divInt p q].take i))) ∧ (∀ x ∈ [(w : Rat), Rat.divInt p q], Sz 200 x) ∧ sumR [(w : Rat), Rat.divInt p q] = Rat.divInt (p + w * q) q ∧ (p + w * q).natAbs < 2 ^ 150 := by
  have w4 : (w * q).natAbs < 2 ^ 80 := abs_mul_lt b5 b2
  have e2 : (w : Rat) + Rat.divInt p q = Rat.divInt (p + w * q) q := by rw [Rat.add_comm, add_int (by omega)]
  have s1 : Sz 200 (Rat.divInt p q) := Sz.divInt (by omega) (by omega) (by omega)
  have s3 : Sz 200 (w : Rat) := sz_int (by omega) (by decide)
  have s12 : Sz 200 ((w : Rat) + Rat.divInt p q) := by rw [e2]; exact Sz.divInt (by omega) (by omega) (by omega)
  refine ⟨fun i hi => ?_, fun x hx => ?_, by rw [sumR2, e2], by omega⟩
  · have : i = 0 ∨ i = 1 ∨ i = 2 := by omega
    rcases this with rfl | rfl | rfl
    · exact sz_int (w := 0) (by decide) (by decide)
    · show Sz 200 (sumR [(w : Rat)]); rw [sumR1]; exact s3
    · show Sz 200 (sumR [(w : Rat), Rat.divInt p q]); rw [sumR2]; exact s12
  · have : x = (w : Rat) ∨ x = Rat.divInt p q := by simpa using hx
    rcases this with rfl | rfl
    · exact s3
    · exact s1
end
theorem sum_sevenths : ∀ n : Nat, sumR ((List.range n).map fun (i : Nat) => Rat.divInt (i : Int) 7) = Rat.divInt (((List.range n).foldl (· + ·) 0 : Nat) : Int) 7
  | 0 => by
    show (0 : Rat) = Rat.divInt 0 7
    rw [Rat.zero_divInt]
  | n + 1 => by
    rw [List.range_succ, List.map_append, List.foldl_append]
    show sumR _ = _
    unfold sumR
    rw [List.foldl_append]
    have ih := sum_sevenths n
    unfold sumR at ih
    rw [ih]
    show Rat.divInt _ 7 + Rat.divInt _ 7 = _
    rw [Rat.divInt_add_divInt _ _ (by decide) (by decide), Rat.divInt_eq_divInt_iff (by decide) (by decide)]
    show _ = ((((List.range n).foldl (· + ·) 0 + n : Nat)) : Int) * (7 * 7)
    push_cast
    omega
end Fm
namespace L2
open PySem PySem.Spec PyProof.Rows
theorem pss_weak {X : Cx} {b : List Stmt} {t t' : TS} (h : PSs X b t) (i : ∀ D σ H, t' D σ H → t D σ H) : PSs X b t' := ⟨fun pins s σ H D I q => h.run pins s σ H D I (i D σ H q)⟩
end L2
namespace Fm
open PySem PySem.Spec PyProof.Rows L2 SX
/-- one of the values that are no numbers -/
def OddV (H : Hp) (v : V) : Prop := v = .non ∨ (∃ b, v = .bl b) ∨ v = .str (S [49]) ∨ ∃ p, v = .ref p ∧ (H p = some (.lst [.int 1]) ∨ H p = some (.tup [.int 1, .int 2]) ∨ H p = some (.dK []))
theorem OddV.mono {H H' : Hp} {v : V} (e : Ex H H') (h : OddV H v) : OddV H' v := by
  rcases h with h | h | h | ⟨p, h, h1 | h1 | h1⟩
  · exact .inl h
  · exact .inr (.inl h)
  · exact .inr (.inr (.inl h))
  · exact .inr (.inr (.inr ⟨p, h, .inl (e _ _ h1)⟩))
  · exact .inr (.inr (.inr ⟨p, h, .inr (.inl (e _ _ h1))⟩))
  · exact .inr (.inr (.inr ⟨p, h, .inr (.inr (e _ _ h1))⟩))
theorem odd_ty {K : PySem.W.Frag} {C : Addr} {H : Hp} {v : V} (h : OddV H v) : ∃ t, TyX K H v t ∧ KTy C t ∧ (t == .ref C || t == .type "int") = false := by
  rcases h with rfl | ⟨b, rfl⟩ | rfl | ⟨p, rfl, h1 | h1 | h1⟩
  · exact ⟨_, .base .non, .non, by simp⟩
  · exact ⟨_, .base (.bl b), .bool, by simp⟩
  · exact ⟨_, .base (.str _), .str, by simp⟩
  · exact ⟨_, .base (.lst h1), .list, by simp⟩
  · exact ⟨_, .base (.tup h1), .tuple, by simp⟩
  · exact ⟨_, .base (.dK h1), .dict, by simp⟩
theorem sev_small : ∀ i, i ≤ 40 → (List.range i).foldl (· + ·) 0 < 1000 := by decide
theorem sev_take {i : Nat} (hi : i ≤ 40) : Sz 200 (sumR ((((List.range 40).map fun (i : Nat) => Rat.divInt (i : Int) 7)).take i)) := by
  rw [← List.map_take, List.take_range, Nat.min_eq_left hi, sum_sevenths]
  have := sev_small i hi
  exact Sz.divInt (by omega) (by decide) (by decide)
theorem sev_sum : sumR ((List.range 40).map fun (i : Nat) => Rat.divInt (i : Int) 7) = Rat.divInt 780 7 := by
  rw [sum_sevenths]
  rfl
theorem sev_each : ∀ q ∈ ((List.range 40).map fun (i : Nat) => Rat.divInt (i : Int) 7), Sz 200 q := by
  intro q hq
  obtain ⟨i, hi, rfl⟩ := List.mem_map.mp hq
  have := List.mem_range.mp hi
  exact Sz.divInt (by omega) (by decide) (by decide)
end Fm
namespace Fm
open PySem PySem.Spec PyProof.Rows L2 SX
theorem g_dnew {σ : L2.St} {H : Hp} {Q : VK} (q : ∀ p, H p = none → Q (.ref p) (upd H p (.dK []))) : tDNewK σ H Q := q
end Fm

set_option maxHeartbeats 2000000
namespace Fm
open PySem PySem.Spec PyProof.Rows L2
/-! ### rules whose readings name the written part by a letter: in a comprehension, in a try -/
section
variable {X : Cx} {K : PySem.W.Frag}
theorem pe_fldV {e : Expr} {f : Str} {ta : TE} {pos : Pos} (hK : X.K = K) (he : PE X e ta) (hb : attributeBase e f X.env (eval e X.env) = eval e X.env) : PE X (.Attribute e f pos) (tFld K ta f) := by
  subst hK; exact pe_fld he hb
theorem ix_listV (hK : X.K = K) : IxR X (rIxL K) := by subst hK; exact ix_list
theorem ix_tupV (hK : X.K = K) : IxR X (rIxT K) := by subst hK; exact ix_tup
theorem call_isiV (hK : X.K = K) : CallR X (.builtin "isinstance") (rIsi K) := by subst hK; exact call_isi
theorem call_isiTV (hK : X.K = K) : CallR X (.builtin "isinstance") (rIsiT K) := by subst hK; exact call_isiT
theorem call_lenQV (hK : X.K = K) : CallR X (.builtin "len") (rLenQ K) := by subst hK; exact call_lenQ
theorem cr_allV (hK : X.K = K) (hc : X.calm = true) : CallR X (.builtin "all") (rAll K) := by subst hK; exact cr_all hc
theorem op_eqDV (hK : X.K = K) (hu : X.A.units + 64 < cLine) : OpR X (compareOp .Eq) (rEqD K) := by subst hK; exact op_eqD hu
theorem op_neDV (hK : X.K = K) (hu : X.A.units + 64 < cLine) : OpR X (compareOp .NotEq) (rNeD K) := by subst hK; exact op_neD hu
theorem sl_listV (hK : X.K = K) : SlR X (rSlL K) := by subst hK; exact sl_list
theorem sl_tupV (hK : X.K = K) : SlR X (rSlT K) := by subst hK; exact sl_tup
theorem op_cmpV {CX : CXT} {k : Nat} {f C : Addr} {fd : FuncData} {ps : List Str} {sp : Sp} {E : XK} {op : CmpOp} (hK : X.K = K) (hop : ∀ v u : Value, compareOp op v u = richCompare op v u) (T : CmpFn K C f op) (F : FnOk X.prog X.w K X.mg X.base CX k f fd ps sp) (hr : Room k X.A) (hb : Binds K fd ps []) (hx : Passes CX X E) :
    OpR X (compareOp op) (rCmpOwn K C sp E) := by
  subst hK; exact op_cmp hop T F hr hb hx
theorem op_neOwnV {CX : CXT} {k : Nat} {f C : Addr} {fd : FuncData} {ps : List Str} {sp : Sp} {E : XK} (hK : X.K = K) (T : NeFn K C f) (F : FnOk X.prog X.w K X.mg X.base CX k f fd ps sp) (hr : Room (k + 1) X.A) (hb : Binds K fd ps []) (hx : Passes CX X E) : OpR X (compareOp .NotEq) (rNeOwn K C sp E) := by
  subst hK; exact op_neOwn T F hr hb hx
end
theorem g_all {K : PySem.W.Frag} {H : Hp} {Q : VK} {p : Addr} {bs : List Bool} (h : SqL K H p (bs.map V.bl)) (q : Q (.bl (bs.all id)) H) : rAll K [.ref p] H Q := ⟨p, bs, rfl, h, q⟩
theorem g_lstOf {K : PySem.W.Frag} {H : Hp} {Q : VK} {p : Addr} {ys : List V} (h : SqL K H p ys ∨ SqT K H p ys) (q : ∀ l, H l = none → Q (.ref l) (upd H l (.lst ys))) : ∃ p ys, [V.ref p] = [V.ref p] ∧ (SqL K H p ys ∨ SqT K H p ys) ∧ ∀ l, H l = none → Q (.ref l) (upd H l (.lst ys)) := ⟨p, ys, rfl, h, q⟩
section
variable {K : PySem.W.Frag} {σ : L2.St} {H : Hp} {Q : VK} {g : TG} {te : TE} {tt : TT} {vs : List Nat}
theorem cp_T {a : Addr} {xs : List V} (Pv : Addr → Nat → Hp → Prop) (h0 : ∀ D, H D = none → Pv D 0 (upd H D (.lst []))) (hl : ∀ D, H D = none → ∀ i H', i ≤ xs.length → Pv D i H' → SqT K H' a xs)
    (hs : ∀ D, H D = none → ∀ i x H', xs[i]? = some x → Pv D i H' → Turn g tt te vs σ D (Pv D (i + 1)) x H') (hd : ∀ D, H D = none → ∀ H', Pv D xs.length H' → Q (.ref D) H') : Cp (Itt K a) g tt te vs σ H Q := by
  intro D hD
  refine ⟨fun i m H' => m = xs.length - i ∧ i ≤ xs.length ∧ Pv D i H', ⟨xs.length, by simp, Nat.zero_le _, h0 D hD⟩, ?_⟩
  rintro i m H' ⟨rfl, hi, p⟩
  have q := hl D hD i H' hi p
  by_cases hlt : i < xs.length
  · refine .inr ⟨⟨xs, xs[i], q, by simp [hlt]⟩, Pv D (i + 1), fun H' p' => ⟨xs.length - (i + 1), by omega, rfl, hlt, p'⟩, fun x H2 y => ?_⟩
    obtain ⟨e, y⟩ := y
    subst e
    exact hs D hD i x _ (y xs q) p
  · have e : i = xs.length := by omega
    subst e
    exact .inl ⟨⟨xs, q, Nat.le_refl _⟩, hd D hD _ p⟩
end
end Fm
namespace Fm
open PySem PySem.Spec PyProof.Rows L2
section
variable {K : PySem.W.Frag} {σ : L2.St} {H : Hp} {Q : VK} {g : TG} {te : TE} {tt : TT} {vs : List Nat}
/-- a comprehension over zip of two lists -/
theorem cp_Z {a b : Addr} {xs ys : List V} (Pv : Addr → Nat → Hp → Prop) (h0 : ∀ D, H D = none → Pv D 0 (upd H D (.lst []))) (hl : ∀ D, H D = none → ∀ i H', Pv D i H' → SqL K H' a xs ∧ SqL K H' b ys)
    (hs : ∀ D, H D = none → ∀ i x y t H', xs[i]? = some x → ys[i]? = some y → Pv D i H' → H' t = none → Turn g tt te vs σ D (Pv D (i + 1)) (.ref t) (upd H' t (.tup [x, y]))) (hd : ∀ D, H D = none → ∀ H', Pv D (min xs.length ys.length) H' → Q (.ref D) H') :
    Cp (Itz K a b) g tt te vs σ H Q := by
  intro D hD
  refine ⟨fun i m H' => m = min xs.length ys.length - i ∧ i ≤ min xs.length ys.length ∧ Pv D i H', ⟨min xs.length ys.length, by simp, Nat.zero_le _, h0 D hD⟩, ?_⟩
  rintro i m H' ⟨rfl, hi, p⟩
  obtain ⟨q1, q2⟩ := hl D hD i H' p
  by_cases hlt : i < min xs.length ys.length
  · have l1 : i < xs.length := by omega
    have l2 : i < ys.length := by omega
    refine .inr ⟨⟨xs, ys, xs[i], ys[i], q1, q2, by simp [l1], by simp [l2]⟩, Pv D (i + 1), fun H' p' => ⟨min xs.length ys.length - (i + 1), by omega, rfl, by omega, p'⟩, fun x H2 y => ?_⟩
    obtain ⟨t, x0, y0, e, ht, e2, y1, y2⟩ := y
    subst e
    subst e2
    exact hs D hD i x0 y0 t _ (y1 xs q1) (y2 ys q2) p ht
  · have e : i = min xs.length ys.length := by omega
    subst e
    exact .inl ⟨⟨xs, ys, q1, q2, by omega⟩, hd D hD _ p⟩
end
/-- a list is changed: the Ratios stay -/
theorem RatV.set {C : Addr} {H : Hp} {o : Addr} {xs ys : List V} (h : H o = some (.lst xs)) {v : V} {q : Rat} (r : RatV C H v q) : RatV C (upd H o (.lst ys)) v q := by
  obtain ⟨p, rfl, dx, hp⟩ := r
  exact ⟨p, rfl, dx, by rw [upd_ne fun z => by rw [z, h] at hp; cases hp]; exact hp⟩
theorem RatsV.set {C : Addr} {H : Hp} {o : Addr} {xs ys : List V} (h : H o = some (.lst xs)) {vs : List V} {qs : List Rat} (r : RatsV C H vs qs) : RatsV C (upd H o (.lst ys)) vs qs := Paired.mapP r fun _ _ z => z.set h
theorem prd_app {α β : Type} {F : α → β → Prop} : ∀ {xs ys : List α} {us ws : List β}, Paired F xs us → Paired F ys ws → Paired F (xs ++ ys) (us ++ ws)
  | _, _, _, _, .nil, s => s
  | _, _, _, _, .cons r t, s => .cons r (prd_app t s)
theorem prd_take {α β : Type} {F : α → β → Prop} : ∀ {xs : List α} {us : List β} (n : Nat), Paired F xs us → Paired F (xs.take n) (us.take n)
  | _, _, 0, _ => .nil
  | _, _, _ + 1, .nil => .nil
  | _, _, n + 1, .cons r t => .cons r (prd_take n t)
theorem prd_drop {α β : Type} {F : α → β → Prop} : ∀ {xs : List α} {us : List β} (n : Nat), Paired F xs us → Paired F (xs.drop n) (us.drop n)
  | _, _, 0, r => r
  | _, _, _ + 1, .nil => .nil
  | _, _, n + 1, .cons _ t => prd_drop n t
theorem prd_get {α β : Type} {F : α → β → Prop} : ∀ {xs : List α} {us : List β} {i : Nat} {x : α}, Paired F xs us → xs[i]? = some x → ∃ u, us[i]? = some u ∧ F x u
  | _, _, _, _, .nil, h => by simp at h
  | _, _, 0, _, .cons r _, h => by simp at h; subst h; exact ⟨_, rfl, r⟩
  | _, _, i + 1, x, .cons _ t, h => by
    obtain ⟨u, h1, h2⟩ := prd_get (i := i) (x := x) t (by simpa using h)
    exact ⟨u, by simpa using h1, h2⟩
theorem prd_getR {α β : Type} {F : α → β → Prop} : ∀ {xs : List α} {us : List β} {i : Nat} {u : β}, Paired F xs us → us[i]? = some u → ∃ x, xs[i]? = some x ∧ F x u
  | _, _, _, _, .nil, h => by simp at h
  | _, _, 0, _, .cons r _, h => by simp at h; subst h; exact ⟨_, rfl, r⟩
  | _, _, i + 1, x, .cons _ t, h => by
    obtain ⟨u, h1, h2⟩ := prd_getR (i := i) (u := x) t (by simpa using h)
    exact ⟨u, by simpa using h1, h2⟩
/-! ### sorting -/
def insQ (q : Rat) (l : List Rat) : List Rat := l.takeWhile (fun x => decide (x < q)) ++ q :: l.dropWhile (fun x => decide (x < q))
def isort (ns : List Rat) : List Rat := ns.foldl (fun acc q => insQ q acc) []
theorem isort_snoc (ns : List Rat) (q : Rat) : isort (ns ++ [q]) = insQ q (isort ns) := by
  unfold isort
  rw [List.foldl_append]
  rfl
theorem insQ_len (q : Rat) (l : List Rat) : (insQ q l).length = l.length + 1 := by
  have h := congrArg List.length (List.takeWhile_append_dropWhile (p := fun x => decide (x < q)) (l := l))
  unfold insQ
  rw [List.length_append] at h ⊢
  rw [List.length_cons]
  omega
theorem insQ_mem {q x : Rat} {l : List Rat} : x ∈ insQ q l ↔ x = q ∨ x ∈ l := by
  have h : x ∈ l ↔ x ∈ l.takeWhile (fun x => decide (x < q)) ∨ x ∈ l.dropWhile (fun x => decide (x < q)) := by
    rw [← List.mem_append, List.takeWhile_append_dropWhile]
  unfold insQ
  rw [List.mem_append, List.mem_cons, h]
  constructor
  · rintro (h | h | h)
    · exact .inr (.inl h)
    · exact .inl h
    · exact .inr (.inr h)
  · rintro (h | h | h)
    · exact .inr (.inl h)
    · exact .inl h
    · exact .inr (.inr h)
theorem isort_len (ns : List Rat) : (isort ns).length = ns.length := by
  have key : ∀ (l acc : List Rat), (l.foldl (fun acc q => insQ q acc) acc).length = acc.length + l.length := by
    intro l
    induction l with
    | nil => intro acc; rfl
    | cons q l ih =>
      intro acc
      show (l.foldl _ (insQ q acc)).length = _
      rw [ih, insQ_len, List.length_cons]
      omega
  unfold isort
  rw [key]
  simp
theorem isort_mem {ns : List Rat} {x : Rat} : x ∈ isort ns ↔ x ∈ ns := by
  have key : ∀ (l acc : List Rat), x ∈ l.foldl (fun acc q => insQ q acc) acc ↔ x ∈ acc ∨ x ∈ l := by
    intro l
    induction l with
    | nil => intro acc; simp
    | cons q l ih =>
      intro acc
      show x ∈ l.foldl _ (insQ q acc) ↔ _
      rw [ih, insQ_mem, List.mem_cons]
      constructor
      · rintro ((h | h) | h)
        · exact .inr (.inl h)
        · exact .inl h
        · exact .inr (.inr h)
      · rintro (h | h | h)
        · exact .inl (.inr h)
        · exact .inl (.inl h)
        · exact .inr h
  unfold isort
  rw [key]
  simp
theorem rlt {a b c : Rat} (h1 : a < b) (h2 : b < c) : a < c := Rat.not_le.mp fun h => Rat.not_le.mpr h2 (Rat.le_trans h (Rat.le_of_lt h1))
/-- each greater than the one ahead -/
def climbB (qs : List Rat) : Bool := (qs.zip qs.tail).all fun e => decide (e.1 < e.2)
theorem climbB_iff {qs : List Rat} : climbB qs = true ↔ qs.Pairwise (· < ·) := by
  induction qs with
  | nil => simp [climbB]
  | cons q r ih =>
    cases r with
    | nil => simp [climbB]
    | cons p r =>
      have e : climbB (q :: p :: r) = (decide (q < p) && climbB (p :: r)) := rfl
      rw [e, Bool.and_eq_true, ih, decide_eq_true_iff]
      constructor
      · rintro ⟨h1, h2⟩
        refine List.pairwise_cons.mpr ⟨fun x hx => ?_, h2⟩
        rcases List.mem_cons.mp hx with rfl | hx
        · exact h1
        · exact rlt h1 ((List.pairwise_cons.mp h2).1 x hx)
      · intro h
        have h1 := List.pairwise_cons.mp h
        exact ⟨h1.1 p (by simp), h1.2⟩
theorem takeW_mem {α : Type} {p : α → Bool} : ∀ {l : List α} {x : α}, x ∈ l.takeWhile p → p x = true
  | [], _, h => by simp at h
  | y :: l, x, h => by
    rw [List.takeWhile_cons] at h
    cases hy : p y with
    | true =>
      rw [hy, if_pos rfl] at h
      rcases List.mem_cons.mp h with rfl | h
      · exact hy
      · exact takeW_mem h
    | false =>
      rw [hy] at h
      simp at h
theorem dropW_head {α : Type} {p : α → Bool} : ∀ {l : List α} {x : α} {r : List α}, l.dropWhile p = x :: r → p x = false
  | [], _, _, h => by simp at h
  | y :: l, x, r, h => by
    rw [List.dropWhile_cons] at h
    cases hy : p y with
    | true => rw [hy, if_pos rfl] at h; exact dropW_head h
    | false =>
      rw [hy, if_neg Bool.false_ne_true] at h
      injection h with h1 _
      subst h1
      exact hy
/-- sorted weakly -/
theorem insQ_sorted {q : Rat} {l : List Rat} (h : l.Pairwise (· ≤ ·)) : (insQ q l).Pairwise (· ≤ ·) := by
  have hl : (l.takeWhile (fun x => decide (x < q)) ++ l.dropWhile (fun x => decide (x < q))).Pairwise (· ≤ ·) := by rw [List.takeWhile_append_dropWhile]; exact h
  obtain ⟨h1, h2, h3⟩ := List.pairwise_append.mp hl
  unfold insQ
  refine List.pairwise_append.mpr ⟨h1, List.pairwise_cons.mpr ⟨fun y hy => ?_, h2⟩, fun x hx y hy => ?_⟩
  · cases hd : l.dropWhile (fun x => decide (x < q)) with
    | nil => rw [hd] at hy; simp at hy
    | cons z r =>
      have hz : q ≤ z := Rat.not_lt.mp (of_decide_eq_false (dropW_head (p := fun x => decide (x < q)) hd))
      rw [hd] at hy h2
      rcases List.mem_cons.mp hy with rfl | hy
      · exact hz
      · exact Rat.le_trans hz ((List.pairwise_cons.mp h2).1 y hy)
  · have hx' : x < q := of_decide_eq_true (takeW_mem (p := fun x => decide (x < q)) hx)
    rcases List.mem_cons.mp hy with rfl | hy
    · exact Rat.le_of_lt hx'
    · exact h3 x hx y hy
theorem isort_sorted (ns : List Rat) : (isort ns).Pairwise (· ≤ ·) := by
  have key : ∀ (l acc : List Rat), acc.Pairwise (· ≤ ·) → (l.foldl (fun acc q => insQ q acc) acc).Pairwise (· ≤ ·) := by
    intro l
    induction l with
    | nil => intro acc h; exact h
    | cons q l ih => intro acc h; exact ih _ (insQ_sorted h)
  exact key ns [] .nil
/-- two strictly ascending lists with the same members are the same -/
theorem climb_ext : ∀ {ps qs : List Rat}, ps.Pairwise (· < ·) → qs.Pairwise (· < ·) → (∀ x, x ∈ ps ↔ x ∈ qs) → ps = qs
  | [], [], _, _, _ => rfl
  | [], q :: r, _, _, h => absurd ((h q).mpr (by simp)) (by simp)
  | p :: r, [], _, _, h => absurd ((h p).mp (by simp)) (by simp)
  | p :: ps, q :: qs, h1, h2, h => by
    obtain ⟨a1, b1⟩ := List.pairwise_cons.mp h1
    obtain ⟨a2, b2⟩ := List.pairwise_cons.mp h2
    have e : p = q := by
      rcases List.mem_cons.mp ((h p).mp (by simp)) with e | m
      · exact e
      · rcases List.mem_cons.mp ((h q).mpr (by simp)) with e | m'
        · exact e.symm
        · exact absurd (rlt (a2 p m) (a1 q m')) (Rat.lt_irrefl)
    subst e
    have hh : ∀ x, x ∈ ps ↔ x ∈ qs := fun x => by
      constructor
      · intro hx
        rcases List.mem_cons.mp ((h x).mp (List.mem_cons_of_mem _ hx)) with e | m
        · subst e; exact absurd (a1 x hx) Rat.lt_irrefl
        · exact m
      · intro hx
        rcases List.mem_cons.mp ((h x).mpr (List.mem_cons_of_mem _ hx)) with e | m
        · subst e; exact absurd (a2 x hx) Rat.lt_irrefl
        · exact m
    rw [climb_ext b1 b2 hh]
/-- sorting a list that has just the members of an ascending one, as many -/
theorem climb_of_sorted : ∀ {qs : List Rat}, qs.Pairwise (· ≤ ·) → qs.Nodup → qs.Pairwise (· < ·)
  | [], _, _ => .nil
  | q :: r, h, n => by
    obtain ⟨a, b⟩ := List.pairwise_cons.mp h
    obtain ⟨c, d⟩ := List.nodup_cons.mp n
    refine List.pairwise_cons.mpr ⟨fun x hx => ?_, climb_of_sorted b d⟩
    rcases Rat.le_iff_lt_or_eq.mp (a x hx) with h | h
    · exact h
    · subst h; exact absurd hx c
theorem isort_nodup {ns : List Rat} (h : ns.Nodup) : (isort ns).Nodup := by
  have one : ∀ {q : Rat} {l : List Rat}, l.Nodup → q ∉ l → (insQ q l).Nodup := by
    intro q l hl hq
    have hp : (insQ q l).Perm (q :: l) := by
      unfold insQ
      refine List.perm_middle.trans ?_
      rw [List.takeWhile_append_dropWhile]
    exact hp.nodup_iff.mpr (List.nodup_cons.mpr ⟨hq, hl⟩)
  have key : ∀ (l acc : List Rat), (acc ++ l).Nodup → (l.foldl (fun acc q => insQ q acc) acc).Nodup := by
    intro l
    induction l with
    | nil => intro acc h; simpa using h
    | cons q l ih =>
      intro acc h
      refine ih (insQ q acc) ?_
      have hp : (insQ q acc ++ l).Perm (acc ++ q :: l) := by
        have hp1 : (insQ q acc).Perm (acc ++ [q]) := by
          unfold insQ
          refine List.perm_middle.trans ?_
          rw [List.takeWhile_append_dropWhile]
          exact (List.perm_append_comm (l₁ := [q]) (l₂ := acc))
        have := hp1.append_right l
        rw [List.append_assoc] at this
        exact this
      exact hp.nodup_iff.mpr h
  exact key ns [] (by simpa using h)
theorem isort_climb {ns qs : List Rat} (hq : qs.Pairwise (· < ·)) (hp : ns.Perm qs) : isort ns = qs := by
  have nd : ns.Nodup := hp.nodup_iff.mpr (hq.imp fun h e => by subst e; exact absurd h Rat.lt_irrefl)
  refine climb_ext (climb_of_sorted (isort_sorted ns) (isort_nodup nd)) hq fun x => ?_
  rw [isort_mem]
  exact hp.mem_iff
end Fm
namespace Fm
open PySem PySem.Spec PyProof.Rows L2
/-! ### walks over what may be a list or a tuple -/
section
variable {K : PySem.W.Frag} {σ : L2.St} {H : Hp} {Q : VK} {D : Ends} {g : TG} {tb : TS} {tt : TT} {te tl : TE} {vs : List Nat}
theorem lp_Q {p : Addr} {xs : List V} (ht : ∀ Q : VK, Q (.ref p) H → tl σ H Q) (hp : H p = some (.lst xs) ∨ H p = some (.tup xs)) (Pv : Nat → L2.St → Hp → Prop) (h0 : Pv 0 σ H) (hk : ∀ i σ' H', Pv i σ' H' → H' p = H p)
    (hs : ∀ i x σ' H', xs[i]? = some x → Pv i σ' H' → g x σ' H' fun s2 H2 => tb { D with nx := Pv (i + 1), ct := Pv (i + 1), bk := D.nx } s2 H2) (hd : ∀ σ' H', Pv xs.length σ' H' → D.nx σ' H') :
    iList K tl σ H (fun J H1 => Lp J g tb D σ H1) ∨ iTup K tl σ H (fun J H1 => Lp J g tb D σ H1) := by
  rcases hp with hp | hp
  · exact .inl (ht _ ⟨p, rfl, ⟨xs, SqL.of hp⟩, lp_L (xs := xs) Pv h0 (fun i σ' H' _ h => SqL.of ((hk i σ' H' h).trans hp)) hs hd⟩)
  · exact .inr (ht _ ⟨p, rfl, ⟨xs, SqT.of hp⟩, lp_T (xs := xs) Pv h0 (fun i σ' H' _ h => SqT.of ((hk i σ' H' h).trans hp)) hs hd⟩)
theorem cp_Q {p : Addr} {xs : List V} (ht : ∀ Q : VK, Q (.ref p) H → tl σ H Q) (hp : H p = some (.lst xs) ∨ H p = some (.tup xs)) (Pv : Addr → Nat → Hp → Prop) (h0 : ∀ D, H D = none → Pv D 0 (upd H D (.lst []))) (hk : ∀ D, H D = none → ∀ i H', Pv D i H' → H' p = H p)
    (hs : ∀ D, H D = none → ∀ i x H', xs[i]? = some x → Pv D i H' → Turn g tt te vs σ D (Pv D (i + 1)) x H') (hd : ∀ D, H D = none → ∀ H', Pv D xs.length H' → Q (.ref D) H') :
    iList K tl σ H (fun J H1 => Cp J g tt te vs σ H1 Q) ∨ iTup K tl σ H (fun J H1 => Cp J g tt te vs σ H1 Q) := by
  rcases hp with hp | hp
  · exact .inl (ht _ ⟨p, rfl, ⟨xs, SqL.of hp⟩, cp_L (xs := xs) Pv h0 (fun D hD i H' _ h => SqL.of ((hk D hD i H' h).trans hp)) hs hd⟩)
  · exact .inr (ht _ ⟨p, rfl, ⟨xs, SqT.of hp⟩, cp_T (xs := xs) Pv h0 (fun D hD i H' _ h => SqT.of ((hk D hD i H' h).trans hp)) hs hd⟩)
end
theorem tw_step {α : Type} {p : α → Bool} : ∀ {l : List α} {j : Nat} {x : α}, l[j]? = some x → j ≤ (l.takeWhile p).length → (p x = true → j + 1 ≤ (l.takeWhile p).length) ∧ (p x = false → j = (l.takeWhile p).length)
  | [], _, _, h, _ => by simp at h
  | y :: l, 0, x, h, _ => by
    simp at h
    subst h
    rw [List.takeWhile_cons]
    cases hy : p y <;> simp
  | y :: l, j + 1, x, h, hj => by
    rw [List.takeWhile_cons] at hj ⊢
    cases hy : p y with
    | true =>
      rw [hy, if_pos rfl] at hj
      simp only [if_pos, List.length_cons] at hj ⊢
      have := tw_step (p := p) (l := l) (j := j) (x := x) (by simpa using h) (by omega)
      exact ⟨fun q => by have := this.1 q; omega, fun q => by have := this.2 q; omega⟩
    | false =>
      rw [hy] at hj
      simp at hj
theorem insQ_cut (q : Rat) (l : List Rat) : insQ q l = l.take (l.takeWhile fun x => decide (x < q)).length ++ [q] ++ l.drop (l.takeWhile fun x => decide (x < q)).length := by
  have h := List.takeWhile_append_dropWhile (p := fun x => decide (x < q)) (l := l)
  have h1 : l.take (l.takeWhile fun x => decide (x < q)).length = l.takeWhile fun x => decide (x < q) := by
    conv => lhs; arg 2; rw [← h]
    rw [List.take_left]
  have h2 : l.drop (l.takeWhile fun x => decide (x < q)).length = l.dropWhile fun x => decide (x < q) := by
    conv => lhs; arg 2; rw [← h]
    rw [List.drop_left]
  rw [h1, h2]
  unfold insQ
  simp
theorem tw_le {α : Type} {p : α → Bool} (l : List α) : (l.takeWhile p).length ≤ l.length := by
  have h := congrArg List.length (List.takeWhile_append_dropWhile (p := p) (l := l))
  rw [List.length_append] at h
  omega
theorem fineL_mem : ∀ {l : List Da} {d : Da}, fineL l = true → d ∈ l → d.fine = true
  | [], _, _, h => by simp at h
  | e :: l, d, hf, h => by
    unfold fineL at hf
    rw [Bool.and_eq_true] at hf
    rcases List.mem_cons.mp h with rfl | h
    · exact hf.1
    · exact fineL_mem hf.2 h
theorem cut_tail (xs : List V) : cutV xs (some 1) none = xs.tail := by
  unfold cutV
  rw [← List.drop_one]
  cases xs with
  | nil => simp
  | cons x r =>
    have h1 : HT.sIx (x :: r).length 0 (some 1) = 1 := by
      unfold HT.sIx
      simp
    have h2 : HT.sIx (x :: r).length (x :: r).length none = (x :: r).length := rfl
    rw [h1, h2]
    simp
section
variable {K : PySem.W.Frag} {σ : L2.St} {H : Hp} {Q : VK} {ta : TA} {te : TE} {R : It → Hp → Prop}
theorem g_izip (q : ta σ H fun vs H1 => ∃ a b xs ys, vs = [.ref a, .ref b] ∧ SqL K H1 a xs ∧ SqL K H1 b ys ∧ R (Itz K a b) H1) : iZip K ta σ H R := q
theorem g_ienum (q : ta σ H fun vs H1 => ∃ a xs, vs = [.ref a] ∧ SqL K H1 a xs ∧ R (Ite K a) H1) : iEnum K ta σ H R := q
theorem g_bm0 {T : String} {r : V → List V → Hp → VK → Prop} (q : te σ H fun x H1 => tyV K T x H1 ∧ r x [] H1 Q) : tBM0 K T r te σ H Q := q
end
theorem g_mko {C : Addr} {sp : Sp} {dvs : List V} {ta : TA} {σ : L2.St} {H : Hp} {Q : XK} (q : ta σ H fun vs H1 => vs.length ≤ 1000 ∧ ∀ a, H1 a = none → sp (.ref a :: (vs ++ dvs)) (upd H1 a (exo a C none)) (fun v H2 => v = .non ∧ ∃ (d : Addr) (fs : List (Str × V)), H2 a = some (exo a C (some d)) ∧ H2 d = some (exd d fs) ∧ H1 d = none ∧ Q (.ref C) (some d) (upd (del H2 a) d (.xd fs))) (fun _ _ _ => False)) : tMkO C sp dvs ta σ H Q := q
theorem g_lenLT {K : PySem.W.Frag} {H : Hp} {Q : VK} {p : Addr} {xs : List V} (h : H p = some (.lst xs) ∨ H p = some (.tup xs)) (q : Q (.int (xs.length : Int)) H) : rLenQ K [.ref p] H Q := ⟨p, xs, rfl, h.imp SqL.of SqT.of, q⟩
theorem nums_seq {C : Addr} {H : Hp} {v : V} {d : Da} (h : DaV C H v d) (n : d.nums = true) : ∃ p xs ds, v = .ref p ∧ (d = .lst ds ∨ d = .tup ds) ∧ (H p = some (.lst xs) ∨ H p = some (.tup xs)) ∧ DaVs C H xs ds ∧ ds.all Da.isNum = true := by
  cases h with
  | lst h r => exact ⟨_, _, _, rfl, .inl rfl, .inl h, r, n⟩
  | tup h r => exact ⟨_, _, _, rfl, .inr rfl, .inr h, r, n⟩
  | _ => cases n
theorem fine_seq {d : Da} {ds : List Da} (h : d = .lst ds ∨ d = .tup ds) (f : d.fine = true) : ds.length ≤ 1000 ∧ fineL ds = true := by
  rcases h with rfl | rfl
  · unfold Da.fine at f
    rw [Bool.and_eq_true] at f
    exact ⟨of_decide_eq_true f.1, f.2⟩
  · unfold Da.fine at f
    rw [Bool.and_eq_true] at f
    exact ⟨of_decide_eq_true f.1, f.2⟩
theorem opR_or {X : Cx} {f : Value → Value → Sem Value} {r1 r2 : R2} (h1 : OpR X f r1) (h2 : OpR X f r2) : OpR X f (fun x y H Q => r1 x y H Q ∨ r2 x y H Q) := fun pins s σ H x y v u Q I rx ry h => h.elim (h1 pins s σ H x y v u Q I rx ry) (h2 pins s σ H x y v u Q I rx ry)
theorem marks_look (m : Addr) : (putF "_marks" (V.ref m) [] : List (Str × V)).lookup ("_marks" : Str) = some (.ref m) := by
  rw [lookup_putF, if_pos rfl]
theorem marks_no (m : Addr) {n : Str} (h : ¬ n = "_marks") : (putF "_marks" (V.ref m) [] : List (Str × V)).lookup n = none := by
  rw [lookup_putF, if_neg h]
  rfl
section
variable {K : PySem.W.Frag} {σ : L2.St} {H : Hp} {D : Ends} {g : TG} {tb : TS}
theorem lp_E {a : Addr} {xs : List V} (Pv : Nat → L2.St → Hp → Prop) (h0 : Pv 0 σ H) (hl : ∀ i σ H, i ≤ xs.length → Pv i σ H → SqL K H a xs)
    (hs : ∀ i x t σ H, xs[i]? = some x → Pv i σ H → H t = none → g (.ref t) σ (upd H t (.tup [.int (i : Int), x])) fun s2 H2 => tb { D with nx := Pv (i + 1), ct := Pv (i + 1), bk := D.nx } s2 H2) (hd : ∀ σ H, Pv xs.length σ H → D.nx σ H) : Lp (Ite K a) g tb D σ H := by
  refine ⟨fun i m σ H => m = xs.length - i ∧ i ≤ xs.length ∧ Pv i σ H, ⟨xs.length, by simp, Nat.zero_le _, h0⟩, ?_⟩
  rintro i m σ H ⟨rfl, hi, p⟩
  have q := hl i σ H hi p
  by_cases hlt : i < xs.length
  · refine .inr ⟨⟨xs, xs[i], q, by simp [hlt]⟩, Pv (i + 1), fun σ' H' p' => ⟨xs.length - (i + 1), by omega, rfl, hlt, p'⟩, fun x H' y => ?_⟩
    obtain ⟨t, x0, e, ht, e2, y1⟩ := y
    subst e
    subst e2
    exact hs i x0 t σ _ (y1 xs q) p ht
  · have e : i = xs.length := by omega
    subst e
    exact .inl ⟨⟨xs, q, Nat.le_refl _⟩, hd σ H p⟩
end
theorem led_inj {q r f d : Rat} (hf : f ≠ 0) (h : q * f + d = r * f + d) : q = r := by
  have h1 := Rat.add_right_cancel _ h
  have h2 := congrArg (· * f⁻¹) h1
  simp only [Rat.mul_assoc, Rat.mul_inv_cancel f hf, Rat.mul_one] at h2
  exact h2
theorem nodup_map {f : Rat → Rat} (hf : ∀ a b, f a = f b → a = b) : ∀ {l : List Rat}, l.Nodup → (l.map f).Nodup
  | [], _ => .nil
  | q :: l, h => by
    obtain ⟨h1, h2⟩ := List.nodup_cons.mp h
    refine List.nodup_cons.mpr ⟨fun hm => ?_, nodup_map hf h2⟩
    obtain ⟨r, hr, e⟩ := List.mem_map.mp hm
    exact h1 (hf _ _ e ▸ hr)
theorem asc_nodup {l : List Rat} (h : l.Pairwise (· < ·)) : l.Nodup := h.imp fun h e => by subst e; exact absurd h Rat.lt_irrefl
theorem led_climb {qs : List Rat} {f d : Rat} (hq : qs.Pairwise (· < ·)) (hf : f ≠ 0) : climbB (isort (qs.map fun q => q * f + d)) = true :=
  climbB_iff.mpr (climb_of_sorted (isort_sorted _) (isort_nodup (nodup_map (fun _ _ h => led_inj hf h) (asc_nodup hq))))
theorem rats_num (qs : List Rat) : (qs.map Da.rat).map Da.num = qs := by
  rw [List.map_map]
  exact List.map_id'' (fun _ => rfl) qs
theorem rats_all (qs : List Rat) : (qs.map Da.rat).all Da.isNum = true := by
  rw [List.all_map]
  exact List.all_eq_true.mpr fun _ _ => rfl
theorem rats_fine {qs : List Rat} (h : ∀ q ∈ qs, Sz 200 q) : fineL (qs.map Da.rat) = true := by
  induction qs with
  | nil => rfl
  | cons q r ih =>
    show (Da.fine (.rat q) && fineL (r.map Da.rat)) = true
    rw [ih fun q hq => h q (List.mem_cons_of_mem _ hq), Bool.and_true]
    have := h q (by simp)
    unfold Da.fine
    rw [Bool.and_eq_true]
    exact ⟨decide_eq_true this.1, decide_eq_true this.2⟩
theorem g_eqNI {K : PySem.W.Frag} {C : Addr} {H : Hp} {Q : VK} {E : XK} {v : V} {q : Rat} {c : Int} (R : RC K C) (h : NumV C H v q) (sc : Sz 3000 (c : Rat)) (z : ∀ H', Ex H H' → Q (.bl (decide (q = (c : Rat)))) H') : rEq v (.int c) H Q ∨ rCmpOwn K C (spEqV K C) E v (.int c) H Q := by
  rcases h with ⟨n, rfl, rfl⟩ | h
  · refine .inl (g_eqI ?_)
    have e : decide (n = c) = decide ((n : Rat) = (c : Rat)) := decide_eq_decide.mpr Rat.intCast_inj.symm
    rw [e]
    exact z H (Ex.refl H)
  · exact .inr (g_eqN R h NumV.int sc (by decide) z)
end Fm

set_option maxHeartbeats 2000000
namespace Fm
open PySem PySem.Spec PyProof.Rows L2
/-! ### a dict that is walked stands locked; repr of plain values -/
section
variable {C : Addr} {H : Hp} {a : Addr} {ks : List (Key × V)} {o : HO}
mutual
theorem DaV.lock (ha : H a = some (.dK ks)) : ∀ {v : V} {d : Da}, DaV C H v d → d.noDic = true → DaV C (upd H a o) v d
  | _, _, .non, _ => .non
  | _, _, .bl b, _ => .bl b
  | _, _, .int i, _ => .int i
  | _, _, .str s, _ => .str s
  | _, _, .rat h, _ => by
    obtain ⟨p, e, dx, hp⟩ := h
    exact .rat ⟨p, e, dx, by rw [upd_ne fun z => by rw [z, ha] at hp; cases hp]; exact hp⟩
  | _, _, .lst h r, n => .lst (by rw [upd_ne fun z => by rw [z, ha] at h; cases h]; exact h) (DaVs.lock ha r n)
  | _, _, .tup h r, n => .tup (by rw [upd_ne fun z => by rw [z, ha] at h; cases h]; exact h) (DaVs.lock ha r n)
  | _, _, .dic h r, n => by cases n
theorem DaVs.lock (ha : H a = some (.dK ks)) : ∀ {vs : List V} {ds : List Da}, DaVs C H vs ds → noDicL ds = true → DaVs C (upd H a o) vs ds
  | _, _, .nil, _ => .nil
  | _, _, .cons h r, n => by
    unfold noDicL at n
    rw [Bool.and_eq_true] at n
    exact .cons (DaV.lock ha h n.1) (DaVs.lock ha r n.2)
end
end

mutual
/-- a value that is told, made of texts, ints, and lists and tuples that are new since H0 -/
inductive DpN (H0 H : Hp) : V → PyData → Prop
  | int (i : Int) : DpN H0 H (.int i) (.int i)
  | str (s : Str) : DpN H0 H (.str s) (.str s)
  | lst {p : Addr} {xs : List V} {ds : List PyData} (n : H0 p = none) (h : H p = some (.lst xs)) (r : DpNs H0 H xs ds) : DpN H0 H (.ref p) (.list ds)
  | tup {p : Addr} {xs : List V} {ds : List PyData} (n : H0 p = none) (h : H p = some (.tup xs)) (r : DpNs H0 H xs ds) : DpN H0 H (.ref p) (.tuple ds)
inductive DpNs (H0 H : Hp) : List V → List PyData → Prop
  | nil : DpNs H0 H [] []
  | cons {v : V} {d : PyData} {vs : List V} {ds : List PyData} (h : DpN H0 H v d) (r : DpNs H0 H vs ds) : DpNs H0 H (v :: vs) (d :: ds)
end
section
variable {K : PySem.W.Frag} {H0 H : Hp}
mutual
theorem DpN.mono {H' : Hp} (e : Ex H H') : ∀ {v : V} {d : PyData}, DpN H0 H v d → DpN H0 H' v d
  | _, _, .int i => .int i
  | _, _, .str s => .str s
  | _, _, .lst n h r => .lst n (e _ _ h) (DpNs.mono e r)
  | _, _, .tup n h r => .tup n (e _ _ h) (DpNs.mono e r)
theorem DpNs.mono {H' : Hp} (e : Ex H H') : ∀ {vs : List V} {ds : List PyData}, DpNs H0 H vs ds → DpNs H0 H' vs ds
  | _, _, .nil => .nil
  | _, _, .cons h r => .cons (DpN.mono e h) (DpNs.mono e r)
end
mutual
theorem DpN.weak {H1 : Hp} (e : ∀ p, H0 p = none → H1 p = none) : ∀ {v : V} {d : PyData}, DpN H0 H v d → DpN H1 H v d
  | _, _, .int i => .int i
  | _, _, .str s => .str s
  | _, _, .lst n h r => .lst (e _ n) h (DpNs.weak e r)
  | _, _, .tup n h r => .tup (e _ n) h (DpNs.weak e r)
theorem DpNs.weak {H1 : Hp} (e : ∀ p, H0 p = none → H1 p = none) : ∀ {vs : List V} {ds : List PyData}, DpNs H0 H vs ds → DpNs H1 H vs ds
  | _, _, .nil => .nil
  | _, _, .cons h r => .cons (DpN.weak e h) (DpNs.weak e r)
end
mutual
theorem DpN.set {D : Addr} {ob o : HO} (hD : H0 D = some ob) : ∀ {v : V} {d : PyData}, DpN H0 H v d → DpN H0 (upd H D o) v d
  | _, _, .int i => .int i
  | _, _, .str s => .str s
  | _, _, .lst n h r => .lst n (by rw [upd_ne fun z => by rw [z, hD] at n; cases n]; exact h) (DpNs.set hD r)
  | _, _, .tup n h r => .tup n (by rw [upd_ne fun z => by rw [z, hD] at n; cases n]; exact h) (DpNs.set hD r)
theorem DpNs.set {D : Addr} {ob o : HO} (hD : H0 D = some ob) : ∀ {vs : List V} {ds : List PyData}, DpNs H0 H vs ds → DpNs H0 (upd H D o) vs ds
  | _, _, .nil => .nil
  | _, _, .cons h r => .cons (DpN.set hD h) (DpNs.set hD r)
end
mutual
theorem DpN.dp : ∀ {v : V} {d : PyData}, DpN H0 H v d → Dp K H v d
  | _, _, .int i => .int i
  | _, _, .str s => .str s
  | _, _, .lst _ h r => .lst (SqL.of h) (DpNs.dp r)
  | _, _, .tup _ h r => .tup (SqT.of h) (DpNs.dp r)
theorem DpNs.dp : ∀ {vs : List V} {ds : List PyData}, DpNs H0 H vs ds → DpAll K H vs ds
  | _, _, .nil => .nil
  | _, _, .cons h r => .cons (DpN.dp h) (DpNs.dp r)
end
theorem DpNs.snoc {v : V} {d : PyData} (h : DpN H0 H v d) : ∀ {vs : List V} {ds : List PyData}, DpNs H0 H vs ds → DpNs H0 H (vs ++ [v]) (ds ++ [d])
  | _, _, .nil => .cons h .nil
  | _, _, .cons q r => .cons q (DpNs.snoc h r)
theorem DpNs.length : ∀ {vs : List V} {ds : List PyData}, DpNs H0 H vs ds → vs.length = ds.length
  | _, _, .nil => rfl
  | _, _, .cons _ r => congrArg Nat.succ r.length
end
theorem shL_app : ∀ (l m : List Da), shL (l ++ m) = shL l ++ shL m
  | [], _ => rfl
  | d :: l, m => by
    show d.sh :: shL (l ++ m) = d.sh :: (shL l ++ shL m)
    rw [shL_app l m]
theorem shD_app : ∀ (l m : List (Str × Da)), shD (l ++ m) = shD l ++ shD m
  | [], _ => rfl
  | (s, d) :: l, m => by
    show _ :: shD (l ++ m) = _ :: (shD l ++ shD m)
    rw [shD_app l m]
theorem shL_len : ∀ l : List Da, (shL l).length = l.length
  | [] => rfl
  | d :: l => congrArg Nat.succ (shL_len l)
/-- repr of None, a bool, an int, a text -/
def rReprF : List V → Hp → VK → Prop := fun xs H Q => (xs = [.non] ∧ Q (.str "None") H) ∨ (∃ b : Bool, xs = [.bl b] ∧ Q (.str ((if b then "True" else "False" : String) : Str)) H) ∨ (∃ i : Int, xs = [.int i] ∧ i.natAbs.log2 < 1920 ∧ Q (.str (toString i)) H) ∨ ∃ s : Str, xs = [.str s] ∧ (reprText s).length ≤ sizeLine ∧ Q (.str (reprText s)) H
theorem cr_reprF {X : Cx} : CallR X (.builtin "repr") rReprF := by
  intro pins s σ H xs us Q I r h
  rcases h with ⟨rfl, q⟩ | ⟨b, rfl, q⟩ | ⟨i, rfl, hi, q⟩ | ⟨x, rfl, hx, q⟩
  · obtain ⟨u, rfl, hv⟩ := vals1 r
    cases hv
    exact PySem.P.repr_of_none ⟨.str "None", H, I.tok _, ⟨_, rfl⟩, q⟩
  · obtain ⟨u, rfl, hv⟩ := vals1 r
    cases hv
    refine PySem.P.repr_of_bool ⟨.str _, H, I.tok _, ⟨_, rfl⟩, ?_⟩
    cases b <;> exact q
  · obtain ⟨u, rfl, t, rfl⟩ := vals1 r
    exact PySem.P.repr_of_int hi ⟨.str _, H, I.tok _, ⟨_, rfl⟩, q⟩
  · obtain ⟨u, rfl, t, rfl⟩ := vals1 r
    exact PySem.P.repr_of_str ⟨.str _, H, I.tok _, ⟨_, rfl⟩, q⟩ hx
theorem newD {H1 H' : Hp} {D : Addr} {o ob : HO} (e : Ex H1 H') (hd : H' D = some ob) : ∀ p, H' p = none → (upd H1 D o) p = none := fun p hp => by
  rw [upd_ne fun z => by rw [z, hd] at hp; cases hp]
  exact e.free hp
theorem fine_int {i : Int} (h : (Da.int i).fine = true) : i.natAbs.log2 < 1920 := by
  unfold Da.fine at h
  have h1 : i.natAbs < 2 ^ 200 := of_decide_eq_true h
  by_cases h0 : i.natAbs = 0
  · rw [h0]; decide
  · exact Nat.lt_of_lt_of_le ((Nat.log2_lt h0).mpr h1) (by decide)
theorem fine_str {s : Str} (h : (Da.str s).fine = true) : (reprText s).length ≤ sizeLine := by
  unfold Da.fine fineS at h
  rw [Bool.and_eq_true, Bool.and_eq_true] at h
  exact of_decide_eq_true h.2
theorem fineS_len {s : Str} (h : fineS s = true) : (reprText s).length ≤ sizeLine := by
  unfold fineS at h
  rw [Bool.and_eq_true, Bool.and_eq_true] at h
  exact of_decide_eq_true h.2
theorem dpL_mem : ∀ {l : List Da} {d : Da}, d ∈ l → d.dp ≤ dpL l
  | [], _, h => by simp at h
  | e :: l, d, h => by
    unfold dpL
    rcases List.mem_cons.mp h with rfl | h
    · exact Nat.le_max_left _ _
    · exact Nat.le_trans (dpL_mem h) (Nat.le_max_right _ _)
section
variable {σ : L2.St} {H : Hp} {Q : VK} {g : TG} {te : TE} {tt : TT} {vs : List Nat}
theorem cp_K {a : Addr} {od : Obj} {ks : List (Key × V)} (Pv : Addr → Nat → Hp → Prop) (h0 : ∀ D, H D = none → Pv D 0 (upd H D (.lst []))) (hl : ∀ D, H D = none → ∀ i H', Pv D i H' → H' a = some (.frz od (.dK ks)))
    (hs : ∀ D, H D = none → ∀ i k v H', ks[i]? = some (k, v) → Pv D i H' → Turn g tt te vs σ D (Pv D (i + 1)) (kV k) H') (hd : ∀ D, H D = none → ∀ H', Pv D ks.length H' → Q (.ref D) H') : Cp (Itk a od ks) g tt te vs σ H Q := by
  intro D hD
  refine ⟨fun i m H' => m = ks.length - i ∧ i ≤ ks.length ∧ Pv D i H', ⟨ks.length, by simp, Nat.zero_le _, h0 D hD⟩, ?_⟩
  rintro i m H' ⟨rfl, hi, p⟩
  have q := hl D hD i H' p
  by_cases hlt : i < ks.length
  · refine .inr ⟨⟨q, hlt⟩, Pv D (i + 1), fun H' p' => ⟨ks.length - (i + 1), by omega, rfl, hlt, p'⟩, fun x H2 y => ?_⟩
    obtain ⟨e, k, v, hk, e2⟩ := y
    subst e
    subst e2
    exact hs D hD i k v _ hk p
  · have e : i = ks.length := by omega
    subst e
    exact .inl ⟨⟨q, Nat.le_refl _⟩, hd D hD _ p⟩
end
theorem DaKs.at {C : Addr} {H : Hp} : ∀ {ks : List (Key × V)} {ds : List (Str × Da)} {i : Nat} {k : Key} {v : V}, DaKs C H ks ds → ks[i]? = some (k, v) → ∃ s d, ds[i]? = some (s, d) ∧ k = .inr s ∧ DaV C H v d
  | _, _, _, _, _, .nil, h => by simp at h
  | _, _, 0, k, v, .cons h _, e => by
    simp at e
    obtain ⟨rfl, rfl⟩ := e
    exact ⟨_, _, rfl, rfl, h⟩
  | _, _, i + 1, k, v, .cons _ r, e => by
    obtain ⟨s, d, h1, h2⟩ := DaKs.at (i := i) r (by simpa using e)
    exact ⟨s, d, by simpa using h1, h2⟩
theorem DaKs.length {C : Addr} {H : Hp} : ∀ {ks : List (Key × V)} {ds : List (Str × Da)}, DaKs C H ks ds → ks.length = ds.length
  | _, _, .nil => rfl
  | _, _, .cons _ r => congrArg Nat.succ r.length
theorem fineD_mem : ∀ {l : List (Str × Da)} {s : Str} {d : Da}, fineD l = true → (s, d) ∈ l → fineS s = true ∧ d.fine = true ∧ d.noDic = true
  | [], _, _, _, h => by simp at h
  | (t, e) :: l, s, d, hf, h => by
    unfold fineD at hf
    simp only [Bool.and_eq_true] at hf
    rcases List.mem_cons.mp h with h | h
    · obtain ⟨rfl, rfl⟩ := Prod.mk.inj h
      exact ⟨hf.1.1.1, hf.1.1.2, hf.1.2⟩
    · exact fineD_mem hf.2 h
theorem dpD_mem : ∀ {l : List (Str × Da)} {s : Str} {d : Da}, (s, d) ∈ l → d.dp ≤ dpD l
  | [], _, _, h => by simp at h
  | (t, e) :: l, s, d, h => by
    unfold dpD
    rcases List.mem_cons.mp h with h | h
    · obtain ⟨rfl, rfl⟩ := Prod.mk.inj h
      exact Nat.le_max_left _ _
    · exact Nat.le_trans (dpD_mem h) (Nat.le_max_right _ _)
theorem shD_len : ∀ l : List (Str × Da), (shD l).length = l.length
  | [] => rfl
  | (_, _) :: l => congrArg Nat.succ (shD_len l)
theorem dpN_str {H0 H : Hp} {v : V} {s : Str} (h : DpN H0 H v (.str s)) : v = .str s := by
  cases h
  rfl
theorem perm_erase {α : Type} : ∀ {l : List α} {i : Nat} (h : i < l.length), (l[i] :: l.eraseIdx i).Perm l
  | _ :: _, 0, _ => .refl _
  | x :: l, i + 1, h => by
      show (l[i]'(Nat.lt_of_succ_lt_succ h) :: x :: l.eraseIdx i).Perm (x :: l)
      exact (List.Perm.swap x _ _).trans ((perm_erase (Nat.lt_of_succ_lt_succ h)).cons x)
/-- the value of a key among others -/
theorem DaKs.look {C : Addr} {H : Hp} : ∀ {ks : List (Key × V)} {ds : List (Str × Da)} {i : Nat} {s : Str} {v : V}, DaKs C H ks ds → (ds.map (·.1)).Nodup → ks[i]? = some (.inr s, v) → valV ks (.inr s) = some v
  | _, _, _, _, _, .nil, _, h => by simp at h
  | _, _, 0, s, v, .cons h r, _, e => by
    simp at e
    obtain ⟨e1, e2⟩ := e
    subst e1
    subst e2
    unfold valV
    rw [List.find?_cons_of_pos (by simp)]
    rfl
  | _, _, i + 1, s, v, .cons (s := s0) h r, hn, e => by
    rw [List.map_cons, List.nodup_cons] at hn
    have e : _ := (by simpa using e)
    have ih := DaKs.look (i := i) (s := s) (v := v) r hn.2 e
    have hne : s0 ≠ s := fun z => hn.1 (by
      obtain ⟨s1, d1, h1, h2, _⟩ := r.at e
      injection h2 with h2
      subst h2
      rw [z]
      exact List.mem_map.mpr ⟨_, List.mem_of_getElem? h1, rfl⟩)
    unfold valV at ih ⊢
    rw [List.find?_cons_of_neg (by simp; exact hne)]
    exact ih
end Fm

set_option maxHeartbeats 2000000
namespace Fm
open PySem PySem.Spec PyProof.Rows L2
/-! ### sorting keeps the members, twice named ones too -/
theorem insQ_perm (q : Rat) (l : List Rat) : (insQ q l).Perm (q :: l) := by
  unfold insQ
  refine List.perm_middle.trans (.cons q ?_)
  rw [List.takeWhile_append_dropWhile]
theorem foldl_ins_perm : ∀ (ns acc : List Rat), (ns.foldl (fun acc q => insQ q acc) acc).Perm (ns ++ acc)
  | [], acc => .refl _
  | q :: r, acc => (foldl_ins_perm r (insQ q acc)).trans (((insQ_perm q acc).append_left r).trans List.perm_middle)
theorem isort_perm (ns : List Rat) : (isort ns).Perm ns := by
  have h := foldl_ins_perm ns []
  rw [List.append_nil] at h
  exact h
theorem climb_nodup {ns : List Rat} (h : climbB (isort ns) = true) : ns.Nodup := (isort_perm ns).nodup_iff.mp (asc_nodup (climbB_iff.mp h))
theorem dup_take {qs : List Rat} (h : 1 ≤ qs.length) : ¬ (qs ++ qs.take 1).Nodup := by
  cases qs with
  | nil => cases h
  | cons q r =>
    intro n
    rw [List.nodup_append] at n
    exact n.2.2 q (List.mem_cons_self) q (by simp) rfl
theorem daVs_ints {C : Addr} {H : Hp} (f : Nat → Int) : ∀ l : List Nat, DaVs C H (l.map fun k => V.int (f k)) (l.map fun k => Da.int (f k))
  | [] => .nil
  | _ :: r => .cons (.int _) (daVs_ints f r)
theorem DaVs.app {C : Addr} {H : Hp} : ∀ {vs ws : List V} {ds es : List Da}, DaVs C H vs ds → DaVs C H ws es → DaVs C H (vs ++ ws) (ds ++ es)
  | _, _, _, _, .nil, q => q
  | _, _, _, _, .cons h r, q => .cons h (DaVs.app r q)
end Fm

set_option maxHeartbeats 2000000
namespace Fm
open PySem PySem.Spec PyProof.Rows L2
/-! ### inserting what is not there yet -/
def insU (q : Rat) (l : List Rat) : List Rat := if (l.dropWhile (fun x => decide (x < q))).head? = some q then l else insQ q l
def dst (ns : List Rat) : List Rat := ns.foldl (fun acc q => insU q acc) []
theorem dst_snoc (ns : List Rat) (q : Rat) : dst (ns ++ [q]) = insU q (dst ns) := by
  unfold dst
  rw [List.foldl_append]
  rfl
theorem insU_has {q : Rat} {l : List Rat} (h : l.Pairwise (· < ·)) : (l.dropWhile (fun x => decide (x < q))).head? = some q ↔ q ∈ l := by
  have e := List.takeWhile_append_dropWhile (p := fun x => decide (x < q)) (l := l)
  have hl : (l.takeWhile (fun x => decide (x < q)) ++ l.dropWhile (fun x => decide (x < q))).Pairwise (· < ·) := by rw [e]; exact h
  obtain ⟨_, h2, _⟩ := List.pairwise_append.mp hl
  constructor
  · intro hh
    rw [← e]
    exact List.mem_append_right _ (List.mem_of_mem_head? hh)
  · intro hm
    rw [← e] at hm
    rcases List.mem_append.mp hm with hm | hm
    · exact absurd (of_decide_eq_true (takeW_mem (p := fun x => decide (x < q)) hm)) Rat.lt_irrefl
    · cases hd : l.dropWhile (fun x => decide (x < q)) with
      | nil => rw [hd] at hm; simp at hm
      | cons z r =>
        have hz : q ≤ z := Rat.not_lt.mp (of_decide_eq_false (dropW_head (p := fun x => decide (x < q)) hd))
        rw [hd] at hm h2
        rcases List.mem_cons.mp hm with rfl | hm
        · rfl
        · exact absurd ((List.pairwise_cons.mp h2).1 q hm) (Rat.not_lt.mpr hz)
theorem insQ_strict {q : Rat} {l : List Rat} (h : l.Pairwise (· < ·)) (hq : q ∉ l) : (insQ q l).Pairwise (· < ·) :=
  climb_of_sorted (insQ_sorted (h.imp fun h => Rat.le_of_lt h)) ((insQ_perm q l).nodup_iff.mpr (List.nodup_cons.mpr ⟨hq, asc_nodup h⟩))
theorem dst_key : ∀ (l acc : List Rat), acc.Pairwise (· < ·) → (l.foldl (fun acc q => insU q acc) acc).Pairwise (· < ·) ∧ (∀ x, x ∈ l.foldl (fun acc q => insU q acc) acc ↔ x ∈ acc ∨ x ∈ l) ∧
    (l.foldl (fun acc q => insU q acc) acc).length ≤ acc.length + l.length ∧ ((l.foldl (fun acc q => insU q acc) acc).length = acc.length + l.length → (acc ++ l).Nodup) := by
  intro l
  induction l with
  | nil => intro acc h; exact ⟨h, fun x => by simp, by simp, fun _ => by simpa using asc_nodup h⟩
  | cons q l ih =>
    intro acc h
    by_cases hq : q ∈ acc
    · have e : insU q acc = acc := by unfold insU; rw [if_pos ((insU_has h).mpr hq)]
      have r := ih acc h
      rw [List.foldl_cons, e, List.length_cons]
      refine ⟨r.1, fun x => (r.2.1 x).trans ?_, by have := r.2.2.1; omega, fun h => by have := r.2.2.1; omega⟩
      rw [List.mem_cons]
      constructor
      · rintro (h | h)
        · exact .inl h
        · exact .inr (.inr h)
      · rintro (h | rfl | h)
        · exact .inl h
        · exact .inl hq
        · exact .inr h
    · have e : insU q acc = insQ q acc := by unfold insU; rw [if_neg (fun w => hq ((insU_has h).mp w))]
      have r := ih (insQ q acc) (insQ_strict h hq)
      have hl := insQ_len q acc
      rw [List.foldl_cons, e, List.length_cons]
      refine ⟨r.1, fun x => (r.2.1 x).trans ?_, by have := r.2.2.1; omega, fun h => ?_⟩
      · rw [List.mem_cons, insQ_mem]
        constructor
        · rintro ((h | h) | h)
          · exact .inr (.inl h)
          · exact .inl h
          · exact .inr (.inr h)
        · rintro (h | h | h)
          · exact .inl (.inr h)
          · exact .inl (.inl h)
          · exact .inr h
      · have n := r.2.2.2 (by omega)
        have p : (insQ q acc ++ l).Perm (acc ++ q :: l) := ((insQ_perm q acc).append_right l).trans (List.perm_middle (l₁ := acc) (l₂ := l) (a := q)).symm
        exact p.nodup_iff.mp n
theorem dst_asc (ns : List Rat) : (dst ns).Pairwise (· < ·) := (dst_key ns [] .nil).1
theorem dst_mem {ns : List Rat} {x : Rat} : x ∈ dst ns ↔ x ∈ ns := ((dst_key ns [] .nil).2.1 x).trans (by simp)
theorem dst_len (ns : List Rat) : (dst ns).length ≤ ns.length := by
  have h := (dst_key ns [] .nil).2.2.1
  show (ns.foldl (fun acc q => insU q acc) []).length ≤ _
  simpa using h
theorem dst_nodup {ns : List Rat} (h : ns.length ≤ (dst ns).length) : ns.Nodup := by
  have := (dst_key ns [] .nil).2.2.2 (by have := dst_len ns; unfold dst at this h; simp; omega)
  simpa using this
theorem dst_isort {ns : List Rat} (h : ns.Nodup) : dst ns = isort ns :=
  climb_ext (dst_asc ns) (climb_of_sorted (isort_sorted ns) (isort_nodup h)) fun x => dst_mem.trans isort_mem.symm
/-- as long as the list: each once -/
theorem dst_climb (ns : List Rat) : (ns.length ≤ (dst ns).length ↔ climbB (isort ns) = true) ∧ (climbB (isort ns) = true → dst ns = isort ns) := by
  have b : climbB (isort ns) = true → ns.Nodup := climb_nodup
  refine ⟨⟨fun h => ?_, fun h => ?_⟩, fun h => dst_isort (b h)⟩
  · rw [← dst_isort (dst_nodup h)]
    exact climbB_iff.mpr (dst_asc ns)
  · rw [dst_isort (b h), isort_len]
    exact Nat.le_refl _
end Fm

set_option maxHeartbeats 2000000
namespace Fm
open PySem PySem.Spec PyProof.Rows L2
/-! ### a try whose clauses have names or none -/
/-- a clause: what it catches, the slot of its name (if any), its suite's reading -/
structure Cl where
  cls : Value
  slot : Option Nat
  ts : Addr → Value → Option Addr → TS
/-- the ends of a suite whose name goes behind it -/
def Ends.drop (i : Nat) (D : Ends) : Ends := { nx := fun m G => D.nx (m.set i none) G, rt := D.rt, bk := fun m G => D.bk (m.set i none) G, ct := fun m G => D.ct (m.set i none) G }
/-- what a clause's suite wishes -/
def Cl.wish (c : Cl) (a : Addr) (cls : Value) (d : Option Addr) (D : Ends) (m : L2.St) (G : Hp) : Prop := match c.slot with
  | none => c.ts a cls d D m G
  | some i => c.ts a cls d (Ends.drop i D) (m.set i (some (.ref a))) G
def wCls (K : PySem.W.Frag) (W : WX) (D : Ends) : List Cl → WX
  | [] => W
  | c :: r => fun cls d m G => ∃ b, PySem.W.exmOne K cls c.cls = some b ∧ (b = true → ∀ a, G a = none → c.wish a cls d D m G) ∧ (b = false → wCls K W D r cls d m G)
/-- a clause's name: none, or the local in a slot -/
def NameOk (X : Cx) (nm : Option Str) (sl : Option Nat) : Prop := match nm, sl with
  | none, none => True
  | some n, some i => X.N[i]? = some n ∧ X.env.kindOf n = some .local
  | _, _ => False
inductive ClsOk (X : Cx) : List ExceptHandler → List Cl → Prop
  | nil : ClsOk X [] []
  | cons {x : Str} {nm : Option Str} {c : Cl} {b : Stmt} {su : List Stmt} {np p : Pos} {hs : List ExceptHandler} {l : List Cl} (nok : NameOk X nm c.slot) (hc : Names X x c.cls)
      (hsu : ∀ (a : Addr) (oe : Obj) (k : Value) (d : Option Addr) (pn : List (Addr × Obj)), Zc k d oe → (∃ vs, oe.data = .fields vs) → PSs (X.suite a ((a, oe) :: pn)) (b :: su) (c.ts a k d)) (r : ClsOk X hs l) :
      ClsOk X (.ExceptHandler (some (.Name x np)) nm (b :: su) p :: hs) (c :: l)
section
variable {X : Cx}
/-- the end of a try's body that raised nothing -/
theorem sp_ofTry {pins : List (Addr × Obj)} {xe : Value → Shared → Prop} {D : Ends} {f : Flow} {s : Shared} (ok : X.Ok) (h : SP (X.tr (X.pn ++ pins) xe) [] D f s) : SP X pins D f s := by
  cases f with
  | ret u => exact let ⟨v, m, G, J, r, q⟩ := h; ⟨v, m, G, J.ofTry ok, r, q⟩
  | _ => exact let ⟨m, G, J, q⟩ := h; ⟨m, G, J.ofTry ok, q⟩
theorem sp_unsuite {pins : List (Addr × Obj)} {D : Ends} {f : Flow} {s : Shared} {a : Addr} {oe : Obj} (ok : X.Ok) (h : SP (X.suite a ((a, oe) :: (X.pn ++ pins))) [] D f s) : SP X pins D f s := by
  cases f with
  | ret u => exact let ⟨v, m, G, J, r, q⟩ := h; ⟨v, m, G, J.unsuite ok, r, q⟩
  | _ => exact let ⟨m, G, J, q⟩ := h; ⟨m, G, J.unsuite ok, q⟩
/-- a try with clauses: what each wishes stands in wCls -/
theorem ps_try_cls {X : Cx} {body : List Stmt} {h1 : ExceptHandler} {hs : List ExceptHandler} {l : List Cl} {pos : Pos} {tb : WX → TS} {W : WX} (st : X.stack = X.env :: X.outer) (fr : X.env.frame = some X.env.locals) (nd : X.N.Nodup) (tk : Takes X W)
    (hb : ∀ (V : WX) (pn : List (Addr × Obj)) (xe : Value → Shared → Prop), Takes (X.tr pn xe) V → PassesOwn (model X.prog X.w) X.A X.env xe → PSs (X.tr pn xe) body (tb V)) (hk : ClsOk X (h1 :: hs) l) :
    PS X (.Try body (h1 :: hs) [] [] pos) (fun D m G => tb (wCls X.K W D l) D m G) := by
  constructor
  intro pins s₀ m₀ G₀ D I₀ hh
  have ok := I₀.ok
  have frames : X.A.frames = some (X.env :: X.outer) := ok.frames.trans (congrArg some st)
  apply wpAny_Try_except
  have R := (hb (wCls X.K W D l) (X.pn ++ pins) (fun e x1 => wpAny (model X.prog X.w) X.A (noteFrame e X.env) (fun _ x2 => wpAny (model X.prog X.w) X.A (setFlight e none) (fun _ x3 => wpAny (model X.prog X.w) X.A (handleBy e X.env (h1 :: hs)) (SP X pins D) X.xe x3) X.xe x2) X.xe x1) ?_ PassesOwn.looking).run [] s₀ m₀ G₀ D (I₀.toTry _) hh
  · refine wpAny_mono R (fun f x q => ?_) fun _ _ q => q
    have q2 := sp_ofTry ok q
    cases f with
    | next => exact let ⟨m, G, J, z⟩ := q2; wpAny_execs_nil ⟨m, G, J, z⟩
    | _ => exact q2
  intro u x ⟨e, B, y, pin2, m, G, k, d, eu, J2, nb, up, air, free, os, bare, wish⟩
  subst eu
  have J : Inv X pins m G y := J2.ofTry ok
  rw [show (X.tr (X.pn ++ pins) _).stack = X.env :: X.outer from st] at air
  show wpAny (model X.prog X.w) X.A (noteFrame (.ref e) X.env) _ _ _
  refine Sky.land Zc.steady frames fr air fun g1 fly1 up1 => ?_
  have L1 : Inv X pins m G { x with heap := g1 } := J.landed nb fly1.1 (up.trans up1) os bare
  obtain ⟨oe, vs, at1, z1, da⟩ := fly1.there
  have off : e ∉ frs (X.env :: X.outer) := fun hm => by
    obtain ⟨_, o2, at2, no⟩ := fly1.2.2.1.mem hm
    rw [at1] at at2
    cases at2
    exact no _ da
  have offL : e ≠ X.env.locals := fun z => off (List.mem_filterMap.mpr ⟨X.env, List.mem_cons_self, by rw [fr, z]⟩)
  have offF : e ∉ X.fs := fun hm => let ⟨v, hv, z⟩ := List.mem_filterMap.mp hm; off (List.mem_filterMap.mpr ⟨v, List.mem_cons_of_mem _ hv, z⟩)
  have S1 := L1.suite at1 da free offL offF
  suffices go : ∀ {hs' : List ExceptHandler} {l' : List Cl}, ClsOk X hs' l' → wCls X.K W D l' k d m G → wpAny (model X.prog X.w) X.A (handleBy (.ref e) X.env hs') (SP X pins D) X.xe { x with heap := g1 } from go hk wish
  intro hs' l' ck
  induction ck with
  | nil =>
    intro out
    apply wpAny_handleBy_nil
    have fly := fly1
    obtain ⟨_, _, _, o2, vs2, T, _, _, at2, _, da2, tb2, _⟩ := fly1
    unfold PySem.passOn
    apply wpAny_bind
    refine wpAny_field at2 da2 tb2 ?_
    rw [if_neg (by simp)]
    have last : wpAny (model X.prog X.w) X.A (setFlight (.ref e) X.env.frame) (fun _ x4 => wpAny (model X.prog X.w) X.A (throw (.ref e) : Sem Flow) (SP X pins D) X.xe x4) X.xe { x with heap := g1 } := by
      rw [fr]
      exact HandSPX.setFlight_upZ fly fun g2 land2 up2 => wpAny_throw (tk _ _ ⟨e, B, y, pins, m, G, k, d, rfl, J, nb, (up.trans up1).trans up2, .inr (.inr (by rw [st]; exact land2)), free, os, bare, out⟩)
    first
      | exact wpAny_bind (wpAny_pure (wpAny_bind last))
      | exact wpAny_bind last
  | @cons nmX nm c b su np p hs2 l2 nok hc hsu _ ih =>
    intro ⟨ans, hans, yes, no⟩
    refine wpAny_handleBy_cons (codeAny_handlers_test ?_) (by intro q; cases q)
    have ty : PySem.W.Looks (model X.prog X.w) g1 (typeOf (.ref e)) k := fun _ _ _ _ kp q => wpAny_typeOf_ref (kp _ _ at1) (by rw [z1.1]; exact q)
    have look : ∀ {Q : Value → Shared → Prop} {F : Value → Shared → Prop}, Q c.cls { x with heap := g1 } → wpAny (model X.prog X.w) (X.A.mark (some (.ref e))) (eval (.Name nmX np) X.env) Q F { x with heap := g1 } := fun q => by
      rcases hc with ⟨g, dbg, own | ⟨free', blt, nn⟩⟩
      · exact ld_glob (X := X.suite e ((e, oe) :: (X.pn ++ pins))) S1 g own q dbg
      · exact ld_blt (X := X.suite e ((e, oe) :: (X.pn ++ pins))) S1 g free' blt q nn dbg
    refine look ((PySem.W.exm_one (M := model X.prog X.w) L1.kIn ty hans).here ?_)
    cases ans with
    | false => exact ih (no rfl)
    | true =>
      have w1 := yes rfl e free
      match nm, hsl : c.slot, nok with
      | none, none, _ =>
        refine codeAny_handlers_suite (HandSPX.lands_againZ fly1 fun g2 fly2 up2 => ?_)
        obtain ⟨oe2, vs2, at2, z2, da2⟩ := fly2.there
        have S2 := (J.landed nb fly2.1 ((up.trans up1).trans up2) os bare : Inv X pins m G { x with heap := g2 }).suite at2 da2 free offL offF
        unfold Cl.wish at w1
        rw [hsl] at w1
        exact wpAny_mono ((hsu e oe2 k d (X.pn ++ pins) z2 ⟨_, da2⟩).run [] _ _ G _ S2 w1) (fun f _ q => sp_unsuite ok q) fun _ _ q => q.elim
      | some n, some i, ⟨hi, hl⟩ =>
        refine codeAny_handlers_suite_as (HandSPX.lands_againZ fly1 fun g2 fly2 up2 => ?_)
        obtain ⟨oe2, vs2, at2, z2, da2⟩ := fly2.there
        have S2 := (J.landed nb fly2.1 ((up.trans up1).trans up2) os bare : Inv X pins m G { x with heap := g2 }).suite at2 da2 free offL offF
        unfold Cl.wish at w1
        rw [hsl] at w1
        refine store_ok (X := X.suite e ((e, oe2) :: (X.pn ++ pins))) (v := .ref e) S2 nd hi (.inl hl) rfl (fun x5 S5 => ?_) (.inr hl)
        refine wpAny_mono ((hsu e oe2 k d (X.pn ++ pins) z2 ⟨_, da2⟩).run [] x5 _ G _ S5 w1) (fun f x6 q => ?_) fun _ _ q => q.elim
        cases f with
        | ret u => exact let ⟨v, m6, G6, S6, r6, q6⟩ := q; gone_ok (S6.unsuite ok) nd hi hl fun x7 J7 => ⟨v, _, _, J7, r6, q6⟩
        | _ => exact let ⟨m6, G6, S6, q6⟩ := q; gone_ok (S6.unsuite ok) nd hi hl fun x7 J7 => ⟨_, _, J7, q6⟩
end
end Fm

set_option maxHeartbeats 2000000
namespace Fm
open PySem PySem.Spec PyProof.Rows L2
/-! ### as FmX, for exceptions whose context is None -/
inductive ClsOkN (X : Cx) : List ExceptHandler → List Cl → Prop
  | nil : ClsOkN X [] []
  | cons {x : Str} {nm : Option Str} {c : Cl} {b : Stmt} {su : List Stmt} {np p : Pos} {hs : List ExceptHandler} {l : List Cl} (nok : NameOk X nm c.slot) (hc : Names X x c.cls)
      (hsu : ∀ (a : Addr) (oe : Obj) (k : Value) (d : Option Addr) (pn : List (Addr × Obj)), L2N.Zn k d oe → (∃ vs, oe.data = .fields vs) → PSs (X.suite a ((a, oe) :: pn)) (b :: su) (c.ts a k d)) (r : ClsOkN X hs l) :
      ClsOkN X (.ExceptHandler (some (.Name x np)) nm (b :: su) p :: hs) (c :: l)
section
variable {X : Cx}
/-- a try with clauses: what each wishes stands in wCls -/
theorem ps_try_clsN {X : Cx} {body : List Stmt} {h1 : ExceptHandler} {hs : List ExceptHandler} {l : List Cl} {pos : Pos} {tb : WX → TS} {W : WX} (st : X.stack = X.env :: X.outer) (fr : X.env.frame = some X.env.locals) (nd : X.N.Nodup) (tk : L2N.Takes X W)
    (hb : ∀ (V : WX) (pn : List (Addr × Obj)) (xe : Value → Shared → Prop), L2N.Takes (X.tr pn xe) V → PassesOwn (model X.prog X.w) X.A X.env xe → PSs (X.tr pn xe) body (tb V)) (hk : ClsOkN X (h1 :: hs) l) :
    PS X (.Try body (h1 :: hs) [] [] pos) (fun D m G => tb (wCls X.K W D l) D m G) := by
  constructor
  intro pins s₀ m₀ G₀ D I₀ hh
  have ok := I₀.ok
  have frames : X.A.frames = some (X.env :: X.outer) := ok.frames.trans (congrArg some st)
  apply wpAny_Try_except
  have R := (hb (wCls X.K W D l) (X.pn ++ pins) (fun e x1 => wpAny (model X.prog X.w) X.A (noteFrame e X.env) (fun _ x2 => wpAny (model X.prog X.w) X.A (setFlight e none) (fun _ x3 => wpAny (model X.prog X.w) X.A (handleBy e X.env (h1 :: hs)) (SP X pins D) X.xe x3) X.xe x2) X.xe x1) ?_ PassesOwn.looking).run [] s₀ m₀ G₀ D (I₀.toTry _) hh
  · refine wpAny_mono R (fun f x q => ?_) fun _ _ q => q
    have q2 := sp_ofTry ok q
    cases f with
    | next => exact let ⟨m, G, J, z⟩ := q2; wpAny_execs_nil ⟨m, G, J, z⟩
    | _ => exact q2
  intro u x ⟨e, B, y, pin2, m, G, k, d, eu, J2, nb, up, air, free, os, bare, wish⟩
  subst eu
  have J : Inv X pins m G y := J2.ofTry ok
  rw [show (X.tr (X.pn ++ pins) _).stack = X.env :: X.outer from st] at air
  show wpAny (model X.prog X.w) X.A (noteFrame (.ref e) X.env) _ _ _
  refine L2N.Sky.land L2N.Zn.steady frames fr air fun g1 fly1 up1 => ?_
  have L1 : Inv X pins m G { x with heap := g1 } := J.landed nb fly1.1 (up.trans up1) os bare
  obtain ⟨oe, vs, at1, z1, da⟩ := fly1.there
  have off : e ∉ frs (X.env :: X.outer) := fun hm => by
    obtain ⟨_, o2, at2, no⟩ := fly1.2.2.1.mem hm
    rw [at1] at at2
    cases at2
    exact no _ da
  have offL : e ≠ X.env.locals := fun z => off (List.mem_filterMap.mpr ⟨X.env, List.mem_cons_self, by rw [fr, z]⟩)
  have offF : e ∉ X.fs := fun hm => let ⟨v, hv, z⟩ := List.mem_filterMap.mp hm; off (List.mem_filterMap.mpr ⟨v, List.mem_cons_of_mem _ hv, z⟩)
  have S1 := L1.suite at1 da free offL offF
  suffices go : ∀ {hs' : List ExceptHandler} {l' : List Cl}, ClsOkN X hs' l' → wCls X.K W D l' k d m G → wpAny (model X.prog X.w) X.A (handleBy (.ref e) X.env hs') (SP X pins D) X.xe { x with heap := g1 } from go hk wish
  intro hs' l' ck
  induction ck with
  | nil =>
    intro out
    apply wpAny_handleBy_nil
    have fly := fly1
    obtain ⟨_, _, _, o2, vs2, T, _, _, at2, _, da2, tb2, _⟩ := fly1
    unfold PySem.passOn
    apply wpAny_bind
    refine wpAny_field at2 da2 tb2 ?_
    rw [if_neg (by simp)]
    have last : wpAny (model X.prog X.w) X.A (setFlight (.ref e) X.env.frame) (fun _ x4 => wpAny (model X.prog X.w) X.A (throw (.ref e) : Sem Flow) (SP X pins D) X.xe x4) X.xe { x with heap := g1 } := by
      rw [fr]
      exact HandSPX.setFlight_upZ fly fun g2 land2 up2 => wpAny_throw (tk _ _ ⟨e, B, y, pins, m, G, k, d, rfl, J, nb, (up.trans up1).trans up2, .inr (.inr (by rw [st]; exact land2)), free, os, bare, out⟩)
    first
      | exact wpAny_bind (wpAny_pure (wpAny_bind last))
      | exact wpAny_bind last
  | @cons nmX nm c b su np p hs2 l2 nok hc hsu _ ih =>
    intro ⟨ans, hans, yes, no⟩
    refine wpAny_handleBy_cons (codeAny_handlers_test ?_) (by intro q; cases q)
    have ty : PySem.W.Looks (model X.prog X.w) g1 (typeOf (.ref e)) k := fun _ _ _ _ kp q => wpAny_typeOf_ref (kp _ _ at1) (by rw [z1.1]; exact q)
    have look : ∀ {Q : Value → Shared → Prop} {F : Value → Shared → Prop}, Q c.cls { x with heap := g1 } → wpAny (model X.prog X.w) (X.A.mark (some (.ref e))) (eval (.Name nmX np) X.env) Q F { x with heap := g1 } := fun q => by
      rcases hc with ⟨g, dbg, own | ⟨free', blt, nn⟩⟩
      · exact ld_glob (X := X.suite e ((e, oe) :: (X.pn ++ pins))) S1 g own q dbg
      · exact ld_blt (X := X.suite e ((e, oe) :: (X.pn ++ pins))) S1 g free' blt q nn dbg
    refine look ((PySem.W.exm_one (M := model X.prog X.w) L1.kIn ty hans).here ?_)
    cases ans with
    | false => exact ih (no rfl)
    | true =>
      have w1 := yes rfl e free
      match nm, hsl : c.slot, nok with
      | none, none, _ =>
        refine codeAny_handlers_suite (HandSPX.lands_againZ fly1 fun g2 fly2 up2 => ?_)
        obtain ⟨oe2, vs2, at2, z2, da2⟩ := fly2.there
        have S2 := (J.landed nb fly2.1 ((up.trans up1).trans up2) os bare : Inv X pins m G { x with heap := g2 }).suite at2 da2 free offL offF
        unfold Cl.wish at w1
        rw [hsl] at w1
        exact wpAny_mono ((hsu e oe2 k d (X.pn ++ pins) z2 ⟨_, da2⟩).run [] _ _ G _ S2 w1) (fun f _ q => sp_unsuite ok q) fun _ _ q => q.elim
      | some n, some i, ⟨hi, hl⟩ =>
        refine codeAny_handlers_suite_as (HandSPX.lands_againZ fly1 fun g2 fly2 up2 => ?_)
        obtain ⟨oe2, vs2, at2, z2, da2⟩ := fly2.there
        have S2 := (J.landed nb fly2.1 ((up.trans up1).trans up2) os bare : Inv X pins m G { x with heap := g2 }).suite at2 da2 free offL offF
        unfold Cl.wish at w1
        rw [hsl] at w1
        refine store_ok (X := X.suite e ((e, oe2) :: (X.pn ++ pins))) (v := .ref e) S2 nd hi (.inl hl) rfl (fun x5 S5 => ?_) (.inr hl)
        refine wpAny_mono ((hsu e oe2 k d (X.pn ++ pins) z2 ⟨_, da2⟩).run [] x5 _ G _ S5 w1) (fun f x6 q => ?_) fun _ _ q => q.elim
        cases f with
        | ret u => exact let ⟨v, m6, G6, S6, r6, q6⟩ := q; gone_ok (S6.unsuite ok) nd hi hl fun x7 J7 => ⟨v, _, _, J7, r6, q6⟩
        | _ => exact let ⟨m6, G6, S6, q6⟩ := q; gone_ok (S6.unsuite ok) nd hi hl fun x7 J7 => ⟨_, _, J7, q6⟩
end
end Fm

set_option maxHeartbeats 2000000
namespace Fm
open PySem PySem.Spec PyProof.Rows L2
/-! ### own exceptions with an own __init__, made where nothing is handled: their context is None -/
section
variable {X : Cx} {ta : TA} {e : Expr} {es : List Expr} {p pos : Pos}
theorem pmk_oexN {CX : CXT} {x : Str} {C fI : Addr} {k : Nat} {fd : FuncData} {ps : List Str} {sp : Sp} {ds : List Value} {dvs : List V} (T : OexC X.K C) (iC : PySem.W.findIn X.K (.ref C) "__init__" = some (some (.ref fI))) (tI : PySem.W.typeIn X.K (.ref fI) = some (.type "function"))
    (F1 : FnOk X.prog X.w X.K X.mg X.base CX k fI fd ps sp) (hr : Room (k + 1) X.A) (hb : Binds X.K fd ps ds) (hd : Vals dvs ds) (hx : Passes CX X (fun _ _ _ => False)) (hg : Gl X x) (hm : X.mg x = some (.ref C)) (ha : PA X (e :: es) ta)
    (hdb : (x == ("__debug__" : Str)) = false := by decide) (he : starEach (e :: es) X.env = (false, eval e X.env) :: starEach es X.env := by rfl) (hpl : (backTo pos (starEach es X.env)).any (·.1) = false := by rfl) :
    L2N.PMk X (.Call (.Name x p) (e :: es) [] pos) (tMkO C sp dvs ta) := by
  intro pins s σ H Q I h
  obtain ⟨nm, q, N, bs, bm, sn, sub, ab, col, dd, k0, k1, k2, k3, k5, hC, hbm⟩ := T.cls
  refine wpAny_Call_Name_kw (ld_glob I hg hm ?_ hdb)
  refine PySem.W.callWith_K (h₀ := X.base) I.ok.mod.kin T.kC (thn (ha.run pos pins s σ H _ I h) fun us s1 ⟨vs, H1, I1, r1, hz, q1⟩ => ⟨I1.kIn, ?_⟩) he hpl
  show wpAny _ _ (call (.ref C) us) _ _ _
  obtain ⟨hp, g, dr, tk, os⟩ := s1
  have hsz : hp.objs.size ≤ hp.objs.size + 1 := Nat.le_succ _
  have hn : H1 (hp.objs.size + 1) = none := I1.hok.fresh hsz
  have hq := q1 (hp.objs.size + 1) hn
  have kk : ∀ b o, hp.get? b = some o → ((hp.push (PySem.W.kdv_tup us)).push (PySem.HandSPX.excO C hp.objs.size)).get? b = some o := fun b o e => Heap.get?_push_of_some _ (Heap.get?_push_of_some _ e)
  have hget : ((hp.push (PySem.W.kdv_tup us)).push (PySem.HandSPX.excO C hp.objs.size)).get? (hp.objs.size + 1) = some (PySem.HandSPX.excO C hp.objs.size) := by heap_get
  have I2 : Inv X pins σ (upd H1 (hp.objs.size + 1) (exo (hp.objs.size + 1) C none)) ⟨(hp.push (PySem.W.kdv_tup us)).push (PySem.HandSPX.excO C hp.objs.size), g, dr, tk, os⟩ :=
    I1.laid (t' := tk) (a := hp.objs.size + 1) (o := exo (hp.objs.size + 1) C none) (h' := (hp.push (PySem.W.kdv_tup us)).push (PySem.HandSPX.excO C hp.objs.size)) kk hsz (exo_ok hget)
  have r2 : Vals (V.ref (hp.objs.size + 1) :: (vs ++ dvs)) (Value.ref (hp.objs.size + 1) :: (us ++ ds)) := .cons rfl (r1.append hd)
  have hl : (Value.ref (hp.objs.size + 1) :: us ++ ds).length = ps.length := by
    have e := r2.length
    rw [F1.len _ _ _ _ hq] at e
    exact e.symm
  have hus : us.length ≤ sizeLine := by
    rw [← Paired.length r1, sizeLine_eq]
    omega
  refine wpAny_call (PySem.HandSPX.call_own F.excBase_ValueError (fun Y => PySem.HandSPX.refsVE_contains Y bm hbm) (I1.kIn _ _ hC) (PySem.W.looks_findIn I1.kIn iC) (fun self => PySem.W.bind_fn I1.kIn self tI) hus
    (codeAny_mono (F1.run _ X.stack _ _ ⟨Value.ref (hp.objs.size + 1) :: us, []⟩ (Value.ref (hp.objs.size + 1) :: (us ++ ds)) _ _ (fun _ _ _ => False) (hr.make C us []) (I2.env0.make C us []) (hb _ (Value.ref (hp.objs.size + 1) :: us) I2.kIn hl) r2 hq) fun r s' hq' => ?_))
  cases r with
  | error er => exact hx pins σ _ _ er s' I2 hq'
  | ok fl =>
    cases fl with
    | ret u =>
      obtain ⟨v, H2, os2, bare2, un2, hok2, rv, ev, d, fs, ea, ed, hd1, q2⟩ := hq'
      subst ev
      obtain ⟨h2, g2, d2, t2, os'⟩ := s'
      obtain ⟨t0, G, J, kG, ge, hoe, na⟩ := mk_end0 (d2 := d2) (t2 := t2) I1 hsz kk un2 hok2 os2 bare2 ea ed hd1
      exact ⟨rv, hp.objs.size + 1, _, _, ⟨G, g2, d2, t2, os'⟩, _, .ref C, some d, rfl, J, kG, ge, hoe, ⟨rfl, rfl, fun vs e => by cases e; rfl⟩, rfl, rfl, na, rfl, bare2, raises_own T.exC T.tyC, q2⟩
    | next => exact False.elim hq'
    | brk => exact False.elim hq'
    | cont => exact False.elim hq'
theorem passN {X : Cx} : Passes (L2N.CX X.prog X.w) X E0 := fun _ _ _ _ _ _ _ h => by
  obtain ⟨_, _, _, _, _, _, _, _, _, _, _, _, z⟩ := h
  exact z.elim
theorem takesN0 {X : Cx} : L2N.Takes X (fun _ _ _ _ => False) := fun _ _ x => by
  obtain ⟨_, _, _, _, _, _, _, _, _, _, _, _, _, _, _, _, z⟩ := x
  exact z.elim
end
end Fm

set_option maxHeartbeats 2000000
namespace Fm
open PySem PySem.Spec PyProof.Rows L2
/-! ### what the Scales promise -/
def spNums (C : Addr) : Sp := fun vs H Q _ => ∃ (v : V) (d : Da), vs = [v] ∧ DaV C H v d ∧ d.fine = true ∧ ∀ H', Ex H H' → Q (.bl d.nums) H'
/-- inserting what is not there -/
def spIns (C : Addr) : Sp := fun vs H Q _ => ∃ (o : Addr) (x : V) (rs : List V) (qs : List Rat) (q : Rat), vs = [.ref o, x] ∧ H o = some (.lst rs) ∧ RatsV C H rs qs ∧ RatV C H x q ∧ (∀ c ∈ qs, Sz 3000 c) ∧ Sz 3000 q ∧ qs.length ≤ 1000 ∧
  ∀ rs' H', (∀ b ob, H b = some ob → b ≠ o → H' b = some ob) → H' o = some (.lst rs') → RatsV C H' rs' (insU q qs) → Q .non H'
def spDst (C : Addr) : Sp := fun vs H Q _ => ∃ (v : V) (ds : List Da), vs = [v] ∧ (DaV C H v (.lst ds) ∨ DaV C H v (.tup ds)) ∧ ds.all Da.isNum = true ∧ fineL ds = true ∧ ds.length ≤ 1000 ∧ ∀ p rs H', H p = none → Ex H H' → H' p = some (.lst rs) → RatsV C H' rs (dst (ds.map Da.num)) → Q (.ref p) H'
def spClimbs (C : Addr) : Sp := fun vs H Q _ => ∃ (p : Addr) (rs : List V) (qs : List Rat), vs = [.ref p] ∧ H p = some (.lst rs) ∧ RatsV C H rs qs ∧ (∀ q ∈ qs, Sz 3000 q) ∧ qs.length ≤ 1000 ∧ ∀ H', Ex H H' → Q (.bl (climbB qs)) H'
/-- the values that a list or tuple of numbers gives, ascending -/
def ValsOf (d : Da) (qs : List Rat) : Prop := ∃ ds : List Da, (d = .lst ds ∨ d = .tup ds) ∧ ds.all Da.isNum = true ∧ 1 ≤ ds.length ∧ ds.length ≤ 8 ∧ qs = isort (ds.map Da.num) ∧ climbB qs = true
/-- a scale of the values qs stands at p -/
def ScaleAt (CS C : Addr) (H : Hp) (p : Addr) (qs : List Rat) : Prop := ∃ dx m rs, H p = some (.ins CS dx (putF "_marks" (.ref m) [])) ∧ H m = some (.lst rs) ∧ RatsV C H rs qs
/-- Scale(..): of numbers that differ; of any other value, an error -/
def spScaleInit (CS C B : Addr) : Sp := fun vs H Q E => ∃ (p dx : Addr) (v : V) (d : Da), vs = [.ref p, v] ∧ DaV C H v d ∧ d.fine = true ∧ H p = some (.ins CS dx []) ∧
  (∀ qs, ValsOf d qs → ∀ m rs H', H m = none → (∀ b o, H b = some o → b ≠ p → H' b = some o) → H' p = some (.ins CS dx (putF "_marks" (.ref m) [])) → H' m = some (.lst rs) → RatsV C H' rs qs → Q .non H') ∧
  ((∀ qs, ¬ ValsOf d qs) → ∀ dd H', H dd = none → (∀ b o, H b = some o → b ≠ p → H' b = some o) → H' dd = some (.xd [("given", v)]) → E (.ref B) (some dd) H')
def spLenS (CS C : Addr) : Sp := fun vs H Q _ => ∃ (p : Addr) (qs : List Rat), vs = [.ref p] ∧ ScaleAt CS C H p qs ∧ ∀ H', Ex H H' → Q (.int (qs.length : Int)) H'
def spMarksS (CS C : Addr) : Sp := fun vs H Q _ => ∃ (p : Addr) (qs : List Rat), vs = [.ref p] ∧ ScaleAt CS C H p qs ∧ ∀ l rs H', H l = none → Ex H H' → H' l = some (.lst rs) → RatsV C H' rs qs → Q (.ref l) H'
def spEqS (CS C : Addr) : Sp := fun vs H Q _ => ∃ (p : Addr) (y : V) (qs : List Rat), vs = [.ref p, y] ∧ ScaleAt CS C H p qs ∧ (∀ q ∈ qs, Sz 3000 q) ∧
  ((∃ (p2 : Addr) (cs : List Rat), y = .ref p2 ∧ ScaleAt CS C H p2 cs ∧ (∀ q ∈ cs, Sz 3000 q) ∧ ∀ H', Ex H H' → Q (.bl (decide (qs = cs))) H') ∨ (∃ d, DaV C H y d ∧ ∀ H', Ex H H' → Q (.bl false) H'))
/-- the place of a number, or an error -/
def spPlace (CS C B : Addr) : Sp := fun vs H Q E => ∃ (p : Addr) (v : V) (d : Da) (qs : List Rat), vs = [.ref p, v] ∧ ScaleAt CS C H p qs ∧ (∀ q ∈ qs, Sz 3000 q) ∧ qs.length ≤ 1000 ∧ DaV C H v d ∧ d.fine = true ∧
  (∀ i : Nat, d.isNum = true → qs[i]? = some d.num → (∀ j, j < i → qs[j]? ≠ some d.num) → ∀ H', Ex H H' → Q (.int (i : Int)) H') ∧
  ((∀ i : Nat, d.isNum = true → qs[i]? ≠ some d.num) → ∀ dd H', H dd = none → Ex H H' → H' dd = some (.xd [("given", v)]) → E (.ref B) (some dd) H')
/-- the led scale, or an error -/
def spLed (CS C B : Addr) : Sp := fun vs H Q E => ∃ (p : Addr) (fv av : V) (f d : Da) (qs : List Rat), vs = [.ref p, fv, av] ∧ ScaleAt CS C H p qs ∧ (∀ q ∈ qs, Sz 45 q) ∧ Sz 45 f.num ∧ Sz 45 d.num ∧ qs.Pairwise (· < ·) ∧ 1 ≤ qs.length ∧ qs.length ≤ 8 ∧ DaV C H fv f ∧ f.fine = true ∧ DaV C H av d ∧ d.fine = true ∧
  (f.isNum = true → f.num ≠ 0 → d.isNum = true → ∀ p2 H', H p2 = none → Ex H H' → ScaleAt CS C H' p2 (isort (qs.map fun q => q * f.num + d.num)) → Q (.ref p2) H') ∧
  ((¬ (f.isNum = true ∧ f.num ≠ 0)) → ∀ dd H', H dd = none → Ex H H' → H' dd = some (.xd [("given", fv)]) → E (.ref B) (some dd) H') ∧
  (f.isNum = true → f.num ≠ 0 → d.isNum = false → ∀ dd H', H dd = none → Ex H H' → H' dd = some (.xd [("given", av)]) → E (.ref B) (some dd) H')
theorem ScaleAt.mono {CS C : Addr} {H H' : Hp} {p : Addr} {qs : List Rat} (e : Ex H H') (h : ScaleAt CS C H p qs) : ScaleAt CS C H' p qs := let ⟨dx, m, rs, h1, h2, h3⟩ := h; ⟨dx, m, rs, e _ _ h1, e _ _ h2, h3.mono e⟩
end Fm

set_option maxHeartbeats 4000000
namespace Kx
open PySem PySem.Spec PyProof.Rows L2 Fm
local macro_rules | `(tactic| walk_at "gv") => `(tactic| ((with_reducible refine' g_var ?gh ?_); (case gh => exact rfl)))
local macro_rules | `(tactic| walk_at "g1") => `(tactic| first
  | walk_at "gv"
  | with_reducible refine g_c ?_ | with_reducible refine g_op ?_ | with_reducible refine g_un ?_ | with_reducible refine g_I0 ?_ | with_reducible refine g_U ?_
  | with_reducible refine g_eqI ?_ | with_reducible refine g_neI ?_ | with_reducible refine g_eqS ?_ | with_reducible refine g_neS ?_
  | with_reducible refine g_test ?_ | with_reducible refine g_B ?_ | with_reducible refine g_bl ?_ | with_reducible refine g_not ?_ | with_reducible refine g_and ?_ | with_reducible refine g_or ?_
  | with_reducible refine g_andV ?_ | with_reducible refine g_orV ?_ | with_reducible refine g_notV ?_ | with_reducible refine g_chain ?_ | with_reducible refine g_if ?_ | with_reducible refine g_ifS ?_
  | with_reducible refine g_seq ?_ | with_reducible refine g_next ?_ | with_reducible refine g_break ?_ | with_reducible refine g_cont ?_ | with_reducible refine g_drop ?_ | with_reducible refine g_ret ?_ | with_reducible refine g_retN ?_
  | with_reducible refine g_asg ?_ | with_reducible refine g_name ?_ | with_reducible refine g_par ?_ | with_reducible refine g_par2 ?_ | with_reducible refine g_fld ?_ | with_reducible refine g_sfld ?_
  | with_reducible refine g_nil ?_ | with_reducible refine g_cons ?_ | with_reducible refine g_tup ?_ | with_reducible refine g_lst ?_ | with_reducible refine g_call ?_ | with_reducible refine g_meth ?_ | with_reducible refine g_make1 ?_ | with_reducible refine g_make ?_ | with_reducible refine g_cb ?_ | with_reducible refine g_sub ?_ | with_reducible refine g_m0 ?_ | with_reducible refine g_gcons ?_ | with_reducible refine g_gnil ?_ | with_reducible refine g_for ?_ | with_reducible refine g_lc ?_ | with_reducible refine g_ilist ?_ | with_reducible refine g_itup ?_ | with_reducible refine g_rng1 ?_ | with_reducible refine g_rng3 ?_ | with_reducible refine g_yes ?_ | with_reducible refine g_sl ?_ | with_reducible refine g_nopart ?_ | with_reducible refine g_part ?_ | with_reducible refine g_exI ?_ | with_reducible refine g_m1 ?_ | with_reducible refine g_isS ?_ | with_reducible refine g_bm ?_ | with_reducible refine g_revL ?_ | with_reducible refine g_istr ?_ | with_reducible refine g_notInS ?_ | with_reducible refine g_absI ?_ | with_reducible refine g_intI ?_ | with_reducible refine g_izip ?_ | with_reducible refine g_ienum ?_ | with_reducible refine g_bm0 ?_ | with_reducible refine g_mko ?_ | with_reducible refine g_methW ?_ | with_reducible refine g_callW ?_
  | with_reducible refine iteT ?_ | with_reducible refine iteF ?_ | with_reducible refine g_gcd ?_)
local macro_rules | `(tactic| walk_at "g") => `(tactic| (repeat (first | walk_at "g1" | dsimp only [cx_K, cx_Kn, b_nt, b_nf])))
local macro_rules | `(tactic| walk_at "mul") => `(tactic| exact mulA (a := 200) (b := 200) (by omega) (by omega) (by decide))
local macro_rules | `(tactic| walk_at "pow") => `(tactic| exact ⟨by omega, by omega, by omega⟩)

section
variable {P : Program} {w : World} {K : PySem.W.Frag} {mg : Str → Option Value} {base : Heap} {a : Ad}
theorem ok_BadNumber_init (T : Tx K mg a) : FnOk P w K mg base CX0 1 a.f_BadNumber_init a.d_BadNumber_init P_BadNumber_init (spBadInit "given" a.C_BadNumber) := by
  refine def_ok0 T.F_BadNumber_init sc_BadNumber_init (fun vs H Q E h => ?_) (fun cdv A outer s H vs Q E hr h => ?_)
  · obtain ⟨e, v, rfl, _⟩ := h
    rfl
  · obtain ⟨e, v, rfl, he, z⟩ := h
    refine ⟨_, pss_one (ps_ost (pv 0) (pv 1)), ?_⟩
    exact ⟨_, rfl, _, rfl, e, a.C_BadNumber, rfl, T.oc_BadNumber, T.xa_BadNumber_given, .inl ⟨he, fun d hd hn => z d hd hn⟩⟩
theorem ok_BadValues_init (T : Tx K mg a) : FnOk P w K mg base CX0 1 a.f_BadValues_init a.d_BadValues_init P_BadValues_init (spBadInit "given" a.C_BadValues) := by
  refine def_ok0 T.F_BadValues_init sc_BadValues_init (fun vs H Q E h => ?_) (fun cdv A outer s H vs Q E hr h => ?_)
  · obtain ⟨e, v, rfl, _⟩ := h
    rfl
  · obtain ⟨e, v, rfl, he, z⟩ := h
    refine ⟨_, pss_one (ps_ost (pv 0) (pv 1)), ?_⟩
    exact ⟨_, rfl, _, rfl, e, a.C_BadValues, rfl, T.oc_BadValues, T.xa_BadValues_given, .inl ⟨he, fun d hd hn => z d hd hn⟩⟩
theorem ok_NoValue_init (T : Tx K mg a) : FnOk P w K mg base CX0 1 a.f_NoValue_init a.d_NoValue_init P_NoValue_init (spBadInit "given" a.C_NoValue) := by
  refine def_ok0 T.F_NoValue_init sc_NoValue_init (fun vs H Q E h => ?_) (fun cdv A outer s H vs Q E hr h => ?_)
  · obtain ⟨e, v, rfl, _⟩ := h
    rfl
  · obtain ⟨e, v, rfl, he, z⟩ := h
    refine ⟨_, pss_one (ps_ost (pv 0) (pv 1)), ?_⟩
    exact ⟨_, rfl, _, rfl, e, a.C_NoValue, rfl, T.oc_NoValue, T.xa_NoValue_given, .inl ⟨he, fun d hd hn => z d hd hn⟩⟩
theorem ok_BadLot_init (T : Tx K mg a) : FnOk P w K mg base CX0 1 a.f_BadLot_init a.d_BadLot_init P_BadLot_init (spBadInit "given" a.C_BadLot) := by
  refine def_ok0 T.F_BadLot_init sc_BadLot_init (fun vs H Q E h => ?_) (fun cdv A outer s H vs Q E hr h => ?_)
  · obtain ⟨e, v, rfl, _⟩ := h
    rfl
  · obtain ⟨e, v, rfl, he, z⟩ := h
    refine ⟨_, pss_one (ps_ost (pv 0) (pv 1)), ?_⟩
    exact ⟨_, rfl, _, rfl, e, a.C_BadLot, rfl, T.oc_BadLot, T.xa_BadLot_given, .inl ⟨he, fun d hd hn => z d hd hn⟩⟩
theorem ok_BadCurve_init (T : Tx K mg a) : FnOk P w K mg base CX0 1 a.f_BadCurve_init a.d_BadCurve_init P_BadCurve_init (spBadInit "given" a.C_BadCurve) := by
  refine def_ok0 T.F_BadCurve_init sc_BadCurve_init (fun vs H Q E h => ?_) (fun cdv A outer s H vs Q E hr h => ?_)
  · obtain ⟨e, v, rfl, _⟩ := h
    rfl
  · obtain ⟨e, v, rfl, he, z⟩ := h
    refine ⟨_, pss_one (ps_ost (pv 0) (pv 1)), ?_⟩
    exact ⟨_, rfl, _, rfl, e, a.C_BadCurve, rfl, T.oc_BadCurve, T.xa_BadCurve_given, .inl ⟨he, fun d hd hn => z d hd hn⟩⟩
theorem ok_BadCount_init (T : Tx K mg a) : FnOk P w K mg base CX0 1 a.f_BadCount_init a.d_BadCount_init P_BadCount_init (spBadInit "given" a.C_BadCount) := by
  refine def_ok0 T.F_BadCount_init sc_BadCount_init (fun vs H Q E h => ?_) (fun cdv A outer s H vs Q E hr h => ?_)
  · obtain ⟨e, v, rfl, _⟩ := h
    rfl
  · obtain ⟨e, v, rfl, he, z⟩ := h
    refine ⟨_, pss_one (ps_ost (pv 0) (pv 1)), ?_⟩
    exact ⟨_, rfl, _, rfl, e, a.C_BadCount, rfl, T.oc_BadCount, T.xa_BadCount_given, .inl ⟨he, fun d hd hn => z d hd hn⟩⟩
theorem ok_are_numbersD (T : Tx K mg a) : FnOk P w K mg base CX0 4 a.f_are_numbers a.d_are_numbers P_are_numbers (spNums a.C_Ratio) := by
  refine def_ok0 T.F_are_numbers sc_are_numbers (fun vs H Q E h => ?_) (fun cdv A outer s H vs Q E hr h => ?_)
  · obtain ⟨v, d, rfl, _⟩ := h
    rfl
  · obtain ⟨v, d, rfl, hv, fine, z⟩ := h
    refine ⟨_, (pss_one (ps_ret (pe_and (pe_callB call_isiT (by rfl) T.b_isinstance (by decide +kernel) (pa_cons (pv 0) (pa_cons (pe_tup (pa_cons (pe_bltn (v := .ty "list") (by rfl) T.b_list (by decide +kernel) rfl) (pa_cons (pe_bltn (v := .ty "tuple") (by rfl) T.b_tuple (by decide +kernel) rfl) pa_nil))) pa_nil))) (pe_one (pe_callB (cr_all rfl) (by rfl) T.b_all (by decide +kernel) (pa_cons (pe_lc (own := [("item", 1)]) (g := (gName 1)) (tt := tYes) rfl sc_are_numbers.nd (pi_seq (pv 0)) (blkOk_by (N := N_are_numbers) (sc := defScope s_are_numbers) (by decide +kernel)) (fun _ _ _ _ _ => pg_name (i := 1) sc_are_numbers.nd rfl (Or.inl rfl)) (fun _ _ _ _ _ => pts_nil) (fun _ _ _ _ _ => (pe_call (ok_is_number T) (hr.mono (by decide)) (by rfl) T.g_is_number T.F_is_number.kp (bd_is_number T) .nil pass0 (pa_cons (pv 1) pa_nil)))) pa_nil)))))), ?_⟩
    walk_at "g"
    refine ⟨len_lit rfl, fun tp htp => ?_⟩
    have et : Ex H (upd H tp (.tup [.ty "list", .ty "tuple"])) := Ex.new htp
    have at_ : (upd H tp (.tup [.ty "list", .ty "tuple"])) tp = some (.tup [.ty "list", .ty "tuple"]) := upd_same
    generalize (upd H tp (.tup [.ty "list", .ty "tuple"])) = H1 at et at_ ⊢
    walk_at "g"
    refine g_isiT at_ (.cons (.ty _) (.cons (.ty _) .nil)) ((hv.mono et).tyx T.R) (kit_lt T.R2 d) ?_
    refine ⟨_, rfl, ?_⟩
    have key : ∀ (p : Addr) (xs : List V) (ds : List Da), v = .ref p → DaVs a.C_Ratio H1 xs ds → ds.length ≤ 1000 → d.nums = ds.all Da.isNum → (H1 p = some (.lst xs) ∨ H1 p = some (.tup xs)) →
        tCB (rAll K) (tCons (tLc (fun σ H R => iList K (tVar 0) σ H R ∨ iTup K (tVar 0) σ H R) (gName 1) tYes (tCall (spNumber K a.C_Ratio) [] E0 (tCons (tVar 1) tNil)) (List.map (fun x => x.snd) [(Str.ofString "item", 1)])) tNil) (L2.start N_are_numbers [v]) H1 Q := by
      intro p xs ds hvp hr2 hl hn hp
      subst hvp
      walk_at "g"
      have body : ∀ D, H1 D = none → ∀ i x H', xs[i]? = some x → (Ex H1 H' ∧ H' D = some (.lst ((ds.take i).map fun d => V.bl d.isNum))) →
          Turn (gName 1) tYes (tCall (spNumber K a.C_Ratio) [] E0 (tCons (tVar 1) tNil)) (List.map (fun x => x.snd) [((Str.ofString "item" : Str), 1)]) (L2.start N_are_numbers [.ref p]) D (fun H' => Ex H1 H' ∧ H' D = some (.lst ((ds.take (i + 1)).map fun d => V.bl d.isNum))) x H' := by
        rintro D hD i x H' hx ⟨ex, hd⟩
        obtain ⟨e, he, hve⟩ := hr2.at hx
        refine ⟨rfl, ?_⟩
        walk_at "g"
        refine ⟨x, e.ty a.C_Ratio, rfl, (hve.mono ex).tyx T.R, e.kty, fun H2 e2 => ?_⟩
        rw [e.ty_num]
        refine ⟨_, e2 _ _ hd, Nat.lt_of_le_of_lt (m := 1000) (by rw [List.length_map, List.length_take]; omega) (by decide), (ex.trans e2).mut hD, ?_⟩
        rw [upd_same, take_succ_get he, List.map_append]
        rfl
      have last : ∀ D, H1 D = none → ∀ H', (Ex H1 H' ∧ H' D = some (.lst ((ds.take xs.length).map fun d => V.bl d.isNum))) → rAll K [.ref D] H' Q := by
        rintro D hD H' ⟨ex, hd⟩
        have e1 : ((ds.take xs.length).map fun d => V.bl d.isNum) = (ds.map Da.isNum).map V.bl := by
          rw [hr2.length, List.take_length, List.map_map]
          rfl
        rw [e1] at hd
        refine g_all (SqL.of hd) ?_
        rw [List.all_map, show (id ∘ Da.isNum) = Da.isNum from rfl, ← hn]
        exact z H' (et.trans ex)
      rcases hp with hp | hp
      · refine .inl ?_
        walk_at "g"
        exact ⟨p, rfl, ⟨xs, SqL.of hp⟩, cp_L (xs := xs) (fun D i H' => Ex H1 H' ∧ H' D = some (.lst ((ds.take i).map fun d => V.bl d.isNum))) (fun D hD => ⟨Ex.new hD, upd_same⟩) (fun D hD i H' _ h => SqL.of (h.1 _ _ hp)) body last⟩
      · refine .inr ?_
        walk_at "g"
        exact ⟨p, rfl, ⟨xs, SqT.of hp⟩, cp_T (xs := xs) (fun D i H' => Ex H1 H' ∧ H' D = some (.lst ((ds.take i).map fun d => V.bl d.isNum))) (fun D hD => ⟨Ex.new hD, upd_same⟩) (fun D hD i H' _ h => SqT.of (h.1 _ _ hp)) body last⟩
    have hv1 := hv.mono et
    cases hv1 with
    | lst hp r =>
      refine iteT (key _ _ _ rfl r ?_ rfl (.inl hp))
      unfold Da.fine at fine
      rw [Bool.and_eq_true] at fine
      exact of_decide_eq_true fine.1
    | tup hp r =>
      refine iteT (key _ _ _ rfl r ?_ rfl (.inr hp))
      unfold Da.fine at fine
      rw [Bool.and_eq_true] at fine
      exact of_decide_eq_true fine.1
    | _ => exact iteF (z H1 et)
theorem ok_insert_new (T : Tx K mg a) : FnOk P w K mg base CX0 6 a.f_insert_new a.d_insert_new P_insert_new (spIns a.C_Ratio) := by
  refine def_ok0 T.F_insert_new sc_insert_new (fun vs H Q E h => ?_) (fun cdv A outer s H vs Q E hr h => ?_)
  · obtain ⟨o, x, rs, qs, q, rfl, _⟩ := h
    rfl
  · obtain ⟨o, x, rs, qs, q, rfl, ho, hrs, hx, szs, szq, hl, z⟩ := h
    refine ⟨_, (pss_cons (ps_set (i := 2) sc_insert_new.nd rfl (Or.inl rfl) pe_int) (pss_cons (ps_while PassesOwn.never (PW.pt (pw_and (pt_cmpR op_lt (pv 2) (pe_callB call_lenQ (by rfl) T.b_len (by decide +kernel) (pa_cons (pv 0) pa_nil)) (nomark _)) (pw_and1 (pt_cmpR (op_cmp (fun _ _ => rfl) T.p_lt (ok_Ratio_lt T) (hr.mono (by decide)) (bd_Ratio_lt T) pass0) (pe_ix ix_list (pv 0) (pv 2) (fun _ _ => rfl)) (pv 1) (nomark _))))) (pss_one (ps_aug (i := 2) sc_insert_new.nd rfl (Or.inl rfl) pe_int ip_add))) (pss_one (ps_if (PW.pt (pw_or (pt_cmpR op_eq (pv 2) (pe_callB call_lenQ (by rfl) T.b_len (by decide +kernel) (pa_cons (pv 0) pa_nil)) (nomark _)) (pw_or1 (pt_cmpR (op_neOwn T.p_ne (ok_Ratio_eq T) (hr.mono (by decide)) (bd_Ratio_eq T) pass0) (pe_ix ix_list (pv 0) (pv 2) (fun _ _ => rfl)) (pv 1) (nomark _))))) (pss_one (ps_expr (pe_bm PySem.F.plainAttrs_list PySem.F.slot_list_insert PySem.F.type_list_insert mt_insert (pv 0) (pa_cons (pv 2) (pa_cons (pv 1) pa_nil))))) pss_nil)))), ?_⟩
    walk_at "g"
    have htw := tw_le (p := fun c => decide (c < q)) qs
    have hlen := hrs.length
    have fin : ∀ (j : Nat) H4, Ex H H4 → j = (qs.takeWhile fun c => decide (c < q)).length → (qs.dropWhile fun c => decide (c < q)).head? ≠ some q → ∀ Q2 : VK, (∀ rs' H', (∀ b ob, H b = some ob → b ≠ o → H' b = some ob) → H' o = some (.lst rs') → RatsV a.C_Ratio H' rs' (insU q qs) → Q2 .non H') →
        Q2 .non (upd H4 o (.lst (rs.take j ++ [x] ++ rs.drop j))) := by
      intro j H4 e4 ej hh Q2 z2
      have ho4 := e4 _ _ ho
      have hrs4 := hrs.mono e4
      refine z2 _ _ (fun b ob hb hne => by rw [upd_ne hne]; exact e4 _ _ hb) upd_same ?_
      rw [show insU q qs = insQ q qs by unfold insU; rw [if_neg hh], insQ_cut, ← ej]
      exact prd_app (prd_app (prd_take j (hrs4.set ho4)) (.cons ((hx.mono e4).set ho4) .nil)) (prd_drop j (hrs4.set ho4))
    have hdw : qs.drop (qs.takeWhile fun c => decide (c < q)).length = qs.dropWhile fun c => decide (c < q) := by
      have h := List.takeWhile_append_dropWhile (p := fun c => decide (c < q)) (l := qs)
      conv => lhs; arg 2; rw [← h]
      rw [List.drop_left]
    refine ⟨fun m σ' H' => ∃ j : Nat, m = rs.length - j ∧ j ≤ (qs.takeWhile fun c => decide (c < q)).length ∧ σ' = [some (.ref o), some x, some (.int (j : Int))] ∧ Ex H H', ⟨_, 0, rfl, Nat.zero_le _, rfl, Ex.refl _⟩, ?_⟩
    rintro m σ' H3 ⟨j, rfl, hj, rfl, e3⟩
    have ho3 := e3 _ _ ho
    have hrs3 := hrs.mono e3
    walk_at "g"
    refine g_lenQ (SqL.of ho3) ?_
    walk_at "g"
    refine g_dec (fun h => ?_) (fun h => ?_)
    · have hjl : j < qs.length := by omega
      obtain ⟨x', hx', hxq⟩ := prd_getR hrs3 (List.getElem?_eq_getElem hjl)
      walk_at "g"
      refine g_ixL (SqL.of ho3) (atI_nat hx') ?_
      walk_at "g"
      refine g_rel2 T.R hxq (hx.mono e3).num (szs _ (List.getElem_mem hjl)) szq (by decide) fun H4 e4 => ?_
      have ts := tw_step (p := fun c => decide (c < q)) (List.getElem?_eq_getElem hjl) hj
      have ho4 := e4 _ _ ho3
      walk_at "g"
      cases hlt : decide (qs[j] < q) with
      | true =>
        refine iteT ?_
        refine ⟨fun s2 H5 => s2 = [some (.ref o), some x, some (.int ((j + 1 : Nat) : Int))] ∧ Ex H H5, ?_, ?_⟩
        · rintro σ' H5 ⟨rfl, e5⟩
          exact ⟨rs.length - (j + 1), by omega, j + 1, rfl, ts.1 hlt, rfl, e5⟩
        · exact ⟨_, rfl, _, _, rfl, rfl, rfl, e3.trans e4⟩
      | false =>
        refine iteF ?_
        walk_at "g"
        refine g_lenQ (SqL.of ho4) ?_
        walk_at "g"
        refine g_dec (fun h2 => by omega) (fun _ => ?_)
        walk_at "g"
        refine g_ixL (SqL.of ho4) (atI_nat hx') ?_
        walk_at "g"
        refine g_neN T.R (hxq.mono e4) (hx.mono (e3.trans e4)).num szq (by decide) fun H5 e5 => ?_
        have ex5 := (e3.trans e4).trans e5
        have ej := ts.2 hlt
        have hhd : (qs.dropWhile fun c => decide (c < q)).head? = some qs[j] := by
          rw [← hdw, ← ej, List.head?_drop, List.getElem?_eq_getElem hjl]
        walk_at "g"
        refine g_ite (fun hne => ?_) (fun hne => ?_)
        · have hn : qs[j] ≠ q := of_decide_eq_false (by simpa using hne)
          walk_at "g"
          refine ⟨tyL (e5 _ _ ho4), ?_⟩
          walk_at "g"
          exact ⟨o, rs, (j : Int), x, rfl, rfl, e5 _ _ ho4, Nat.lt_of_le_of_lt (m := 1000) (by omega) (by decide), by omega, by omega, fin j H5 ex5 ej (by rw [hhd]; intro e; exact hn (Option.some.inj e)) Q z⟩
        · have hn : qs[j] = q := of_decide_eq_true (by simpa using hne)
          walk_at "g"
          refine z rs H5 (fun b ob hb _ => ex5 _ _ hb) (e5 _ _ ho4) ?_
          rw [show insU q qs = qs by unfold insU; rw [hhd, hn, if_pos rfl]]
          exact hrs3.mono (e4.trans e5)
    · have ej : j = (qs.takeWhile fun c => decide (c < q)).length := by omega
      walk_at "g"
      refine g_lenQ (SqL.of ho3) ?_
      walk_at "g"
      refine g_dec (fun _ => ?_) (fun h2 => by omega)
      walk_at "g"
      refine ⟨tyL ho3, ?_⟩
      walk_at "g"
      refine ⟨o, rs, (j : Int), x, rfl, rfl, ho3, Nat.lt_of_le_of_lt (m := 1000) (by omega) (by decide), by omega, by omega, fin j H3 e3 ej ?_ Q z⟩
      rw [← hdw, ← ej, List.drop_eq_nil_of_le (by omega)]
      simp
theorem ok_distinct (T : Tx K mg a) : FnOk P w K mg base CX0 7 a.f_distinct a.d_distinct P_distinct (spDst a.C_Ratio) := by
  refine def_ok0 T.F_distinct sc_distinct (fun vs H Q E h => ?_) (fun cdv A outer s H vs Q E hr h => ?_)
  · obtain ⟨v, ds, rfl, _⟩ := h
    rfl
  · obtain ⟨v, ds, rfl, hv, nums, fine, hl, z⟩ := h
    refine ⟨_, (pss_cons (ps_set (i := 1) sc_distinct.nd rfl (Or.inl rfl) (pe_lst pa_nil)) (pss_cons (ps_for PassesOwn.never rfl (pi_seq (pv 0)) (pg_name (i := 2) sc_distinct.nd rfl (Or.inl rfl)) (pss_one (ps_expr (pe_call (ok_insert_new T) (hr.mono (by decide)) (by rfl) T.g_insert_new T.F_insert_new.kp (bd_insert_new T) .nil pass0 (pa_cons (pv 1) (pa_cons (pe_call (ok_as_ratio T) (hr.mono (by decide)) (by rfl) T.g_as_ratio T.F_as_ratio.kp (bd_as_ratio T) .nil pass0 (pa_cons (pv 2) pa_nil)) pa_nil)))))) (pss_one (ps_ret (pv 1))))), ?_⟩
    walk_at "g"
    refine ⟨len_lit rfl, fun o ho => ?_⟩
    have e0 : Ex H (upd H o (.lst [])) := Ex.new ho
    have o0 : (upd H o (.lst [])) o = some (.lst []) := upd_same
    generalize (upd H o (.lst [])) = H1 at e0 o0 ⊢
    walk_at "g"
    obtain ⟨p, xs, rfl, hp, hr2⟩ : ∃ p xs, v = .ref p ∧ (H p = some (.lst xs) ∨ H p = some (.tup xs)) ∧ DaVs a.C_Ratio H xs ds := by
      rcases hv with hv | hv
      · cases hv with | lst h r => exact ⟨_, _, rfl, .inl h, r⟩
      · cases hv with | tup h r => exact ⟨_, _, rfl, .inr h, r⟩
    have hpo : ∃ ob, H p = some ob := hp.elim (fun h => ⟨_, h⟩) fun h => ⟨_, h⟩
    refine lp_Q (p := p) (xs := xs) (fun Q q => ⟨_, rfl, q⟩) (hp.imp (fun h => e0 _ _ h) fun h => e0 _ _ h) (fun i σ' H' => ∃ u2 rs, σ' = [some (.ref p), some (.ref o), u2] ∧ Ex H H' ∧ H' o = some (.lst rs) ∧ RatsV a.C_Ratio H' rs (dst ((ds.take i).map Da.num)))
      ⟨none, [], rfl, e0, o0, .nil⟩ (fun i σ' H' h => by
        obtain ⟨_, _, _, ex, _⟩ := h
        obtain ⟨ob, hob⟩ := hpo
        rw [ex _ _ hob, e0 _ _ hob]) (fun i x σ' H' hx h => ?_) (fun σ' H' h => ?_)
    · obtain ⟨u2, rs, rfl, ex, ho', hrs⟩ := h
      obtain ⟨d, hd, hvd⟩ := hr2.at hx
      have dn : d.isNum = true := List.all_eq_true.mp nums d (List.mem_of_getElem? hd)
      have df : d.fine = true := fineL_mem fine (List.mem_of_getElem? hd)
      walk_at "g"
      refine use_asr ((hvd.mono ex).num dn) (Da.numSz df) (by decide) fun w H2 e2 hw => ?_
      walk_at "g"
      have szs : ∀ q ∈ dst ((ds.take i).map Da.num), Sz 3000 q := fun q hq => by
        obtain ⟨d', hd', rfl⟩ := List.mem_map.mp (dst_mem.mp hq)
        exact sz_le (Da.numSz (fineL_mem fine (List.mem_of_mem_take hd'))) (by decide)
      have hlen2 : (dst ((ds.take i).map Da.num)).length ≤ 1000 := by have := dst_len ((ds.take i).map Da.num); rw [List.length_map, List.length_take] at this; omega
      refine ⟨o, w, rs, _, _, rfl, e2 _ _ ho', hrs.mono e2, hw, szs, sz_le (Da.numSz df) (by decide), hlen2, fun rs' H3 keep ho3 hrs3 => ?_⟩
      refine ⟨_, rs', rfl, fun b ob hb => keep b ob ((ex.trans e2) _ _ hb) (ne_of_none hb ho), ho3, ?_⟩
      rw [take_succ_get hd, List.map_append]
      show RatsV _ _ _ (dst (_ ++ [d.num]))
      rw [dst_snoc]
      exact hrs3
    · obtain ⟨u2, rs, rfl, ex, ho', hrs⟩ := h
      walk_at "g"
      rw [hr2.length, List.take_length] at hrs
      exact z o rs H' ho ex ho' hrs
theorem ok_Scale_init (T : Tx K mg a) : FnOk P w K mg base (L2N.CX P w) 8 a.f_Scale_init a.d_Scale_init P_Scale_init (spScaleInit a.C_Scale a.C_Ratio a.C_BadValues) := by
  refine T.F_Scale_init.ok sc_Scale_init (fun vs H Q E h => ?_) (fun cdv A outer s H vs Q E hr h => ?_)
  · obtain ⟨p, dx, v, d, rfl, _⟩ := h
    rfl
  · obtain ⟨p, dx, v, d, rfl, hv, fine, hp, good, bad⟩ := h
    refine ⟨_, (pss_cons (ps_if (PW.pt (pw_or (pt_not (pt_val (pe_call (ok_are_numbersD T) (hr.mono (by decide)) (by rfl) T.g_are_numbers T.F_are_numbers.kp (bd_are_numbers T) .nil pass0 (pa_cons (pv 1) pa_nil)))) (pw_or1 (pt_not (pt_chain op_le op_le pe_int (pe_callB call_lenQ (by rfl) T.b_len (by decide +kernel) (pa_cons (pv 1) pa_nil)) (pe_glob (v := .int 8) rfl T.c_MOST_VALUES.choose_spec ⟨_, rfl⟩)))))) (pss_one (L2N.ps_raise rfl (L2N.takes_of rfl rfl rfl rfl) (pmk_oexN T.oc_BadValues T.fi_BadValues T.ti_BadValues (ok_BadValues_init T) (hr.mono (by decide)) (bd_BadValues_init T) .nil pass0 (by rfl) T.g_BadValues (pa_cons (pv 1) pa_nil)))) pss_nil) (pss_cons (ps_fld (pv 0) (pe_call (ok_distinct T) (hr.mono (by decide)) (by rfl) T.g_distinct T.F_distinct.kp (bd_distinct T) .nil pass0 (pa_cons (pv 1) pa_nil)) rfl) (pss_one (ps_if (pt_cmpR op_lt (pe_callB call_lenQ (by rfl) T.b_len (by decide +kernel) (pa_cons (pe_fld (pv 0) rfl) pa_nil)) (pe_callB call_lenQ (by rfl) T.b_len (by decide +kernel) (pa_cons (pv 1) pa_nil)) (nomark _)) (pss_one (L2N.ps_raise rfl (L2N.takes_of rfl rfl rfl rfl) (pmk_oexN T.oc_BadValues T.fi_BadValues T.ti_BadValues (ok_BadValues_init T) (hr.mono (by decide)) (bd_BadValues_init T) .nil pass0 (by rfl) T.g_BadValues (pa_cons (pv 1) pa_nil)))) pss_nil)))), ?_⟩
    walk_at "g"
    have kp : ∀ {H1 : Hp}, Ex H H1 → H1 p = some (.ins a.C_Scale dx []) := fun e => e _ _ hp
    refine ⟨v, d, rfl, hv, fine, fun H1 e1 => ⟨_, rfl, ?_⟩⟩
    cases hn : d.nums with
    | false =>
      walk_at "g"
      refine g_oex fun dd H' hd ex hx => bad (fun qs h => ?_) dd H' (e1.free hd) (fun b o hb _ => (e1.trans ex) b o hb) hx
      obtain ⟨ds, h1, h2, _⟩ := h
      rcases h1 with rfl | rfl
      · rw [show (Da.lst ds).nums = ds.all Da.isNum from rfl, h2] at hn; cases hn
      · rw [show (Da.tup ds).nums = ds.all Da.isNum from rfl, h2] at hn; cases hn
    | true =>
      obtain ⟨p1, xs, ds, rfl, hd, hp1, hds, hall⟩ := nums_seq (hv.mono e1) hn
      obtain ⟨hl, hf⟩ := fine_seq hd fine
      have hlx := hds.length
      walk_at "g"
      refine g_lenLT hp1 ?_
      walk_at "g"
      have uni : ∀ qs, ValsOf d qs → 1 ≤ ds.length ∧ ds.length ≤ 8 ∧ climbB (isort (ds.map Da.num)) = true := fun qs h => by
        obtain ⟨ds2, h1, _, h3, h4, h5, h6⟩ := h
        have e : ds = ds2 := by
          rcases hd with rfl | rfl <;> rcases h1 with h1 | h1 <;> first | cases h1; rfl | cases h1
        subst e
        subst h5
        exact ⟨h3, h4, h6⟩
      refine g_dec (fun h1 => ?_) (fun h1 => ?_)
      · walk_at "g"
        refine g_ite (fun h2 => ?_) (fun h2 => ?_)
        · walk_at "g"
          refine g_oex fun dd H' hd ex hx => bad (fun qs h => ?_) dd H' (e1.free hd) (fun b o hb _ => (e1.trans ex) b o hb) hx
          have := uni qs h
          simp at h2
          omega
        · have h8 : ds.length ≤ 8 := by simp at h2; omega
          walk_at "g"
          refine ⟨.ref p1, ds, rfl, ?_, hall, hf, hl, fun m rs H2 hm e2 hm2 hrs => ?_⟩
          · have := hv.mono e1
            rcases hd with rfl | rfl
            · exact .inl this
            · exact .inr this
          have ex2 := e1.trans e2
          have hp2 := kp ex2
          have npm : m ≠ p := (ne_of_none hp (e1.free hm)).symm
          have npp : p1 ≠ p := by
            intro w
            subst w
            rcases hp1 with h | h <;> rw [kp e1] at h <;> cases h
          walk_at "g"
          refine ⟨p, a.C_Scale, dx, [], rfl, hp2, T.RS.cl, T.RS.nM, by decide, ?_⟩
          have kp3 : ∀ b o, H b = some o → b ≠ p → (upd H2 p (.ins a.C_Scale dx (putF "_marks" (.ref m) []))) b = some o := fun b o hb hne => by
            rw [upd_ne hne]; exact ex2 _ _ hb
          have hp3 : (upd H2 p (.ins a.C_Scale dx (putF "_marks" (.ref m) []))) p = some (.ins a.C_Scale dx (putF "_marks" (.ref m) [])) := upd_same
          have hm3 : (upd H2 p (.ins a.C_Scale dx (putF "_marks" (.ref m) []))) m = some (.lst rs) := by rw [upd_ne npm]; exact hm2
          have hp13 : (upd H2 p (.ins a.C_Scale dx (putF "_marks" (.ref m) []))) p1 = some (.lst xs) ∨ (upd H2 p (.ins a.C_Scale dx (putF "_marks" (.ref m) []))) p1 = some (.tup xs) := by
            rw [upd_ne npp]
            exact hp1.imp (fun h => e2 _ _ h) fun h => e2 _ _ h
          have hrs3 : RatsV a.C_Ratio (upd H2 p (.ins a.C_Scale dx (putF "_marks" (.ref m) []))) rs (dst (ds.map Da.num)) := Paired.mapP hrs fun v q r => by
            obtain ⟨p', rfl, dx', h'⟩ := r
            refine ⟨p', rfl, dx', ?_⟩
            rw [upd_ne]
            · exact h'
            · intro w
              rw [w, hp2] at h'
              injection h' with h'
              injection h' with h1 _ _
              exact T.neS h1.symm
          generalize (upd H2 p (.ins a.C_Scale dx (putF "_marks" (.ref m) []))) = H3 at kp3 hp3 hm3 hp13 hrs3 ⊢
          walk_at "g"
          refine ⟨p, a.C_Scale, dx, _, _, rfl, hp3, T.RS.cl, T.RS.nM, marks_look m, ?_⟩
          walk_at "g"
          refine g_lenQ (SqL.of hm3) ?_
          walk_at "g"
          refine g_lenLT hp13 ?_
          walk_at "g"
          have hlr := hrs3.length
          have hdc := dst_climb (ds.map Da.num)
          rw [List.length_map] at hdc
          refine g_dec (fun hlt => ?_) (fun hlt => ?_)
          · walk_at "g"
            refine g_oex fun dd H' hd ex hx => bad (fun qs h => ?_) dd H' ?_ (fun b o hb hne => ex _ _ (kp3 b o hb hne)) hx
            · have h1 := hdc.1.mpr (uni qs h).2.2
              omega
            · cases hq : H dd with
              | none => rfl
              | some ob =>
                by_cases hpp : dd = p
                · subst hpp; rw [hp3] at hd; cases hd
                · rw [kp3 _ _ hq hpp] at hd; cases hd
          · walk_at "g"
            have hc : climbB (isort (ds.map Da.num)) = true := hdc.1.mp (by omega)
            rw [hdc.2 hc] at hrs3
            exact good _ ⟨ds, hd, hall, by omega, h8, rfl, hc⟩ m rs _ (e1.free hm) kp3 hp3 hm3 hrs3
      · walk_at "g"
        refine g_oex fun dd H' hd ex hx => bad (fun qs h => ?_) dd H' (e1.free hd) (fun b o hb _ => (e1.trans ex) b o hb) hx
        have := uni qs h
        omega
theorem ok_Scale_len (T : Tx K mg a) : FnOk P w K mg base CX0 1 a.f_Scale_len a.d_Scale_len P_Scale_len (spLenS a.C_Scale a.C_Ratio) := by
  refine def_ok0 T.F_Scale_len sc_Scale_len (fun vs H Q E h => ?_) (fun cdv A outer s H vs Q E hr h => ?_)
  · obtain ⟨p, qs, rfl, _⟩ := h
    rfl
  · obtain ⟨p, qs, rfl, ⟨dx, m, rs, hp, hm, hrs⟩, z⟩ := h
    refine ⟨_, (pss_one (ps_ret (pe_callB call_lenQ (by rfl) T.b_len (by decide +kernel) (pa_cons (pe_fld (pv 0) rfl) pa_nil)))), ?_⟩
    walk_at "g"
    refine ⟨p, a.C_Scale, dx, _, _, rfl, hp, T.RS.cl, T.RS.nM, marks_look m, ?_⟩
    walk_at "g"
    refine g_lenQ (SqL.of hm) ?_
    rw [hrs.length]
    exact z H (Ex.refl H)
theorem ok_Scale_marks (T : Tx K mg a) : FnOk P w K mg base CX0 1 a.f_Scale_marks a.d_Scale_marks P_Scale_marks (spMarksS a.C_Scale a.C_Ratio) := by
  refine def_ok0 T.F_Scale_marks sc_Scale_marks (fun vs H Q E h => ?_) (fun cdv A outer s H vs Q E hr h => ?_)
  · obtain ⟨p, qs, rfl, _⟩ := h
    rfl
  · obtain ⟨p, qs, rfl, ⟨dx, m, rs, hp, hm, hrs⟩, z⟩ := h
    refine ⟨_, (pss_one (ps_ret (pe_callTy call_list_of (by rfl) T.b_list (by decide +kernel) (pa_cons (pe_fld (pv 0) rfl) pa_nil)))), ?_⟩
    walk_at "g"
    refine ⟨p, a.C_Scale, dx, _, _, rfl, hp, T.RS.cl, T.RS.nM, marks_look m, ?_⟩
    walk_at "g"
    exact ⟨m, rs, rfl, .inl (SqL.of hm), fun l hl => z l rs _ hl (Ex.new hl) upd_same (hrs.mono (Ex.new hl))⟩
theorem ok_Scale_eq (T : Tx K mg a) : FnOk P w K mg base CX0 7 a.f_Scale_eq a.d_Scale_eq P_Scale_eq (spEqS a.C_Scale a.C_Ratio) := by
  refine def_ok0 T.F_Scale_eq sc_Scale_eq (fun vs H Q E h => ?_) (fun cdv A outer s H vs Q E hr h => ?_)
  · obtain ⟨p, y, qs, rfl, _⟩ := h
    rfl
  · obtain ⟨p, y, qs, rfl, ⟨dx, m, rs, hp, hm, hrs⟩, sz, z⟩ := h
    refine ⟨_, (pss_one (ps_ret (pe_and (pe_callB call_isi (by rfl) T.b_isinstance (by decide +kernel) (pa_cons (pv 1) (pa_cons (pe_glob (v := .ref a.C_Scale) rfl T.g_Scale rfl) pa_nil))) (pe_one (pe_cmpR (op_lsR hr.units0 T.R (op_cmp (fun _ _ => rfl) T.p_eq (ok_Ratio_eq T) (hr.mono (by decide) : Room 5 _).in1 (bd_Ratio_eq T) pass0)) (pe_fld (pv 0) rfl) (pe_fld (pv 1) rfl) (nomark _)))))), ?_⟩
    walk_at "g"
    rcases z with ⟨p2, cs, rfl, ⟨dx2, m2, rs2, hp2, hm2, hrs2⟩, sz2, z⟩ | ⟨d, hy, z⟩
    · refine g_isi (ty_sc T.R T.RS hp2) (.own _) kit_scS ?_
      walk_at "g"
      refine ⟨p, a.C_Scale, dx, _, _, rfl, hp, T.RS.cl, T.RS.nM, marks_look m, ?_⟩
      walk_at "g"
      refine ⟨p2, a.C_Scale, dx2, _, _, rfl, hp2, T.RS.cl, T.RS.nM, marks_look m2, ?_⟩
      exact ⟨m, m2, rs, rs2, qs, cs, rfl, rfl, hm, hm2, hrs, hrs2.nums, sz2, fun H' e => z H' e⟩
    · refine g_isi (hy.tyx T.R) (.own _) (kit_sc T.RS T.neS d) ?_
      walk_at "g"
      exact z H (Ex.refl H)
theorem ok_Scale_place (T : Tx K mg a) : FnOk P w K mg base (L2N.CX P w) 6 a.f_Scale_place a.d_Scale_place P_Scale_place (spPlace a.C_Scale a.C_Ratio a.C_NoValue) := by
  refine T.F_Scale_place.ok sc_Scale_place (fun vs H Q E h => ?_) (fun cdv A outer s H vs Q E hr h => ?_)
  · obtain ⟨p, v, d, qs, rfl, _⟩ := h
    rfl
  · obtain ⟨p, v, d, qs, rfl, ⟨dx, m, rs, hp, hm, hrs⟩, sz, hl, hv, fine, good, bad⟩ := h
    refine ⟨_, (pss_cons (ps_for (passes_of rfl) rfl (pi_enum (by rfl) T.b_enumerate (pa_cons (pe_fld (pv 0) rfl) pa_nil)) (pg_tup rfl (pgs_cons (pg_name (i := 2) sc_Scale_place.nd rfl (Or.inl rfl)) (pgs_cons (pg_name (i := 3) sc_Scale_place.nd rfl (Or.inl rfl)) pgs_nil))) (pss_one (ps_if (pt_cmpR (op_cmp (fun _ _ => rfl) T.p_eq (ok_Ratio_eq T) (hr.mono (by decide)) (bd_Ratio_eq T) pass0) (pv 3) (pv 1) (nomark _)) (pss_one (ps_ret (pv 2))) pss_nil))) (pss_one (L2N.ps_raise rfl (L2N.takes_of rfl rfl rfl rfl) (pmk_oexN T.oc_NoValue T.fi_NoValue T.ti_NoValue (ok_NoValue_init T) (hr.mono (by decide)) (bd_NoValue_init T) .nil pass0 (by rfl) T.g_NoValue (pa_cons (pv 1) pa_nil))))), ?_⟩
    walk_at "g"
    refine ⟨p, a.C_Scale, dx, _, _, rfl, hp, T.RS.cl, T.RS.nM, marks_look m, ?_⟩
    walk_at "g"
    refine ⟨m, rs, rfl, SqL.of hm, lp_E (xs := rs) (fun i σ' H' => ∃ u2 u3, σ' = [some (.ref p), some v, u2, u3] ∧ Ex H H' ∧ ∀ j, j < i → d.isNum = true → qs[j]? ≠ some d.num) ⟨none, none, rfl, Ex.refl _, fun j h => absurd h (by omega)⟩
      (fun i σ' H' _ h => by obtain ⟨_, _, _, ex, _⟩ := h; exact SqL.of (ex _ _ hm)) (fun i x t σ' H' hx h ht => ?_) (fun σ' H' h => ?_)⟩
    · obtain ⟨u2, u3, rfl, ex, hno⟩ := h
      obtain ⟨q, hq, rx⟩ := prd_get hrs hx
      have e1 := ex.trans (Ex.new (o := .tup [.int (i : Int), x]) ht)
      refine g_gtup (SqT.of upd_same) rfl ?_
      generalize (upd H' t (.tup [.int (i : Int), x])) = H2 at e1 ⊢
      walk_at "g"
      cases hn : d.isNum with
      | true =>
        refine g_eqN T.R (rx.mono e1) ((hv.mono e1).num hn) (Da.numSz fine) (by decide) fun H3 e3 => ?_
        walk_at "g"
        refine g_dec (fun h => ?_) (fun h => ?_)
        · walk_at "g"
          subst h
          exact good i hn hq (fun j hj => hno j hj hn) H3 (e1.trans e3)
        · walk_at "g"
          refine ⟨_, _, rfl, e1.trans e3, fun j hj _ => ?_⟩
          by_cases hji : j = i
          · subst hji
            rw [hq]
            intro e
            exact h (Option.some.inj e)
          · exact hno j (by omega) hn
      | false =>
        refine g_eqO T.R (rx.mono e1) ((hv.mono e1).tyx T.R) d.kty (by rw [d.ty_num, hn]) fun H3 e3 => ?_
        walk_at "g"
        exact ⟨_, _, rfl, e1.trans e3, fun j hj h => by cases h⟩
    · obtain ⟨u2, u3, rfl, ex, hno⟩ := h
      walk_at "g"
      refine g_oex fun dd H2 hd e2 hx => bad (fun i hn => ?_) dd H2 (ex.free hd) (ex.trans e2) hx
      by_cases hi : i < rs.length
      · exact hno i hi hn
      · rw [List.getElem?_eq_none (by have := hrs.length; omega)]
        simp
end
end Kx


set_option maxHeartbeats 2000000
namespace Fm
open PySem PySem.Spec PyProof.Rows L2
/-! ### C(k = v) and o.m(e, k = v), the errors wished for at the slots -/
section
variable {X : Cx} {CX : CXT} {k n : Nat} {f C : Addr} {fd : FuncData} {ps ks : List Str} {sp : Sp} {E : L2.St → XK} {x m : Str} {p pos apos : Pos} {e o : Expr} {es : List Expr} {kws : List Keyword} {t tk : TA} {ta : TE} {g : List Value → List Value → List Value} {gV : List V → List V → List V}
theorem run_makeW {pins : List (Addr × Obj)} {σ : L2.St} {H : Hp} {s : Shared} {Q : VK} {us ws : List Value} {vs zs : List V} (M : Mk X.K C f) (F : FnOk X.prog X.w X.K X.mg X.base CX k f fd ps sp) (hr : Room (k + 1) X.A) (hb : KBn X.K fd ps (n + 1) ks g gV) (hx : PassesAt CX X σ (E σ))
    (I : Inv X pins σ H s) (r : Vals vs us) (rz : Vals zs ws) (l1 : vs.length = n) (l2 : zs.length = ks.length)
    (h : ∀ x dx, H x = none → H dx = none → dx ≠ x → sp (gV (.ref x :: vs) zs) (upd (upd H dx (.own x)) x (.ins C dx [])) (fun v H2 => v = .non ∧ Q (.ref x) H2) (E σ)) :
    wpAny (model X.prog X.w) X.A (call (.ref C) us (ks.zip ws)) (EP X pins σ Q) X.xe s := by
  have hq := h (s.heap.objs.size + 1) s.heap.objs.size (I.hok.fresh (Nat.le_succ _)) (I.hok.fresh (Nat.le_refl _)) (Nat.ne_of_lt (Nat.lt_succ_self _))
  have I2 := Inv.made (C := C) I
  have r1 : Vals (V.ref (s.heap.objs.size + 1) :: vs) (Value.ref (s.heap.objs.size + 1) :: us) := .cons rfl r
  have r2 := hb.rel r1 rz
  have n1 : (Value.ref (s.heap.objs.size + 1) :: us).length = n + 1 := by
    rw [List.length_cons, ← r.length, l1]
  refine wpAny_call (make_map (f := f) I.kIn M.makes M.init (beq_iff_eq.mp M.fn) (codeAny_mono (F.run _ X.stack _ _ ⟨Value.ref (s.heap.objs.size + 1) :: us, ks.zip ws⟩ (g (Value.ref (s.heap.objs.size + 1) :: us) ws) _ _ (E σ) (hr.make C us (ks.zip ws))
    (I2.env0.make C us (ks.zip ws)) (hb.to _ (Value.ref (s.heap.objs.size + 1) :: us) ws I2.kIn n1 (rz.length.symm.trans l2)) r2 hq) fun r s' hq' => ?_))
  cases r with
  | error e => exact hx pins _ _ e s' I2 hq'
  | ok fl =>
    cases fl with
    | ret u =>
      obtain ⟨v, H', I3, rv, ev, q3⟩ := I2.after hq'
      subst ev
      exact ⟨rv, ⟨V.ref (s.heap.objs.size + 1), H', I3, rfl, q3⟩⟩
    | next => exact False.elim hq'
    | brk => exact False.elim hq'
    | cont => exact False.elim hq'
/-- C(k = v, ..) -/
def tMakeW (C : Addr) (sp : Sp) (gV : List V → List V → List V) (m : Nat) (E : L2.St → XK) (tk : TA) : TE := fun σ H Q => tk σ H fun zs H2 => zs.length = m ∧ ∀ x dx, H2 x = none → H2 dx = none → dx ≠ x →
  sp (gV [.ref x] zs) (upd (upd H2 dx (.own x)) x (.ins C dx [])) (fun v H3 => v = .non ∧ Q (.ref x) H3) (E σ)
theorem pe_makeW (M : Mk X.K C f) (F : FnOk X.prog X.w X.K X.mg X.base CX k f fd ps sp) (hr : Room (k + 1) X.A) (hg : Gl X x) (hm : X.mg x = some (.ref C)) (hb : KBn X.K fd ps 1 ks g gV) (hx : ∀ σ, PassesAt CX X σ (E σ)) (hkw : PK X kws tk)
    (hall : (backToKw pos (keywordEach kws X.env)).all (·.1.isSome) = true := by rfl) (hks : (backToKw pos (keywordEach kws X.env)).filterMap (·.1) = ks := by rfl) (hdb : (x == ("__debug__" : Str)) = false := by decide)
    (hpl : ((backTo pos (starEach [] X.env)).any (·.1) || (backToKw pos (keywordEach kws X.env)).any (·.1.isNone)) = false := by rfl) :
    PE X (.Call (.Name x p) [] kws pos) (tMakeW C sp gV ks.length E tk) := by
  refine ⟨fun pins s σ H Q I h => ?_⟩
  refine wpAny_Call_Name_kw (ld_glob I hg hm ?_ hdb)
  refine PySem.W.callWith_KW0 (h₀ := X.base) I.ok.mod.kin M.kp hall ?_ hpl
  refine thn (hkw.run pos pins s σ H _ I h) fun ws s2 ⟨zs, H2, I2, rz, l2, q2⟩ => ⟨I2.kIn, ?_⟩
  rw [hks]
  exact run_makeW (us := []) (vs := []) M F hr hb (hx σ) I2 .nil rz rfl l2 q2
/-- o.m(e, .., k = v, ..) -/
def tMethP (C : Addr) (m : Str) (sp : Sp) (gV : List V → List V → List V) (n j : Nat) (E : L2.St → XK) (ta : TE) (t tk : TA) : TE := fun σ H Q => ta σ H fun x H1 => ∃ a dx fs, x = .ref a ∧ H1 a = some (.ins C dx fs) ∧ fs.lookup m = none ∧
  t σ H1 fun vs H2 => tk σ H2 fun zs H3 => vs.length = n ∧ zs.length = j ∧ sp (gV (x :: vs) zs) H3 Q (E σ)
theorem pe_methP {pl : Sem Bool} (he : PE X o ta) (c : Cls X.K C) (hm : Meth X.K C m f) (F : FnOk X.prog X.w X.K X.mg X.base CX k f fd ps sp) (hr : Room k X.A) (hb : KBn X.K fd ps (n + 1) ks g gV) (hx : ∀ σ, PassesAt CX X σ (E σ)) (ha : PA X (e :: es) t) (hkw : PK X kws tk)
    (hall : (backToKw pos (keywordEach kws X.env)).all (·.1.isSome) = true := by rfl) (hks : (backToKw pos (keywordEach kws X.env)).filterMap (·.1) = ks := by rfl)
    (hst : starEach (e :: es) X.env = (false, eval e X.env) :: starEach es X.env := by rfl)
    (hpl : ((backTo pos (starEach (e :: es) X.env)).any (·.1) || (backToKw pos (keywordEach kws X.env)).any (·.1.isNone)) = false := by rfl)
    (ht : eval (.Call (.Attribute o m apos) (e :: es) kws pos) X.env = (do
      let ov ← eval o X.env
      standAt apos.atName
      let (f, first) ← holding [ov] (getMethod ov m pl)
      callWith pos f first (backTo pos (starEach (e :: es) X.env)) (backToKw pos (keywordEach kws X.env))) := by rfl) :
    PE X (.Call (.Attribute o m apos) (e :: es) kws pos) (tMethP C m sp gV n ks.length E ta t tk) := by
  refine ⟨fun pins s σ H Q I h => ?_⟩
  refine PySem.W.methodCall_KW (pl := pl) (thn (he.run pins s σ H _ I h) fun u s1 hh => ?_) ht
  obtain ⟨x, H1, I1, rx, a, dx, fs, ex, ea, l, q⟩ := hh
  subst ex
  cases rx
  refine getmeth_ok I1 ea c hm l ?_
  refine PySem.W.callWith_KW (first := [.ref a]) (h₀ := X.base) I.ok.mod.kin hm.kp hall (thn (ha.run pos pins s1 σ H1 _ I1 q) fun us s3 ⟨vs, H3, I3, r3, q3⟩ => ?_) hpl hst
  refine thn (hkw.run pos pins s3 σ H3 _ I3 q3) fun ws s2 hh => ?_
  obtain ⟨zs, H2, I2, rz, l1, l2, q2⟩ := hh
  refine ⟨I2.kIn, ?_⟩
  rw [hks]
  exact run_kwS (us := .ref a :: us) (vs := .ref a :: vs) F hr hb (hx σ) I2 (.cons rfl r3) rz (by rw [List.length_cons, l1]) l2 q2
end
section
variable {σ : L2.St} {H : Hp} {Q : VK} {sp : Sp} {gV : List V → List V → List V} {E : L2.St → XK} {tk t : TA} {ta : TE} {n m : Nat} {C : Addr} {nm : Str}
theorem g_makeW (q : tk σ H fun zs H2 => zs.length = m ∧ ∀ x dx, H2 x = none → H2 dx = none → dx ≠ x → sp (gV [.ref x] zs) (upd (upd H2 dx (.own x)) x (.ins C dx [])) (fun v H3 => v = .non ∧ Q (.ref x) H3) (E σ)) : tMakeW C sp gV m E tk σ H Q := q
theorem g_methP (q : ta σ H fun x H1 => ∃ a dx fs, x = .ref a ∧ H1 a = some (.ins C dx fs) ∧ fs.lookup nm = none ∧ t σ H1 fun vs H2 => tk σ H2 fun zs H3 => vs.length = n ∧ zs.length = m ∧ sp (gV (x :: vs) zs) H3 Q (E σ)) : tMethP C nm sp gV n m E ta t tk σ H Q := q
end
end Fm

set_option maxHeartbeats 2000000
namespace Fm
open PySem PySem.Spec PyProof.Rows L2 HotX L2H
/-! ### a list comprehension where an exception is handled -/
section
variable {X : Cx}
theorem lc_hot {pins : List (Addr × Obj)} {s : Shared} {σ : L2.St} {H : Hp} {Q : VK} {elt tg iter : Expr} {ifs : List Expr} {scope : Scope} {own : List (Str × Nat)} {pos pos' : Pos} {wi : TI} {g : TG} {tt : TT} {te : TE} {use : Option (Value → Sem Unit)} {Qf : Value → Shared → Prop}
    (hc : HotC X) (hN : X.N.Nodup) (I : Inv X pins σ H s) (hi : PIH X tg iter wi) (ok : BlkOk X.N X.env.scope scope own)
    (hg : ∀ (s : Shared) (H : Hp) (C : Addr) (cl : List (Str × Addr)) (fp : List Addr) (p : Addr × Obj), Hot1 X.A p → PG ((X.blk s H scope (compEnvC scope cl C X.env) fp).tr [p] (fun _ _ => False)) tg g) (ht : ∀ (s : Shared) (H : Hp) (C : Addr) (cl : List (Str × Addr)) (fp : List Addr) (p : Addr × Obj), Hot1 X.A p → PTs ((X.blk s H scope (compEnvC scope cl C X.env) fp).tr [p] (fun _ _ => False)) ifs tt)
    (he : ∀ (s : Shared) (H : Hp) (C : Addr) (cl : List (Str × Addr)) (fp : List Addr) (p : Addr × Obj), Hot1 X.A p → PE ((X.blk s H scope (compEnvC scope cl C X.env) fp).tr [p] (fun _ _ => False)) elt te) (hs : ∀ x, foldedSetIterable iter X.env x = pure x)
    (h : tLc wi g tt te (own.map (·.2)) σ H Q)
    (hRR : ∀ D C s' m H', Inv X pins σ H' s' → Q (.ref D) H' → s'.heap.Ns C m → FpOk X pins H' C → compPost (model X.prog X.w) X.A X.xe use Qf (.ref D) C (.ok .next) s') :
    wpAny (model X.prog X.w) X.A (comprehension (.ListComp elt [⟨tg, iter, ifs, 0⟩] scope pos) scope X.env pos' (newList []) false (eval iter X.env) use) Qf X.xe s := by
  obtain ⟨p0, hot0, hp0⟩ := hc
  have hfree : ∀ y ∈ scope.names, y.2 = .free → ∃ c, X.env.cells.lookup y.1 = some c := fun y hy e => by
    rcases ok.free y hy e with k | k
    · exact I.ok.has _ (.inl k)
    · exact I.ok.has _ (.inr k)
  refine wpAny_comprehension_free (use := use) rfl hs (closure_ok hfree) ok.kind (fun y hy e => by rw [ok.uniq y hy, e])
    (thn (hi.run pins s σ H _ I h) fun xv s1 hx => thn hx fun itv s2 h2 => ?_)
  obtain ⟨it, fp, tn, J, H2, e, I2, T, st2, f2, q⟩ := h2
  subst e
  refine wpAny_newObj_type (newEnv_comp ?_) (by show 0 ≤ sizeLine; decide)
  generalize hD : s2.heap.objs.size = D
  have hDn : H2 D = none := I2.hok.fresh (Nat.le_of_eq hD)
  obtain ⟨W, ⟨m0, w0⟩, turn⟩ := q D hDn
  -- the new list
  generalize hs3 : ({ s2 with heap := s2.heap.push { cls := .type "list", data := .seq ([] : List Value).toArray } } : Shared) = s3
  have I3 : Inv X pins σ (upd H2 D (.lst [])) s3 := by
    rw [← hs3]
    refine I2.laid (t' := s2.toks) (fun b o e => Heap.get?_push_of_some _ e) (Nat.le_of_eq hD) ⟨Nat.zero_le _, [], 0, .nil, ?_⟩
    rw [← hD]
    exact Heap.get?_push_size _ rfl
  have h3 : s3.heap = s2.heap.push { cls := .type "list", data := .seq ([] : List Value).toArray } := by rw [← hs3]
  have sz : ∀ b ∈ fp, b < s2.heap.objs.size := fun b hb => by
    obtain ⟨o, e, _⟩ := T.obj _ _ st2 b hb
    exact Heap.lt_size e
  have f3 : ∀ b ∈ fp, FpOk X pins (upd H2 D (.lst [])) b ∧ b < s3.heap.objs.size := fun b hb => by
    have hlt := sz b hb
    refine ⟨⟨?_, (f2 b hb).2⟩, by rw [h3, Heap.size_push]; exact Nat.lt_succ_of_lt hlt⟩
    rw [upd_ne (by rw [← hD]; exact Nat.ne_of_lt hlt)]
    exact (f2 b hb).1
  have st3 : tn 0 s3.heap := T.keep _ _ _ st2 fun b _ o e => by rw [h3]; exact Heap.get?_push_of_some _ e
  have pp := I3.pin p0 (List.mem_append_left _ hp0)
  have I4 : L2.Inv ((X.blk s3 (upd H2 D (.lst [])) scope (compEnvC scope (cellsFrom (s3.heap.objs.size + 1) scope.names (cloFrom X.env.cells scope.names [])) s3.heap.objs.size X.env) fp).tr [p0] (fun _ _ => False)) [] (wipe σ (own.map (·.2))) (upd H2 D (.lst [])) { s3 with heap := pushCells (s3.heap.push { cls := .type "dict", data := .dict #[] }) scope.names } := Inv.toTry (pins := [p0]) ((block_start I3 ok hN f3).pins_of fun q hq => by
    have eq : q = p0 := List.mem_singleton.mp hq
    subst eq
    exact ⟨pushCells_keeps _ _ _ _ (Heap.get?_push_of_some _ pp.1), pp.2.1, Nat.ne_of_lt (Heap.lt_size pp.1), fun hm => (List.mem_cons.mp (I3.stkSub q.1 hm)).elim pp.2.2.1 pp.2.2.2.1, pp.2.2.2.2⟩) (fun _ _ => False)
  have pg := hg s3 (upd H2 D (.lst [])) s3.heap.objs.size (cellsFrom (s3.heap.objs.size + 1) scope.names (cloFrom X.env.cells scope.names [])) fp p0 hot0
  have pt := ht s3 (upd H2 D (.lst [])) s3.heap.objs.size (cellsFrom (s3.heap.objs.size + 1) scope.names (cloFrom X.env.cells scope.names [])) fp p0 hot0
  have pe := he s3 (upd H2 D (.lst [])) s3.heap.objs.size (cellsFrom (s3.heap.objs.size + 1) scope.names (cloFrom X.env.cells scope.names [])) fp p0 hot0
  show codeAny _ _ (.compStart (.ListComp elt [⟨tg, iter, ifs, 0⟩] scope pos) 0 (.ref it) (.ref D) (compEnvC scope (cellsFrom (s3.heap.objs.size + 1) scope.names (cloFrom X.env.cells scope.names [])) s3.heap.objs.size X.env)) (compPost (model X.prog X.w) X.A X.xe use Qf (.ref D) s3.heap.objs.size) { s3 with heap := pushCells (s3.heap.push { cls := .type "dict", data := .dict #[] }) scope.names }
  have nfp : ∀ b ∈ fp, (upd H2 D (.lst [])) b = none := fun b hb => (f3 b hb).1.1
  generalize hce : compEnvC scope (cellsFrom (s3.heap.objs.size + 1) scope.names (cloFrom X.env.cells scope.names [])) s3.heap.objs.size X.env = ce at I4 pg pt pe ⊢
  have cL : ce.locals = s3.heap.objs.size := by subst hce; rfl
  generalize hH3 : upd H2 D (.lst []) = H3 at I3 I4 pg pt pe w0 nfp f3
  generalize hs4 : ({ s3 with heap := pushCells (s3.heap.push { cls := .type "dict", data := .dict #[] }) scope.names } : Shared) = s4 at I4 ⊢
  have st4 : tn 0 s4.heap := T.keep _ _ _ st3 fun b _ o e => by rw [← hs4]; exact pushCells_keeps _ _ _ _ (Heap.get?_push_of_some _ e)
  have stat : ∀ {σ' : L2.St} {H' : Hp} {s' : Shared}, Inv ((X.blk s3 H3 scope ce fp).tr [p0] (fun _ _ => False)) [] σ' H' s' → (∀ b ∈ fp, H' b = none) → ∀ b ∈ fp, FpOk ((X.blk s3 H3 scope ce fp).tr [p0] (fun _ _ => False)) [] H' b := fun {σ' H' s'} I' hn b hb =>
    ⟨hn b hb, (I'.ok.exf b hb).1, I'.ok.exfs b hb, .inl hb, fun x c e => (I'.ok.exf b hb).2 x c e, fun p hp => by
      have e : p = p0 := by simpa using (show p ∈ [p0] ++ ([] : List (Addr × Obj)) from hp)
      rw [e]
      exact (f3 b hb).1.2.2.2.2.2 p0 (List.mem_append_left _ hp0)⟩
  have loop : codeAny (model X.prog X.w) X.A (.compLoop (.ListComp elt [⟨tg, iter, ifs, 0⟩] scope pos) 0 (.ref it) (.ref D) ce) (compPost (model X.prog X.w) X.A X.xe use Qf (.ref D) s3.heap.objs.size) s4 := by
    refine compLoop_any (fun n s' => ∃ i H', Inv ((X.blk s3 H3 scope ce fp).tr [p0] (fun _ _ => False)) [] (wipe σ (own.map (·.2))) H' s' ∧ tn i s'.heap ∧ (∀ b ∈ fp, H' b = none) ∧ W i n H') ?_ m0 ⟨0, H3, I4, st4, nfp, w0⟩
    rintro n s5 ⟨i, H5, I5, st5, n5, w5⟩
    rcases turn i n H5 w5 with ⟨stop, qq⟩ | ⟨go, Nx, hNx, step⟩
    · have td := T.done ((X.blk s3 H3 scope ce fp).tr [p0] (fun _ _ => False)) rfl rfl rfl ⟨p0, hot0, List.mem_singleton.mpr rfl⟩ i [] s5 _ H5 (fun _ _ => False) I5 (stat I5 n5) st5 stop
      refine thnF td fun r s6 ⟨hr, I6⟩ => ?_
      subst hr
      -- back in the def's context
      have I7 : Inv X pins σ H5 s6 := I3.call' (ch := fp) I6.os I6.base I6.hok I6.bare fun b hb => ⟨(f3 b hb).1.2.2.2.1, (f3 b hb).1.2.1, (f3 b hb).1.2.2.2.2.1, (f3 b hb).1.2.2.2.2.2⟩
      have nC : H5 s3.heap.objs.size = none := by
        have z : H5 ce.locals = none := I6.free
        rw [cL] at z
        exact z
      obtain ⟨m, hn, _⟩ := I6.loc
      have hn : s6.heap.Ns ce.locals m := hn
      rw [cL] at hn
      exact hRR D s3.heap.objs.size s6 m H5 I7 qq hn (I3.fpOk (Nat.le_refl _) nC)
    · have ti := T.item ((X.blk s3 H3 scope ce fp).tr [p0] (fun _ _ => False)) rfl rfl rfl ⟨p0, hot0, List.mem_singleton.mpr rfl⟩ i [] s5 _ H5 (fun _ _ => False) I5 (stat I5 n5) st5 go
      refine thnF ti fun r s6 ⟨u, hr, h6⟩ => ?_
      subst hr
      refine thnF h6 fun _ s7 ⟨x, H7, I7, r7, y7, st7, n7⟩ => ?_
      have I7' := I7.pinned (stat I7 n7) (T.obj _ _ st7)
      refine thnF (pg.run _ s7 _ H7 x u _ I7' r7 (step x H7 y7)) fun _ s8 ⟨σ8, H8, I8, hw8, q8⟩ => ?_
      refine thnF (pt.run _ s8 σ8 H8 _ I8 q8) fun b s9 ⟨H9, I9, q9⟩ => ?_
      -- the turn's end
      have fin : ∀ {s' : Shared} {H' : Hp}, Inv ((X.blk s3 H3 scope ce fp).tr [p0] (fun _ _ => False)) ([] ++ pinsAt fp s7.heap) σ8 H' s' → Nx H' → ∃ m, m < n ∧ ∃ i H', Inv ((X.blk s3 H3 scope ce fp).tr [p0] (fun _ _ => False)) [] (wipe σ (own.map (·.2))) H' s' ∧ tn i s'.heap ∧ (∀ b ∈ fp, H' b = none) ∧ W i m H' := fun {s' H'} I' nx => by
        obtain ⟨m', hm, w'⟩ := hNx H' nx
        have pin' : ∀ b ∈ fp, ∀ o, s7.heap.get? b = some o → s'.heap.get? b = some o ∧ H' b = none := fun b hb o e =>
          let z := I'.pin (b, o) (List.mem_append_right _ (List.mem_append_right _ (mem_pinsAt hb e)))
          ⟨z.1, z.2.1⟩
        have hl : (wipe σ (own.map (·.2))).length = σ8.length := by rw [← hw8, wipe_length]
        refine ⟨m', hm, i + 1, H', (I'.unpinned (pins := [])).weak hl (fun j v e => ?_), T.keep _ _ _ st7 fun b hb o e => (pin' b hb o e).1, fun b hb => ?_, w'⟩
        · rw [← hw8] at e
          exact (wipe_some e).1
        · obtain ⟨o, e, _⟩ := T.obj _ _ st7 b hb
          exact (pin' b hb o e).2
      cases b with
      | false =>
        simp only [Bool.false_eq_true, if_false] at q9 ⊢
        exact fin I9 q9
      | true =>
        simp only [if_true] at q9 ⊢
        refine thnF (pe.run _ s9 σ8 H9 _ I9 q9) fun z s10 ⟨yv, H10, I10, r10, acc, hD10, hz10, nx⟩ => ?_
        exact app_ok (X := (X.blk s3 H3 scope ce fp).tr [p0] (fun _ _ => False)) I10 hD10 hz10 r10 fun s11 I11 => fin I11 nx
  exact codeAny_compStart_list loop (T.self X.A 0 _ _ _ st4 loop)
theorem pe_lcH {elt tg iter : Expr} {ifs : List Expr} {scope : Scope} {own : List (Str × Nat)} {pos : Pos} {wi : TI} {g : TG} {tt : TT} {te : TE} (hc : HotC X) (hN : X.N.Nodup) (hi : PIH X tg iter wi) (ok : BlkOk X.N X.env.scope scope own)
    (hg : ∀ (s : Shared) (H : Hp) (C : Addr) (cl : List (Str × Addr)) (fp : List Addr) (p : Addr × Obj), Hot1 X.A p → PG ((X.blk s H scope (compEnvC scope cl C X.env) fp).tr [p] (fun _ _ => False)) tg g) (ht : ∀ (s : Shared) (H : Hp) (C : Addr) (cl : List (Str × Addr)) (fp : List Addr) (p : Addr × Obj), Hot1 X.A p → PTs ((X.blk s H scope (compEnvC scope cl C X.env) fp).tr [p] (fun _ _ => False)) ifs tt)
    (he : ∀ (s : Shared) (H : Hp) (C : Addr) (cl : List (Str × Addr)) (fp : List Addr) (p : Addr × Obj), Hot1 X.A p → PE ((X.blk s H scope (compEnvC scope cl C X.env) fp).tr [p] (fun _ _ => False)) elt te) (hs : ∀ x, foldedSetIterable iter X.env x = pure x := by intro _; rfl) :
    PE X (.ListComp elt [⟨tg, iter, ifs, 0⟩] scope pos) (tLc wi g tt te (own.map (·.2))) := by
  refine ⟨fun pins s σ H Q I h => ?_⟩
  rw [eval_ListComp]
  refine lc_hot hc hN I hi ok hg ht he hs h fun D C s' m H' I' q hn f => ⟨m, hn, fun h2 sb => ?_⟩
  obtain ⟨f0, f1, f2, f3, f4, f5⟩ := f
  exact ⟨.ref D, H', I'.turned (t' := s'.toks) (fun b o hb e => (sb.2 b hb).trans e) f0 f1 f3 f4 f5, rfl, q⟩
end
end Fm

set_option maxHeartbeats 2000000
namespace Fm
open PySem PySem.Spec PyProof.Rows L2 HotX L2H
/-! ### the end of a walk where an exception is handled -/
section
variable {prog : Program} {w : World} {A : Around} {E : Value → Shared → Prop} {s : Shared}
theorem next_list_hot {it l x1 : Addr} {i : Nat} {items : Array Value} {Q : Option Value → Shared → Prop} (hot : HotAt A x1 s.heap) (hne : x1 ≠ it)
    (hit : s.heap.IsListIter it l i) (hl : s.heap.IsList l items) (hx : items[i]? = none)
    (hQ : ∀ h', Heap.ExtBut it s.heap h' → Q none { s with heap := h' }) : wpAny (model prog w) A (pyNext (.ref it)) Q E s := by
  obtain ⟨hh, o1, vs1, h1, d1, c1⟩ := hot
  obtain ⟨o, ho, hc, hd⟩ := id hit
  obtain ⟨ol, hol, _, nl, hdl⟩ := hl
  unfold pyNext
  refine wpAny_bind (wpAny_attempt (wpAny_callSpecial?_slot (name := Str.ofString "__next__") hit.typeIs slot_listiter_next
    (wpAny_call_entry slot_listiter_next hit.typeIs entry_listiter_next ?_ (args_listiter_next _))))
  show wpAny _ _ (field (.ref it) 0 >>= _) _ _ s
  refine wpAny_bind (wpAny_field ho hd (x := .ref l) rfl ?_)
  show wpAny _ _ (if (Value.ref l == Value.none) = true then _ else _) _ _ s
  rw [if_neg (show ¬ ((Value.ref l == Value.none) = true) from Bool.false_ne_true)]
  show wpAny _ _ (field (.ref it) 1 >>= _) _ _ s
  refine wpAny_bind (wpAny_field ho hd (x := .int i 0) rfl ?_)
  show wpAny _ _ (seqItems? (.ref l) >>= _) _ _ s
  refine wpAny_bind (wpAny_seqItems hol hdl ?_)
  simp only [Int.toNat_natCast, hx]
  refine wpAny_bind (wpAny_rule (wpAny_bind (wpAny_setField ho hd (by simp) ?_)))
  show wpAny _ _ (newExc (.type "StopIteration") [] >>= _) _ _ _
  refine wpAny_bind ?_
  simp only [newExc, newTuple]
  refine wpAny_bind (wpAny_newObj_type ?_ (by size_fits))
  refine wpAny_bind (m := firstArgMember _ _) (wpAny_of_eq (a := Value.none) (by first | rfl | (simp only [firstArgMember]; rfl)) ?_)
  refine wpAny_newObj_type ?_ (by size_fits)
  have h1' : (s.heap.update it (Obj.mapFields (·.setIfInBounds 0 .none))).get? x1 = some o1 := by rw [Heap.get?_update_other _ _ hne.symm]; exact h1
  refine raiseNew_hot ⟨hh, o1, vs1, Heap.get?_push_of_some _ (Heap.get?_push_of_some _ h1'), d1, c1⟩ (Nat.ne_of_lt (Heap.lt_size (Heap.get?_push_of_some _ h1'))) (Heap.get?_push_size _ rfl) rfl (by first | (simp; done) | (simp; omega) | (simp only [Array.size_append]; simp; omega)) ?_
  refine wpAny_bind (wpAny_isInstance (T := "StopIteration") (b := true) ⟨_, Heap.get?_update_self _ (Heap.get?_push_size _ rfl) rfl, rfl⟩ isSubtype_stop ?_)
  refine wpAny_pure (hQ _ fun b o hb e => ?_)
  have e' : (s.heap.update it (Obj.mapFields (·.setIfInBounds 0 .none))).get? b = some o := by rw [Heap.get?_update_other _ _ hb.symm]; exact e
  rw [Heap.get?_update_other _ _ (Nat.ne_of_gt (Heap.lt_size (Heap.get?_push_of_some _ e')))]
  exact Heap.get?_push_of_some _ (Heap.get?_push_of_some _ e')
theorem next_tuple_hot {it l x1 : Addr} {i : Nat} {items : Array Value} {Q : Option Value → Shared → Prop} (hot : HotAt A x1 s.heap) (hne : x1 ≠ it)
    (hit : s.heap.IsTupleIter it l i) (hl : s.heap.IsTuple l items) (hx : items[i]? = none)
    (hQ : ∀ h', Heap.ExtBut it s.heap h' → Q none { s with heap := h' }) : wpAny (model prog w) A (pyNext (.ref it)) Q E s := by
  obtain ⟨hh, o1, vs1, h1, d1, c1⟩ := hot
  obtain ⟨o, ho, hc, hd⟩ := id hit
  obtain ⟨ol, hol, _, nl, hdl⟩ := hl
  unfold pyNext
  refine wpAny_bind (wpAny_attempt (wpAny_callSpecial?_slot (name := Str.ofString "__next__") hit.typeIs F.slot_tuple_iterator_next
    (wpAny_call_entry F.slot_tuple_iterator_next hit.typeIs F.entry_tuple_iterator_next ?_ (F.args_tuple_iterator_next_1 _))))
  show wpAny _ _ (field (.ref it) 0 >>= _) _ _ s
  refine wpAny_bind (wpAny_field ho hd (x := .ref l) rfl ?_)
  show wpAny _ _ (if (Value.ref l == Value.none) = true then _ else _) _ _ s
  rw [if_neg (show ¬ ((Value.ref l == Value.none) = true) from Bool.false_ne_true)]
  show wpAny _ _ (field (.ref it) 1 >>= _) _ _ s
  refine wpAny_bind (wpAny_field ho hd (x := .int i 0) rfl ?_)
  show wpAny _ _ (seqItems? (.ref l) >>= _) _ _ s
  refine wpAny_bind (wpAny_seqItems hol hdl ?_)
  simp only [Int.toNat_natCast, hx]
  refine wpAny_bind (wpAny_rule (wpAny_bind (wpAny_setField ho hd (by simp) ?_)))
  show wpAny _ _ (newExc (.type "StopIteration") [] >>= _) _ _ _
  refine wpAny_bind ?_
  simp only [newExc, newTuple]
  refine wpAny_bind (wpAny_newObj_type ?_ (by size_fits))
  refine wpAny_bind (m := firstArgMember _ _) (wpAny_of_eq (a := Value.none) (by first | rfl | (simp only [firstArgMember]; rfl)) ?_)
  refine wpAny_newObj_type ?_ (by size_fits)
  have h1' : (s.heap.update it (Obj.mapFields (·.setIfInBounds 0 .none))).get? x1 = some o1 := by rw [Heap.get?_update_other _ _ hne.symm]; exact h1
  refine raiseNew_hot ⟨hh, o1, vs1, Heap.get?_push_of_some _ (Heap.get?_push_of_some _ h1'), d1, c1⟩ (Nat.ne_of_lt (Heap.lt_size (Heap.get?_push_of_some _ h1'))) (Heap.get?_push_size _ rfl) rfl (by first | (simp; done) | (simp; omega) | (simp only [Array.size_append]; simp; omega)) ?_
  refine wpAny_bind (wpAny_isInstance (T := "StopIteration") (b := true) ⟨_, Heap.get?_update_self _ (Heap.get?_push_size _ rfl) rfl, rfl⟩ isSubtype_stop ?_)
  refine wpAny_pure (hQ _ fun b o hb e => ?_)
  have e' : (s.heap.update it (Obj.mapFields (·.setIfInBounds 0 .none))).get? b = some o := by rw [Heap.get?_update_other _ _ hb.symm]; exact e
  rw [Heap.get?_update_other _ _ (Nat.ne_of_gt (Heap.lt_size (Heap.get?_push_of_some _ e')))]
  exact Heap.get?_push_of_some _ (Heap.get?_push_of_some _ e')
theorem next_key_hot {it d x1 : Addr} {i n ep : Nat} {od : Obj} {es : Array DictEntry} {Q : Option Value → Shared → Prop} (hot : HotAt A x1 s.heap) (hne : x1 ≠ it) (hit : s.heap.IsKeyIter it d i n ep) (hod : s.heap.get? d = some od) (hdd : od.data = .dict es ep)
    (hsz : es.size = n) (hge : n ≤ i) (hQ : ∀ h', Heap.ExtBut it s.heap h' → Q none { s with heap := h' }) : wpAny (model prog w) A (pyNext (.ref it)) Q E s := by
  obtain ⟨hh, o1, vs1, h1, d1, c1⟩ := hot
  obtain ⟨o, ho, hc, hd⟩ := id hit
  unfold pyNext
  refine wpAny_bind (wpAny_attempt (wpAny_callSpecial?_slot (name := Str.ofString "__next__") hit.typeIs F.slot_dict_keyiterator_next
    (wpAny_call_entry F.slot_dict_keyiterator_next hit.typeIs F.entry_dict_keyiterator_next ?_ (F.args_dict_keyiterator_next_1 _))))
  refine wpAny_bind (wpAny_pure ?_)
  refine wpAny_bind ?_
  refine wpAny_bind ?_
  first | refine wpAny_bind (wpAny_typeNameOfWhole_keyiter hit.typeIs (wpAny_pure ?_)) | refine wpAny_bind (wpAny_typeNameOf_keyiter hit.typeIs (wpAny_pure ?_))
  refine wpAny_bind (wpAny_fieldsOf ho hd ?_)
  have hown : Builtin.Dict_items.ownsTuple "dict_keyiterator" = false := by decide
  simp only [hown, Bool.false_eq_true, if_false]
  show wpAny _ _ (if (Value.ref d == Value.none) = true then _ else _) _ _ s
  rw [if_neg (show ¬ ((Value.ref d == Value.none) = true) from Bool.false_ne_true)]
  refine wpAny_bind (wpAny_pure ?_)
  refine wpAny_bind (wpAny_dictEntries hod hdd ?_)
  rw [if_neg (by rw [hsz]; simp)]
  refine wpAny_bind (wpAny_pure ?_)
  refine wpAny_bind (wpAny_dictEpoch hod hdd ?_)
  rw [if_neg (by simp)]
  refine wpAny_pure ?_
  have hge' : es.size ≤ i := by rw [hsz]; exact hge
  simp only [show ¬ ((i : Int) < 0) from by omega, if_false, Int.toNat_natCast, Array.getElem?_eq_none hge']
  refine wpAny_bind ?_
  first | refine wpAny_bind (wpAny_typeNameOfWhole_keyiter hit.typeIs (wpAny_pure ?_)) | refine wpAny_bind (wpAny_typeNameOf_keyiter hit.typeIs (wpAny_pure ?_))
  show wpAny _ _ (setField (.ref it) 0 .none >>= _) _ _ s
  refine wpAny_bind (wpAny_setField ho hd (by simp) ?_)
  show wpAny _ _ (newExc (.type "StopIteration") [] >>= _) _ _ _
  refine wpAny_bind ?_
  simp only [newExc, newTuple]
  refine wpAny_bind (wpAny_newObj_type ?_ (by size_fits))
  refine wpAny_bind (m := firstArgMember _ _) (wpAny_of_eq (a := Value.none) (by first | rfl | (simp only [firstArgMember]; rfl)) ?_)
  refine wpAny_newObj_type ?_ (by size_fits)
  have h1' : (s.heap.update it (Obj.mapFields (·.setIfInBounds 0 .none))).get? x1 = some o1 := by rw [Heap.get?_update_other _ _ hne.symm]; exact h1
  refine raiseNew_hot ⟨hh, o1, vs1, Heap.get?_push_of_some _ (Heap.get?_push_of_some _ h1'), d1, c1⟩ (Nat.ne_of_lt (Heap.lt_size (Heap.get?_push_of_some _ h1'))) (Heap.get?_push_size _ rfl) rfl (by first | (simp; done) | (simp; omega) | (simp only [Array.size_append]; simp; omega)) ?_
  refine wpAny_bind (wpAny_isInstance (T := "StopIteration") (b := true) ⟨_, Heap.get?_update_self _ (Heap.get?_push_size _ rfl) rfl, rfl⟩ isSubtype_stop ?_)
  refine wpAny_pure (hQ _ fun b o hb e => ?_)
  have e' : (s.heap.update it (Obj.mapFields (·.setIfInBounds 0 .none))).get? b = some o := by rw [Heap.get?_update_other _ _ hb.symm]; exact e
  rw [Heap.get?_update_other _ _ (Nat.ne_of_gt (Heap.lt_size (Heap.get?_push_of_some _ e')))]
  exact Heap.get?_push_of_some _ (Heap.get?_push_of_some _ e')
end
/-- the handled exception is no object of the walk -/
theorem hot_off {X : Cx} {pins : List (Addr × Obj)} {σ : L2.St} {H : Hp} {s : Shared} {it : Addr} (c : HotC X) (I : L2.Inv X pins σ H s) (f5 : ∀ p ∈ X.pn ++ pins, p.1 ≠ it) : ∃ x1, HotAt X.A x1 s.heap ∧ x1 ≠ it := by
  obtain ⟨p, ⟨hh, v1, e1, c1⟩, hp⟩ := c
  exact ⟨p.1, ⟨hh, p.2, v1, (I.pin p (List.mem_append_left _ hp)).1, e1, c1⟩, f5 p (List.mem_append_left _ hp)⟩
theorem turn_listH {P : Program} {w : World} {K : PySem.W.Frag} {tg : Expr} (a it : Addr) : TurnH P w K tg (Itl K a) [it] it (fun i h => h.IsListIter it a i) where
  mem := List.mem_singleton.mpr rfl
  obj := fun i h st b hb => by
    obtain rfl := List.mem_singleton.mp hb
    obtain ⟨o, e, c, d⟩ := st
    exact ⟨o, e, fun v z => by rw [d] at z; cases z⟩
  keep := fun i h h' st k => st.at fun o e => k it (List.mem_singleton.mpr rfl) o e
  item := by
    intro X hP hw hK hc i pins s σ H E I hf st ⟨xs, x, hq, hx⟩
    subst hP hw hK
    obtain ⟨its, rv, p, hz⟩ := I.list hq
    obtain ⟨u, hu, ru⟩ := rv.get hx
    obtain ⟨f0, f1, f2, f3, f4, f5⟩ := hf it (List.mem_singleton.mpr rfl)
    refine wpAny_pyNext_list_item st (show s.heap.IsList a its.toArray from p.isList) (x := u) (by simpa using hu) fun h' st' sb => ?_
    obtain ⟨o, e, c, d⟩ := id st'
    exact ⟨u, rfl, go_of (s := { s with heap := h' }) e c d (by decide) ⟨x, H, I.turned (t' := s.toks) (fun b o hb e => (sb.2 b hb).trans e) f0 f1 f3 f4 f5, ru, ⟨rfl, fun ys hy => by rw [I.list_inj hy hq]; exact hx⟩, st', fun b hb => (hf b hb).1⟩⟩
  done := by
    intro X hP hw hK hc i pins s σ H E I hf st ⟨xs, hq, hx⟩
    subst hP hw hK
    obtain ⟨its, rv, p, hz⟩ := I.list hq
    obtain ⟨f0, f1, f2, f3, f4, f5⟩ := hf it (List.mem_singleton.mpr rfl)
    have hl := rv.length
    obtain ⟨x1, hot, ne⟩ := hot_off hc I f5
    exact next_list_hot hot ne st (show s.heap.IsList a its.toArray from p.isList) (by simp; omega) fun h' eb => ⟨rfl, I.turned (t' := s.toks) (fun b o hb e => eb b o hb e) f0 f1 f3 f4 f5⟩
  self := fun _ _ _ _ _ st h => wpAny_pyIter_listiter st h
theorem turn_tupleH {P : Program} {w : World} {K : PySem.W.Frag} {tg : Expr} (a it : Addr) : TurnH P w K tg (Itt K a) [it] it (fun i h => h.IsTupleIter it a i) where
  mem := List.mem_singleton.mpr rfl
  obj := fun i h st b hb => by
    obtain rfl := List.mem_singleton.mp hb
    obtain ⟨o, e, c, d⟩ := st
    exact ⟨o, e, fun v z => by rw [d] at z; cases z⟩
  keep := fun i h h' st k => st.at fun o e => k it (List.mem_singleton.mpr rfl) o e
  item := by
    intro X hP hw hK hc i pins s σ H E I hf st ⟨xs, x, hq, hx⟩
    subst hP hw hK
    obtain ⟨its, rv, p, hz⟩ := I.tuple hq
    obtain ⟨u, hu, ru⟩ := rv.get hx
    obtain ⟨f0, f1, f2, f3, f4, f5⟩ := hf it (List.mem_singleton.mpr rfl)
    refine wpAny_pyNext_tuple_item st (show s.heap.IsTuple a its.toArray from p) (x := u) (by simpa using hu) fun h' st' sb => ?_
    obtain ⟨o, e, c, d⟩ := id st'
    exact ⟨u, rfl, go_of (s := { s with heap := h' }) e c d (by decide) ⟨x, H, I.turned (t' := s.toks) (fun b o hb e => (sb.2 b hb).trans e) f0 f1 f3 f4 f5, ru, ⟨rfl, fun ys hy => by rw [I.tuple_inj hy hq]; exact hx⟩, st', fun b hb => (hf b hb).1⟩⟩
  done := by
    intro X hP hw hK hc i pins s σ H E I hf st ⟨xs, hq, hx⟩
    subst hP hw hK
    obtain ⟨its, rv, p, hz⟩ := I.tuple hq
    obtain ⟨f0, f1, f2, f3, f4, f5⟩ := hf it (List.mem_singleton.mpr rfl)
    have hl := rv.length
    obtain ⟨x1, hot, ne⟩ := hot_off hc I f5
    exact next_tuple_hot hot ne st (show s.heap.IsTuple a its.toArray from p) (by simp; omega) fun h' eb => ⟨rfl, I.turned (t' := s.toks) (fun b o hb e => eb b o hb e) f0 f1 f3 f4 f5⟩
  self := fun _ _ _ _ _ st h => wpAny_pyIter_tupleiter st h
end Fm

set_option maxHeartbeats 2000000
namespace Fm
open PySem PySem.Spec PyProof.Rows L2 HotX L2H
/-! ### what is walked where an exception is handled -/
theorem turn_keysH {P : Program} {w : World} {K : PySem.W.Frag} {tg : Expr} {d : Addr} {o : Obj} {es : Array DictEntry} {ep : Nat} {kvs : List (Key × V)} (it : Addr) (hod : o.data = .dict es ep) : TurnH P w K tg (Itk d o kvs) [it] it (fun i h => h.IsKeyIter it d i kvs.length ep) where
  mem := List.mem_singleton.mpr rfl
  obj := fun i h st b hb => by
    obtain rfl := List.mem_singleton.mp hb
    obtain ⟨oi, e, c, dd⟩ := st
    exact ⟨oi, e, fun v z => by rw [dd] at z; cases z⟩
  keep := fun i h h' st k => st.at fun oi e => k it (List.mem_singleton.mpr rfl) oi e
  item := by
    intro X hP hw hK hc i pins s σ H E I hf st ⟨hd, hi⟩
    subst hP hw hK
    obtain ⟨f0, f1, f2, f3, f4, f5⟩ := hf it (List.mem_singleton.mpr rfl)
    obtain ⟨hs, hgd, hx, es', ep', vs, hdt, hsz, kv, hm⟩ := I.frzK hd
    obtain ⟨rfl, rfl⟩ := dict_ep hod hdt
    have hkv : kvs[i]? = some (kvs[i].1, kvs[i].2) := List.getElem?_eq_getElem hi
    obtain ⟨u, hu, ru⟩ := kv_get kv hkv
    have hl : kvs.length = vs.length := Paired.length kv
    rw [hl] at st
    refine wpAny_pyNext_dict_item st hm hu fun key h' hkey st' sb => ?_
    obtain ⟨oi, e, c, dd⟩ := id st'
    refine ⟨key, rfl, go_of (s := { s with heap := h' }) e c dd (by decide) ⟨kV kvs[i].1, H, I.turned (t' := s.toks) (fun b ob hb e => (sb.2 b hb).trans e) f0 f1 f3 f4 f5, relV_key (show keyIs kvs[i].1 key = true from hkey), ⟨rfl, _, _, hkv, rfl⟩, ?_, fun b hb => (hf b hb).1⟩⟩
    show h'.IsKeyIter it d (i + 1) kvs.length _
    rw [hl]
    exact st'
  done := by
    intro X hP hw hK hc i pins s σ H E I hf st ⟨hd, hi⟩
    subst hP hw hK
    obtain ⟨f0, f1, f2, f3, f4, f5⟩ := hf it (List.mem_singleton.mpr rfl)
    obtain ⟨hs, hgd, hx, es', ep', vs, hdt, hsz, kv, hm⟩ := I.frzK hd
    obtain ⟨rfl, rfl⟩ := dict_ep hod hdt
    obtain ⟨x1, hot, ne⟩ := hot_off hc I f5
    exact next_key_hot hot ne st hgd hdt hsz hi fun h' eb => ⟨rfl, I.turned (t' := s.toks) (fun b ob hb e => eb b ob hb e) f0 f1 f3 f4 f5⟩
  self := fun A i s Q E st h => wpAny_pyIter_keyiter st h
section
variable {X : Cx} {tg : Expr}
theorem pi_oneH {pins : List (Addr × Obj)} {σ : L2.St} {H : Hp} {s : Shared} {R : It → Hp → Prop} {J : It} {tn : Nat → Heap → Prop} {tk : Nat} (I : L2.Inv X pins σ H s) (o : Obj)
    (T : TurnH X.prog X.w X.K tg J [s.heap.objs.size] s.heap.objs.size tn) (st : tn 0 (s.heap.push o)) (q : R J H) : PIEH X pins σ tg R (.ref s.heap.objs.size) { s with heap := s.heap.push o, toks := tk } :=
  ⟨s.heap.objs.size, [s.heap.objs.size], tn, J, H, rfl, I.kept fun b ob e => Heap.get?_push_of_some _ e, T, st, fun b hb => by
    obtain rfl := List.mem_singleton.mp hb
    exact I.fpOk (Nat.le_refl _) (I.hok.fresh (Nat.le_refl _)), q⟩
theorem pi_listH {l : Expr} {tl : TE} (hl : PE X l tl) : PIH X tg l (iList X.K tl) := by
  refine ⟨fun pins s σ H R I h => thn (hl.run pins s σ H _ I h) fun v s1 ⟨x, H1, I1, r1, a, e, ⟨xs, hq⟩, q⟩ => ?_⟩
  subst e
  cases r1
  obtain ⟨its, rv, p, hz⟩ := I1.list hq
  exact wpAny_pyIter_list p.isList (pi_oneH (tk := s1.toks) I1 _ (turn_listH a _) ⟨_, Heap.get?_push_size _ rfl, rfl, rfl⟩ q)
theorem pi_tupH {l : Expr} {tl : TE} (hl : PE X l tl) : PIH X tg l (iTup X.K tl) := by
  refine ⟨fun pins s σ H R I h => thn (hl.run pins s σ H _ I h) fun v s1 ⟨x, H1, I1, r1, a, e, ⟨xs, hq⟩, q⟩ => ?_⟩
  subst e
  cases r1
  obtain ⟨its, rv, p, hz⟩ := I1.tuple hq
  exact wpAny_pyIter_tuple (show s1.heap.IsTuple a its.toArray from p) (pi_oneH (tk := s1.toks) I1 _ (turn_tupleH a _) ⟨_, Heap.get?_push_size _ rfl, rfl, rfl⟩ q)
theorem pi_seqH {l : Expr} {tl : TE} (hl : PE X l tl) : PIH X tg l (fun σ H R => iList X.K tl σ H R ∨ iTup X.K tl σ H R) :=
  ⟨fun pins s σ H R I h => h.elim ((pi_listH hl).run pins s σ H R I) ((pi_tupH hl).run pins s σ H R I)⟩
theorem pi_keysH {e : Expr} {td : TE} (he : PE X e td) : PIH X tg e (iKeysM td) := by
  refine ⟨fun pins s σ H R I h => thn (he.run pins s σ H _ I h) fun u s1 ⟨x, H1, I1, rx, d, o, kvs, ex, hd, q⟩ => ?_⟩
  subst ex
  obtain rfl : u = Value.ref d := rx
  obtain ⟨hs, hgd, hx, es, ep, vs, hdt, hsz, kv, hm⟩ := I1.frzK hd
  refine iter_keys hs hgd hx hdt (pi_oneH (tk := s1.toks) I1 _ (turn_keysH _ hdt) ⟨_, Heap.get?_push_size _ rfl, rfl, ?_⟩ q)
  rw [hsz] <;> rfl
end
/-- a def's promise where an exception is handled -/
theorem def_okH {P : Program} {w : World} {K : PySem.W.Frag} {mg : Str → Option Value} {base : Heap} {CX : CXT} {k : Nat} {x qual : Str} {params : Arguments} {bd : List Stmt} {scope : Scope} {f : Addr} {fd : FuncData} {N ps : List Str} {sp : Sp} (F : FunD K x qual params bd scope [] [] f fd) (S : FnScope N ps scope)
    (len : ∀ vs H Q E, sp vs H Q E → vs.length = ps.length)
    (hbody : ∀ (cdv : Value) (A : Around) (outer : List Env) (s : Shared) (H : Hp) (vs : List V) (Q : VK) (E : XK) (p : Addr × Obj), Hot1 A p → RoomH k (A.deeper (envOfC qual scope s.heap.objs.size f cdv)) → sp vs H Q E →
      ∃ t, PSs (cxH CX P w K mg base N qual scope f cdv A outer s H E p) bd t ∧ t { nx := fun _ H' => Q .non H', rt := Q } (L2.start N vs) H) :
    FnH P w K mg base CX (k + 1) f fd ps sp := by
  obtain ⟨oc, od, dV, kV, doc, pm, an, cdv, ct, osl, rfl, lk, hcd, hD, hK⟩ := F.ex
  exact fn_ofH lk hcd S len fun A outer s H vs Q E p hot hr h => hbody cdv A outer s H vs Q E p hot hr h
end Fm

set_option maxHeartbeats 2000000
namespace Fm
open PySem PySem.Spec PyProof.Rows L2
/-! ### data -/
inductive Dt where
  | non | bl (b : Bool) | int (i : Int) | str (s : Str) | rat (q : Rat) | lst (l : List Dt) | tup (l : List Dt) | dic (l : List (Str × Dt)) | scl (qs : List Rat)
/-- the classes of the Scales and of the Ratios -/
structure Gs where
  S : Addr
  R : Addr
mutual
inductive DtV (G : Gs) (H : Hp) : V → Dt → Prop
  | non : DtV G H .non .non
  | bl (b : Bool) : DtV G H (.bl b) (.bl b)
  | int (i : Int) : DtV G H (.int i) (.int i)
  | str (s : Str) : DtV G H (.str s) (.str s)
  | rat {v : V} {q : Rat} (h : RatV G.R H v q) : DtV G H v (.rat q)
  | lst {p : Addr} {xs : List V} {ds : List Dt} (h : H p = some (.lst xs)) (r : DtVs G H xs ds) : DtV G H (.ref p) (.lst ds)
  | tup {p : Addr} {xs : List V} {ds : List Dt} (h : H p = some (.tup xs)) (r : DtVs G H xs ds) : DtV G H (.ref p) (.tup ds)
  | dic {p : Addr} {ks : List (Key × V)} {ds : List (Str × Dt)} (h : H p = some (.dK ks)) (r : DtKs G H ks ds) : DtV G H (.ref p) (.dic ds)
  | scl {p dx m : Addr} {rs : List V} {qs : List Rat} (h : H p = some (.ins G.S dx (putF "_marks" (.ref m) []))) (hm : H m = some (.lst rs)) (r : RatsV G.R H rs qs) : DtV G H (.ref p) (.scl qs)
inductive DtVs (G : Gs) (H : Hp) : List V → List Dt → Prop
  | nil : DtVs G H [] []
  | cons {v : V} {d : Dt} {vs : List V} {ds : List Dt} (h : DtV G H v d) (r : DtVs G H vs ds) : DtVs G H (v :: vs) (d :: ds)
inductive DtKs (G : Gs) (H : Hp) : List (Key × V) → List (Str × Dt) → Prop
  | nil : DtKs G H [] []
  | cons {s : Str} {v : V} {d : Dt} {vs : List (Key × V)} {ds : List (Str × Dt)} (h : DtV G H v d) (r : DtKs G H vs ds) : DtKs G H ((.inr s, v) :: vs) ((s, d) :: ds)
end
section
variable {G : Gs} {H H' : Hp}
mutual
theorem DtV.mono (e : Ex H H') : ∀ {v : V} {d : Dt}, DtV G H v d → DtV G H' v d
  | _, _, .non => .non
  | _, _, .bl b => .bl b
  | _, _, .int i => .int i
  | _, _, .str s => .str s
  | _, _, .rat h => .rat (h.mono e)
  | _, _, .lst h r => .lst (e _ _ h) (DtVs.mono e r)
  | _, _, .tup h r => .tup (e _ _ h) (DtVs.mono e r)
  | _, _, .dic h r => .dic (e _ _ h) (DtKs.mono e r)
  | _, _, .scl h hm r => .scl (e _ _ h) (e _ _ hm) (r.mono e)
theorem DtVs.mono (e : Ex H H') : ∀ {vs : List V} {ds : List Dt}, DtVs G H vs ds → DtVs G H' vs ds
  | _, _, .nil => .nil
  | _, _, .cons h r => .cons (DtV.mono e h) (DtVs.mono e r)
theorem DtKs.mono (e : Ex H H') : ∀ {vs : List (Key × V)} {ds : List (Str × Dt)}, DtKs G H vs ds → DtKs G H' vs ds
  | _, _, .nil => .nil
  | _, _, .cons h r => .cons (DtV.mono e h) (DtKs.mono e r)
end
theorem DtVs.length : ∀ {vs : List V} {ds : List Dt}, DtVs G H vs ds → vs.length = ds.length
  | _, _, .nil => rfl
  | _, _, .cons _ r => congrArg Nat.succ r.length
theorem DtVs.at : ∀ {vs : List V} {ds : List Dt} {i : Nat} {v : V}, DtVs G H vs ds → vs[i]? = some v → ∃ d, ds[i]? = some d ∧ DtV G H v d
  | _, _, _, _, .nil, h => by simp at h
  | _, _, 0, _, .cons h _, e => by simp at e; subst e; exact ⟨_, rfl, h⟩
  | _, _, i + 1, v, .cons _ r, e => by
    obtain ⟨d, h1, h2⟩ := DtVs.at (i := i) (v := v) r (by simpa using e)
    exact ⟨d, by simpa using h1, h2⟩
theorem DtVs.atR : ∀ {vs : List V} {ds : List Dt} {i : Nat} {d : Dt}, DtVs G H vs ds → ds[i]? = some d → ∃ v, vs[i]? = some v ∧ DtV G H v d
  | _, _, _, _, .nil, h => by simp at h
  | _, _, 0, _, .cons h _, e => by simp at e; subst e; exact ⟨_, rfl, h⟩
  | _, _, i + 1, d, .cons _ r, e => by
    obtain ⟨v, h1, h2⟩ := DtVs.atR (i := i) (d := d) r (by simpa using e)
    exact ⟨v, by simpa using h1, h2⟩
theorem DtVs.app : ∀ {vs ws : List V} {ds es : List Dt}, DtVs G H vs ds → DtVs G H ws es → DtVs G H (vs ++ ws) (ds ++ es)
  | _, _, _, _, .nil, h => h
  | _, _, _, _, .cons h r, h2 => .cons h (r.app h2)
theorem DtVs.take : ∀ {vs : List V} {ds : List Dt} (n : Nat), DtVs G H vs ds → DtVs G H (vs.take n) (ds.take n)
  | _, _, 0, _ => by simpa using DtVs.nil
  | _, _, n + 1, .nil => by simpa using DtVs.nil
  | _, _, n + 1, .cons h r => .cons h (r.take n)
theorem DtVs.drop : ∀ {vs : List V} {ds : List Dt} (n : Nat), DtVs G H vs ds → DtVs G H (vs.drop n) (ds.drop n)
  | _, _, 0, h => h
  | _, _, n + 1, .nil => by simpa using DtVs.nil
  | _, _, n + 1, .cons h r => r.drop n
theorem DtVs.rev : ∀ {vs : List V} {ds : List Dt}, DtVs G H vs ds → DtVs G H vs.reverse ds.reverse
  | _, _, .nil => .nil
  | _, _, .cons h r => by rw [List.reverse_cons, List.reverse_cons]; exact r.rev.app (.cons h .nil)
theorem DtVs.set : ∀ {vs : List V} {ds : List Dt} {v : V} {d : Dt} (n : Nat), DtVs G H vs ds → DtV G H v d → DtVs G H (vs.set n v) (ds.set n d)
  | _, _, _, _, _, .nil, _ => by simpa using DtVs.nil
  | _, _, _, _, 0, .cons h r, h2 => .cons h2 r
  | _, _, _, _, n + 1, .cons h r, h2 => .cons h (r.set n h2)
theorem DtVs.erase : ∀ {vs : List V} {ds : List Dt} (n : Nat), DtVs G H vs ds → DtVs G H (vs.eraseIdx n) (ds.eraseIdx n)
  | _, _, _, .nil => by simpa using DtVs.nil
  | _, _, 0, .cons h r => r
  | _, _, n + 1, .cons h r => .cons h (r.erase n)
theorem RatsV.dt {vs : List V} {qs : List Rat} (h : RatsV G.R H vs qs) : DtVs G H vs (qs.map .rat) := by
  unfold RatsV at h
  induction h with
  | nil => exact .nil
  | cons h _ ih => exact .cons (.rat h) ih
theorem DtVs.rats : ∀ {vs : List V} {qs : List Rat}, DtVs G H vs (qs.map .rat) → RatsV G.R H vs qs
  | _, [], .nil => .nil
  | _, _ :: _, .cons (.rat h) r => .cons h r.rats
theorem DtVs.ints : ∀ {vs : List V} {is : List Int}, DtVs G H vs (is.map .int) → vs = is.map V.int
  | _, [], .nil => rfl
  | _, _ :: _, .cons (.int _) r => congrArg _ r.ints
theorem DtVs.bls : ∀ {vs : List V} {is : List Bool}, DtVs G H vs (is.map .bl) → vs = is.map V.bl
  | _, [], .nil => rfl
  | _, _ :: _, .cons (.bl _) r => congrArg _ r.bls
end
/-- a number -/
def Dt.isNum : Dt → Bool
  | .int _ => true
  | .rat _ => true
  | _ => false
def Dt.num : Dt → Rat
  | .int i => (i : Rat)
  | .rat q => q
  | _ => 0
theorem DtV.num {G : Gs} {H : Hp} {v : V} {d : Dt} (h : DtV G H v d) (n : d.isNum = true) : NumV G.R H v d.num := by
  cases h with
  | int i => exact .inl ⟨i, rfl, rfl⟩
  | rat h => exact .inr h
  | _ => cases n
/-! ### heaps without some addresses -/
open Classical in
noncomputable def cut (X : Addr → Prop) (H : Hp) : Hp := fun a => if X a then none else H a
section
variable {X Y : Addr → Prop} {H H' : Hp} {a : Addr} {o : HO}
theorem cut_some : cut X H a = some o ↔ ¬ X a ∧ H a = some o := by
  unfold cut
  by_cases h : X a
  · simp [h]
  · simp [h]
theorem cut_ex (h : ∀ a o, ¬ X a → H a = some o → ¬ Y a ∧ H' a = some o) : Ex (cut X H) (cut Y H') := fun a o e => by
  obtain ⟨h1, h2⟩ := cut_some.mp e
  exact cut_some.mpr (h a o h1 h2)
theorem cut_le (h : ∀ a, Y a → X a) : Ex (cut X H) (cut Y H) := cut_ex fun a o n e => ⟨fun y => n (h a y), e⟩
theorem cut_H : Ex (cut X H) H := fun a o e => (cut_some.mp e).2
theorem cut_grow (e : Ex H H') : Ex (cut X H) (cut X H') := cut_ex fun a o n h => ⟨n, e a o h⟩
theorem cut_upd {p : Addr} {ob : HO} (h : X p) : cut X (upd H p ob) = cut X H := by
  funext a
  unfold cut
  by_cases hx : X a
  · simp [hx]
  · have : a ≠ p := fun e => hx (e ▸ h)
    simp [hx, upd_ne this]
end
/-! ### slots -/
inductive Slot where
  | un | val (d : Dt) | own (l : List Dt) | lock (l : List Dt) | tape (p : Addr) | ref (a : Addr)
abbrev Env := List Slot
/-- what the address p holds alone -/
def Slot.lists : Slot → Bool
  | .own _ => true
  | .lock _ => true
  | .tape _ => true
  | _ => false
def Own (σ : L2.St) (ρ : Fm.Env) (p : Addr) : Prop := ∃ (i : Nat) (s : Slot), ρ[i]? = some s ∧ s.lists = true ∧ σ[i]? = some (some (.ref p))
/-- a frame: the heap at the entry, the addresses that may be changed, those that are kept out -/
structure Fr where
  H0 : Hp
  P : Addr → Prop
  X0 : Addr → Prop
def Xs (f : Fr) (σ : L2.St) (ρ : Fm.Env) : Addr → Prop := fun p => f.X0 p ∨ Own σ ρ p
inductive SlR (G : Gs) (Hc H : Hp) : Option V → Slot → Prop
  | un {o : Option V} : SlR G Hc H o .un
  | val {v : V} {d : Dt} (h : DtV G Hc v d) : SlR G Hc H (some v) (.val d)
  | own {p : Addr} {vs : List V} {l : List Dt} (h : H p = some (.lst vs)) (r : DtVs G Hc vs l) : SlR G Hc H (some (.ref p)) (.own l)
  | lock {p : Addr} {vs : List V} {l : List Dt} (h : H p = some (.lst vs)) (r : DtVs G Hc vs l) : SlR G Hc H (some (.ref p)) (.lock l)
  | tape {p : Addr} (h : TapeAt H p) : SlR G Hc H (some (.ref p)) (.tape p)
  | ref {a : Addr} : SlR G Hc H (some (.ref a)) (.ref a)
def Kp (f : Fr) (H : Hp) : Prop := ∀ a o, ¬ f.P a → f.H0 a = some o → H a = some o
/-- a list stands at p -/
def LstAt (H : Hp) (p : Addr) : Prop := ∃ vs, H p = some (.lst vs)
structure St (G : Gs) (f : Fr) (σ : L2.St) (H : Hp) (ρ : Fm.Env) : Prop where
  len : σ.length = ρ.length
  fr : Kp f H
  sl : ∀ (i : Nat) (s : Slot), ρ[i]? = some s → SlR G (cut (Xs f σ ρ) H) H (σ[i]?.join) s
  uq : ∀ (i j : Nat) (s t : Slot) (p : Addr), ρ[i]? = some s → s.lists = true → σ[i]? = some (some (.ref p)) → ρ[j]? = some t → t.lists = true → σ[j]? = some (some (.ref p)) → i = j
  nw : ∀ p, Own σ ρ p → f.P p ∨ f.H0 p = none
  x0 : ∀ p, f.X0 p → LstAt H p ∧ ¬ Own σ ρ p
  pd : ∀ p, f.P p → H p ≠ none
section
variable {G : Gs} {f : Fr} {σ : L2.St} {H H' : Hp} {ρ : Fm.Env} {i : Nat} {v : V} {d : Dt} {l : List Dt} {p : Addr}
theorem SlR.mono {Hc Hc' : Hp} {o : Option V} {s : Slot} (e : Ex Hc Hc') (e2 : ∀ p vs, s.lists = true → o = some (.ref p) → H p = some (.lst vs) → H' p = some (.lst vs)) (h : SlR G Hc H o s) : SlR G Hc' H' o s := by
  cases h with
  | un => exact .un
  | val h => exact .val (h.mono e)
  | own h r => exact .own (e2 _ _ rfl rfl h) (r.mono e)
  | lock h r => exact .lock (e2 _ _ rfl rfl h) (r.mono e)
  | tape h => obtain ⟨a, b, h1, h2, h3, h⟩ := h; exact .tape ⟨a, b, h1, h2, h3, e2 _ _ rfl rfl h⟩
  | ref => exact .ref
theorem jn {σ : L2.St} {i : Nat} {v : V} : σ[i]?.join = some v ↔ σ[i]? = some (some v) := by
  cases h : σ[i]? with
  | none => simp
  | some o => simp
theorem St.val (S : St G f σ H ρ) (h : ρ[i]? = some (.val d)) : ∃ v, σ[i]? = some (some v) ∧ DtV G (cut (Xs f σ ρ) H) v d := by
  have := S.sl i _ h
  generalize e : σ[i]?.join = o at this
  cases this with
  | val h => exact ⟨_, jn.mp e, h⟩
theorem St.lst (S : St G f σ H ρ) {s : Slot} (h : ρ[i]? = some s) (hs : s = .own l ∨ s = .lock l) : ∃ p vs, σ[i]? = some (some (.ref p)) ∧ Own σ ρ p ∧ H p = some (.lst vs) ∧ DtVs G (cut (Xs f σ ρ) H) vs l := by
  have := S.sl i _ h
  generalize e : σ[i]?.join = o at this
  rcases hs with rfl | rfl
  · cases this with
    | own h1 r => exact ⟨_, _, jn.mp e, ⟨i, _, h, rfl, jn.mp e⟩, h1, r⟩
  · cases this with
    | lock h1 r => exact ⟨_, _, jn.mp e, ⟨i, _, h, rfl, jn.mp e⟩, h1, r⟩
theorem St.own (S : St G f σ H ρ) (h : ρ[i]? = some (.own l)) : ∃ p vs, σ[i]? = some (some (.ref p)) ∧ Own σ ρ p ∧ H p = some (.lst vs) ∧ DtVs G (cut (Xs f σ ρ) H) vs l := S.lst h (.inl rfl)
/-- the heap grows -/
theorem St.grow (S : St G f σ H ρ) (e : Ex H H') : St G f σ H' ρ where
  len := S.len
  fr := fun a o n h => e _ _ (S.fr a o n h)
  sl := fun i s h => (S.sl i s h).mono (cut_grow e) fun p vs _ _ h => e _ _ h
  uq := S.uq
  nw := S.nw
  x0 := fun p h => ⟨(S.x0 p h).1.imp fun vs h => e _ _ h, (S.x0 p h).2⟩
  pd := fun p h n => S.pd p h (e.free n)
theorem Own.lt (S : St G f σ H ρ) (h : Own σ ρ p) : ∃ vs, H p = some (.lst vs) := by
  obtain ⟨i, s, h1, h2, h3⟩ := h
  have := S.sl i s h1
  rw [jn.mpr h3] at this
  cases this with
  | un => cases h2
  | val => cases h2
  | ref => cases h2
  | own h r => exact ⟨_, h⟩
  | lock h r => exact ⟨_, h⟩
  | tape h => obtain ⟨a, b, h1, h2, h3, h⟩ := h; exact ⟨_, h⟩
theorem own_set {σ : L2.St} {ρ : Fm.Env} {i : Nat} {o : Option V} {s : Slot} (hs : s.lists = false) (h : Own (σ.set i o) (ρ.set i s) p) : Own σ ρ p := by
  obtain ⟨j, t, h1, h2, h3⟩ := h
  by_cases e : i = j
  · subst e
    by_cases hl : i < ρ.length
    · rw [List.getElem?_set_self hl] at h1
      cases h1
      rw [hs] at h2; cases h2
    · rw [List.getElem?_eq_none (by rw [List.length_set]; omega)] at h1; cases h1
  · rw [List.getElem?_set_ne e] at h1 h3
    exact ⟨j, t, h1, h2, h3⟩
/-- a slot is stored, not alone -/
theorem St.put (S : St G f σ H ρ) {o : Option V} {s : Slot} (hs : s.lists = false) (h : SlR G (cut (Xs f σ ρ) H) H o s) : St G f (σ.set i o) H (ρ.set i s) := by
  have hx : ∀ p, Xs f (σ.set i o) (ρ.set i s) p → Xs f σ ρ p := fun p h => h.imp id fun h => own_set hs h
  have e : Ex (cut (Xs f σ ρ) H) (cut (Xs f (σ.set i o) (ρ.set i s)) H) := cut_le hx
  refine ⟨by rw [List.length_set, List.length_set]; exact S.len, S.fr, fun j t hj => ?_, fun a b s1 t1 p h1 h2 h3 h4 h5 h6 => ?_, fun p h => S.nw p (own_set hs h), fun p h => ⟨(S.x0 p h).1, fun w => (S.x0 p h).2 (own_set hs w)⟩, S.pd⟩
  · by_cases hij : i = j
    · subst hij
      have hl : i < ρ.length := by
        by_cases hl : i < ρ.length
        · exact hl
        · rw [List.getElem?_eq_none (by rw [List.length_set]; omega)] at hj; cases hj
      rw [List.getElem?_set_self hl] at hj
      cases hj
      rw [List.getElem?_set_self (by rw [S.len]; exact hl)]
      exact h.mono e fun _ _ _ _ h => h
    · rw [List.getElem?_set_ne hij] at hj ⊢
      exact (S.sl j t hj).mono e fun _ _ _ _ h => h
  · have key : ∀ {c : Nat} {u : Slot}, (ρ.set i s)[c]? = some u → u.lists = true → i ≠ c := by
      intro c u hc hu e
      subst e
      by_cases hl : i < ρ.length
      · rw [List.getElem?_set_self hl] at hc; cases hc; rw [hs] at hu; cases hu
      · rw [List.getElem?_eq_none (by rw [List.length_set]; omega)] at hc; cases hc
    have k1 := key h1 h2
    have k2 := key h4 h5
    rw [List.getElem?_set_ne k1] at h1 h3
    rw [List.getElem?_set_ne k2] at h4 h6
    exact S.uq a b s1 t1 p h1 h2 h3 h4 h5 h6
theorem put_ex {o : Option V} {s : Slot} (hs : s.lists = false) : Ex (cut (Xs f σ ρ) H) (cut (Xs f (σ.set i o) (ρ.set i s)) H) := cut_le fun p h => h.imp id fun h => own_set hs h
/-- one address more is kept out -/
def Fr.out (f : Fr) (p : Addr) : Fr := { f with X0 := fun a => f.X0 a ∨ a = p }
theorem xs_out {p a : Addr} : Xs (f.out p) σ ρ a ↔ Xs f σ ρ a ∨ a = p := by
  unfold Xs Fr.out
  constructor
  · rintro ((h | h) | h)
    · exact .inl (.inl h)
    · exact .inr h
    · exact .inl (.inr h)
  · rintro ((h | h) | h)
    · exact .inl (.inl h)
    · exact .inr h
    · exact .inl (.inr h)
theorem St.back (S : St G (f.out p) σ H ρ) : St G f σ H ρ :=
  ⟨S.len, S.fr, fun i s h => (S.sl i s h).mono (cut_le fun a h => xs_out.mpr (.inl h)) fun _ _ _ _ h => h, S.uq, S.nw, fun a h => S.x0 a (.inl h), S.pd⟩
theorem out_ex : Ex (cut (Xs (f.out p) σ ρ) H) (cut (Xs f σ ρ) H) := cut_le fun a h => xs_out.mpr (.inl h)
/-- a new address is kept out -/
theorem St.outNew (S : St G f σ H ρ) (hp : H p = none) (e : Ex H H') (h' : LstAt H' p) : St G (f.out p) σ H' ρ := by
  refine ⟨S.len, fun a o n h => e _ _ (S.fr a o n h), fun i s h => (S.sl i s h).mono (cut_ex fun a o n h => ⟨fun w => ?_, e _ _ h⟩) fun _ _ _ _ h => e _ _ h, S.uq, S.nw, fun a h => ?_, fun a h n => S.pd a h (e.free n)⟩
  · rcases xs_out.mp w with w | w
    · exact n w
    · subst w; rw [hp] at h; cases h
  · rcases h with h | h
    · exact ⟨(S.x0 a h).1.imp fun vs h => e _ _ h, (S.x0 a h).2⟩
    · subst h
      refine ⟨h', fun w => ?_⟩
      obtain ⟨vs, hv⟩ := Own.lt S w
      rw [hp] at hv; cases hv
theorem newOut_ex (hp : H p = none) (e : Ex H H') : Ex (cut (Xs f σ ρ) H) (cut (Xs (f.out p) σ ρ) H') := by
  refine cut_ex fun a o n h => ⟨fun w => ?_, e _ _ h⟩
  rcases xs_out.mp w with w | w
  · exact n w
  · subst w; rw [hp] at h; cases h
/-- a list that is kept out comes into a slot of its own -/
theorem St.take (S : St G (f.out p) σ H ρ) {vs : List V} (hi : i < ρ.length) (hp : H p = some (.lst vs)) (hr : DtVs G (cut (Xs (f.out p) σ ρ) H) vs l) (hn : f.P p ∨ f.H0 p = none) (hx : ¬ f.X0 p) : St G f (σ.set i (some (.ref p))) H (ρ.set i (.own l)) := by
  have oo : ∀ a, Own (σ.set i (some (.ref p))) (ρ.set i (.own l)) a → Own σ ρ a ∨ a = p := by
    rintro a ⟨j, t, h1, h2, h3⟩
    by_cases e : i = j
    · subst e
      rw [List.getElem?_set_self (by rw [S.len]; exact hi)] at h3
      right
      injection h3 with h3; injection h3 with h3; injection h3 with h3; exact h3.symm
    · rw [List.getElem?_set_ne e] at h1 h3
      exact .inl ⟨j, t, h1, h2, h3⟩
  have hnp : ¬ Own σ ρ p := (S.x0 p (.inr rfl)).2
  have e : Ex (cut (Xs (f.out p) σ ρ) H) (cut (Xs f (σ.set i (some (.ref p))) (ρ.set i (.own l))) H) := cut_le fun a h => by
    rcases h with h | h
    · exact xs_out.mpr (.inl (.inl h))
    · rcases oo a h with h | h
      · exact xs_out.mpr (.inl (.inr h))
      · exact xs_out.mpr (.inr h)
  refine ⟨by rw [List.length_set, List.length_set]; exact S.len, S.fr, fun j t hj => ?_, fun a b s1 t1 q h1 h2 h3 h4 h5 h6 => ?_, fun q h => ?_, fun q h => ⟨(S.x0 q (.inl h)).1, fun w => ?_⟩, S.pd⟩
  · by_cases hij : i = j
    · subst hij
      rw [List.getElem?_set_self hi] at hj
      cases hj
      rw [List.getElem?_set_self (by rw [S.len]; exact hi)]
      exact .own hp (hr.mono e)
    · rw [List.getElem?_set_ne hij] at hj ⊢
      exact (S.sl j t hj).mono e fun _ _ _ _ h => h
  · by_cases ha : i = a <;> by_cases hb : i = b
    · omega
    · subst ha
      rw [List.getElem?_set_self (by rw [S.len]; exact hi)] at h3
      injection h3 with h3; injection h3 with h3; injection h3 with h3; subst h3
      rw [List.getElem?_set_ne hb] at h4 h6
      exact absurd ⟨b, t1, h4, h5, h6⟩ hnp
    · subst hb
      rw [List.getElem?_set_self (by rw [S.len]; exact hi)] at h6
      injection h6 with h6; injection h6 with h6; injection h6 with h6; subst h6
      rw [List.getElem?_set_ne ha] at h1 h3
      exact absurd ⟨a, s1, h1, h2, h3⟩ hnp
    · rw [List.getElem?_set_ne ha] at h1 h3
      rw [List.getElem?_set_ne hb] at h4 h6
      exact S.uq a b s1 t1 q h1 h2 h3 h4 h5 h6
  · rcases oo q h with h | h
    · exact S.nw q h
    · subst h; exact hn
  · rcases oo q w with w | w
    · exact (S.x0 q (.inl h)).2 w
    · subst w; exact hx h
theorem take_ex (S : St G (f.out p) σ H ρ) (hi : i < ρ.length) : Ex (cut (Xs (f.out p) σ ρ) H) (cut (Xs f (σ.set i (some (.ref p))) (ρ.set i (.own l))) H) := cut_le fun a h => by
  rcases h with h | ⟨j, t, h1, h2, h3⟩
  · exact xs_out.mpr (.inl (.inl h))
  · by_cases e : i = j
    · subst e
      rw [List.getElem?_set_self (by rw [S.len]; exact hi)] at h3
      injection h3 with h3; injection h3 with h3; injection h3 with h3
      exact xs_out.mpr (.inr h3.symm)
    · rw [List.getElem?_set_ne e] at h1 h3
      exact xs_out.mpr (.inl (.inr ⟨j, t, h1, h2, h3⟩))
/-- an own list's items change -/
theorem St.mut (S : St G f σ H ρ) (h : ρ[i]? = some (.own l)) (hp : σ[i]? = some (some (.ref p))) {vs : List V} {l' : List Dt} (hr : DtVs G (cut (Xs f σ ρ) H) vs l') : St G f σ (upd H p (.lst vs)) (ρ.set i (.own l')) ∧ Ex (cut (Xs f σ ρ) H) (cut (Xs f σ (ρ.set i (.own l'))) (upd H p (.lst vs))) := by
  have hi : i < ρ.length := by
    by_cases hl : i < ρ.length
    · exact hl
    · rw [List.getElem?_eq_none (by omega)] at h; cases h
  have oi : Own σ ρ p := ⟨i, _, h, rfl, hp⟩
  have oo : ∀ a, Own σ (ρ.set i (.own l')) a ↔ Own σ ρ a := by
    intro a
    constructor
    · rintro ⟨j, t, h1, h2, h3⟩
      by_cases e : i = j
      · subst e; exact ⟨i, _, h, rfl, h3⟩
      · rw [List.getElem?_set_ne e] at h1; exact ⟨j, t, h1, h2, h3⟩
    · rintro ⟨j, t, h1, h2, h3⟩
      by_cases e : i = j
      · subst e; exact ⟨i, .own l', List.getElem?_set_self hi, rfl, h3⟩
      · exact ⟨j, t, by rw [List.getElem?_set_ne e]; exact h1, h2, h3⟩
  have xx : Xs f σ (ρ.set i (.own l')) = Xs f σ ρ := by
    funext a
    unfold Xs
    rw [oo a]
  have ce : cut (Xs f σ ρ) (upd H p (.lst vs)) = cut (Xs f σ ρ) H := cut_upd (.inr oi)
  refine ⟨⟨by rw [List.length_set]; exact S.len, fun a o n ha => ?_, fun j t hj => ?_, fun a b s1 t1 q h1 h2 h3 h4 h5 h6 => ?_, fun q hq => S.nw q ((oo q).mp hq), fun q hq => ⟨?_, fun w => (S.x0 q hq).2 ((oo q).mp w)⟩, fun q hq => ?_⟩, by rw [xx, ce]; exact Ex.refl _⟩
  · have : a ≠ p := by
      rintro rfl
      rcases S.nw a oi with w | w
      · exact n w
      · rw [w] at ha; cases ha
    rw [upd_ne this]
    exact S.fr a o n ha
  · rw [xx, ce]
    by_cases hij : i = j
    · subst hij
      rw [List.getElem?_set_self hi] at hj
      cases hj
      rw [hp]
      exact .own upd_same hr
    · rw [List.getElem?_set_ne hij] at hj
      refine (S.sl j t hj).mono (Ex.refl _) fun q ws ht hq hw => ?_
      have : q ≠ p := by
        rintro rfl
        exact hij (S.uq i j _ t q h rfl hp hj ht (jn.mp hq))
      rw [upd_ne this]
      exact hw
  · have fix : ∀ {c : Nat} {u : Slot}, (ρ.set i (.own l'))[c]? = some u → u.lists = true → ∃ u', ρ[c]? = some u' ∧ u'.lists = true := by
      intro c u hc hu
      by_cases e : i = c
      · subst e; exact ⟨_, h, rfl⟩
      · rw [List.getElem?_set_ne e] at hc; exact ⟨_, hc, hu⟩
    obtain ⟨u1, k1, k2⟩ := fix h1 h2
    obtain ⟨u2, k3, k4⟩ := fix h4 h5
    exact S.uq a b u1 u2 q k1 k2 h3 k3 k4 h6
  · by_cases e : q = p
    · subst e; exact ⟨_, upd_same⟩
    · exact (S.x0 q hq).1.imp fun vs h => by rw [upd_ne e]; exact h
  · by_cases e : q = p
    · subst e; rw [upd_same]; simp
    · rw [upd_ne e]; exact S.pd q hq
/-- an own list is told: from then on it is read only -/
theorem St.melt (S : St G f σ H ρ) (h : ρ[i]? = some (.own l)) (hp : σ[i]? = some (some (.ref p))) : St G f σ H (ρ.set i (.val (.lst l))) ∧ Ex (cut (Xs f σ ρ) H) (cut (Xs f σ (ρ.set i (.val (.lst l)))) H) ∧ DtV G (cut (Xs f σ (ρ.set i (.val (.lst l)))) H) (.ref p) (.lst l) := by
  obtain ⟨p', vs, e1, _, e3, e4⟩ := S.own h
  rw [hp] at e1
  injection e1 with e1; injection e1 with e1; injection e1 with e1; subst e1
  have hσ : σ = σ.set i (some (.ref p)) := by
    apply List.ext_getElem?
    intro j
    by_cases e : i = j
    · subst e
      rw [List.getElem?_set_self]
      · exact hp
      · by_cases hl : i < σ.length
        · exact hl
        · rw [List.getElem?_eq_none (by omega)] at hp; cases hp
    · rw [List.getElem?_set_ne e]
  have ex : Ex (cut (Xs f σ ρ) H) (cut (Xs f σ (ρ.set i (.val (.lst l)))) H) := by
    have := put_ex (f := f) (σ := σ) (H := H) (ρ := ρ) (i := i) (o := some (.ref p)) (s := .val (.lst l)) rfl
    rw [← hσ] at this
    exact this
  have nx : ¬ Xs f σ (ρ.set i (.val (.lst l))) p := by
    rintro (w | ⟨j, t, h1, h2, h3⟩)
    · exact (S.x0 p w).2 ⟨i, _, h, rfl, hp⟩
    · by_cases e : i = j
      · subst e
        have hi : i < ρ.length := by
          by_cases hl : i < ρ.length
          · exact hl
          · rw [List.getElem?_eq_none (by omega)] at h; cases h
        rw [List.getElem?_set_self hi] at h1
        cases h1; cases h2
      · rw [List.getElem?_set_ne e] at h1
        exact e (S.uq i j _ t p h rfl hp h1 h2 h3)
  have dv : DtV G (cut (Xs f σ (ρ.set i (.val (.lst l)))) H) (.ref p) (.lst l) := .lst (cut_some.mpr ⟨nx, e3⟩) (e4.mono ex)
  refine ⟨⟨by rw [List.length_set]; exact S.len, S.fr, fun j t hj => ?_, fun a b s1 t1 q h1 h2 h3 h4 h5 h6 => ?_, fun q hq => ?_, fun q hq => ⟨(S.x0 q hq).1, fun w => ?_⟩, S.pd⟩, ex, dv⟩
  · by_cases hij : i = j
    · subst hij
      have hi : i < ρ.length := by
        by_cases hl : i < ρ.length
        · exact hl
        · rw [List.getElem?_eq_none (by omega)] at h; cases h
      rw [List.getElem?_set_self hi] at hj
      cases hj
      rw [hp]
      exact .val dv
    · rw [List.getElem?_set_ne hij] at hj
      exact (S.sl j t hj).mono ex fun _ _ _ _ h => h
  · have fix : ∀ {c : Nat} {u : Slot}, (ρ.set i (.val (.lst l)))[c]? = some u → u.lists = true → ρ[c]? = some u := by
      intro c u hc hu
      by_cases e : i = c
      · subst e
        by_cases hl : i < ρ.length
        · rw [List.getElem?_set_self hl] at hc; cases hc; cases hu
        · rw [List.getElem?_eq_none (by rw [List.length_set]; omega)] at hc; cases hc
      · rw [List.getElem?_set_ne e] at hc; exact hc
    exact S.uq a b s1 t1 q (fix h1 h2) h2 h3 (fix h4 h5) h5 h6
  · obtain ⟨j, t, h1, h2, h3⟩ := hq
    have : Own (σ.set i (some (.ref p))) (ρ.set i (.val (.lst l))) q := by rw [← hσ]; exact ⟨j, t, h1, h2, h3⟩
    exact S.nw q (own_set rfl this)
  · have : Own (σ.set i (some (.ref p))) (ρ.set i (.val (.lst l))) q := by rw [← hσ]; exact w
    exact (S.x0 q hq).2 (own_set rfl this)
end
end Fm

set_option maxHeartbeats 2000000
namespace Fm
open PySem PySem.Spec PyProof.Rows L2
/-! ### what a piece of a program does to data -/
inductive Er where
  | bare (c : Addr)
  | own (c : Addr) (n : Str) (d : Dt)
abbrev FE := Fm.Env → (Dt → Fm.Env → Prop) → (Er → Prop) → Prop
abbrev FT := Fm.Env → (Bool → Fm.Env → Prop) → (Er → Prop) → Prop
abbrev FA := Fm.Env → (List Dt → Fm.Env → Prop) → (Er → Prop) → Prop
abbrev FG := Dt → Fm.Env → (Fm.Env → Prop) → Prop
structure DE where
  nx : Fm.Env → Prop
  rt : Dt → Fm.Env → Prop
  rl : List Dt → Fm.Env → Prop
  bk : Fm.Env → Prop := fun _ => False
  ct : Fm.Env → Prop := fun _ => False
  ex : Er → Prop := fun _ => False
abbrev FS := Fm.Env → DE → Prop
structure DE.Le (D D' : DE) : Prop where
  nx : ∀ ρ, D.nx ρ → D'.nx ρ
  rt : ∀ d ρ, D.rt d ρ → D'.rt d ρ
  rl : ∀ l ρ, D.rl l ρ → D'.rl l ρ
  bk : ∀ ρ, D.bk ρ → D'.bk ρ
  ct : ∀ ρ, D.ct ρ → D'.ct ρ
  ex : ∀ e, D.ex e → D'.ex e
section
variable {G : Gs} {E : XK}
def kX (G : Gs) (f : Fr) (E : XK) : Er → Prop
  | .bare c => ∀ H', Kp f H' → E (.ref c) none H'
  | .own c n d => ∀ v dd H', Kp f H' → DtV G (cut f.X0 H') v d → H' dd = some (.xd [(n, v)]) → f.H0 dd = none → E (.ref c) (some dd) H'
def kV (G : Gs) (f : Fr) (σ : L2.St) (H : Hp) (ρ : Fm.Env) (Q : VK) : Dt → Fm.Env → Prop := fun d ρ' => ∀ v H', St G f σ H' ρ' → Ex (cut (Xs f σ ρ) H) (cut (Xs f σ ρ') H') → DtV G (cut (Xs f σ ρ') H') v d → Q v H'
def kF (G : Gs) (f : Fr) (σ : L2.St) (H : Hp) (ρ : Fm.Env) (Q : VK) : List Dt → Fm.Env → Prop := fun l ρ' => ∀ p vs H', St G (f.out p) σ H' ρ' → Ex (cut (Xs f σ ρ) H) (cut (Xs (f.out p) σ ρ') H') → (f.P p ∨ f.H0 p = none) → ¬ f.X0 p → H' p = some (.lst vs) → DtVs G (cut (Xs (f.out p) σ ρ') H') vs l → Q (.ref p) H'
def kB (G : Gs) (f : Fr) (σ : L2.St) (H : Hp) (ρ : Fm.Env) (W : Bool → Hp → Prop) : Bool → Fm.Env → Prop := fun b ρ' => ∀ H', St G f σ H' ρ' → Ex (cut (Xs f σ ρ) H) (cut (Xs f σ ρ') H') → W b H'
def kA (G : Gs) (f : Fr) (σ : L2.St) (H : Hp) (ρ : Fm.Env) (Q : List V → Hp → Prop) : List Dt → Fm.Env → Prop := fun ds ρ' => ∀ vs H', St G f σ H' ρ' → Ex (cut (Xs f σ ρ) H) (cut (Xs f σ ρ') H') → DtVs G (cut (Xs f σ ρ') H') vs ds → Q vs H'
def kN (G : Gs) (f : Fr) (σ : L2.St) (H : Hp) (ρ : Fm.Env) (N : L2.St → Hp → Prop) : Fm.Env → Prop := fun ρ' => ∀ σ' H', St G f σ' H' ρ' → Ex (cut (Xs f σ ρ) H) (cut (Xs f σ' ρ') H') → N σ' H'
def kD (G : Gs) (E : XK) (f : Fr) (σ : L2.St) (H : Hp) (ρ : Fm.Env) (D : Ends) : DE where
  nx := kN G f σ H ρ D.nx
  rt := fun d ρ' => ∀ v σ' H', St G f σ' H' ρ' → DtV G (cut (Xs f σ' ρ') H') v d → D.rt v H'
  rl := fun l ρ' => ∀ p vs σ' H', St G (f.out p) σ' H' ρ' → (f.P p ∨ f.H0 p = none) → ¬ f.X0 p → H' p = some (.lst vs) → DtVs G (cut (Xs (f.out p) σ' ρ') H') vs l → D.rt (.ref p) H'
  bk := kN G f σ H ρ D.bk
  ct := kN G f σ H ρ D.ct
  ex := kX G f E
/-- the expression's reading t is shown by F over data -/
structure PU (G : Gs) (E : XK) (t : TE) (F : FE) : Prop where
  run : ∀ {f : Fr} {σ : L2.St} {H : Hp} {ρ : Fm.Env} {Q : VK}, St G f σ H ρ → F ρ (kV G f σ H ρ Q) (kX G f E) → t σ H Q
  mono : ∀ {ρ : Fm.Env} {K K' : Dt → Fm.Env → Prop} {X X' : Er → Prop}, (∀ d ρ', K d ρ' → K' d ρ') → (∀ e, X e → X' e) → F ρ K X → F ρ K' X'
/-- .. whose value is a list that nothing else holds -/
structure PUF (G : Gs) (E : XK) (t : TE) (F : FA) : Prop where
  run : ∀ {f : Fr} {σ : L2.St} {H : Hp} {ρ : Fm.Env} {Q : VK}, St G f σ H ρ → F ρ (kF G f σ H ρ Q) (kX G f E) → t σ H Q
  mono : ∀ {ρ : Fm.Env} {K K' : List Dt → Fm.Env → Prop} {X X' : Er → Prop}, (∀ d ρ', K d ρ' → K' d ρ') → (∀ e, X e → X' e) → F ρ K X → F ρ K' X'
structure PUT (G : Gs) (E : XK) (t : TT) (F : FT) : Prop where
  run : ∀ {f : Fr} {σ : L2.St} {H : Hp} {ρ : Fm.Env} {W : Bool → Hp → Prop}, St G f σ H ρ → F ρ (kB G f σ H ρ W) (kX G f E) → t σ H W
  mono : ∀ {ρ : Fm.Env} {K K' : Bool → Fm.Env → Prop} {X X' : Er → Prop}, (∀ d ρ', K d ρ' → K' d ρ') → (∀ e, X e → X' e) → F ρ K X → F ρ K' X'
structure PUA (G : Gs) (E : XK) (t : TA) (F : FA) : Prop where
  run : ∀ {f : Fr} {σ : L2.St} {H : Hp} {ρ : Fm.Env} {Q : List V → Hp → Prop}, St G f σ H ρ → F ρ (kA G f σ H ρ Q) (kX G f E) → t σ H Q
  mono : ∀ {ρ : Fm.Env} {K K' : List Dt → Fm.Env → Prop} {X X' : Er → Prop}, (∀ d ρ', K d ρ' → K' d ρ') → (∀ e, X e → X' e) → F ρ K X → F ρ K' X'
structure PUG (G : Gs) (g : TG) (F : FG) : Prop where
  run : ∀ {f : Fr} {σ : L2.St} {H : Hp} {ρ : Fm.Env} {N : L2.St → Hp → Prop} {v : V} {d : Dt}, St G f σ H ρ → DtV G (cut (Xs f σ ρ) H) v d → F d ρ (kN G f σ H ρ N) → g v σ H N
  mono : ∀ {d : Dt} {ρ : Fm.Env} {K K' : Fm.Env → Prop}, (∀ ρ', K ρ' → K' ρ') → F d ρ K → F d ρ K'
structure PUS (G : Gs) (E : XK) (t : TS) (F : FS) : Prop where
  run : ∀ {f : Fr} {σ : L2.St} {H : Hp} {ρ : Fm.Env} {D : Ends}, St G f σ H ρ → F ρ (kD G E f σ H ρ D) → t D σ H
  mono : ∀ {ρ : Fm.Env} {D D' : DE}, D.Le D' → F ρ D → F ρ D'
theorem DE.Le.refl (D : DE) : D.Le D := ⟨fun _ h => h, fun _ _ h => h, fun _ _ h => h, fun _ h => h, fun _ h => h, fun _ h => h⟩
theorem kN_ex {f : Fr} {σ σ1 : L2.St} {H H1 : Hp} {ρ ρ1 : Fm.Env} {N : L2.St → Hp → Prop} (e : Ex (cut (Xs f σ ρ) H) (cut (Xs f σ1 ρ1) H1)) {ρ' : Fm.Env} (h : kN G f σ H ρ N ρ') : kN G f σ1 H1 ρ1 N ρ' := fun σ' H' S e2 => h σ' H' S (e.trans e2)
theorem kD_ex {f : Fr} {σ σ1 : L2.St} {H H1 : Hp} {ρ ρ1 : Fm.Env} {D : Ends} (e : Ex (cut (Xs f σ ρ) H) (cut (Xs f σ1 ρ1) H1)) : (kD G E f σ H ρ D).Le (kD G E f σ1 H1 ρ1 D) :=
  ⟨fun _ h => kN_ex e h, fun _ _ h => h, fun _ _ h => h, fun _ h => kN_ex e h, fun _ h => kN_ex e h, fun _ h => h⟩
/-! ### names, constants -/
abbrev F_var (i : Nat) : FE := fun ρ K _ => ∃ d, ρ[i]? = some (.val d) ∧ K d ρ
theorem PU.var {i : Nat} : PU G E (tVar i) (F_var i) where
  run := fun S ⟨d, h, k⟩ => by
    obtain ⟨v, h1, h2⟩ := S.val h
    exact ⟨v, h1, k v _ S (Ex.refl _) h2⟩
  mono := fun m _ ⟨d, h, k⟩ => ⟨d, h, m _ _ k⟩
/-- a list of the def's own that is handed on as a value -/
abbrev F_melt (i : Nat) : FE := fun ρ K _ => ∃ l, ρ[i]? = some (.own l) ∧ K (.lst l) (ρ.set i (.val (.lst l)))
theorem PU.melt {i : Nat} : PU G E (tVar i) (F_melt i) where
  run := fun S ⟨l, h, k⟩ => by
    obtain ⟨p, vs, h1, _⟩ := S.own h
    obtain ⟨S2, e, hv⟩ := S.melt h h1
    exact ⟨_, h1, k _ _ S2 e hv⟩
  mono := fun m _ ⟨d, h, k⟩ => ⟨d, h, m _ _ k⟩
abbrev F_c (d : Dt) : FE := fun ρ K _ => K d ρ
theorem PU.c {v : V} {d : Dt} (h : ∀ H, DtV G H v d) : PU G E (tC v) (F_c d) where
  run := fun S k => k _ _ S (Ex.refl _) (h _)
  mono := fun m _ k => m _ _ k
theorem PU.ci {i : Int} : PU G E (tC (.int i)) (F_c (.int i)) := PU.c fun _ => .int i
theorem PU.cb {b : Bool} : PU G E (tC (.bl b)) (F_c (.bl b)) := PU.c fun _ => .bl b
theorem PU.cs {s : Str} : PU G E (tC (.str s)) (F_c (.str s)) := PU.c fun _ => .str s
theorem PU.cn : PU G E (tC .non) (F_c .non) := PU.c fun _ => .non
/-! ### lists as they are told -/
abbrev F_toV (F : FA) : FE := fun ρ K X => F ρ (fun l ρ' => K (.lst l) ρ') X
theorem PUF.toV {t : TE} {F : FA} (A : PUF G E t F) : PU G E t (F_toV F) where
  run := fun S h => A.run S (A.mono (fun l ρ' k p vs H' S' e _ _ hp hr => k (.ref p) H' S'.back (e.trans out_ex) (.lst (cut_some.mpr ⟨fun w => by
    rcases w with w | w
    · exact absurd ‹¬ _› (by exact fun n => n w)
    · exact (S'.x0 p (.inr rfl)).2 w, hp⟩) (hr.mono out_ex))) (fun _ x => x) h)
  mono := fun m x h => A.mono (fun l ρ' k => m _ _ k) x h
end
end Fm

set_option maxHeartbeats 2000000
namespace Fm
open PySem PySem.Spec PyProof.Rows L2
section
variable {G : Gs} {E : XK} {K : PySem.W.Frag}
theorem St.lstAt {f : Fr} {σ : L2.St} {H : Hp} {ρ : Fm.Env} (S : St G f σ H ρ) {p : Addr} (h : Xs f σ ρ p) : LstAt H p := by
  rcases h with h | h
  · exact (S.x0 p h).1
  · exact Own.lt S h
theorem LstAt.ne {H : Hp} {p : Addr} (h : LstAt H p) : H p ≠ none := by
  obtain ⟨vs, hv⟩ := h
  rw [hv]; simp
theorem St.dom {f : Fr} {σ : L2.St} {H : Hp} {ρ : Fm.Env} (S : St G f σ H ρ) {p : Addr} (h : Xs f σ ρ p) : H p ≠ none := (S.lstAt h).ne
theorem St.fresh {f : Fr} {σ : L2.St} {H : Hp} {ρ : Fm.Env} (S : St G f σ H ρ) {p : Addr} (h : H p = none) : f.H0 p = none ∧ ¬ f.X0 p ∧ ¬ Xs f σ ρ p := by
  refine ⟨?_, fun w => (S.x0 p w).1.ne h, fun w => S.dom w h⟩
  cases e : f.H0 p with
  | none => rfl
  | some o =>
    by_cases hp : f.P p
    · exact absurd h (S.pd p hp)
    · rw [S.fr p o hp e] at h; cases h
theorem tkT {n : Nat} {α : Type} {l : List α} {d : α} (h : l[n]? = some d) : l.drop n = d :: l.drop (n + 1) := by
  obtain ⟨hl, e⟩ := List.getElem?_eq_some_iff.mp h
  rw [List.drop_eq_getElem_cons hl, e]
/-! ### statements -/
abbrev F_next : FS := fun ρ D => D.nx ρ
theorem PUS.next : PUS G E tNext F_next := ⟨fun S h => h _ _ S (Ex.refl _), fun m h => m.nx _ h⟩
abbrev F_brk : FS := fun ρ D => D.bk ρ
theorem PUS.brk : PUS G E tBreak F_brk := ⟨fun S h => h _ _ S (Ex.refl _), fun m h => m.bk _ h⟩
abbrev F_cnt : FS := fun ρ D => D.ct ρ
theorem PUS.cnt : PUS G E tCont F_cnt := ⟨fun S h => h _ _ S (Ex.refl _), fun m h => m.ct _ h⟩
abbrev F_seq (A B : FS) : FS := fun ρ D => A ρ { D with nx := fun ρ' => B ρ' D }
theorem PUS.seq {t u : TS} {A B : FS} (a : PUS G E t A) (b : PUS G E u B) : PUS G E (tSeq t u) (F_seq A B) where
  run := fun {f σ H ρ D} S h => a.run (D := { D with nx := u D }) S (a.mono (D := { kD G E f σ H ρ D with nx := fun ρ' => B ρ' (kD G E f σ H ρ D) }) ⟨fun ρ' k σ' H' S' e => b.run S' (b.mono (kD_ex e) k), fun _ _ k => k, fun _ _ k => k, fun _ k => k, fun _ k => k, fun _ k => k⟩ h)
  mono := fun {ρ D D'} m h => a.mono (D := { D with nx := fun ρ' => B ρ' D }) (D' := { D' with nx := fun ρ' => B ρ' D' }) ⟨fun ρ' k => b.mono m k, m.rt, m.rl, m.bk, m.ct, m.ex⟩ h
abbrev F_ret (F : FE) : FS := fun ρ D => F ρ D.rt D.ex
theorem PUS.ret {t : TE} {F : FE} (a : PU G E t F) : PUS G E (tRet t) (F_ret F) where
  run := fun S h => a.run S (a.mono (fun d ρ' k v H' S' _ hv => k v _ H' S' hv) (fun _ x => x) h)
  mono := fun m h => a.mono m.rt m.ex h
abbrev F_retF (F : FA) : FS := fun ρ D => F ρ D.rl D.ex
theorem PUS.retF {t : TE} {F : FA} (a : PUF G E t F) : PUS G E (tRet t) (F_retF F) where
  run := fun S h => a.run S (a.mono (fun l ρ' k p vs H' S' _ h1 h2 h3 h4 => k p vs _ H' S' h1 h2 h3 h4) (fun _ x => x) h)
  mono := fun m h => a.mono m.rl m.ex h
abbrev F_retN : FS := fun ρ D => D.rt .non ρ
theorem PUS.retN : PUS G E tRetN F_retN := ⟨fun S h => h .non _ _ S .non, fun m h => m.rt _ _ h⟩
abbrev F_if (T : FT) (A B : FS) : FS := fun ρ D => T ρ (fun b ρ' => if b = true then A ρ' D else B ρ' D) D.ex
theorem PUS.ifS {c : TT} {t u : TS} {T : FT} {A B : FS} (w : PUT G E c T) (a : PUS G E t A) (b : PUS G E u B) : PUS G E (tIfS c t u) (F_if T A B) where
  run := fun S h => w.run S (w.mono (fun d ρ' k H' S' e => by
    cases d with
    | true => rw [if_pos rfl] at k ⊢; exact a.run S' (a.mono (kD_ex e) k)
    | false => rw [if_neg Bool.false_ne_true] at k ⊢; exact b.run S' (b.mono (kD_ex e) k)) (fun _ x => x) h)
  mono := fun m h => w.mono (fun d ρ' k => by
    cases d with
    | true => rw [if_pos rfl] at k ⊢; exact a.mono m k
    | false => rw [if_neg Bool.false_ne_true] at k ⊢; exact b.mono m k) m.ex h
abbrev F_drop (F : FE) : FS := fun ρ D => F ρ (fun _ ρ' => D.nx ρ') D.ex
theorem PUS.drop {t : TE} {F : FE} (a : PU G E t F) : PUS G E (tDrop t) (F_drop F) where
  run := fun S h => a.run S (a.mono (fun d ρ' k v H' S' e _ => k _ H' S' e) (fun _ x => x) h)
  mono := fun m h => a.mono (fun _ _ k => m.nx _ k) m.ex h
theorem PUG.name {i : Nat} : PUG G (gName i) (fun d ρ N => N (ρ.set i (.val d))) where
  run := fun S hv h => h _ _ (S.put rfl (.val hv)) (put_ex rfl)
  mono := fun m h => m _ h
abbrev F_asg (F : FE) (g : FG) : FS := fun ρ D => F ρ (fun d ρ' => g d ρ' D.nx) D.ex
theorem PUS.asg {t : TE} {F : FE} {g : TG} {γ : FG} (a : PU G E t F) (b : PUG G g γ) : PUS G E (tAsg t g) (F_asg F γ) where
  run := fun S h => a.run S (a.mono (fun d ρ' k v H' S' e hv => b.run S' hv (b.mono (fun ρ2 k2 => kN_ex e k2) k)) (fun _ x => x) h)
  mono := fun m h => a.mono (fun _ _ k => b.mono m.nx k) m.ex h
abbrev F_set (i : Nat) (F : FE) : FS := fun ρ D => F ρ (fun d ρ' => D.nx (ρ'.set i (.val d))) D.ex
theorem PUS.set {t : TE} {F : FE} {i : Nat} (a : PU G E t F) : PUS G E (tAsg t (gName i)) (F_set i F) := PUS.asg a PUG.name
/-- a list of the def's own -/
abbrev F_setF (i : Nat) (F : FA) : FS := fun ρ D => F ρ (fun l ρ' => D.nx (ρ'.set i (.own l))) D.ex
theorem set_none {α : Type} {l : List α} {i : Nat} {x : α} (h : ¬ i < l.length) : l.set i x = l := by
  apply List.ext_getElem?
  intro j
  by_cases e : i = j
  · subst e
    rw [List.getElem?_eq_none (by rw [List.length_set]; omega), List.getElem?_eq_none (by omega)]
  · rw [List.getElem?_set_ne e]
theorem PUS.setF {t : TE} {F : FA} {i : Nat} (a : PUF G E t F) : PUS G E (tAsg t (gName i)) (F_setF i F) where
  run := fun S h => a.run S (a.mono (fun l ρ' k p vs H' S' e h1 h2 h3 h4 => by
    by_cases hi : i < ρ'.length
    · exact k _ H' (S'.take hi h3 h4 h1 h2) (e.trans (take_ex S' hi))
    · have e1 : ρ'.set i (.own l) = ρ' := set_none hi
      rw [e1] at k
      unfold gName
      dsimp only
      rw [set_none (by rw [S'.len]; exact hi)]
      exact k _ H' S'.back (e.trans out_ex)) (fun _ x => x) h)
  mono := fun m h => a.mono (fun _ _ k => m.nx _ k) m.ex h
/-! ### arguments -/
abbrev F_nil : FA := fun ρ K _ => K [] ρ
theorem PUA.nil : PUA G E tNil F_nil := ⟨fun S h => h _ _ S (Ex.refl _) .nil, fun m _ h => m _ _ h⟩
abbrev F_cons (F : FE) (R : FA) : FA := fun ρ K X => F ρ (fun d ρ1 => R ρ1 (fun ds ρ2 => K (d :: ds) ρ2) X) X
theorem PUA.cons {t : TE} {r : TA} {F : FE} {R : FA} (a : PU G E t F) (b : PUA G E r R) : PUA G E (tCons t r) (F_cons F R) where
  run := fun S h => a.run S (a.mono (fun d ρ1 k v H1 S1 e1 hv => b.run S1 (b.mono (fun ds ρ2 k2 vs H2 S2 e2 hs => k2 (v :: vs) H2 S2 (e1.trans e2) (.cons (hv.mono e2) hs)) (fun _ x => x) k)) (fun _ x => x) h)
  mono := fun m x h => a.mono (fun _ _ k => b.mono (fun _ _ k => m _ _ k) x k) x h
/-! ### operators by values -/
abbrev O2 := Dt → Dt → (Dt → Prop) → Prop
structure RD (G : Gs) (r : R2) (g : O2) : Prop where
  run : ∀ {X : Addr → Prop} {H : Hp} {x y : V} {d e : Dt} {Q : VK}, (∀ a, X a → LstAt H a) → DtV G (cut X H) x d → DtV G (cut X H) y e → g d e (fun z => ∀ v H', Ex H H' → DtV G (cut X H') v z → Q v H') → r x y H Q
  mono : ∀ {d e : Dt} {K K' : Dt → Prop}, (∀ z, K z → K' z) → g d e K → g d e K'
abbrev F_op (g : O2) (A B : FE) : FE := fun ρ K X => A ρ (fun d ρ1 => B ρ1 (fun e ρ2 => g d e (fun z => K z ρ2)) X) X
theorem PU.op {r : R2} {g : O2} {ta tb : TE} {A B : FE} (R : RD G r g) (a : PU G E ta A) (b : PU G E tb B) : PU G E (tOp r ta tb) (F_op g A B) where
  run := fun S h => a.run S (a.mono (fun d ρ1 k v H1 S1 e1 hv => b.run S1 (b.mono (fun e ρ2 k2 w H2 S2 e2 hw => R.run (fun p hp => S2.lstAt hp) (hv.mono e2) hw (R.mono (fun z k3 u H3 e3 hu => k3 u H3 (S2.grow e3) ((e1.trans e2).trans (cut_grow e3)) hu) k2)) (fun _ x => x) k)) (fun _ x => x) h)
  mono := fun m x h => a.mono (fun _ _ k => b.mono (fun _ _ k => R.mono (fun _ k => m _ _ k) k) x k) x h
/-- an operator whose value is a new list -/
structure RL (G : Gs) (r : R2) (g : Dt → Dt → (List Dt → Prop) → Prop) : Prop where
  run : ∀ {X : Addr → Prop} {H : Hp} {x y : V} {d e : Dt} {Q : VK}, (∀ a, X a → LstAt H a) → DtV G (cut X H) x d → DtV G (cut X H) y e → g d e (fun l => ∀ p vs H', H p = none → Ex H H' → H' p = some (.lst vs) → DtVs G (cut X H) vs l → Q (.ref p) H') → r x y H Q
  mono : ∀ {d e : Dt} {K K' : List Dt → Prop}, (∀ z, K z → K' z) → g d e K → g d e K'
theorem St.new {f : Fr} {σ : L2.St} {H H' : Hp} {ρ : Fm.Env} (S : St G f σ H ρ) {p : Addr} {vs : List V} {l : List Dt} (hp : H p = none) (e : Ex H H') (h : H' p = some (.lst vs)) (hr : DtVs G (cut (Xs f σ ρ) H) vs l) :
    St G (f.out p) σ H' ρ ∧ Ex (cut (Xs f σ ρ) H) (cut (Xs (f.out p) σ ρ) H') ∧ (f.P p ∨ f.H0 p = none) ∧ ¬ f.X0 p ∧ DtVs G (cut (Xs (f.out p) σ ρ) H') vs l :=
  ⟨S.outNew hp e ⟨_, h⟩, newOut_ex hp e, .inr (S.fresh hp).1, (S.fresh hp).2.1, hr.mono (newOut_ex hp e)⟩
abbrev F_opL (g : Dt → Dt → (List Dt → Prop) → Prop) (A B : FE) : FA := fun ρ K X => A ρ (fun d ρ1 => B ρ1 (fun e ρ2 => g d e (fun z => K z ρ2)) X) X
theorem PUF.op {r : R2} {g : Dt → Dt → (List Dt → Prop) → Prop} {ta tb : TE} {A B : FE} (R : RL G r g) (a : PU G E ta A) (b : PU G E tb B) : PUF G E (tOp r ta tb) (F_opL g A B) where
  run := fun S h => a.run S (a.mono (fun d ρ1 k v H1 S1 e1 hv => b.run S1 (b.mono (fun e ρ2 k2 w H2 S2 e2 hw => R.run (fun p hp => S2.lstAt hp) (hv.mono e2) hw (R.mono (fun z k3 p vs H3 h1 h2 h3 h4 => by
    obtain ⟨q1, q2, q3, q4, q5⟩ := S2.new h1 h2 h3 h4
    exact k3 p vs H3 q1 ((e1.trans e2).trans q2) q3 q4 h3 q5) k2)) (fun _ x => x) k)) (fun _ x => x) h)
  mono := fun m x h => a.mono (fun _ _ k => b.mono (fun _ _ k => R.mono (fun _ k => m _ _ k) k) x k) x h
abbrev O1 := Dt → (Dt → Prop) → Prop
structure UD (G : Gs) (r : V → Hp → VK → Prop) (g : O1) : Prop where
  run : ∀ {X : Addr → Prop} {H : Hp} {x : V} {d : Dt} {Q : VK}, (∀ a, X a → LstAt H a) → DtV G (cut X H) x d → g d (fun z => ∀ v H', Ex H H' → DtV G (cut X H') v z → Q v H') → r x H Q
  mono : ∀ {d : Dt} {K K' : Dt → Prop}, (∀ z, K z → K' z) → g d K → g d K'
abbrev F_un (g : O1) (A : FE) : FE := fun ρ K X => A ρ (fun d ρ1 => g d (fun z => K z ρ1)) X
theorem PU.un {r : V → Hp → VK → Prop} {g : O1} {ta : TE} {A : FE} (R : UD G r g) (a : PU G E ta A) : PU G E (tUn r ta) (F_un g A) where
  run := fun S h => a.run S (a.mono (fun d ρ1 k v H1 S1 e1 hv => R.run (fun p hp => S1.lstAt hp) hv (R.mono (fun z k3 u H3 e3 hu => k3 u H3 (S1.grow e3) (e1.trans (cut_grow e3)) hu) k)) (fun _ x => x) h)
  mono := fun m x h => a.mono (fun _ _ k => R.mono (fun _ k => m _ _ k) k) x h
/-- a call of what is built in: by values -/
abbrev ON := List Dt → (Dt → Prop) → Prop
structure CD (G : Gs) (r : List V → Hp → VK → Prop) (g : ON) : Prop where
  run : ∀ {X : Addr → Prop} {H : Hp} {xs : List V} {ds : List Dt} {Q : VK}, (∀ a, X a → LstAt H a) → DtVs G (cut X H) xs ds → g ds (fun z => ∀ v H', Ex H H' → DtV G (cut X H') v z → Q v H') → r xs H Q
  mono : ∀ {ds : List Dt} {K K' : Dt → Prop}, (∀ z, K z → K' z) → g ds K → g ds K'
abbrev F_cb (g : ON) (A : FA) : FE := fun ρ K X => A ρ (fun ds ρ1 => g ds (fun z => K z ρ1)) X
theorem PU.cbn {r : List V → Hp → VK → Prop} {g : ON} {ta : TA} {A : FA} (R : CD G r g) (a : PUA G E ta A) : PU G E (tCB r ta) (F_cb g A) where
  run := fun S h => a.run S (a.mono (fun d ρ1 k v H1 S1 e1 hv => R.run (fun p hp => S1.lstAt hp) hv (R.mono (fun z k3 u H3 e3 hu => k3 u H3 (S1.grow e3) (e1.trans (cut_grow e3)) hu) k)) (fun _ x => x) h)
  mono := fun m x h => a.mono (fun _ _ k => R.mono (fun _ k => m _ _ k) k) x h
structure CL (G : Gs) (r : List V → Hp → VK → Prop) (g : List Dt → (List Dt → Prop) → Prop) : Prop where
  run : ∀ {X : Addr → Prop} {H : Hp} {xs : List V} {ds : List Dt} {Q : VK}, (∀ a, X a → LstAt H a) → DtVs G (cut X H) xs ds → g ds (fun l => ∀ p vs H', H p = none → Ex H H' → H' p = some (.lst vs) → DtVs G (cut X H) vs l → Q (.ref p) H') → r xs H Q
  mono : ∀ {ds : List Dt} {K K' : List Dt → Prop}, (∀ z, K z → K' z) → g ds K → g ds K'
abbrev F_cbL (g : List Dt → (List Dt → Prop) → Prop) (A : FA) : FA := fun ρ K X => A ρ (fun ds ρ1 => g ds (fun z => K z ρ1)) X
theorem PUF.cbn {r : List V → Hp → VK → Prop} {g : List Dt → (List Dt → Prop) → Prop} {ta : TA} {A : FA} (R : CL G r g) (a : PUA G E ta A) : PUF G E (tCB r ta) (F_cbL g A) where
  run := fun S h => a.run S (a.mono (fun d ρ1 k v H1 S1 e1 hv => R.run (fun p hp => S1.lstAt hp) hv (R.mono (fun z k3 p vs H3 h1 h2 h3 h4 => by
    obtain ⟨q1, q2, q3, q4, q5⟩ := S1.new h1 h2 h3 h4
    exact k3 p vs H3 q1 (e1.trans q2) q3 q4 h3 q5) k)) (fun _ x => x) h)
  mono := fun m x h => a.mono (fun _ _ k => R.mono (fun _ k => m _ _ k) k) x h
/-! ### displays -/
abbrev F_tup (A : FA) : FE := fun ρ K X => A ρ (fun ds ρ' => ds.length ≤ 1000 ∧ K (.tup ds) ρ') X
theorem PU.tup {t : TA} {A : FA} (a : PUA G E t A) : PU G E (tTup t) (F_tup A) where
  run := fun S h => a.run S (a.mono (fun ds ρ' k vs H' S' e hv => ⟨Nat.le_trans (Nat.le_of_eq hv.length) (Nat.le_trans k.1 (by decide)), fun p hp => k.2 _ _ (S'.grow (Ex.new hp)) (e.trans (cut_grow (Ex.new hp))) (.tup (cut_some.mpr ⟨(S'.fresh hp).2.2, upd_same⟩) (hv.mono (cut_grow (Ex.new hp))))⟩) (fun _ x => x) h)
  mono := fun m x h => a.mono (fun _ _ k => ⟨k.1, m _ _ k.2⟩) x h
abbrev F_lst (A : FA) : FA := fun ρ K X => A ρ (fun ds ρ' => ds.length ≤ 1000 ∧ K ds ρ') X
theorem PUF.lst {t : TA} {A : FA} (a : PUA G E t A) : PUF G E (tLst t) (F_lst A) where
  run := fun S h => a.run S (a.mono (fun ds ρ' k vs H' S' e hv => ⟨Nat.le_trans (Nat.le_of_eq hv.length) (Nat.le_trans k.1 (by decide)), fun p hp => by
    obtain ⟨q1, q2, q3, q4, q5⟩ := S'.new (H' := upd H' p (.lst vs)) hp (Ex.new hp) upd_same hv
    exact k.2 p vs _ q1 (e.trans q2) q3 q4 upd_same q5⟩) (fun _ x => x) h)
  mono := fun m x h => a.mono (fun _ _ k => ⟨k.1, m _ _ k.2⟩) x h
/-! ### tests -/
abbrev F_test (A : FE) : FT := fun ρ K X => A ρ (fun d ρ' => ∃ b, d = .bl b ∧ K b ρ') X
theorem PUT.test {t : TE} {A : FE} (a : PU G E t A) : PUT G E (tTest t) (F_test A) where
  run := fun S h => a.run S (a.mono (fun d ρ' ⟨b, hd, k⟩ v H' S' e hv => by subst hd; cases hv; exact ⟨b, rfl, k H' S' e⟩) (fun _ x => x) h)
  mono := fun m x h => a.mono (fun _ _ ⟨b, hd, k⟩ => ⟨b, hd, m _ _ k⟩) x h
theorem PUT.b {t : TE} {A : FE} (a : PU G E t A) : PUT G E (tB t) (F_test A) where
  run := fun S h => a.run S (a.mono (fun d ρ' ⟨b, hd, k⟩ v H' S' e hv => by subst hd; cases hv; exact ⟨b, rfl, k H' S' e⟩) (fun _ x => x) h)
  mono := fun m x h => a.mono (fun _ _ ⟨b, hd, k⟩ => ⟨b, hd, m _ _ k⟩) x h
theorem kB_ex {f : Fr} {σ : L2.St} {H H1 : Hp} {ρ ρ1 : Fm.Env} {W : Bool → Hp → Prop} (e : Ex (cut (Xs f σ ρ) H) (cut (Xs f σ ρ1) H1)) {b : Bool} {ρ' : Fm.Env} (h : kB G f σ H ρ W b ρ') : kB G f σ H1 ρ1 W b ρ' := fun H' S e2 => h H' S (e.trans e2)
theorem kV_ex {f : Fr} {σ : L2.St} {H H1 : Hp} {ρ ρ1 : Fm.Env} {W : VK} (e : Ex (cut (Xs f σ ρ) H) (cut (Xs f σ ρ1) H1)) {b : Dt} {ρ' : Fm.Env} (h : kV G f σ H ρ W b ρ') : kV G f σ H1 ρ1 W b ρ' := fun v H' S e2 => h v H' S (e.trans e2)
abbrev F_not (T : FT) : FT := fun ρ K X => T ρ (fun b ρ' => K (!b) ρ') X
theorem PUT.not {t : TT} {T : FT} (a : PUT G E t T) : PUT G E (tNot t) (F_not T) where
  run := fun S h => a.run S (a.mono (fun b ρ' k H' S' e => k H' S' e) (fun _ x => x) h)
  mono := fun m x h => a.mono (fun _ _ k => m _ _ k) x h
abbrev F_and (T U : FT) : FT := fun ρ K X => T ρ (fun b ρ' => if b = true then U ρ' K X else K false ρ') X
theorem PUT.and {t u : TT} {T U : FT} (a : PUT G E t T) (b : PUT G E u U) : PUT G E (tAnd t u) (F_and T U) where
  run := fun S h => a.run S (a.mono (fun c ρ' k H' S' e => by
    cases c with
    | true => rw [if_pos rfl] at k ⊢; exact b.run S' (b.mono (fun _ _ k => kB_ex e k) (fun _ x => x) k)
    | false => rw [if_neg Bool.false_ne_true] at k ⊢; exact k H' S' e) (fun _ x => x) h)
  mono := fun m x h => a.mono (fun c _ k => by
    cases c with
    | true => rw [if_pos rfl] at k ⊢; exact b.mono m x k
    | false => rw [if_neg Bool.false_ne_true] at k ⊢; exact m _ _ k) x h
abbrev F_or (T U : FT) : FT := fun ρ K X => T ρ (fun b ρ' => if b = true then K true ρ' else U ρ' K X) X
theorem PUT.or {t u : TT} {T U : FT} (a : PUT G E t T) (b : PUT G E u U) : PUT G E (tOr t u) (F_or T U) where
  run := fun S h => a.run S (a.mono (fun c ρ' k H' S' e => by
    cases c with
    | true => rw [if_pos rfl] at k ⊢; exact k H' S' e
    | false => rw [if_neg Bool.false_ne_true] at k ⊢; exact b.run S' (b.mono (fun _ _ k => kB_ex e k) (fun _ x => x) k)) (fun _ x => x) h)
  mono := fun m x h => a.mono (fun c _ k => by
    cases c with
    | true => rw [if_pos rfl] at k ⊢; exact m _ _ k
    | false => rw [if_neg Bool.false_ne_true] at k ⊢; exact b.mono m x k) x h
abbrev F_ife (T : FT) (A B : FE) : FE := fun ρ K X => T ρ (fun b ρ' => if b = true then A ρ' K X else B ρ' K X) X
theorem PU.ife {c : TT} {ta tb : TE} {T : FT} {A B : FE} (w : PUT G E c T) (a : PU G E ta A) (b : PU G E tb B) : PU G E (tIf c ta tb) (F_ife T A B) where
  run := fun S h => w.run S (w.mono (fun d ρ' k H' S' e => by
    cases d with
    | true => rw [if_pos rfl] at k ⊢; exact a.run S' (a.mono (fun _ _ k => kV_ex e k) (fun _ x => x) k)
    | false => rw [if_neg Bool.false_ne_true] at k ⊢; exact b.run S' (b.mono (fun _ _ k => kV_ex e k) (fun _ x => x) k)) (fun _ x => x) h)
  mono := fun m x h => w.mono (fun d ρ' k => by
    cases d with
    | true => rw [if_pos rfl] at k ⊢; exact a.mono m x k
    | false => rw [if_neg Bool.false_ne_true] at k ⊢; exact b.mono m x k) x h
abbrev F_andV (A B : FE) : FE := fun ρ K X => A ρ (fun d ρ1 => ∃ b, d = .bl b ∧ if b = true then B ρ1 K X else K (.bl false) ρ1) X
theorem PU.andV {ta tb : TE} {A B : FE} (a : PU G E ta A) (b : PU G E tb B) : PU G E (tAndV ta tb) (F_andV A B) where
  run := fun S h => a.run S (a.mono (fun d ρ' ⟨c, hd, k⟩ v H' S' e hv => by
    subst hd; cases hv
    refine ⟨c, rfl, ?_⟩
    cases c with
    | true => rw [if_pos rfl] at k ⊢; exact b.run S' (b.mono (fun _ _ k => kV_ex e k) (fun _ x => x) k)
    | false => rw [if_neg Bool.false_ne_true] at k ⊢; exact k _ H' S' e (.bl false)) (fun _ x => x) h)
  mono := fun m x h => a.mono (fun d _ ⟨c, hd, k⟩ => ⟨c, hd, by
    cases c with
    | true => rw [if_pos rfl] at k ⊢; exact b.mono m x k
    | false => rw [if_neg Bool.false_ne_true] at k ⊢; exact m _ _ k⟩) x h
abbrev F_orV (A B : FE) : FE := fun ρ K X => A ρ (fun d ρ1 => ∃ b, d = .bl b ∧ if b = true then K (.bl true) ρ1 else B ρ1 K X) X
theorem PU.orV {ta tb : TE} {A B : FE} (a : PU G E ta A) (b : PU G E tb B) : PU G E (tOrV ta tb) (F_orV A B) where
  run := fun S h => a.run S (a.mono (fun d ρ' ⟨c, hd, k⟩ v H' S' e hv => by
    subst hd; cases hv
    refine ⟨c, rfl, ?_⟩
    cases c with
    | true => rw [if_pos rfl] at k ⊢; exact k _ H' S' e (.bl true)
    | false => rw [if_neg Bool.false_ne_true] at k ⊢; exact b.run S' (b.mono (fun _ _ k => kV_ex e k) (fun _ x => x) k)) (fun _ x => x) h)
  mono := fun m x h => a.mono (fun d _ ⟨c, hd, k⟩ => ⟨c, hd, by
    cases c with
    | true => rw [if_pos rfl] at k ⊢; exact m _ _ k
    | false => rw [if_neg Bool.false_ne_true] at k ⊢; exact b.mono m x k⟩) x h
abbrev F_notV (A : FE) : FE := fun ρ K X => A ρ (fun d ρ1 => ∃ b, d = .bl b ∧ K (.bl (!b)) ρ1) X
theorem PU.notV {ta : TE} {A : FE} (a : PU G E ta A) : PU G E (tNotV ta) (F_notV A) where
  run := fun S h => a.run S (a.mono (fun d ρ' ⟨c, hd, k⟩ v H' S' e hv => by subst hd; cases hv; exact ⟨c, rfl, k _ H' S' e (.bl _)⟩) (fun _ x => x) h)
  mono := fun m x h => a.mono (fun d _ ⟨c, hd, k⟩ => ⟨c, hd, m _ _ k⟩) x h
end
end Fm

set_option maxHeartbeats 2000000
namespace Fm
open PySem PySem.Spec PyProof.Rows L2
section
variable {G : Gs} {E : XK} {K : PySem.W.Frag}
/-! ### walks -/
structure Wk (G : Gs) (J : It) (items : List Dt) (Hc : Hp) : Prop where
  go : ∀ i Y H, Ex Hc (cut Y H) → i < items.length → J.go i H
  stop : ∀ Y H, Ex Hc (cut Y H) → J.stop items.length H
  yld : ∀ i Y H x H' d, Ex Hc (cut Y H) → (∀ a, Y a → H a ≠ none) → J.yld i H x H' → items[i]? = some d → Ex H H' ∧ DtV G (cut Y H') x d
abbrev FI := FA
structure PUI (G : Gs) (E : XK) (w : TI) (F : FI) : Prop where
  run : ∀ {f : Fr} {σ : L2.St} {H : Hp} {ρ : Fm.Env} {R : It → Hp → Prop}, St G f σ H ρ → F ρ (fun items ρ' => ∀ J H', St G f σ H' ρ' → Ex (cut (Xs f σ ρ) H) (cut (Xs f σ ρ') H') → Wk G J items (cut (Xs f σ ρ') H') → R J H') (kX G f E) → w σ H R
  mono : ∀ {ρ : Fm.Env} {K K' : List Dt → Fm.Env → Prop} {X X' : Er → Prop}, (∀ d ρ', K d ρ' → K' d ρ') → (∀ e, X e → X' e) → F ρ K X → F ρ K' X'
theorem Wk.list {p : Addr} {vs : List V} {l : List Dt} {Hc : Hp} (h : Hc p = some (.lst vs)) (r : DtVs G Hc vs l) : Wk G (Itl K p) l Hc where
  go := fun i Y H e hi => by
    have hp : H p = some (.lst vs) := (cut_some.mp (e _ _ h)).2
    have hl : i < vs.length := by rw [r.length]; exact hi
    exact ⟨vs, vs[i], SqL.of hp, List.getElem?_eq_getElem hl⟩
  stop := fun Y H e => ⟨vs, SqL.of (cut_some.mp (e _ _ h)).2, Nat.le_of_eq r.length⟩
  yld := fun i Y H x H' d e _ y hd => by
    obtain ⟨rfl, hx⟩ := y
    obtain ⟨v, hv, dv⟩ := r.atR hd
    have := hx vs (SqL.of (cut_some.mp (e _ _ h)).2)
    rw [hv] at this
    cases this
    exact ⟨Ex.refl _, dv.mono e⟩
theorem Wk.tup {p : Addr} {vs : List V} {l : List Dt} {Hc : Hp} (h : Hc p = some (.tup vs)) (r : DtVs G Hc vs l) : Wk G (Itt K p) l Hc where
  go := fun i Y H e hi => by
    have hp : H p = some (.tup vs) := (cut_some.mp (e _ _ h)).2
    have hl : i < vs.length := by rw [r.length]; exact hi
    exact ⟨vs, vs[i], SqT.of hp, List.getElem?_eq_getElem hl⟩
  stop := fun Y H e => ⟨vs, SqT.of (cut_some.mp (e _ _ h)).2, Nat.le_of_eq r.length⟩
  yld := fun i Y H x H' d e _ y hd => by
    obtain ⟨rfl, hx⟩ := y
    obtain ⟨v, hv, dv⟩ := r.atR hd
    have := hx vs (SqT.of (cut_some.mp (e _ _ h)).2)
    rw [hv] at this
    cases this
    exact ⟨Ex.refl _, dv.mono e⟩
def rngL (lo : Int) (n : Nat) : List Dt := (List.range n).map fun (k : Nat) => Dt.int (lo + (k : Int))
theorem Wk.rng {lo : Int} {n : Nat} {Hc : Hp} : Wk G (Itr lo n) (rngL lo n) Hc where
  go := fun i Y H e hi => by unfold rngL at hi; rw [List.length_map, List.length_range] at hi; exact hi
  stop := fun Y H e => by show n ≤ (rngL lo n).length; unfold rngL; rw [List.length_map, List.length_range]; exact Nat.le_refl _
  yld := fun i Y H x H' d e _ y hd => by
    obtain ⟨rfl, rfl⟩ := y
    unfold rngL at hd
    rw [List.getElem?_map] at hd
    cases h : (List.range n)[i]? with
    | none => rw [h] at hd; cases hd
    | some k =>
      rw [h] at hd
      injection hd with hd
      have : k = i := by
        obtain ⟨hl, e⟩ := List.getElem?_eq_some_iff.mp h
        rw [← e, List.getElem_range]
      subst this
      subst hd
      exact ⟨Ex.refl _, .int _⟩
theorem Wk.enum {p : Addr} {vs : List V} {l : List Dt} {Hc : Hp} (h : Hc p = some (.lst vs)) (r : DtVs G Hc vs l) : Wk G (Ite K p) (l.zipIdx.map fun e => Dt.tup [.int (e.2 : Int), e.1]) Hc where
  go := fun i Y H e hi => by
    have hp : H p = some (.lst vs) := (cut_some.mp (e _ _ h)).2
    have hl : i < vs.length := by rw [r.length]; rw [List.length_map, List.length_zipIdx] at hi; exact hi
    exact ⟨vs, vs[i], SqL.of hp, List.getElem?_eq_getElem hl⟩
  stop := fun Y H e => ⟨vs, SqL.of (cut_some.mp (e _ _ h)).2, by rw [List.length_map, List.length_zipIdx]; exact Nat.le_of_eq r.length⟩
  yld := fun i Y H x H' d e hY y hd => by
    obtain ⟨T, y, rfl, hT, rfl, hx⟩ := y
    rw [List.getElem?_map, List.getElem?_zipIdx] at hd
    cases hl : l[i]? with
    | none => rw [hl] at hd; cases hd
    | some d0 =>
      rw [hl] at hd
      injection hd with hd
      subst hd
      obtain ⟨v, hv, dv⟩ := r.atR hl
      have := hx vs (SqL.of (cut_some.mp (e _ _ h)).2)
      rw [hv] at this
      cases this
      refine ⟨Ex.new hT, .tup (cut_some.mpr ⟨fun w => hY T w hT, upd_same⟩) (.cons ?_ (.cons ((dv.mono e).mono (cut_grow (Ex.new hT))) .nil))⟩
      show DtV G _ _ (.int ((0 + i : Nat) : Int))
      rw [Nat.zero_add]
      exact .int _
theorem Wk.zip {p q : Addr} {vs ws : List V} {l m : List Dt} {Hc : Hp} (h : Hc p = some (.lst vs)) (r : DtVs G Hc vs l) (h2 : Hc q = some (.lst ws)) (r2 : DtVs G Hc ws m) : Wk G (Itz K p q) ((l.zip m).map fun e => Dt.tup [e.1, e.2]) Hc where
  go := fun i Y H e hi => by
    rw [List.length_map, List.length_zip] at hi
    have hl : i < vs.length := by rw [r.length]; omega
    have hl2 : i < ws.length := by rw [r2.length]; omega
    exact ⟨vs, ws, vs[i], ws[i], SqL.of (cut_some.mp (e _ _ h)).2, SqL.of (cut_some.mp (e _ _ h2)).2, List.getElem?_eq_getElem hl, List.getElem?_eq_getElem hl2⟩
  stop := fun Y H e => ⟨vs, ws, SqL.of (cut_some.mp (e _ _ h)).2, SqL.of (cut_some.mp (e _ _ h2)).2, by rw [List.length_map, List.length_zip, r.length, r2.length]; omega⟩
  yld := fun i Y H x H' d e hY y hd => by
    obtain ⟨T, y, z, rfl, hT, rfl, hx, hz⟩ := y
    rw [List.getElem?_map] at hd
    cases hl : (l.zip m)[i]? with
    | none => rw [hl] at hd; cases hd
    | some d0 =>
      rw [hl] at hd
      injection hd with hd
      subst hd
      obtain ⟨k1, k2⟩ := List.getElem?_zip_eq_some.mp hl
      obtain ⟨v, hv, dv⟩ := r.atR k1
      obtain ⟨w, hw, dw⟩ := r2.atR k2
      have a1 := hx vs (SqL.of (cut_some.mp (e _ _ h)).2)
      have a2 := hz ws (SqL.of (cut_some.mp (e _ _ h2)).2)
      rw [hv] at a1; rw [hw] at a2
      cases a1; cases a2
      exact ⟨Ex.new hT, .tup (cut_some.mpr ⟨fun w => hY T w hT, upd_same⟩) (.cons ((dv.mono e).mono (cut_grow (Ex.new hT))) (.cons ((dw.mono e).mono (cut_grow (Ex.new hT))) .nil))⟩
abbrev F_rng1 (A : FA) : FI := fun ρ K X => A ρ (fun ds ρ' => ∃ j : Int, ds = [.int j] ∧ (-(2 ^ 62) ≤ j ∧ j < 2 ^ 62) ∧ K (rngL 0 j.toNat) ρ') X
theorem PUI.rng1 {t : TA} {A : FA} (a : PUA G E t A) : PUI G E (iRng1 t) (F_rng1 A) where
  run := fun S h => a.run S (a.mono (fun ds ρ' ⟨j, hd, ⟨h1, h2⟩, k⟩ vs H' S' e hv => by
    subst hd
    cases hv with
    | cons h r => cases h; cases r; exact ⟨j, rfl, h1, h2, k _ H' S' e Wk.rng⟩) (fun _ x => x) h)
  mono := fun m x h => a.mono (fun _ _ ⟨j, hd, hb, k⟩ => ⟨j, hd, hb, m _ _ k⟩) x h
abbrev F_rng2 (A : FA) : FI := fun ρ K X => A ρ (fun ds ρ' => ∃ i j : Int, ds = [.int i, .int j] ∧ (-(2 ^ 62) ≤ i ∧ i < 2 ^ 62 ∧ -(2 ^ 62) ≤ j ∧ j < 2 ^ 62) ∧ K (rngL i (j - i).toNat) ρ') X
theorem PUI.rng2 {t : TA} {A : FA} (a : PUA G E t A) : PUI G E (iRng2 t) (F_rng2 A) where
  run := fun S h => a.run S (a.mono (fun ds ρ' ⟨i, j, hd, hb, k⟩ vs H' S' e hv => by
    subst hd
    cases hv with
    | cons h r => cases h; cases r with
      | cons h r => cases h; cases r; exact ⟨i, j, rfl, hb, k _ H' S' e Wk.rng⟩) (fun _ x => x) h)
  mono := fun m x h => a.mono (fun _ _ ⟨i, j, hd, hb, k⟩ => ⟨i, j, hd, hb, m _ _ k⟩) x h
abbrev F_iter (A : FE) : FI := fun ρ K X => A ρ (fun d ρ' => ∃ l, d = .lst l ∧ K l ρ') X
theorem PUI.list {t : TE} {A : FE} (a : PU G E t A) : PUI G E (iList K t) (F_iter A) where
  run := fun S h => a.run S (a.mono (fun ds ρ' ⟨l, hd, k⟩ v H' S' e hv => by
    subst hd
    cases hv with
    | lst hp r => exact ⟨_, rfl, ⟨_, SqL.of (cut_some.mp hp).2⟩, k _ H' S' e (Wk.list hp r)⟩) (fun _ x => x) h)
  mono := fun m x h => a.mono (fun _ _ ⟨l, hd, k⟩ => ⟨l, hd, m _ _ k⟩) x h
abbrev F_iterT (A : FE) : FI := fun ρ K X => A ρ (fun d ρ' => ∃ l, d = .tup l ∧ K l ρ') X
theorem PUI.tup {t : TE} {A : FE} (a : PU G E t A) : PUI G E (iTup K t) (F_iterT A) where
  run := fun S h => a.run S (a.mono (fun ds ρ' ⟨l, hd, k⟩ v H' S' e hv => by
    subst hd
    cases hv with
    | tup hp r => exact ⟨_, rfl, ⟨_, SqT.of (cut_some.mp hp).2⟩, k _ H' S' e (Wk.tup hp r)⟩) (fun _ x => x) h)
  mono := fun m x h => a.mono (fun _ _ ⟨l, hd, k⟩ => ⟨l, hd, m _ _ k⟩) x h
abbrev F_enum (A : FA) : FI := fun ρ K X => A ρ (fun ds ρ' => ∃ l, ds = [.lst l] ∧ K (l.zipIdx.map fun e => Dt.tup [.int (e.2 : Int), e.1]) ρ') X
theorem PUI.enum {t : TA} {A : FA} (a : PUA G E t A) : PUI G E (iEnum K t) (F_enum A) where
  run := fun S h => a.run S (a.mono (fun ds ρ' ⟨l, hd, k⟩ v H' S' e hv => by
    subst hd
    cases hv with
    | cons h r => cases r; cases h with
      | lst hp r => exact ⟨_, _, rfl, SqL.of (cut_some.mp hp).2, k _ H' S' e (Wk.enum hp r)⟩) (fun _ x => x) h)
  mono := fun m x h => a.mono (fun _ _ ⟨l, hd, k⟩ => ⟨l, hd, m _ _ k⟩) x h
abbrev F_zip (A : FA) : FI := fun ρ K X => A ρ (fun ds ρ' => ∃ l m, ds = [.lst l, .lst m] ∧ K ((l.zip m).map fun e => Dt.tup [e.1, e.2]) ρ') X
theorem PUI.zip {t : TA} {A : FA} (a : PUA G E t A) : PUI G E (iZip K t) (F_zip A) where
  run := fun S h => a.run S (a.mono (fun ds ρ' ⟨l, m, hd, k⟩ v H' S' e hv => by
    subst hd
    cases hv with
    | cons h r => cases r with
      | cons h2 r => cases r; cases h with
        | lst hp r => cases h2 with
          | lst hp2 r2 => exact ⟨_, _, _, _, rfl, SqL.of (cut_some.mp hp).2, SqL.of (cut_some.mp hp2).2, k _ H' S' e (Wk.zip hp r hp2 r2)⟩) (fun _ x => x) h)
  mono := fun m x h => a.mono (fun _ _ ⟨l, n, hd, k⟩ => ⟨l, n, hd, m _ _ k⟩) x h
/-! ### for -/
def forP (g : FG) (B : FS) : List Dt → FS
  | [], ρ, D => D.nx ρ
  | d :: ds, ρ, D => g d ρ fun ρ1 => B ρ1 { D with nx := fun ρ' => forP g B ds ρ' D, ct := fun ρ' => forP g B ds ρ' D, bk := D.nx }
theorem forP_mono {tg : TG} {tb : TS} {g : FG} {B : FS} (gp : PUG G tg g) (b : PUS G E tb B) : ∀ (ds : List Dt) {ρ : Fm.Env} {D D' : DE}, D.Le D' → forP g B ds ρ D → forP g B ds ρ D'
  | [], _, _, _, m, h => m.nx _ h
  | d :: ds, _, D, D', m, h => gp.mono (fun ρ1 k => b.mono (D := { D with nx := fun ρ' => forP g B ds ρ' D, ct := fun ρ' => forP g B ds ρ' D, bk := D.nx }) (D' := { D' with nx := fun ρ' => forP g B ds ρ' D', ct := fun ρ' => forP g B ds ρ' D', bk := D'.nx })
      ⟨fun ρ' k => forP_mono gp b ds m k, m.rt, m.rl, fun ρ' k => m.nx _ k, fun ρ' k => forP_mono gp b ds m k, m.ex⟩ k) h
abbrev F_for (I : FI) (g : FG) (B : FS) : FS := fun ρ D => I ρ (fun items ρ' => forP g B items ρ' D) D.ex
theorem PUS.for {w : TI} {tg : TG} {tb : TS} {I : FI} {g : FG} {B : FS} (i : PUI G E w I) (gp : PUG G tg g) (b : PUS G E tb B) : PUS G E (tFor w tg tb) (F_for I g B) where
  run := fun {f σ H ρ D} S h => i.run S (i.mono (fun items ρ' k J H' S' e wk => by
    refine ⟨fun i m σ1 H1 => m = items.length - i ∧ i ≤ items.length ∧ ∃ ρ1, St G f σ1 H1 ρ1 ∧ Ex (cut (Xs f σ ρ') H') (cut (Xs f σ1 ρ1) H1) ∧ forP g B (items.drop i) ρ1 (kD G E f σ1 H1 ρ1 D), ⟨_, rfl, Nat.zero_le _, ρ', S', Ex.refl _, forP_mono gp b _ (kD_ex e) k⟩, ?_⟩
    rintro i m σ1 H1 ⟨rfl, hi, ρ1, S1, e1, k1⟩
    by_cases hl : i = items.length
    · subst hl
      rw [List.drop_length] at k1
      exact .inl ⟨wk.stop _ _ e1, k1 _ _ S1 (Ex.refl _)⟩
    · have hlt : i < items.length := by omega
      refine .inr ⟨wk.go i _ _ e1 hlt, fun σ2 H2 => ∃ ρ2, St G f σ2 H2 ρ2 ∧ Ex (cut (Xs f σ ρ') H') (cut (Xs f σ2 ρ2) H2) ∧ forP g B (items.drop (i + 1)) ρ2 (kD G E f σ2 H2 ρ2 D), fun σ2 H2 q => ⟨items.length - (i + 1), by omega, rfl, by omega, q⟩, fun x H2 y => ?_⟩
      obtain ⟨ex, hv⟩ := wk.yld i _ _ x H2 items[i] e1 (fun a ha => S1.dom ha) y (List.getElem?_eq_getElem hlt)
      rw [tkT (List.getElem?_eq_getElem hlt)] at k1
      have S2 := S1.grow ex
      refine gp.run S2 hv (gp.mono (fun ρ2 k2 σ3 H3 S3 e3 => b.run S3 (b.mono ?_ k2)) k1)
      have e13 := (cut_grow ex).trans e3
      have st : ∀ ρ4, forP g B (items.drop (i + 1)) ρ4 (kD G E f σ1 H1 ρ1 D) → kN G f σ3 H3 ρ2 (fun σ2 H2 => ∃ ρ2, St G f σ2 H2 ρ2 ∧ Ex (cut (Xs f σ ρ') H') (cut (Xs f σ2 ρ2) H2) ∧ forP g B (items.drop (i + 1)) ρ2 (kD G E f σ2 H2 ρ2 D)) ρ4 :=
        fun ρ4 k4 σ5 H5 S5 e5 => ⟨ρ4, S5, (e1.trans e13).trans e5, forP_mono gp b _ (kD_ex (e13.trans e5)) k4⟩
      exact ⟨st, fun _ _ h => h, fun _ _ h => h, fun ρ4 k4 => kN_ex e13 k4, st, fun _ h => h⟩) (fun _ x => x) h)
  mono := fun m h => i.mono (fun _ _ k => forP_mono gp b _ m k) m.ex h
/-! ### while -/
/-- a while: W a measure over data -/
def whileP (T : FT) (B : FS) (ρ : Fm.Env) (D : DE) : Prop := ∃ W : Nat → Fm.Env → Prop, (∃ m, W m ρ) ∧ ∀ m ρ1, W m ρ1 → T ρ1 (fun b ρ2 => if b = true then B ρ2 { D with nx := fun ρ' => ∃ m', m' < m ∧ W m' ρ', ct := fun ρ' => ∃ m', m' < m ∧ W m' ρ', bk := D.nx } else D.nx ρ2) D.ex
theorem PUS.while {c : TT} {tb : TS} {T : FT} {B : FS} (w : PUT G E c T) (b : PUS G E tb B) : PUS G E (tWhile c tb) (whileP T B) where
  run := fun {f σ H ρ D} S h => by
    obtain ⟨W, ⟨m0, w0⟩, turn⟩ := h
    refine ⟨fun m σ1 H1 => ∃ ρ1, St G f σ1 H1 ρ1 ∧ Ex (cut (Xs f σ ρ) H) (cut (Xs f σ1 ρ1) H1) ∧ W m ρ1, ⟨m0, ρ, S, Ex.refl _, w0⟩, ?_⟩
    rintro m σ1 H1 ⟨ρ1, S1, e1, w1⟩
    refine w.run S1 (w.mono (fun d ρ2 k H2 S2 e2 => ?_) (fun _ x => x) (turn m ρ1 w1))
    cases d with
    | false => rw [if_neg Bool.false_ne_true] at k ⊢; exact k _ _ S2 (e1.trans e2)
    | true =>
      rw [if_pos rfl] at k ⊢
      refine ⟨fun σ3 H3 => ∃ m', m' < m ∧ ∃ ρ3, St G f σ3 H3 ρ3 ∧ Ex (cut (Xs f σ ρ) H) (cut (Xs f σ3 ρ3) H3) ∧ W m' ρ3, fun _ _ q => q, b.run S2 (b.mono ?_ k)⟩
      have st : ∀ ρ4, (∃ m', m' < m ∧ W m' ρ4) → kN G f σ1 H2 ρ2 (fun σ3 H3 => ∃ m', m' < m ∧ ∃ ρ3, St G f σ3 H3 ρ3 ∧ Ex (cut (Xs f σ ρ) H) (cut (Xs f σ3 ρ3) H3) ∧ W m' ρ3) ρ4 :=
        fun ρ4 ⟨m', hm, hw⟩ σ5 H5 S5 e5 => ⟨m', hm, ρ4, S5, (e1.trans e2).trans e5, hw⟩
      exact ⟨st, fun _ _ h => h, fun _ _ h => h, fun ρ4 k4 => kN_ex (e1.trans e2) k4, st, fun _ h => h⟩
  mono := fun {ρ D D'} m h => by
    obtain ⟨W, w0, turn⟩ := h
    refine ⟨W, w0, fun k ρ1 w1 => w.mono (fun d ρ2 q => ?_) m.ex (turn k ρ1 w1)⟩
    cases d with
    | false => rw [if_neg Bool.false_ne_true] at q ⊢; exact m.nx _ q
    | true =>
      rw [if_pos rfl] at q ⊢
      exact b.mono (D := { D with nx := fun ρ' => ∃ m', m' < k ∧ W m' ρ', ct := fun ρ' => ∃ m', m' < k ∧ W m' ρ', bk := D.nx }) (D' := { D' with nx := fun ρ' => ∃ m', m' < k ∧ W m' ρ', ct := fun ρ' => ∃ m', m' < k ∧ W m' ρ', bk := D'.nx }) ⟨fun _ x => x, m.rt, m.rl, fun _ x => m.nx _ x, fun _ x => x, m.ex⟩ q
/-! ### comprehensions -/
/-- from here on -/
def Fr.base (f : Fr) (σ : L2.St) (H : Hp) (ρ : Fm.Env) : Fr := ⟨H, fun a => f.P a ∨ Own σ ρ a, f.X0⟩
theorem St.base {f : Fr} {σ : L2.St} {H : Hp} {ρ : Fm.Env} (S : St G f σ H ρ) : St G (f.base σ H ρ) σ H ρ where
  len := S.len
  fr := fun _ _ _ h => h
  sl := S.sl
  uq := S.uq
  nw := fun p h => .inl (.inr h)
  x0 := S.x0
  pd := fun p h => h.elim (S.pd p) fun w => S.dom (.inr w)
theorem St.unbase {f : Fr} {σ σ' : L2.St} {H H' : Hp} {ρ ρ' : Fm.Env} (S : St G f σ H ρ) (S2 : St G (f.base σ H ρ) σ' H' ρ') : St G f σ' H' ρ' where
  len := S2.len
  fr := fun a o n h => S2.fr a o (fun w => w.elim n fun w => (S.nw a w).elim n fun z => by rw [z] at h; cases h) (S.fr a o n h)
  sl := S2.sl
  uq := S2.uq
  nw := fun p h => (S2.nw p h).elim (fun w => w.elim .inl (S.nw p)) fun w => .inr (S.fresh w).1
  x0 := S2.x0
  pd := fun p h => S2.pd p (.inl h)
theorem St.updOut {f : Fr} {σ : L2.St} {H : Hp} {ρ : Fm.Env} (S : St G f σ H ρ) {D : Addr} {ws : List V} (hx : f.X0 D) (hn : f.H0 D = none) : St G f σ (upd H D (.lst ws)) ρ where
  len := S.len
  fr := fun a u n h => by
    rw [upd_ne (ne_of_none h hn)]
    exact S.fr a u n h
  sl := fun i s h => by
    have hd : Xs f σ ρ D := .inl hx
    rw [cut_upd hd]
    refine (S.sl i s h).mono (Ex.refl _) fun p vs hl hs hp => ?_
    have : p ≠ D := by
      rintro rfl
      exact (S.x0 p hx).2 ⟨i, s, h, hl, jn.mp hs⟩
    rw [upd_ne this]
    exact hp
  uq := S.uq
  nw := S.nw
  x0 := fun p h => ⟨by
    by_cases e : p = D
    · subst e; exact ⟨_, upd_same⟩
    · exact (S.x0 p h).1.imp fun vs h => by rw [upd_ne e]; exact h, (S.x0 p h).2⟩
  pd := fun p h => by
    by_cases e : p = D
    · subst e; rw [upd_same]; simp
    · rw [upd_ne e]; exact S.pd p h
def slotAt (ρ : Fm.Env) (i : Nat) : Slot := (ρ[i]?).getD .un
theorem St.slot {f : Fr} {σ : L2.St} {H : Hp} {ρ : Fm.Env} (S : St G f σ H ρ) (i : Nat) : SlR G (cut (Xs f σ ρ) H) H (σ[i]?.join) (slotAt ρ i) := by
  unfold slotAt
  cases h : ρ[i]? with
  | none => exact .un
  | some s => exact S.sl i s h
theorem set_join {σ : L2.St} {i : Nat} {o : Option V} : (σ.set i o).set i (σ[i]?.join) = σ := by
  apply List.ext_getElem?
  intro j
  by_cases e : i = j
  · subst e
    by_cases hl : i < σ.length
    · rw [List.getElem?_set_self (by rw [List.length_set]; exact hl), List.getElem?_eq_getElem hl]
      rfl
    · rw [List.getElem?_eq_none (by rw [List.length_set, List.length_set]; omega), List.getElem?_eq_none (by omega)]
  · rw [List.getElem?_set_ne e, List.getElem?_set_ne e]
/-- an own name of a comprehension comes back -/
theorem St.home {f : Fr} {σ : L2.St} {H H' : Hp} {ρ ρ' : Fm.Env} {i : Nat} {o : Option V} (S : St G f σ H ρ) (hs : (slotAt ρ i).lists = false) (S2 : St G f (σ.set i o) H' ρ') (e : Ex (cut (Xs f σ ρ) H) (cut (Xs f (σ.set i o) ρ') H')) :
    St G f σ H' (ρ'.set i (slotAt ρ i)) ∧ Ex (cut (Xs f (σ.set i o) ρ') H') (cut (Xs f σ (ρ'.set i (slotAt ρ i))) H') := by
  have h := (S.slot i).mono e (H' := H') fun p vs hl _ _ => by rw [hs] at hl; cases hl
  have S3 := S2.put (i := i) hs h
  have e3 := put_ex (f := f) (σ := σ.set i o) (H := H') (ρ := ρ') (i := i) (o := σ[i]?.join) (s := slotAt ρ i) hs
  rw [set_join] at S3 e3
  exact ⟨S3, e3⟩
def lcP (i : Nat) (T : FT) (B : FE) : List Dt → List Dt → Fm.Env → (List Dt → Fm.Env → Prop) → Prop
  | [], acc, ρ, K => K acc ρ
  | d :: ds, acc, ρ, K => acc.length < 100000 ∧ (slotAt ρ i).lists = false ∧ T (ρ.set i (.val d)) (fun b ρ2 => if b = true then B ρ2 (fun y ρ3 => lcP i T B ds (acc ++ [y]) (ρ3.set i (slotAt ρ i)) K) (fun _ => False) else lcP i T B ds acc (ρ2.set i (slotAt ρ i)) K) (fun _ => False)
theorem lcP_mono {i : Nat} {tt : TT} {te : TE} {T : FT} {B : FE} {E1 E2 : XK} (w : PUT G E1 tt T) (b : PU G E2 te B) : ∀ (ds acc : List Dt) {ρ : Fm.Env} {K K' : List Dt → Fm.Env → Prop}, (∀ l ρ, K l ρ → K' l ρ) → lcP i T B ds acc ρ K → lcP i T B ds acc ρ K'
  | [], _, _, _, _, m, h => m _ _ h
  | d :: ds, acc, _, _, _, m, h => ⟨h.1, h.2.1, w.mono (fun c ρ2 k => by
      cases c with
      | true => rw [if_pos rfl] at k ⊢; exact b.mono (fun y ρ3 k => lcP_mono w b ds _ m k) (fun _ x => x) k
      | false => rw [if_neg Bool.false_ne_true] at k ⊢; exact lcP_mono w b ds _ m k) (fun _ x => x) h.2.2⟩
abbrev F_lc (i : Nat) (I : FI) (T : FT) (B : FE) : FA := fun ρ K X => I ρ (fun items ρ' => lcP i T B items [] ρ' K) X
theorem wipe1 {σ : L2.St} {i : Nat} {v : V} : wipe ((wipe σ [i]).set i (some v)) [i] = wipe σ [i] := by
  show ((σ.set i none).set i (some v)).set i none = σ.set i none
  rw [List.set_set, List.set_set]
theorem PUF.lc {w : TI} {tt : TT} {te : TE} {I : FI} {T : FT} {B : FE} {i : Nat} {E1 E2 : XK} (ip : PUI G E w I) (wt : PUT G E1 tt T) (b : PU G E2 te B) : PUF G E (tLc w (gName i) tt te [i]) (F_lc i I T B) where
  run := fun {f σ H ρ Q} S h => ip.run S (ip.mono (fun items ρ' k J H' S' e wk D hD => by
    have exD : Ex H' (upd H' D (.lst [])) := Ex.new hD
    obtain ⟨q1, q2, q3, q4, q5⟩ := S'.new (H' := upd H' D (.lst [])) hD exD upd_same .nil
    refine ⟨fun j m H1 => m = items.length - j ∧ j ≤ items.length ∧ ∃ ρ1 acc vs, St G (f.out D) σ H1 ρ1 ∧ Ex (cut (Xs f σ ρ') H') (cut (Xs (f.out D) σ ρ1) H1) ∧ H1 D = some (.lst vs) ∧ DtVs G (cut (Xs (f.out D) σ ρ1) H1) vs acc ∧ lcP i T B (items.drop j) acc ρ1 (kF G f σ H ρ Q), ⟨_, rfl, Nat.zero_le _, ρ', [], [], q1, q2, upd_same, .nil, k⟩, ?_⟩
    rintro j m H1 ⟨rfl, hj, ρ1, acc, vs, S1, e1, hd1, hr1, k1⟩
    by_cases hl : j = items.length
    · subst hl
      rw [List.drop_length] at k1
      exact .inl ⟨wk.stop _ _ e1, k1 D vs H1 S1 (e.trans e1) q3 q4 hd1 hr1⟩
    · have hlt : j < items.length := by omega
      refine .inr ⟨wk.go j _ _ e1 hlt, fun H2 => ∃ ρ2 acc vs, St G (f.out D) σ H2 ρ2 ∧ Ex (cut (Xs f σ ρ') H') (cut (Xs (f.out D) σ ρ2) H2) ∧ H2 D = some (.lst vs) ∧ DtVs G (cut (Xs (f.out D) σ ρ2) H2) vs acc ∧ lcP i T B (items.drop (j + 1)) acc ρ2 (kF G f σ H ρ Q), fun H2 q => ⟨items.length - (j + 1), by omega, rfl, by omega, q⟩, fun x H2 y => ?_⟩
      obtain ⟨ex, hv⟩ := wk.yld j _ _ x H2 items[j] e1 (fun a ha => S1.dom ha) y (List.getElem?_eq_getElem hlt)
      rw [tkT (List.getElem?_eq_getElem hlt)] at k1
      obtain ⟨kl, ks, kt⟩ := k1
      have S2 := S1.grow ex
      have hD2 : H2 D = some (.lst vs) := ex _ _ hd1
      refine ⟨wipe1, ?_⟩
      have es : (wipe σ [i]).set i (some x) = σ.set i (some x) := by
        show (σ.set i none).set i (some x) = σ.set i (some x)
        rw [List.set_set]
      rw [es]
      have S3 : St G (f.out D) (σ.set i (some x)) H2 (ρ1.set i (.val items[j])) := S2.put rfl (.val hv)
      have e3 : Ex (cut (Xs (f.out D) σ ρ1) H1) (cut (Xs (f.out D) (σ.set i (some x)) (ρ1.set i (.val items[j]))) H2) := (cut_grow ex).trans (put_ex rfl)
      have hnP : ¬ f.P D := fun w => S'.pd D w hD
      have hnO : ¬ Own (σ.set i (some x)) (ρ1.set i (.val items[j])) D := (S3.x0 D (.inr rfl)).2
      have hnB : ¬ ((f.out D).base (σ.set i (some x)) H2 (ρ1.set i (.val items[j]))).P D := fun w => w.elim hnP hnO
      refine wt.run S3.base (wt.mono (fun c ρ4 k4 H4 S4 e4 => ?_) (fun e he => he.elim) kt)
      cases c with
      | false =>
        dsimp only
        rw [if_neg Bool.false_ne_true] at k4 ⊢
        obtain ⟨S6, e6⟩ := S1.home ks (S3.unbase S4) (e3.trans e4)
        have e16 := (e3.trans e4).trans e6
        exact ⟨_, acc, vs, S6, e1.trans e16, S4.fr D _ hnB hD2, hr1.mono e16, k4⟩
      | true =>
        dsimp only
        rw [if_pos rfl] at k4 ⊢
        refine b.run S4 (b.mono (fun y ρ5 k5 v5 H5 S5 e5 hv5 => ?_) (fun e he => he.elim) k4)
        obtain ⟨S6, e6⟩ := S1.home ks (S3.unbase S5) ((e3.trans e4).trans e5)
        have e16 := ((e3.trans e4).trans e5).trans e6
        have nx : f.H0 D = none := (S'.fresh hD).1
        have xc : cut (Xs (f.out D) σ (ρ5.set i (slotAt ρ1 i))) (upd H5 D (.lst (vs ++ [v5]))) = cut (Xs (f.out D) σ (ρ5.set i (slotAt ρ1 i))) H5 := cut_upd (.inl (.inr rfl))
        refine ⟨vs, S5.fr D _ hnB hD2, Nat.lt_of_le_of_lt (m := 100000) (by rw [hr1.length]; omega) (by decide), _, _, _, S6.updOut (.inr rfl) nx, ?_, upd_same, ?_, k5⟩
        · rw [xc]; exact e1.trans e16
        · rw [xc]; exact (hr1.mono e16).app (.cons (hv5.mono e6) .nil)) (fun _ x => x) h)
  mono := fun m x h => ip.mono (fun _ _ k => lcP_mono wt b _ _ m k) x h
end
end Fm

set_option maxHeartbeats 2000000
namespace Fm
open PySem PySem.Spec PyProof.Rows L2
/-! ### what a def promises, over data -/
structure FD where
  pre : List Dt → Prop
  post : List Dt → Dt → Prop
def spV (G : Gs) (F : FD) : Sp := fun vs H Q _ => ∃ (ds : List Dt) (X : Addr → Prop), DtVs G (cut X H) vs ds ∧ (∀ a, X a → LstAt H a) ∧ F.pre ds ∧ ∀ d v H', F.post ds d → Ex H H' → DtV G (cut X H') v d → Q v H'
def spL (G : Gs) (F : FD) : Sp := fun vs H Q _ => ∃ (ds : List Dt) (X : Addr → Prop), DtVs G (cut X H) vs ds ∧ (∀ a, X a → LstAt H a) ∧ F.pre ds ∧ ∀ l p us H', F.post ds (.lst l) → H p = none → Ex H H' → H' p = some (.lst us) → DtVs G (cut (fun a => X a ∨ a = p) H') us l → Q (.ref p) H'
/-- .. whose first argument is the tape -/
def spT (G : Gs) (F : FD) : Sp := fun vs H Q _ => ∃ (p : Addr) (us : List V) (ds : List Dt) (X : Addr → Prop), vs = .ref p :: us ∧ TapeAt H p ∧ X p ∧ DtVs G (cut X H) us ds ∧ (∀ a, X a → LstAt H a) ∧ F.pre ds ∧ ∀ d v H', F.post ds d → Mo p H H' → TapeAt H' p → DtV G (cut X H') v d → Q v H'
def spTL (G : Gs) (F : FD) : Sp := fun vs H Q _ => ∃ (p : Addr) (us : List V) (ds : List Dt) (X : Addr → Prop), vs = .ref p :: us ∧ TapeAt H p ∧ X p ∧ DtVs G (cut X H) us ds ∧ (∀ a, X a → LstAt H a) ∧ F.pre ds ∧ ∀ l q ws H', F.post ds (.lst l) → H q = none → Mo p H H' → TapeAt H' p → H' q = some (.lst ws) → DtVs G (cut (fun a => X a ∨ a = q) H') ws l → Q (.ref q) H'
section
variable {G : Gs} {E E' : XK} {K : PySem.W.Frag}
abbrev F_call (F : FD) (A : FA) : FE := fun ρ K X => A ρ (fun ds ρ' => F.pre ds ∧ ∀ d, F.post ds d → K d ρ') X
theorem PU.call {F : FD} {t : TA} {A : FA} (a : PUA G E t A) : PU G E (tCall (spV G F) [] E' t) (F_call F A) where
  run := fun {f σ H ρ Q} S h => a.run S (a.mono (fun ds ρ' k vs H' S' e hv => by
    dsimp only
    rw [List.append_nil]
    exact ⟨ds, Xs f σ ρ', hv, fun a ha => S'.lstAt ha, k.1, fun d v H2 hp ex hd => k.2 d hp v H2 (S'.grow ex) (e.trans (cut_grow ex)) hd⟩) (fun _ x => x) h)
  mono := fun m x h => a.mono (fun _ _ k => ⟨k.1, fun d hp => m _ _ (k.2 d hp)⟩) x h
abbrev F_callL (F : FD) (A : FA) : FA := fun ρ K X => A ρ (fun ds ρ' => F.pre ds ∧ ∀ l, F.post ds (.lst l) → K l ρ') X
theorem PUF.call {F : FD} {t : TA} {A : FA} (a : PUA G E t A) : PUF G E (tCall (spL G F) [] E' t) (F_callL F A) where
  run := fun {f σ H ρ Q} S h => a.run S (a.mono (fun ds ρ' k vs H' S' e hv => by
    dsimp only
    rw [List.append_nil]
    refine ⟨ds, Xs f σ ρ', hv, fun a ha => S'.lstAt ha, k.1, fun l p us H2 hp hn ex hl hd => ?_⟩
    exact k.2 l hp p us H2 (S'.outNew hn ex ⟨_, hl⟩) (e.trans (newOut_ex hn ex)) (.inr (S'.fresh hn).1) (S'.fresh hn).2.1 hl (hd.mono (cut_le fun a h => xs_out.mp h))) (fun _ x => x) h)
  mono := fun m x h => a.mono (fun _ _ k => ⟨k.1, fun d hp => m _ _ (k.2 d hp)⟩) x h
theorem St.tp {f : Fr} {σ : L2.St} {H : Hp} {ρ : Fm.Env} {i : Nat} {p : Addr} (S : St G f σ H ρ) (h : ρ[i]? = some (.tape p)) : σ[i]? = some (some (.ref p)) ∧ TapeAt H p ∧ Own σ ρ p := by
  have := S.sl i _ h
  generalize e : σ[i]?.join = o at this
  cases this with
  | tape ht => exact ⟨jn.mp e, ht, ⟨i, _, h, rfl, jn.mp e⟩⟩
/-- the tape goes on -/
theorem St.tape {f : Fr} {σ : L2.St} {H H' : Hp} {ρ : Fm.Env} {i : Nat} {p : Addr} (S : St G f σ H ρ) (h : ρ[i]? = some (.tape p)) (m : Mo p H H') (t : TapeAt H' p) : St G f σ H' ρ ∧ Ex (cut (Xs f σ ρ) H) (cut (Xs f σ ρ) H') := by
  obtain ⟨h1, h2, h3⟩ := S.tp h
  have ex : Ex (cut (Xs f σ ρ) H) (cut (Xs f σ ρ) H') := cut_ex fun a o n e => ⟨n, m a o e fun w => n (w ▸ .inr h3)⟩
  refine ⟨⟨S.len, fun a o n e => ?_, fun j s hj => ?_, S.uq, S.nw, fun q hq => ⟨?_, (S.x0 q hq).2⟩, fun q hq => ?_⟩, ex⟩
  · refine m a o (S.fr a o n e) ?_
    rintro rfl
    rcases S.nw a h3 with w | w
    · exact n w
    · rw [w] at e; cases e
  · by_cases hij : j = i
    · subst hij
      rw [h] at hj
      cases hj
      rw [jn.mpr h1]
      exact .tape t
    · refine (S.sl j s hj).mono ex fun q vs hs hq hv => m q _ hv ?_
      rintro rfl
      exact hij (S.uq j i s _ q hj hs (jn.mp hq) h rfl h1)
  · have : q ≠ p := fun w => (S.x0 q hq).2 (w ▸ h3)
    exact (S.x0 q hq).1.imp fun vs h => m q _ h this
  · by_cases e : q = p
    · subst e
      obtain ⟨_, _, _, _, _, z⟩ := t
      rw [z]; simp
    · cases e2 : H q with
      | none => exact absurd e2 (S.pd q hq)
      | some o => rw [m q o e2 e]; simp
abbrev F_callT (F : FD) (i : Nat) (A : FA) : FE := fun ρ K X => ∃ p, ρ[i]? = some (.tape p) ∧ A ρ (fun ds ρ' => ρ'[i]? = some (.tape p) ∧ F.pre ds ∧ ∀ d, F.post ds d → K d ρ') X
theorem PU.callT {F : FD} {i : Nat} {t : TA} {A : FA} (a : PUA G E t A) : PU G E (tCall (spT G F) [] E' (tCons (tVar i) t)) (F_callT F i A) where
  run := fun {f σ H ρ Q} S ⟨p, hp, h⟩ => by
    obtain ⟨h1, _, _⟩ := S.tp hp
    refine ⟨_, h1, a.run S (a.mono (fun ds ρ' k vs H' S' e hv => ?_) (fun _ x => x) h)⟩
    dsimp only
    rw [List.append_nil]
    obtain ⟨k1, k2, k3⟩ := k
    obtain ⟨_, h2, h3⟩ := S'.tp k1
    refine ⟨p, vs, ds, Xs f σ ρ', rfl, h2, .inr h3, hv, fun a ha => S'.lstAt ha, k2, fun d v H2 hq m t hd => ?_⟩
    obtain ⟨S2, e2⟩ := S'.tape k1 m t
    exact k3 d hq v H2 S2 (e.trans e2) hd
  mono := fun m x ⟨p, hp, h⟩ => ⟨p, hp, a.mono (fun _ _ k => ⟨k.1, k.2.1, fun d hp => m _ _ (k.2.2 d hp)⟩) x h⟩
abbrev F_callTL (F : FD) (i : Nat) (A : FA) : FA := fun ρ K X => ∃ p, ρ[i]? = some (.tape p) ∧ A ρ (fun ds ρ' => ρ'[i]? = some (.tape p) ∧ F.pre ds ∧ ∀ l, F.post ds (.lst l) → K l ρ') X
theorem PUF.callT {F : FD} {i : Nat} {t : TA} {A : FA} (a : PUA G E t A) : PUF G E (tCall (spTL G F) [] E' (tCons (tVar i) t)) (F_callTL F i A) where
  run := fun {f σ H ρ Q} S ⟨p, hp, h⟩ => by
    obtain ⟨h1, _, _⟩ := S.tp hp
    refine ⟨_, h1, a.run S (a.mono (fun ds ρ' k vs H' S' e hv => ?_) (fun _ x => x) h)⟩
    dsimp only
    rw [List.append_nil]
    obtain ⟨k1, k2, k3⟩ := k
    obtain ⟨_, h2, h3⟩ := S'.tp k1
    refine ⟨p, vs, ds, Xs f σ ρ', rfl, h2, .inr h3, hv, fun a ha => S'.lstAt ha, k2, fun l q ws H2 hq hn m t hl hd => ?_⟩
    have hnq : q ≠ p := by
      rintro rfl
      obtain ⟨_, _, _, _, _, z⟩ := h2
      rw [z] at hn; cases hn
    obtain ⟨t0, t1, b0, b1, b2, z⟩ := t
    obtain ⟨S2, e2⟩ := S'.tape (H' := upd H' p (.lst [.int t0, .int t1])) k1 Mo.set ⟨t0, t1, b0, b1, b2, upd_same⟩
    have ex : Ex (upd H' p (.lst [.int t0, .int t1])) H2 := fun c o hc => by
      by_cases e : c = p
      · subst e; rw [upd_same] at hc; cases hc; exact z
      · rw [upd_ne e] at hc; exact m c o hc e
    have hn2 : (upd H' p (.lst [.int t0, .int t1])) q = none := by rw [upd_ne hnq]; exact hn
    exact k3 l hq q ws H2 (S2.outNew hn2 ex ⟨_, hl⟩) ((e.trans e2).trans (newOut_ex hn2 ex)) (.inr (S2.fresh hn2).1) (S2.fresh hn2).2.1 hl (hd.mono (cut_le fun a h => xs_out.mp h))
  mono := fun m x ⟨p, hp, h⟩ => ⟨p, hp, a.mono (fun _ _ k => ⟨k.1, k.2.1, fun d hp => m _ _ (k.2.2 d hp)⟩) x h⟩
end
end Fm

set_option maxHeartbeats 2000000
namespace Fm
open PySem PySem.Spec PyProof.Rows L2
/-! ### defs -/
def env0 (n : Nat) (ds : List Dt) : Fm.Env := ds.map .val ++ List.replicate (n - ds.length) .un
def endV (F : FD) (ds : List Dt) : DE where
  nx := fun _ => F.post ds .non
  rt := fun d _ => F.post ds d
  rl := fun l _ => F.post ds (.lst l)
def endL (F : FD) (ds : List Dt) : DE where
  nx := fun _ => False
  rt := fun d _ => False
  rl := fun l _ => F.post ds (.lst l)
def endT (F : FD) (p : Addr) (ds : List Dt) : DE where
  nx := fun ρ => ρ[0]? = some (.tape p) ∧ F.post ds .non
  rt := fun d ρ => ρ[0]? = some (.tape p) ∧ F.post ds d
  rl := fun l ρ => ρ[0]? = some (.tape p) ∧ F.post ds (.lst l)
def endTL (F : FD) (p : Addr) (ds : List Dt) : DE where
  nx := fun _ => False
  rt := fun d _ => False
  rl := fun l ρ => ρ[0]? = some (.tape p) ∧ F.post ds (.lst l)
section
variable {G : Gs} {E E2 : XK} {K : PySem.W.Frag} {H : Hp} {vs : List V} {ds : List Dt} {Q : VK} {N : List Str} {X : Addr → Prop}
theorem start_at {i : Nat} {s : Slot} : (env0 N.length ds)[i]? = some s → vs.length = ds.length → (s = .un ∨ ∃ v d, s = .val d ∧ vs[i]? = some v ∧ ds[i]? = some d ∧ (L2.start N vs)[i]? = some (some v)) := by
  intro h hl
  unfold env0 at h
  by_cases hi : i < ds.length
  · rw [List.getElem?_append_left (by rw [List.length_map]; exact hi), List.getElem?_map, List.getElem?_eq_getElem hi] at h
    injection h with h
    subst h
    right
    have hv : i < vs.length := by omega
    refine ⟨vs[i], ds[i], rfl, List.getElem?_eq_getElem hv, List.getElem?_eq_getElem hi, ?_⟩
    unfold L2.start
    rw [List.getElem?_append_left (by rw [List.length_map]; exact hv), List.getElem?_map, List.getElem?_eq_getElem hv]
    rfl
  · rw [List.getElem?_append_right (by rw [List.length_map]; omega)] at h
    rw [List.getElem?_replicate] at h
    split at h
    · cases h; exact .inl rfl
    · cases h
theorem start_len (hl : vs.length = ds.length) : (L2.start N vs).length = (env0 N.length ds).length := by
  unfold L2.start env0
  rw [List.length_append, List.length_append, List.length_map, List.length_map, List.length_replicate, List.length_replicate, hl]
theorem start_St (hv : DtVs G (cut X H) vs ds) (hx : ∀ a, X a → LstAt H a) : St G ⟨H, fun _ => False, X⟩ (L2.start N vs) H (env0 N.length ds) := by
  have hl := hv.length
  have no : ∀ p, ¬ Own (L2.start N vs) (env0 N.length ds) p := by
    rintro p ⟨i, s, h1, h2, _⟩
    rcases start_at (N := N) h1 hl with rfl | ⟨v, d, rfl, _⟩ <;> cases h2
  have xx : Xs ⟨H, fun _ => False, X⟩ (L2.start N vs) (env0 N.length ds) = X := by
    funext a
    exact propext ⟨fun w => w.elim id fun w => absurd w (no a), .inl⟩
  refine ⟨start_len hl, fun _ _ _ h => h, fun i s h => ?_, fun i j s t p h1 h2 h3 => absurd ⟨i, s, h1, h2, h3⟩ (no p), fun p h => absurd h (no p), fun p h => ⟨hx p h, no p⟩, fun p h => h.elim⟩
  rw [xx]
  rcases start_at (N := N) h hl with rfl | ⟨v, d, rfl, h1, h2, h3⟩
  · exact .un
  · rw [jn.mpr h3]
    obtain ⟨d', e1, e2⟩ := hv.at h1
    rw [h2] at e1
    cases e1
    exact .val e2
theorem spV.def {F : FD} {t : TS} {B : FS} (U : PUS G E t B) (h : ∀ ds, F.pre ds → B (env0 N.length ds) (endV F ds)) (hs : spV G F vs H Q E2) : t { nx := fun _ H' => Q .non H', rt := Q } (L2.start N vs) H := by
  obtain ⟨ds, X, hv, hx, hp, q⟩ := hs
  refine U.run (start_St hv hx) (U.mono (D := endV F ds) ⟨fun ρ' k σ' H' S e => q .non .non H' k ?_ .non, fun d ρ' k v σ' H' S hd => q d v H' k ?_ ?_, fun l ρ' k p us σ' H' S h1 h2 h3 h4 => q (.lst l) _ H' k ?_ ?_, fun _ w => w.elim, fun _ w => w.elim, fun _ w => w.elim⟩ (h ds hp))
  · exact fun a o ha => S.fr a o id ha
  · exact fun a o ha => S.fr a o id ha
  · exact hd.mono (cut_le fun a ha => .inl ha)
  · exact fun a o ha => S.fr a o id ha
  · refine .lst (cut_some.mpr ⟨h2, h3⟩) (h4.mono (cut_le fun a ha => .inl (.inl ha)))
theorem spL.def {F : FD} {t : TS} {B : FS} (U : PUS G E t B) (h : ∀ ds, F.pre ds → B (env0 N.length ds) (endL F ds)) (hs : spL G F vs H Q E2) : t { nx := fun _ H' => Q .non H', rt := Q } (L2.start N vs) H := by
  obtain ⟨ds, X, hv, hx, hp, q⟩ := hs
  refine U.run (start_St hv hx) (U.mono (D := endL F ds) ⟨fun _ w => w.elim, fun _ _ w => w.elim, fun l ρ' k p us σ' H' S h1 h2 h3 h4 => q l p us H' k (h1.elim False.elim id) ?_ h3 ?_, fun _ w => w.elim, fun _ w => w.elim, fun _ w => w.elim⟩ (h ds hp))
  · exact fun a o ha => S.fr a o id ha
  · refine h4.mono (cut_le fun a ha => ?_)
    rcases ha with ha | ha
    · exact .inl (.inl ha)
    · exact .inl (.inr ha)
def env1 (p : Addr) (n : Nat) (ds : List Dt) : Fm.Env := .tape p :: env0 (n - 1) ds
theorem start1_St {p : Addr} {N : List Str} (hn : 1 ≤ N.length) (hv : DtVs G (cut X H) vs ds) (hx : ∀ a, X a → LstAt H a) (ht : TapeAt H p) (hp : X p) : St G ⟨H, fun a => a = p, fun a => X a ∧ a ≠ p⟩ (L2.start N (.ref p :: vs)) H (env1 p N.length ds) := by
  obtain ⟨n0, N', rfl⟩ : ∃ n0 N', N = n0 :: N' := by cases N with | nil => simp at hn | cons a b => exact ⟨a, b, rfl⟩
  have es : L2.start (n0 :: N') (.ref p :: vs) = some (.ref p) :: L2.start N' vs := by
    unfold L2.start
    rw [List.map_cons, List.cons_append, List.length_cons, List.length_cons, Nat.add_sub_add_right]
  have ee : env1 p (n0 :: N').length ds = .tape p :: env0 N'.length ds := by
    unfold env1
    rw [List.length_cons, Nat.add_sub_cancel]
  rw [es, ee]
  have hl := hv.length
  have own : ∀ q, Own (some (.ref p) :: L2.start N' vs) (.tape p :: env0 N'.length ds) q ↔ q = p := by
    intro q
    constructor
    · rintro ⟨i, s, h1, h2, h3⟩
      cases i with
      | zero => simp at h3; exact h3.symm
      | succ i =>
        rw [List.getElem?_cons_succ] at h1
        rcases start_at (N := N') h1 hl with rfl | ⟨v, d, rfl, _⟩ <;> cases h2
    · rintro rfl
      exact ⟨0, _, rfl, rfl, rfl⟩
  have xx : Xs ⟨H, fun a => a = p, fun a => X a ∧ a ≠ p⟩ (some (.ref p) :: L2.start N' vs) (.tape p :: env0 N'.length ds) = X := by
    funext a
    refine propext ⟨fun w => w.elim (·.1) fun w => ((own a).mp w) ▸ hp, fun w => ?_⟩
    by_cases e : a = p
    · exact .inr ((own a).mpr e)
    · exact .inl ⟨w, e⟩
  refine ⟨by rw [List.length_cons, List.length_cons, start_len hl], fun _ _ _ h => h, fun i s h => ?_, fun i j s t q h1 h2 h3 h4 h5 h6 => ?_, fun q h => .inl ((own q).mp h), fun q h => ⟨hx q h.1, fun w => h.2 ((own q).mp w)⟩, fun q h => ?_⟩
  · rw [xx]
    cases i with
    | zero => simp at h; subst h; exact .tape ht
    | succ i =>
      rw [List.getElem?_cons_succ] at h ⊢
      rcases start_at (N := N') h hl with rfl | ⟨v, d, rfl, h1, h2, h3⟩
      · exact .un
      · rw [jn.mpr h3]
        obtain ⟨d', e1, e2⟩ := hv.at h1
        rw [h2] at e1
        cases e1
        exact .val e2
  · have z : ∀ {i : Nat} {s : Slot}, (Slot.tape p :: env0 N'.length ds)[i]? = some s → s.lists = true → i = 0 := by
      intro i s h1 h2
      cases i with
      | zero => rfl
      | succ i =>
        rw [List.getElem?_cons_succ] at h1
        rcases start_at (vs := vs) (N := N') h1 hl with rfl | ⟨v, d, rfl, _⟩ <;> cases h2
    rw [z h1 h2, z h4 h5]
  · have e : q = p := h
    subst e
    obtain ⟨_, _, _, _, _, w⟩ := ht
    rw [w]; simp
theorem tape_end {f : Fr} {σ : L2.St} {ρ : Fm.Env} {p : Addr} {H' : Hp} (S : St G f σ H' ρ) (h : ρ[0]? = some (.tape p)) : TapeAt H' p := (S.tp h).2.1
theorem spT.def {F : FD} {t : TS} {B : FS} (U : PUS G E t B) (hn : 1 ≤ N.length) (h : ∀ p ds, F.pre ds → B (env1 p N.length ds) (endT F p ds)) (hs : spT G F vs H Q E2) : t { nx := fun _ H' => Q .non H', rt := Q } (L2.start N vs) H := by
  obtain ⟨p, us, ds, X, rfl, ht, xp, hv, hx, hp, q⟩ := hs
  have back : ∀ {σ' : L2.St} {ρ' : Fm.Env} {H' : Hp}, St G ⟨H, fun a => a = p, fun a => X a ∧ a ≠ p⟩ σ' H' ρ' → ρ'[0]? = some (.tape p) → ∀ a, X a → Xs ⟨H, fun a => a = p, fun a => X a ∧ a ≠ p⟩ σ' ρ' a := fun S h0 a ha => by
    by_cases e : a = p
    · exact .inr (e ▸ (S.tp h0).2.2)
    · exact .inl ⟨ha, e⟩
  refine U.run (start1_St hn hv hx ht xp) (U.mono (D := endT F p ds) ⟨fun ρ' k σ' H' S e => q .non .non H' k.2 ?_ (tape_end S k.1) .non, fun d ρ' k v σ' H' S hd => q d v H' k.2 ?_ (tape_end S k.1) ?_, fun l ρ' k r ws σ' H' S h1 h2 h3 h4 => q (.lst l) _ H' k.2 ?_ (tape_end S k.1) ?_, fun _ w => w.elim, fun _ w => w.elim, fun _ w => w.elim⟩ (h p ds hp))
  · exact fun a o ha n => S.fr a o n ha
  · exact fun a o ha n => S.fr a o n ha
  · exact hd.mono (cut_le (back S k.1))
  · exact fun a o ha n => S.fr a o n ha
  · have hnr : r ≠ p := by
      rintro rfl
      exact (S.x0 r (.inr rfl)).2 (S.tp k.1).2.2
    refine .lst (cut_some.mpr ⟨fun w => h2 ⟨w, hnr⟩, h3⟩) (h4.mono (cut_le fun a ha => xs_out.mpr (.inl (back S.back k.1 a ha))))
theorem spTL.def {F : FD} {t : TS} {B : FS} (U : PUS G E t B) (hn : 1 ≤ N.length) (h : ∀ p ds, F.pre ds → B (env1 p N.length ds) (endTL F p ds)) (hs : spTL G F vs H Q E2) : t { nx := fun _ H' => Q .non H', rt := Q } (L2.start N vs) H := by
  obtain ⟨p, us, ds, X, rfl, ht, xp, hv, hx, hp, q⟩ := hs
  have back : ∀ {σ' : L2.St} {ρ' : Fm.Env} {H' : Hp}, St G ⟨H, fun a => a = p, fun a => X a ∧ a ≠ p⟩ σ' H' ρ' → ρ'[0]? = some (.tape p) → ∀ a, X a → Xs ⟨H, fun a => a = p, fun a => X a ∧ a ≠ p⟩ σ' ρ' a := fun S h0 a ha => by
    by_cases e : a = p
    · exact .inr (e ▸ (S.tp h0).2.2)
    · exact .inl ⟨ha, e⟩
  refine U.run (start1_St hn hv hx ht xp) (U.mono (D := endTL F p ds) ⟨fun _ w => w.elim, fun _ _ w => w.elim, fun l ρ' k r ws σ' H' S h1 h2 h3 h4 => ?_, fun _ w => w.elim, fun _ w => w.elim, fun _ w => w.elim⟩ (h p ds hp))
  have hnr : r ≠ p := by
    rintro rfl
    exact (S.x0 r (.inr rfl)).2 (S.tp k.1).2.2
  refine q l r ws H' k.2 (h1.elim (fun w => absurd w hnr) id) (fun a o ha n => S.fr a o n ha) (tape_end S k.1) h3 (h4.mono (cut_le fun a ha => ?_))
  rcases ha with ha | ha
  · exact xs_out.mpr (.inl (back S.back k.1 a ha))
  · exact xs_out.mpr (.inr ha)
end
end Fm

set_option maxHeartbeats 2000000
namespace Fm
open PySem PySem.Spec PyProof.Rows L2
section
variable {G : Gs} {E E2 : XK} {K : PySem.W.Frag}
/-! ### ints -/
theorem dint {X : Addr → Prop} {H : Hp} {x : V} {i : Int} (h : DtV G (cut X H) x (.int i)) : x = .int i := by cases h; rfl
theorem dbl {X : Addr → Prop} {H : Hp} {x : V} {i : Bool} (h : DtV G (cut X H) x (.bl i)) : x = .bl i := by cases h; rfl
theorem dstr {X : Addr → Prop} {H : Hp} {x : V} {i : Str} (h : DtV G (cut X H) x (.str i)) : x = .str i := by cases h; rfl
theorem RD.i0 {g : Int → Int → Int} : RD G (rI0 fun i j => .int (g i j)) (fun d e K => ∃ i j, d = .int i ∧ e = .int j ∧ K (.int (g i j))) where
  run := fun _ h1 h2 ⟨i, j, e1, e2, k⟩ => by subst e1; subst e2; exact ⟨i, j, dint h1, dint h2, k _ _ (Ex.refl _) (.int _)⟩
  mono := fun m ⟨i, j, e1, e2, k⟩ => ⟨i, j, e1, e2, m _ k⟩
theorem RD.b0 {g : Int → Int → Bool} : RD G (rI0 fun i j => .bl (g i j)) (fun d e K => ∃ i j, d = .int i ∧ e = .int j ∧ K (.bl (g i j))) where
  run := fun _ h1 h2 ⟨i, j, e1, e2, k⟩ => by subst e1; subst e2; exact ⟨i, j, dint h1, dint h2, k _ _ (Ex.refl _) (.bl _)⟩
  mono := fun m ⟨i, j, e1, e2, k⟩ => ⟨i, j, e1, e2, m _ k⟩
theorem RD.i {C : Int → Int → Prop} {g : Int → Int → Int} : RD G (rI C fun i j => .int (g i j)) (fun d e K => ∃ i j, d = .int i ∧ e = .int j ∧ C i j ∧ K (.int (g i j))) where
  run := fun _ h1 h2 ⟨i, j, e1, e2, c, k⟩ => by subst e1; subst e2; exact ⟨i, j, dint h1, dint h2, c, k _ _ (Ex.refl _) (.int _)⟩
  mono := fun m ⟨i, j, e1, e2, c, k⟩ => ⟨i, j, e1, e2, c, m _ k⟩
theorem UD.neg : UD G (rU fun i => .int (-i)) (fun d K => ∃ i, d = .int i ∧ K (.int (-i))) where
  run := fun _ h1 ⟨i, e1, k⟩ => by subst e1; exact ⟨i, dint h1, k _ _ (Ex.refl _) (.int _)⟩
  mono := fun m ⟨i, e1, k⟩ => ⟨i, e1, m _ k⟩
/-- == of ints, texts, truths -/
def eqS : Dt → Dt → Option Bool
  | .int i, .int j => some (decide (i = j))
  | .str i, .str j => some (decide (i = j))
  | .bl i, .bl j => some (decide (i = j))
  | .non, .non => some true
  | .int _, .non => some false
  | .non, .int _ => some false
  | .int _, .str _ => some false
  | .str _, .int _ => some false
  | _, _ => none
theorem eqS_ok {X : Addr → Prop} {H : Hp} {x y : V} {d e : Dt} {b : Bool} (h1 : DtV G (cut X H) x d) (h2 : DtV G (cut X H) y e) (h : eqS d e = some b) : scal x y = true ∧ decide (x = y) = b := by
  unfold eqS at h
  split at h <;> first
    | (cases h; done)
    | (injection h with h; subst h; cases h1; cases h2; exact ⟨rfl, by first | rfl | (rw [decide_eq_decide]; simp)⟩)
theorem RD.eq : RD G rEq (fun d e K => ∃ b, eqS d e = some b ∧ K (.bl b)) where
  run := fun _ h1 h2 ⟨b, e1, k⟩ => by
    obtain ⟨a1, a2⟩ := eqS_ok h1 h2 e1
    exact ⟨a1, by rw [a2]; exact k _ _ (Ex.refl _) (.bl _)⟩
  mono := fun m ⟨b, e1, k⟩ => ⟨b, e1, m _ k⟩
theorem RD.ne : RD G rNe (fun d e K => ∃ b, eqS d e = some b ∧ K (.bl (!b))) where
  run := fun _ h1 h2 ⟨b, e1, k⟩ => by
    obtain ⟨a1, a2⟩ := eqS_ok h1 h2 e1
    exact ⟨a1, by rw [a2]; exact k _ _ (Ex.refl _) (.bl _)⟩
  mono := fun m ⟨b, e1, k⟩ => ⟨b, e1, m _ k⟩
/-! ### Ratios -/
theorem DtV.ratv {H : Hp} {x : V} {q : Rat} (h : DtV G H x (.rat q)) : RatV G.R H x q := by cases h; assumption
theorem RatV.cut {X : Addr → Prop} {C : Addr} {H : Hp} {x : V} {q : Rat} (h : RatV C (cut X H) x q) : RatV C H x q := h.mono cut_H
theorem NumV.cut {X : Addr → Prop} {C : Addr} {H : Hp} {x : V} {q : Rat} (h : NumV C (cut X H) x q) : NumV C H x q := h.mono cut_H
/-- a Ratio that was laid new, or stood already, outside X -/
theorem RatV.out {X : Addr → Prop} {C : Addr} {H H' : Hp} {x : V} {q : Rat} (hl : ∀ a, X a → LstAt H a) (e : Ex H H') (h : RatV C H' x q) : RatV C (Fm.cut X H') x q := by
  obtain ⟨p, rfl, dx, hp⟩ := h
  refine ⟨p, rfl, dx, cut_some.mpr ⟨fun w => ?_, hp⟩⟩
  obtain ⟨vs, hv⟩ := hl p w
  rw [e _ _ hv] at hp
  cases hp

abbrev O_num2 (g : Rat → Rat → Rat) : O2 := fun d e K => ∃ p, d = .rat p ∧ e.isNum = true ∧ Sz 3000 p ∧ Sz 3000 e.num ∧ K (.rat (g p e.num))
theorem RD.num2 {g : Rat → Rat → Rat} : RD G (rOwn G.R (spNum2 G.R g) E) (O_num2 g) where
  run := fun hx h1 h2 ⟨p, e1, en, s1, s2, k⟩ => by
    subst e1
    exact g_num2 h1.ratv.cut (h2.num en).cut s1 s2 (by decide) fun u H' ex hu => k u H' ex (.rat (hu.out hx ex))
  mono := fun m ⟨p, e1, en, s1, s2, k⟩ => ⟨p, e1, en, s1, s2, m _ k⟩
abbrev O_rel2 (g : Rat → Rat → Bool) : O2 := fun d e K => ∃ p, d = .rat p ∧ e.isNum = true ∧ Sz 3000 p ∧ Sz 3000 e.num ∧ K (.bl (g p e.num))
theorem RD.rel2 {g : Rat → Rat → Bool} (R : RC K G.R) : RD G (rCmpOwn K G.R (spRel2 G.R g) E) (O_rel2 g) where
  run := fun hx h1 h2 ⟨p, e1, en, s1, s2, k⟩ => by
    subst e1
    exact g_rel2 R h1.ratv.cut (h2.num en).cut s1 s2 (by decide) fun H' ex => k _ H' ex (.bl _)
  mono := fun m ⟨p, e1, en, s1, s2, k⟩ => ⟨p, e1, en, s1, s2, m _ k⟩
def Dt.kind : Dt → Bool
  | .scl _ => false
  | _ => true
/-- its type -/
def Dt.ty (G : Gs) : Dt → Value
  | .non => .type "NoneType"
  | .bl _ => .type "bool"
  | .int _ => .type "int"
  | .str _ => .type "str"
  | .rat _ => .ref G.R
  | .lst _ => .type "list"
  | .tup _ => .type "tuple"
  | .dic _ => .type "dict"
  | .scl _ => .ref G.S
theorem Dt.kty (d : Dt) (h : d.kind = true) : KTy G.R (d.ty G) := by
  cases d with
  | non => exact .non
  | bl => exact .bool
  | int => exact .int
  | str => exact .str
  | rat => exact .own
  | lst => exact .list
  | tup => exact .tuple
  | dic => exact .dict
  | scl => cases h
theorem DtV.tyx (R : RC K G.R) (RS : SC K G.S G.R) {H : Hp} {v : V} {d : Dt} (h : DtV G H v d) : TyX K H v (d.ty G) := by
  cases h with
  | non => exact .base .non
  | bl b => exact .base (.bl b)
  | int i => exact .base (.int i)
  | str s => exact .base (.str s)
  | rat h => exact ty_rat R h
  | lst h _ => exact .base (.lst h)
  | tup h _ => exact .base (.tup h)
  | dic h _ => exact .base (.dK h)
  | scl h _ _ => exact ty_sc R RS h
theorem DtV.tyk (R : RC K G.R) {H : Hp} {v : V} {d : Dt} (h : DtV G H v d) (hk : d.kind = true) : TyX K H v (d.ty G) := by
  cases h with
  | non => exact .base .non
  | bl b => exact .base (.bl b)
  | int i => exact .base (.int i)
  | str s => exact .base (.str s)
  | rat h => exact ty_rat R h
  | lst h _ => exact .base (.lst h)
  | tup h _ => exact .base (.tup h)
  | dic h _ => exact .base (.dK h)
  | scl h _ _ => cases hk
theorem DtV.whole {X : Addr → Prop} {H : Hp} {v : V} {d : Dt} (h : DtV G (cut X H) v d) : DtV G H v d := h.mono cut_H
theorem Dt.ty_num (d : Dt) (hk : d.kind = true) : (d.ty G == .ref G.R || d.ty G == .type "int") = d.isNum := by
  cases d <;> first | cases hk; done | simp [Dt.ty, Dt.isNum]
/-- Ratio == any value -/
abbrev O_eqR : O2 := fun d e K => ∃ p, d = .rat p ∧ e.kind = true ∧ Sz 3000 e.num ∧ K (.bl (e.isNum && decide (p = e.num)))
theorem RD.eqR (R : RC K G.R) : RD G (rCmpOwn K G.R (spEqV K G.R) E) O_eqR where
  run := fun {X H x y d e Q} hx h1 h2 ⟨p, e1, hk, s2, k⟩ => by
    subst e1
    cases hn : e.isNum with
    | true => exact g_eqN R h1.ratv.cut (h2.num hn).cut s2 (by decide) fun H' ex => k _ H' ex (by rw [hn]; exact .bl _)
    | false => exact g_eqO R h1.ratv.cut (h2.whole.tyk R hk) (e.kty hk) (by rw [e.ty_num hk, hn]) fun H' ex => k _ H' ex (by rw [hn]; exact .bl _)
  mono := fun m ⟨p, e1, hk, s2, k⟩ => ⟨p, e1, hk, s2, m _ k⟩
abbrev O_neR : O2 := fun d e K => ∃ p, d = .rat p ∧ e.isNum = true ∧ Sz 3000 e.num ∧ K (.bl (!decide (p = e.num)))
theorem RD.neR (R : RC K G.R) : RD G (rNeOwn K G.R (spEqV K G.R) E) O_neR where
  run := fun hx h1 h2 ⟨p, e1, hn, s2, k⟩ => by
    subst e1
    exact g_neN R h1.ratv.cut (h2.num hn).cut s2 (by decide) fun H' ex => k _ H' ex (.bl _)
  mono := fun m ⟨p, e1, hn, s2, k⟩ => ⟨p, e1, hn, s2, m _ k⟩
theorem RD.or {r1 r2 : R2} {g1 g2 : O2} (a : RD G r1 g1) (b : RD G r2 g2) : RD G (fun x y H Q => r1 x y H Q ∨ r2 x y H Q) (fun d e K => g1 d e K ∨ g2 d e K) where
  run := fun hx h1 h2 h => h.imp (a.run hx h1 h2) (b.run hx h1 h2)
  mono := fun m h => h.imp (a.mono m) (b.mono m)
abbrev O_negR : O1 := fun d K => ∃ p, d = .rat p ∧ Sz 3000 p ∧ K (.rat (-p))
theorem UD.negR : UD G (rOwnU G.R (spNum1 G.R (- ·)) E) O_negR where
  run := fun hx h1 ⟨p, e1, s1, k⟩ => by
    subst e1
    exact g_neg h1.ratv.cut s1 (by decide) fun u H' ex hu => k u H' ex (.rat (hu.out hx ex))
  mono := fun m ⟨p, e1, s1, k⟩ => ⟨p, e1, s1, m _ k⟩
/-- r.top, r.bottom -/
abbrev F_fld (g : Rat → Int) (A : FE) : FE := fun ρ K X => A ρ (fun d ρ1 => ∃ p, d = .rat p ∧ K (.int (g p)) ρ1) X
theorem PU.top {t : TE} {A : FE} (R : RC K G.R) (a : PU G E t A) : PU G E (tFld K t "top") (F_fld Rat.num A) where
  run := fun S h => a.run S (a.mono (fun d ρ1 ⟨p, hd, k⟩ v H1 S1 e1 hv => by subst hd; exact g_top R.cl R.nT hv.ratv.cut (k _ _ S1 e1 (.int _))) (fun _ x => x) h)
  mono := fun m x h => a.mono (fun _ _ ⟨p, hd, k⟩ => ⟨p, hd, m _ _ k⟩) x h
theorem PU.bottom {t : TE} {A : FE} (R : RC K G.R) (a : PU G E t A) : PU G E (tFld K t "bottom") (F_fld (fun q => (q.den : Int)) A) where
  run := fun S h => a.run S (a.mono (fun d ρ1 ⟨p, hd, k⟩ v H1 S1 e1 hv => by subst hd; exact g_bottom R.cl R.nB hv.ratv.cut (k _ _ S1 e1 (.int _))) (fun _ x => x) h)
  mono := fun m x h => a.mono (fun _ _ ⟨p, hd, k⟩ => ⟨p, hd, m _ _ k⟩) x h
/-- Ratio(t, b) -/
abbrev F_mkR (A : FA) : FE := fun ρ K X => A ρ (fun ds ρ1 => ∃ t b, ds = [.int t, .int b] ∧ b ≠ 0 ∧ t.natAbs < 2 ^ 8000 ∧ b.natAbs < 2 ^ 8000 ∧ K (.rat (Rat.divInt t b)) ρ1) X
theorem PU.mkR {t : TA} {A : FA} (a : PUA G E t A) : PU G E (tMake G.R (spInit G.R) [] E2 t) (F_mkR A) where
  run := fun S h => a.run S (a.mono (fun ds ρ1 ⟨t, b, hd, h0, h1, h2, k⟩ vs H1 S1 e1 hv => by
    subst hd
    cases hv with
    | cons x r => cases x; cases r with
      | cons x r => cases x; cases r; exact use_initW (k := 8000) h0 h1 h2 (Nat.le_refl _) fun p H2 ex hr => k _ _ (S1.grow ex) (e1.trans (cut_grow ex)) (.rat (hr.out (fun a ha => S1.lstAt ha) ex))) (fun _ x => x) h)
  mono := fun m x h => a.mono (fun _ _ ⟨t, b, hd, h0, h1, h2, k⟩ => ⟨t, b, hd, h0, h1, h2, m _ _ k⟩) x h
abbrev F_mkR1 (A : FA) : FE := fun ρ K X => A ρ (fun ds ρ1 => ∃ t : Int, ds = [.int t] ∧ t.natAbs < 2 ^ 8000 ∧ K (.rat (t : Rat)) ρ1) X
theorem PU.mkR1 {t : TA} {A : FA} (a : PUA G E t A) : PU G E (tMake G.R (spInit G.R) [.int 1] E2 t) (F_mkR1 A) where
  run := fun S h => a.run S (a.mono (fun ds ρ1 ⟨t, hd, h1, k⟩ vs H1 S1 e1 hv => by
    subst hd
    cases hv with
    | cons x r => cases x; cases r; exact use_initW (k := 8000) (by decide) h1 (Nat.lt_of_lt_of_le (by decide : 1 < 2 ^ 1) (Nat.pow_le_pow_right (by decide) (by decide))) (Nat.le_refl _) fun p H2 ex hr => k _ _ (S1.grow ex) (e1.trans (cut_grow ex)) (.rat (by rw [← int_divInt]; exact hr.out (fun a ha => S1.lstAt ha) ex))) (fun _ x => x) h)
  mono := fun m x h => a.mono (fun _ _ ⟨t, hd, h1, k⟩ => ⟨t, hd, h1, m _ _ k⟩) x h
/-- r.over(n) -/
abbrev F_over (A : FE) (B : FA) : FE := fun ρ K X => A ρ (fun d ρ1 => ∃ p, d = .rat p ∧ B ρ1 (fun ds ρ2 => ∃ e, ds = [e] ∧ e.isNum = true ∧ e.num ≠ 0 ∧ Sz 3000 p ∧ Sz 3000 e.num ∧ K (.rat (p / e.num)) ρ2) X) X
theorem PU.over {ta : TE} {t : TA} {A : FE} {B : FA} (a : PU G E ta A) (b : PUA G E t B) : PU G E (tMeth G.R "over" (spOver G.R) [] E2 ta t) (F_over A B) where
  run := fun S h => by
    refine a.run S (a.mono (fun d ρ1 ⟨p, hd, k⟩ v H1 S1 e1 hv => ?_) (fun _ x => x) h)
    subst hd
    refine g_methR hv.ratv.cut (by decide +kernel) (by decide +kernel) ?_
    refine b.run S1 (b.mono (fun ds ρ2 ⟨e, hd, hn, h0, z1, z2, k⟩ vs H2 S2 e2 hvs => ?_) (fun _ x => x) k)
    subst hd
    cases hvs with
    | cons hy r =>
      cases r
      exact ⟨_, _, p, e.num, 3000, rfl, (hv.mono e2).ratv.cut, (hy.num hn).cut, h0, z1, z2, Nat.le_refl _, fun u H3 ex hu => k u H3 (S2.grow ex) ((e1.trans e2).trans (cut_grow ex)) (.rat (hu.out (fun a ha => S2.lstAt ha) ex))⟩
  mono := fun m x h => a.mono (fun _ _ ⟨p, hd, k⟩ => ⟨p, hd, b.mono (fun _ _ ⟨e, he, h1, h2, h3, h4, k⟩ => ⟨e, he, h1, h2, h3, h4, m _ _ k⟩) x k⟩) x h
/-! ### lists -/
theorem RD.ixL : RD G (rIxL K) (fun d e K => ∃ l i x, d = .lst l ∧ e = .int i ∧ atI l i = some x ∧ K x) where
  run := fun hx h1 h2 ⟨l, i, x, e1, e2, hi, k⟩ => by
    subst e1; subst e2
    cases h1 with
    | lst hp r =>
      cases h2
      unfold atI at hi
      rw [← r.length] at hi
      cases hj : ixN _ i with
      | none => rw [hj] at hi; cases hi
      | some j =>
        rw [hj] at hi
        obtain ⟨v, hv, dv⟩ := r.atR hi
        exact ⟨_, _, i, v, rfl, rfl, SqL.of (cut_some.mp hp).2, by unfold atI; rw [hj]; exact hv, k v _ (Ex.refl _) dv⟩
  mono := fun m ⟨l, i, x, e1, e2, hi, k⟩ => ⟨l, i, x, e1, e2, hi, m _ k⟩
theorem RD.ixT : RD G (rIxT K) (fun d e K => ∃ l i x, d = .tup l ∧ e = .int i ∧ atI l i = some x ∧ K x) where
  run := fun hx h1 h2 ⟨l, i, x, e1, e2, hi, k⟩ => by
    subst e1; subst e2
    cases h1 with
    | tup hp r =>
      cases h2
      unfold atI at hi
      rw [← r.length] at hi
      cases hj : ixN _ i with
      | none => rw [hj] at hi; cases hi
      | some j =>
        rw [hj] at hi
        obtain ⟨v, hv, dv⟩ := r.atR hi
        exact ⟨_, _, i, v, rfl, rfl, SqT.of (cut_some.mp hp).2, by unfold atI; rw [hj]; exact hv, k v _ (Ex.refl _) dv⟩
  mono := fun m ⟨l, i, x, e1, e2, hi, k⟩ => ⟨l, i, x, e1, e2, hi, m _ k⟩
/-- x[i] of the def's own list -/
abbrev F_ixO (i : Nat) (A : FE) : FE := fun ρ K X => (∃ l0, ρ[i]? = some (.own l0)) ∧ A ρ (fun d ρ1 => ∃ l j x, ρ1[i]? = some (.own l) ∧ d = .int j ∧ atI l j = some x ∧ K x ρ1) X
theorem PU.ixO {i : Nat} {t : TE} {A : FE} (a : PU G E t A) : PU G E (tOp (rIxL K) (tVar i) t) (F_ixO i A) where
  run := fun S ⟨⟨l0, h0⟩, h⟩ => by
    obtain ⟨p, vs0, q1, _⟩ := S.own h0
    refine ⟨_, q1, a.run S (a.mono (fun d ρ1 ⟨l, j, x, h1, hd, hi, k⟩ v H1 S1 e1 hv => ?_) (fun _ x => x) h)⟩
    subst hd
    cases hv
    obtain ⟨p', vs, w1, _, w3, w4⟩ := S1.own h1
    rw [q1] at w1
    injection w1 with w1; injection w1 with w1; injection w1 with w1; subst w1
    unfold atI at hi
    rw [← w4.length] at hi
    cases hj : ixN vs.length j with
    | none => rw [hj] at hi; cases hi
    | some n =>
      rw [hj] at hi
      obtain ⟨v, hv, dv⟩ := w4.atR hi
      exact ⟨_, vs, j, v, rfl, rfl, SqL.of w3, by unfold atI; rw [hj]; exact hv, k v _ S1 e1 dv⟩
  mono := fun m x ⟨h0, h⟩ => ⟨h0, a.mono (fun _ _ ⟨l, j, y, h1, hd, hi, k⟩ => ⟨l, j, y, h1, hd, hi, m _ _ k⟩) x h⟩
theorem CD.len : CD G (rLenQ K) (fun ds K => ∃ l, (ds = [.lst l] ∨ ds = [.tup l]) ∧ K (.int (l.length : Int))) where
  run := fun hx h ⟨l, hd, k⟩ => by
    rcases hd with rfl | rfl
    · cases h with
      | cons h r => cases r; cases h with
        | lst hp r => exact ⟨_, _, rfl, .inl (SqL.of (cut_some.mp hp).2), by rw [r.length]; exact k _ _ (Ex.refl _) (.int _)⟩
    · cases h with
      | cons h r => cases r; cases h with
        | tup hp r => exact ⟨_, _, rfl, .inr (SqT.of (cut_some.mp hp).2), by rw [r.length]; exact k _ _ (Ex.refl _) (.int _)⟩
  mono := fun m ⟨l, hd, k⟩ => ⟨l, hd, m _ k⟩
abbrev F_lenO (i : Nat) : FE := fun ρ K _ => ∃ l, ρ[i]? = some (.own l) ∧ K (.int (l.length : Int)) ρ
theorem PU.lenO {i : Nat} : PU G E (tCB (rLenQ K) (tCons (tVar i) tNil)) (F_lenO i) where
  run := fun S ⟨l, h, k⟩ => by
    obtain ⟨p, vs, w1, _, w3, w4⟩ := S.own h
    exact ⟨_, w1, p, vs, rfl, .inl (SqL.of w3), by rw [w4.length]; exact k _ _ S (Ex.refl _) (.int _)⟩
  mono := fun m x ⟨l, h, k⟩ => ⟨l, h, m _ _ k⟩
abbrev F_app (i : Nat) (A : FE) : FS := fun ρ D => (∃ l0, ρ[i]? = some (.own l0)) ∧ A ρ (fun d ρ1 => ∃ l, ρ1[i]? = some (.own l) ∧ l.length ≤ 100000 ∧ D.nx (ρ1.set i (.own (l ++ [d])))) D.ex
theorem PUS.app {i : Nat} {t : TE} {A : FE} (a : PU G E t A) : PUS G E (tDrop (tBM K "list" rAppend (tVar i) (tCons t tNil))) (F_app i A) where
  run := fun S ⟨⟨l0, h0⟩, h⟩ => by
    obtain ⟨p, vs0, q1, _, q3, _⟩ := S.own h0
    refine ⟨_, q1, tyL q3, a.run S (a.mono (fun d ρ1 ⟨l, h1, hl, k⟩ v H1 S1 e1 hv => ?_) (fun _ x => x) h)⟩
    obtain ⟨p', vs, w1, _, w3, w4⟩ := S1.own h1
    rw [q1] at w1
    injection w1 with w1; injection w1 with w1; injection w1 with w1; subst w1
    obtain ⟨S2, e2⟩ := S1.mut h1 q1 (w4.app (.cons hv .nil))
    refine ⟨p, vs, v, rfl, rfl, w3, Nat.lt_of_le_of_lt (m := 100000) (by rw [w4.length]; exact hl) (by decide), ?_⟩
    exact k _ _ S2 (e1.trans e2)
  mono := fun m ⟨h0, h⟩ => ⟨h0, a.mono (fun _ _ ⟨l, h1, hl, k⟩ => ⟨l, h1, hl, m.nx _ k⟩) m.ex h⟩
/-- xs.pop(k) of the def's own list -/
abbrev F_pop (i : Nat) (A : FE) : FE := fun ρ K X => (∃ l0, ρ[i]? = some (.own l0)) ∧ A ρ (fun d ρ1 => ∃ l k x, ρ1[i]? = some (.own l) ∧ d = .int ((k : Nat) : Int) ∧ k < 2 ^ 60 ∧ l[k]? = some x ∧ K x (ρ1.set i (.own (l.eraseIdx k)))) X
theorem seqIx {k n : Nat} (h : k < n) : seqIndex? ((k : Nat) : Int) n = some k := by
  unfold seqIndex?
  simp
  omega
theorem PU.pop {i : Nat} {t : TE} {A : FE} (a : PU G E t A) : PU G E (tBM K "list" rPopAt (tVar i) (tCons t tNil)) (F_pop i A) where
  run := fun S ⟨⟨l0, h0⟩, h⟩ => by
    obtain ⟨p, vs0, q1, _, q3, _⟩ := S.own h0
    refine ⟨_, q1, tyL q3, a.run S (a.mono (fun d ρ1 ⟨l, k, x, h1, hd, hk, hx, kk⟩ v H1 S1 e1 hv => ?_) (fun _ x => x) h)⟩
    subst hd
    cases hv
    obtain ⟨p', vs, w1, _, w3, w4⟩ := S1.own h1
    rw [q1] at w1
    injection w1 with w1; injection w1 with w1; injection w1 with w1; subst w1
    obtain ⟨v, hv, dv⟩ := w4.atR hx
    obtain ⟨S2, e2⟩ := S1.mut h1 q1 (w4.erase k)
    have hl : k < vs.length := (List.getElem?_eq_some_iff.mp hv).1
    exact ⟨p, vs, (k : Int), k, v, rfl, rfl, w3, by omega, by omega, seqIx hl, hv, kk v _ S2 (e1.trans e2) (dv.mono e2)⟩
  mono := fun m x ⟨h0, h⟩ => ⟨h0, a.mono (fun _ _ ⟨l, k, y, h1, hd, hk, hx, kk⟩ => ⟨l, k, y, h1, hd, hk, hx, m _ _ kk⟩) x h⟩
abbrev F_clr (i : Nat) : FS := fun ρ D => ∃ l, ρ[i]? = some (.own l) ∧ D.nx (ρ.set i (.own []))
theorem PUS.clr {i : Nat} : PUS G E (tDrop (tBM0 K "list" rClear (tVar i))) (F_clr i) where
  run := fun S ⟨l, h, k⟩ => by
    obtain ⟨p, vs, q1, _, q3, _⟩ := S.own h
    obtain ⟨S2, e2⟩ := S.mut (vs := []) h q1 .nil
    exact ⟨_, q1, tyL q3, p, vs, rfl, rfl, q3, k _ _ S2 e2⟩
  mono := fun m ⟨l, h, k⟩ => ⟨l, h, m.nx _ k⟩
/-- xs[k] = e of the def's own list -/
abbrev F_seti (i : Nat) (A B : FE) : FS := fun ρ D => A ρ (fun d ρ1 => (∃ l0, ρ1[i]? = some (.own l0)) ∧ B ρ1 (fun e ρ2 => ∃ l k j, ρ2[i]? = some (.own l) ∧ e = .int k ∧ ixN l.length k = some j ∧ D.nx (ρ2.set i (.own (l.set j d)))) D.ex) D.ex
theorem PUS.seti {i : Nat} {t u : TE} {A B : FE} (a : PU G E t A) (b : PU G E u B) : PUS G E (tAsg t (gSub (tVar i) u rSetL)) (F_seti i A B) where
  run := fun S h => by
    refine a.run S (a.mono (fun d ρ1 ⟨⟨l0, h0⟩, k⟩ v H1 S1 e1 hv => ?_) (fun _ x => x) h)
    obtain ⟨p, vs0, q1, _, q3, _⟩ := S1.own h0
    refine ⟨_, q1, b.run S1 (b.mono (fun e ρ2 ⟨l, c, j, h1, he, hj, k⟩ w H2 S2 e2 hw => ?_) (fun _ x => x) k)⟩
    subst he
    cases hw
    obtain ⟨p', vs, w1, _, w3, w4⟩ := S2.own h1
    rw [q1] at w1
    injection w1 with w1; injection w1 with w1; injection w1 with w1; subst w1
    obtain ⟨S3, e3⟩ := S2.mut h1 q1 (w4.set j (hv.mono e2))
    exact g_setL w3 (by rw [w4.length]; exact hj) (k _ _ S3 ((e1.trans e2).trans e3))
  mono := fun m h => a.mono (fun _ _ ⟨h0, k⟩ => ⟨h0, b.mono (fun _ _ ⟨l, c, j, h1, he, hj, k⟩ => ⟨l, c, j, h1, he, hj, m.nx _ k⟩) m.ex k⟩) m.ex h
theorem RL.cat : RL G rCat (fun d e K => ∃ l n, d = .lst l ∧ e = .lst n ∧ l.length + n.length ≤ 1000 ∧ K (l ++ n)) where
  run := fun hx h1 h2 ⟨l, n, e1, e2, hl, k⟩ => by
    subst e1; subst e2
    cases h1 with
    | lst hp r => cases h2 with
      | lst hp2 r2 =>
        refine ⟨_, _, _, _, rfl, rfl, (cut_some.mp hp).2, (cut_some.mp hp2).2, Nat.le_trans (m := 1000) (by rw [r.length, r2.length]; exact hl) (by decide), fun p hn => ?_⟩
        exact k p _ _ hn (Ex.new hn) upd_same (r.app r2)
  mono := fun m ⟨l, n, e1, e2, hl, k⟩ => ⟨l, n, e1, e2, hl, m _ k⟩
theorem DtVs.rep {H : Hp} {vs : List V} {ds : List Dt} (r : DtVs G H vs ds) : ∀ n : Nat, DtVs G H (List.replicate n vs).flatten (List.replicate n ds).flatten
  | 0 => .nil
  | n + 1 => by rw [List.replicate_succ, List.replicate_succ, List.flatten_cons, List.flatten_cons]; exact r.app (r.rep n)
theorem RL.rep : RL G rRep (fun d e K => ∃ l k, d = .lst l ∧ e = .int ((k : Nat) : Int) ∧ k ≤ 1000 ∧ l.length * k ≤ 1000 ∧ K (List.replicate k l).flatten) where
  run := fun hx h1 h2 ⟨l, n, e1, e2, hn, hl, k⟩ => by
    subst e1; subst e2
    cases h1 with
    | lst hp r => cases h2 with
      | int =>
        refine ⟨_, _, _, rfl, rfl, (cut_some.mp hp).2, by omega, by omega, Nat.le_trans (m := 1000) (by rw [r.length, Int.toNat_natCast]; exact hl) (by decide), fun p hp2 => ?_⟩
        refine k p _ _ hp2 (Ex.new hp2) upd_same ?_
        rw [Int.toNat_natCast]
        exact r.rep n
  mono := fun m ⟨l, n, e1, e2, hn, hl, k⟩ => ⟨l, n, e1, e2, hn, hl, m _ k⟩
/-- list(x) of a list or a tuple -/
theorem CL.list : CL G (fun xs H Q => ∃ p ys, xs = [V.ref p] ∧ (SqL K H p ys ∨ SqT K H p ys) ∧ ∀ l, H l = none → Q (.ref l) (upd H l (.lst ys))) (fun ds K => ∃ l, (ds = [.lst l] ∨ ds = [.tup l]) ∧ K l) where
  run := fun hx h ⟨l, hd, k⟩ => by
    rcases hd with rfl | rfl
    · cases h with
      | cons h r => cases r; cases h with
        | lst hp r => exact ⟨_, _, rfl, .inl (SqL.of (cut_some.mp hp).2), fun p hn => k p _ _ hn (Ex.new hn) upd_same r⟩
    · cases h with
      | cons h r => cases r; cases h with
        | tup hp r => exact ⟨_, _, rfl, .inr (SqT.of (cut_some.mp hp).2), fun p hn => k p _ _ hn (Ex.new hn) upd_same r⟩
  mono := fun m ⟨l, hd, k⟩ => ⟨l, hd, m _ k⟩
/-- a slice -/
def cutG {α : Type} (xs : List α) (lo hi : Option Int) : List α := (xs.drop (HT.sIx xs.length 0 lo)).take (HT.sIx xs.length xs.length hi - HT.sIx xs.length 0 lo)
theorem DtVs.cut {H : Hp} {vs : List V} {ds : List Dt} (h : DtVs G H vs ds) (lo hi : Option Int) : DtVs G H (cutV vs lo hi) (cutG ds lo hi) := by
  unfold cutV cutG
  rw [h.length]
  exact (h.drop _).take _
abbrev FO := Fm.Env → (Option Int → Fm.Env → Prop) → (Er → Prop) → Prop
structure PUO (G : Gs) (E : XK) (t : L2.St → Hp → (Option Int → Hp → Prop) → Prop) (F : FO) : Prop where
  run : ∀ {f : Fr} {σ : L2.St} {H : Hp} {ρ : Fm.Env} {W : Option Int → Hp → Prop}, St G f σ H ρ → F ρ (fun b ρ' => ∀ H', St G f σ H' ρ' → Ex (Fm.cut (Xs f σ ρ) H) (Fm.cut (Xs f σ ρ') H') → W b H') (kX G f E) → t σ H W
  mono : ∀ {ρ : Fm.Env} {K K' : Option Int → Fm.Env → Prop} {X X' : Er → Prop}, (∀ d ρ', K d ρ' → K' d ρ') → (∀ e, X e → X' e) → F ρ K X → F ρ K' X'
abbrev F_onone : FO := fun ρ K _ => K none ρ
theorem PUO.none : PUO G E tNoPart F_onone := ⟨fun S h => h _ S (Ex.refl _), fun m _ h => m _ _ h⟩
abbrev F_osome (A : FE) : FO := fun ρ K X => A ρ (fun d ρ' => ∃ i, d = .int i ∧ K (some i) ρ') X
theorem PUO.some {t : TE} {A : FE} (a : PU G E t A) : PUO G E (tPart t) (F_osome A) where
  run := fun S h => a.run S (a.mono (fun d ρ' ⟨i, hd, k⟩ v H' S' e hv => by subst hd; cases hv; exact ⟨i, rfl, k H' S' e⟩) (fun _ x => x) h)
  mono := fun m x h => a.mono (fun _ _ ⟨i, hd, k⟩ => ⟨i, hd, m _ _ k⟩) x h
abbrev F_slice (A : FE) (L U : FO) : FA := fun ρ K X => A ρ (fun d ρ1 => L ρ1 (fun lo ρ2 => U ρ2 (fun hi ρ3 => ∃ l, d = .lst l ∧ K (cutG l lo hi) ρ3) X) X) X
theorem PUF.slice {te : TE} {tl th : L2.St → Hp → (Option Int → Hp → Prop) → Prop} {A : FE} {L U : FO} (a : PU G E te A) (b : PUO G E tl L) (c : PUO G E th U) : PUF G E (tSl (rSlL K) te tl th) (F_slice A L U) where
  run := fun S h => a.run S (a.mono (fun d ρ1 k v H1 S1 e1 hv => b.run S1 (b.mono (fun lo ρ2 k H2 S2 e2 => c.run S2 (c.mono (fun hi ρ3 ⟨l, hd, kk⟩ H3 S3 e3 => by
    have hv3 := (hv.mono e2).mono e3
    rw [hd] at hv3
    cases hv3 with
    | lst hp r =>
      refine ⟨_, _, rfl, SqL.of (cut_some.mp hp).2, fun p hn => ?_⟩
      obtain ⟨q1, q2, q3, q4, q5⟩ := S3.new (H' := upd H3 p (.lst (cutV _ lo hi))) hn (Ex.new hn) upd_same (r.cut lo hi)
      exact kk p _ _ q1 (((e1.trans e2).trans e3).trans q2) q3 q4 upd_same q5) (fun _ x => x) k)) (fun _ x => x) k)) (fun _ x => x) h)
  mono := fun m x h => a.mono (fun _ _ k => b.mono (fun _ _ k => c.mono (fun _ _ ⟨l, hd, k⟩ => ⟨l, hd, m _ _ k⟩) x k) x k) x h
/-! ### small calls -/
theorem CD.all : CD G (rAll K) (fun ds K => ∃ bs : List Bool, ds = [.lst (bs.map .bl)] ∧ K (.bl (bs.all id))) where
  run := fun hx h ⟨l, hd, k⟩ => by
    subst hd
    cases h with
    | cons h r => cases r; cases h with
      | lst hp r => exact ⟨_, l, rfl, by rw [← r.bls]; exact SqL.of (cut_some.mp hp).2, k _ _ (Ex.refl _) (.bl _)⟩
  mono := fun m ⟨l, hd, k⟩ => ⟨l, hd, m _ k⟩
theorem CD.sum : CD G (rSum K) (fun ds K => ∃ is : List Int, ds = [.lst (is.map .int)] ∧ K (.int is.sum)) where
  run := fun hx h ⟨l, hd, k⟩ => by
    subst hd
    cases h with
    | cons h r => cases r; cases h with
      | lst hp r => exact ⟨_, l, rfl, by rw [← r.ints]; exact SqL.of (cut_some.mp hp).2, k _ _ (Ex.refl _) (.int _)⟩
  mono := fun m ⟨l, hd, k⟩ => ⟨l, hd, m _ k⟩
theorem CD.abs : CD G rAbsI (fun ds K => ∃ i, ds = [.int i] ∧ K (.int (i.natAbs : Int))) where
  run := fun hx h ⟨l, hd, k⟩ => by
    subst hd
    cases h with
    | cons h r => cases r; cases h; exact g_absI (k _ _ (Ex.refl _) (.int _))
  mono := fun m ⟨l, hd, k⟩ => ⟨l, hd, m _ k⟩
theorem CD.int : CD G rIntI (fun ds K => (∃ i, ds = [.int i] ∧ K (.int i)) ∨ ∃ b : Bool, ds = [.bl b] ∧ K (.int (if b then 1 else 0))) where
  run := fun hx h k => by
    rcases k with ⟨i, hd, k⟩ | ⟨i, hd, k⟩
    · subst hd
      cases h with
      | cons h r => cases r; cases h; exact .inl ⟨i, rfl, k _ _ (Ex.refl _) (.int _)⟩
    · subst hd
      cases h with
      | cons h r => cases r; cases h; exact .inr ⟨i, rfl, k _ _ (Ex.refl _) (.int _)⟩
  mono := fun m h => h.imp (fun ⟨i, hd, k⟩ => ⟨i, hd, m _ k⟩) fun ⟨i, hd, k⟩ => ⟨i, hd, m _ k⟩
theorem CD.max : CD G rMaxI (fun ds K => ∃ i j, ds = [.int i, .int j] ∧ K (.int (if j > i then j else i))) where
  run := fun hx h ⟨i, j, hd, k⟩ => by
    subst hd
    cases h with
    | cons h r => cases h; cases r with
      | cons h r => cases h; cases r; exact ⟨i, j, rfl, k _ _ (Ex.refl _) (.int _)⟩
  mono := fun m ⟨i, j, hd, k⟩ => ⟨i, j, hd, m _ k⟩
theorem CD.min : CD G rMinI (fun ds K => ∃ i j, ds = [.int i, .int j] ∧ K (.int (if j < i then j else i))) where
  run := fun hx h ⟨i, j, hd, k⟩ => by
    subst hd
    cases h with
    | cons h r => cases h; cases r with
      | cons h r => cases h; cases r; exact ⟨i, j, rfl, k _ _ (Ex.refl _) (.int _)⟩
  mono := fun m ⟨i, j, hd, k⟩ => ⟨i, j, hd, m _ k⟩
/-- isinstance(x, T) -/
abbrev F_isi (g : Dt → Option Bool) (A : FE) : FE := fun ρ K X => A ρ (fun d ρ1 => ∃ b, g d = some b ∧ K (.bl b) ρ1) X
theorem PU.isi {t : TE} {A : FE} {c : V} {u : Value} {g : Dt → Option Bool} (hc : ClsV c u) (hg : ∀ H v d b, DtV G H v d → g d = some b → ∃ ty, TyX K H v ty ∧ PySem.W.kitOne K ty u = some b) (a : PU G E t A) : PU G E (tCB (rIsi K) (tCons t (tCons (tC c) tNil))) (F_isi g A) where
  run := fun S h => a.run S (a.mono (fun d ρ1 ⟨b, hb, k⟩ v H1 S1 e1 hv => by
    obtain ⟨ty, h1, h2⟩ := hg _ _ _ _ hv.whole hb
    exact g_isi h1 hc h2 (k _ _ S1 e1 (.bl _))) (fun _ x => x) h)
  mono := fun m x h => a.mono (fun _ _ ⟨b, hb, k⟩ => ⟨b, hb, m _ _ k⟩) x h
theorem PU.isiT {t : TE} {A : FE} {c1 c2 : V} {u1 u2 : Value} {g : Dt → Option Bool} (hc1 : ClsV c1 u1) (hc2 : ClsV c2 u2) (hg : ∀ H v d b, DtV G H v d → g d = some b → ∃ ty, TyX K H v ty ∧ PySem.W.kitAny K ty [u1, u2] = some b) (a : PU G E t A) :
    PU G E (tCB (rIsiT K) (tCons t (tCons (tTup (tCons (tC c1) (tCons (tC c2) tNil))) tNil))) (F_isi g A) where
  run := fun S h => a.run S (a.mono (fun d ρ1 ⟨b, hb, k⟩ v H1 S1 e1 hv => by
    refine ⟨len_lit rfl, fun p hp => ?_⟩
    have ex : Ex H1 (upd H1 p (.tup [c1, c2])) := Ex.new hp
    obtain ⟨ty, h1, h2⟩ := hg _ _ _ _ (hv.whole.mono ex) hb
    exact g_isiT upd_same (.cons hc1 (.cons hc2 .nil)) h1 h2 (k _ _ (S1.grow ex) (e1.trans (cut_grow ex)) (.bl _))) (fun _ x => x) h)
  mono := fun m x h => a.mono (fun _ _ ⟨b, hb, k⟩ => ⟨b, hb, m _ _ k⟩) x h
theorem RD.isN : RD G (fun x y H Q => y = .non ∧ Q (.bl (decide (x = .non))) H) (fun d e K => e = .non ∧ K (.bl (match d with | .non => true | _ => false))) where
  run := fun hx h1 h2 ⟨e2, k⟩ => by
    subst e2
    cases h2
    refine ⟨rfl, ?_⟩
    cases h1 with
    | non => exact k _ _ (Ex.refl _) (.bl _)
    | rat h => obtain ⟨p, rfl, _⟩ := h; exact k _ _ (Ex.refl _) (.bl _)
    | _ => exact k _ _ (Ex.refl _) (.bl _)
  mono := fun m ⟨e2, k⟩ => ⟨e2, m _ k⟩
/-! ### lists compared -/
def Dt.nums : List Dt → Bool := fun l => l.all Dt.isNum
theorem DtVs.numsV {H : Hp} : ∀ {vs : List V} {l : List Dt}, DtVs G H vs l → l.all Dt.isNum = true → NumsV G.R H vs (l.map Dt.num)
  | _, _, .nil, _ => .nil
  | _, _, .cons h r, n => by
    rw [List.all_cons, Bool.and_eq_true] at n
    exact .cons (h.num n.1) (r.numsV n.2)
abbrev O_lsR (ne : Bool) : O2 := fun d e K => ∃ qs l, d = .lst (qs.map .rat) ∧ e = .lst l ∧ l.all Dt.isNum = true ∧ (∀ x ∈ l, Sz 3000 x.num) ∧ K (.bl (if ne = true then !decide (qs = l.map Dt.num) else decide (qs = l.map Dt.num)))
theorem RD.lsR {ne : Bool} : RD G (rLsR G.R ne) (O_lsR ne) where
  run := fun hx h1 h2 ⟨qs, l, e1, e2, hn, sz, k⟩ => by
    subst e1; subst e2
    cases h1 with
    | lst hp r => cases h2 with
      | lst hp2 r2 => exact ⟨_, _, _, _, qs, l.map Dt.num, rfl, rfl, (cut_some.mp hp).2, (cut_some.mp hp2).2, (r.rats.mono cut_H), ((r2.numsV hn).mono cut_H), fun c hc => by
          obtain ⟨x, hx, rfl⟩ := List.mem_map.mp hc
          exact sz x hx, fun H' ex => k _ H' ex (.bl _)⟩
  mono := fun m ⟨qs, l, e1, e2, hn, sz, k⟩ => ⟨qs, l, e1, e2, hn, sz, m _ k⟩
end
end Fm

set_option maxHeartbeats 2000000
namespace Fm
open PySem PySem.Spec PyProof.Rows L2
section
variable {G : Gs} {E E2 : XK} {K : PySem.W.Frag}
theorem PUG.pair {i j : Nat} : PUG G (gTup K 2 (gCons (gName i) (gCons (gName j) gNil))) (fun d ρ N => ∃ a b, d = .tup [a, b] ∧ N ((ρ.set i (.val a)).set j (.val b))) where
  run := fun {f σ H ρ N v d} S hv ⟨a, b, hd, h⟩ => by
    subst hd
    cases hv with
    | tup hp r => cases r with
      | cons h1 r => cases r with
        | cons h2 r =>
          cases r
          rename_i p v1 v2
          have S1 : St G f (σ.set i (some v1)) H (ρ.set i (.val a)) := S.put rfl (.val h1)
          have e1 : Ex (cut (Xs f σ ρ) H) (cut (Xs f (σ.set i (some v1)) (ρ.set i (.val a))) H) := put_ex rfl
          have S2 := S1.put (i := j) rfl (.val (h2.mono e1))
          exact ⟨_, _, rfl, SqT.of (cut_some.mp hp).2, rfl, _, _, rfl, _, _, rfl, rfl, h _ _ S2 (e1.trans (put_ex rfl))⟩
  mono := fun m ⟨a, b, hd, h⟩ => ⟨a, b, hd, m _ h⟩
theorem PUT.yes : PUT G E tYes (fun ρ K _ => K true ρ) := ⟨fun S h => h _ S (Ex.refl _), fun m _ h => m _ _ h⟩
abbrev F_yes : FT := fun ρ K _ => K true ρ
/-- a op b op' c -/
abbrev F_chain (g g' : O2) (A B C : FE) : FE := fun ρ K X => A ρ (fun d ρ1 => B ρ1 (fun e ρ2 => g d e (fun z => ∃ k, z = .bl k ∧ if k = true then C ρ2 (fun c ρ3 => g' e c (fun z => K z ρ3)) X else K (.bl false) ρ2)) X) X
theorem PU.chain {r r' : R2} {g g' : O2} {ta tb tc : TE} {A B C : FE} (R : RD G r g) (R' : RD G r' g') (a : PU G E ta A) (b : PU G E tb B) (c : PU G E tc C) : PU G E (tChain r r' ta tb tc) (F_chain g g' A B C) where
  run := fun S h => a.run S (a.mono (fun d ρ1 k v H1 S1 e1 hv => b.run S1 (b.mono (fun e ρ2 k2 w H2 S2 e2 hw => R.run (fun p hp => S2.lstAt hp) (hv.mono e2) hw (R.mono (fun z ⟨q, hz, k3⟩ u H3 e3 hu => by
    subst hz
    cases hu
    refine ⟨q, rfl, ?_⟩
    have S3 := S2.grow e3
    have e03 := (e1.trans e2).trans (cut_grow e3)
    cases q with
    | false => rw [if_neg Bool.false_ne_true] at k3 ⊢; exact k3 _ H3 S3 e03 (.bl false)
    | true =>
      rw [if_pos rfl] at k3 ⊢
      refine c.run S3 (c.mono (fun y ρ3 k4 x H4 S4 e4 hx => R'.run (fun p hp => S4.lstAt hp) ((hw.mono (cut_grow e3)).mono e4) hx (R'.mono (fun z k5 u H5 e5 hu => k5 u H5 (S4.grow e5) ((e03.trans e4).trans (cut_grow e5)) hu) k4)) (fun _ x => x) k3)) k2)) (fun _ x => x) k)) (fun _ x => x) h)
  mono := fun m x h => a.mono (fun _ _ k => b.mono (fun _ _ k => R.mono (fun z ⟨q, hz, k3⟩ => ⟨q, hz, by
    cases q with
    | false => rw [if_neg Bool.false_ne_true] at k3 ⊢; exact m _ _ k3
    | true => rw [if_pos rfl] at k3 ⊢; exact c.mono (fun _ _ k => R'.mono (fun _ k => m _ _ k) k) x k3⟩) k) x k) x h
/-! ### comprehensions with a pair -/
theorem set_set_ne {α : Type} {l : List α} {i j : Nat} {a b : α} (h : i ≠ j) : (l.set i a).set j b = (l.set j b).set i a := by
  apply List.ext_getElem?
  intro k
  by_cases e : j = k
  · subst e
    by_cases hl : j < l.length
    · rw [List.getElem?_set_self (by rw [List.length_set]; exact hl), List.getElem?_set_ne h, List.getElem?_set_self hl]
    · rw [List.getElem?_eq_none (by rw [List.length_set, List.length_set]; omega), List.getElem?_eq_none (by rw [List.length_set, List.length_set]; omega)]
  · rw [List.getElem?_set_ne e]
    by_cases e2 : i = k
    · subst e2
      by_cases hl : i < l.length
      · rw [List.getElem?_set_self hl, List.getElem?_set_self (by rw [List.length_set]; exact hl)]
      · rw [List.getElem?_eq_none (by rw [List.length_set]; omega), List.getElem?_eq_none (by rw [List.length_set, List.length_set]; omega)]
    · rw [List.getElem?_set_ne e2, List.getElem?_set_ne e2, List.getElem?_set_ne e]
theorem wipe2 {σ : L2.St} {i j : Nat} {v w : V} (h : i ≠ j) : wipe (((wipe σ [i, j]).set i (some v)).set j (some w)) [i, j] = wipe σ [i, j] := by
  show (((((σ.set j none).set i none).set i (some v)).set j (some w)).set j none).set i none = (σ.set j none).set i none
  rw [List.set_set, List.set_set, set_set_ne (i := i) (j := j) h, List.set_set, List.set_set]
theorem wipe2s {σ : L2.St} {i j : Nat} {v w : V} (h : i ≠ j) : ((wipe σ [i, j]).set i (some v)).set j (some w) = (σ.set i (some v)).set j (some w) := by
  show (((σ.set j none).set i none).set i (some v)).set j (some w) = (σ.set i (some v)).set j (some w)
  rw [List.set_set, set_set_ne (i := i) (j := j) h, List.set_set, set_set_ne (i := j) (j := i) (Ne.symm h)]
def lcP2 (i j : Nat) (T : FT) (B : FE) : List Dt → List Dt → Fm.Env → (List Dt → Fm.Env → Prop) → Prop
  | [], acc, ρ, K => K acc ρ
  | d :: ds, acc, ρ, K => acc.length < 100000 ∧ (slotAt ρ i).lists = false ∧ (slotAt ρ j).lists = false ∧ ∃ x y, d = .tup [x, y] ∧ T ((ρ.set i (.val x)).set j (.val y)) (fun b ρ2 => if b = true then B ρ2 (fun z ρ3 => lcP2 i j T B ds (acc ++ [z]) ((ρ3.set j (slotAt ρ j)).set i (slotAt ρ i)) K) (fun _ => False) else lcP2 i j T B ds acc ((ρ2.set j (slotAt ρ j)).set i (slotAt ρ i)) K) (fun _ => False)
theorem lcP2_mono {i j : Nat} {tt : TT} {te : TE} {T : FT} {B : FE} {E1 E2 : XK} (w : PUT G E1 tt T) (b : PU G E2 te B) : ∀ (ds acc : List Dt) {ρ : Fm.Env} {K K' : List Dt → Fm.Env → Prop}, (∀ l ρ, K l ρ → K' l ρ) → lcP2 i j T B ds acc ρ K → lcP2 i j T B ds acc ρ K'
  | [], _, _, _, _, m, h => m _ _ h
  | d :: ds, acc, _, _, _, m, ⟨h1, h2, h3, x, y, hd, h⟩ => ⟨h1, h2, h3, x, y, hd, w.mono (fun c ρ2 k => by
      cases c with
      | true => rw [if_pos rfl] at k ⊢; exact b.mono (fun y ρ3 k => lcP2_mono w b ds _ m k) (fun _ x => x) k
      | false => rw [if_neg Bool.false_ne_true] at k ⊢; exact lcP2_mono w b ds _ m k) (fun _ x => x) h⟩
abbrev F_lc2 (i j : Nat) (I : FI) (T : FT) (B : FE) : FA := fun ρ K X => I ρ (fun items ρ' => lcP2 i j T B items [] ρ' K) X
theorem slotAt_set {ρ : Fm.Env} {i j : Nat} {s : Slot} (h : i ≠ j) : slotAt (ρ.set i s) j = slotAt ρ j := by
  unfold slotAt
  rw [List.getElem?_set_ne h]
theorem PUF.lc2 {w : TI} {tt : TT} {te : TE} {I : FI} {T : FT} {B : FE} {i j : Nat} {E1 E2 : XK} (hij : i ≠ j) (ip : PUI G E w I) (wt : PUT G E1 tt T) (b : PU G E2 te B) : PUF G E (tLc w (gTup K 2 (gCons (gName i) (gCons (gName j) gNil))) tt te [i, j]) (F_lc2 i j I T B) where
  run := fun {f σ H ρ Q} S h => ip.run S (ip.mono (fun items ρ' k J H' S' e wk D hD => by
    have exD : Ex H' (upd H' D (.lst [])) := Ex.new hD
    obtain ⟨q1, q2, q3, q4, q5⟩ := S'.new (H' := upd H' D (.lst [])) hD exD upd_same .nil
    refine ⟨fun c m H1 => m = items.length - c ∧ c ≤ items.length ∧ ∃ ρ1 acc vs, St G (f.out D) σ H1 ρ1 ∧ Ex (cut (Xs f σ ρ') H') (cut (Xs (f.out D) σ ρ1) H1) ∧ H1 D = some (.lst vs) ∧ DtVs G (cut (Xs (f.out D) σ ρ1) H1) vs acc ∧ lcP2 i j T B (items.drop c) acc ρ1 (kF G f σ H ρ Q), ⟨_, rfl, Nat.zero_le _, ρ', [], [], q1, q2, upd_same, .nil, k⟩, ?_⟩
    rintro c m H1 ⟨rfl, hj, ρ1, acc, vs, S1, e1, hd1, hr1, k1⟩
    by_cases hl : c = items.length
    · subst hl
      rw [List.drop_length] at k1
      exact .inl ⟨wk.stop _ _ e1, k1 D vs H1 S1 (e.trans e1) q3 q4 hd1 hr1⟩
    · have hlt : c < items.length := by omega
      refine .inr ⟨wk.go c _ _ e1 hlt, fun H2 => ∃ ρ2 acc vs, St G (f.out D) σ H2 ρ2 ∧ Ex (cut (Xs f σ ρ') H') (cut (Xs (f.out D) σ ρ2) H2) ∧ H2 D = some (.lst vs) ∧ DtVs G (cut (Xs (f.out D) σ ρ2) H2) vs acc ∧ lcP2 i j T B (items.drop (c + 1)) acc ρ2 (kF G f σ H ρ Q), fun H2 q => ⟨items.length - (c + 1), by omega, rfl, by omega, q⟩, fun x H2 y => ?_⟩
      obtain ⟨ex, hv⟩ := wk.yld c _ _ x H2 items[c] e1 (fun a ha => S1.dom ha) y (List.getElem?_eq_getElem hlt)
      rw [tkT (List.getElem?_eq_getElem hlt)] at k1
      obtain ⟨kl, ks, ks2, x1, x2, hd, kt⟩ := k1
      rw [hd] at hv
      have S2 := S1.grow ex
      have hD2 : H2 D = some (.lst vs) := ex _ _ hd1
      cases hv with
      | tup hp r => cases r with
        | cons hx1 r => cases r with
          | cons hx2 r =>
            cases r
            rename_i p v1 v2
            refine ⟨p, [v1, v2], rfl, SqT.of (cut_some.mp hp).2, rfl, _, _, rfl, _, _, rfl, rfl, ?_⟩
            refine ⟨wipe2 hij, ?_⟩
            rw [wipe2s hij]
            have Si : St G (f.out D) (σ.set i (some v1)) H2 (ρ1.set i (.val x1)) := S2.put rfl (.val hx1)
            have ei : Ex (cut (Xs (f.out D) σ ρ1) H2) (cut (Xs (f.out D) (σ.set i (some v1)) (ρ1.set i (.val x1))) H2) := put_ex rfl
            have S3 : St G (f.out D) ((σ.set i (some v1)).set j (some v2)) H2 ((ρ1.set i (.val x1)).set j (.val x2)) := Si.put rfl (.val (hx2.mono ei))
            have ej : Ex (cut (Xs (f.out D) (σ.set i (some v1)) (ρ1.set i (.val x1))) H2) (cut (Xs (f.out D) ((σ.set i (some v1)).set j (some v2)) ((ρ1.set i (.val x1)).set j (.val x2))) H2) := put_ex rfl
            have e3 := ((cut_grow ex).trans ei).trans ej
            have hnP : ¬ f.P D := fun w => S'.pd D w hD
            have hnO : ¬ Own ((σ.set i (some v1)).set j (some v2)) ((ρ1.set i (.val x1)).set j (.val x2)) D := (S3.x0 D (.inr rfl)).2
            have hnB : ¬ ((f.out D).base ((σ.set i (some v1)).set j (some v2)) H2 ((ρ1.set i (.val x1)).set j (.val x2))).P D := fun w => w.elim hnP hnO
            have sj : slotAt (ρ1.set i (.val x1)) j = slotAt ρ1 j := slotAt_set hij
            have ksj : (slotAt (ρ1.set i (.val x1)) j).lists = false := by rw [sj]; exact ks2
            refine wt.run S3.base (wt.mono (fun b1 ρ4 k4 H4 S4 e4 => ?_) (fun e he => he.elim) kt)
            cases b1 with
            | false =>
              dsimp only
              rw [if_neg Bool.false_ne_true] at k4 ⊢
              obtain ⟨S5, e5⟩ := Si.home ksj (S3.unbase S4) (ej.trans e4)
              obtain ⟨S6, e6⟩ := S1.home ks S5 ((((cut_grow ex).trans ei).trans (ej.trans e4)).trans e5)
              rw [sj] at S6 e6 e5
              have e16 := ((e3.trans e4).trans e5).trans e6
              exact ⟨_, acc, vs, S6, e1.trans e16, S4.fr D _ hnB hD2, hr1.mono e16, k4⟩
            | true =>
              dsimp only
              rw [if_pos rfl] at k4 ⊢
              refine b.run S4 (b.mono (fun y ρ5 k5 v5 H5 S5 e5 hv5 => ?_) (fun e he => he.elim) k4)
              obtain ⟨S7, e7⟩ := Si.home ksj (S3.unbase S5) (ej.trans (e4.trans e5))
              obtain ⟨S6, e6⟩ := S1.home ks S7 ((((cut_grow ex).trans ei).trans (ej.trans (e4.trans e5))).trans e7)
              rw [sj] at S6 e6 e7
              have e16 := (((e3.trans e4).trans e5).trans e7).trans e6
              have nx : f.H0 D = none := (S'.fresh hD).1
              have xc : cut (Xs (f.out D) σ ((ρ5.set j (slotAt ρ1 j)).set i (slotAt ρ1 i))) (upd H5 D (.lst (vs ++ [v5]))) = cut (Xs (f.out D) σ ((ρ5.set j (slotAt ρ1 j)).set i (slotAt ρ1 i))) H5 := cut_upd (.inl (.inr rfl))
              refine ⟨vs, S5.fr D _ hnB hD2, Nat.lt_of_le_of_lt (m := 100000) (by rw [hr1.length]; omega) (by decide), _, _, _, S6.updOut (.inr rfl) nx, ?_, upd_same, ?_, k5⟩
              · rw [xc]; exact e1.trans e16
              · rw [xc]; exact (hr1.mono e16).app (.cons (hv5.mono (e7.trans e6)) .nil)) (fun _ x => x) h)
  mono := fun m x h => ip.mono (fun _ _ k => lcP2_mono wt b _ _ m k) x h
/-! ### rules for lists of items that go one by one -/
/-- a comprehension whose element is told by h, without a test, the rest untouched -/
theorem lcP_map {i : Nat} {B : FE} {g : Dt → Dt} : ∀ (ds acc : List Dt) {ρ : Fm.Env} {K : List Dt → Fm.Env → Prop}, (slotAt ρ i).lists = false → acc.length + ds.length ≤ 100000 → ρ.set i (slotAt ρ i) = ρ →
    (∀ d ∈ ds, ∀ K' : Dt → Fm.Env → Prop, K' (g d) (ρ.set i (.val d)) → B (ρ.set i (.val d)) K' (fun _ => False)) → K (acc ++ ds.map g) ρ → lcP i F_yes B ds acc ρ K
  | [], acc, ρ, K, _, _, _, _, h => by rw [List.map_nil, List.append_nil] at h; exact h
  | d :: ds, acc, ρ, K, hs, hl, hr, hb, h => by
    rw [List.length_cons] at hl
    refine ⟨by omega, hs, ?_⟩
    show (if true = true then _ else _)
    rw [if_pos rfl]
    refine hb d (List.mem_cons_self ..) _ ?_
    rw [List.set_set, hr]
    refine lcP_map ds (acc ++ [g d]) hs (by rw [List.length_append]; simp; omega) hr (fun e he => hb e (List.mem_cons_of_mem _ he)) ?_
    rw [List.append_assoc]
    exact h
theorem slot_back {ρ : Fm.Env} {i : Nat} : ρ.set i (slotAt ρ i) = ρ := by
  unfold slotAt
  by_cases h : i < ρ.length
  · rw [List.getElem?_eq_getElem h]
    simp
  · exact set_none h
theorem lcP2_map {i j : Nat} {B : FE} {g : Dt → Dt → Dt} (hij : i ≠ j) : ∀ (ds : List (Dt × Dt)) (acc : List Dt) {ρ : Fm.Env} {K : List Dt → Fm.Env → Prop}, (slotAt ρ i).lists = false → (slotAt ρ j).lists = false → acc.length + ds.length ≤ 100000 →
    (∀ d ∈ ds, ∀ K' : Dt → Fm.Env → Prop, K' (g d.1 d.2) ((ρ.set i (.val d.1)).set j (.val d.2)) → B ((ρ.set i (.val d.1)).set j (.val d.2)) K' (fun _ => False)) → K (acc ++ ds.map fun e => g e.1 e.2) ρ → lcP2 i j F_yes B (ds.map fun e => Dt.tup [e.1, e.2]) acc ρ K
  | [], acc, ρ, K, _, _, _, _, h => by rw [List.map_nil, List.append_nil] at h; exact h
  | d :: ds, acc, ρ, K, hs, hs2, hl, hb, h => by
    rw [List.length_cons] at hl
    refine ⟨by omega, hs, hs2, _, _, rfl, ?_⟩
    show (if true = true then _ else _)
    rw [if_pos rfl]
    refine hb d (List.mem_cons_self ..) _ ?_
    have e : (((ρ.set i (Slot.val d.1)).set j (Slot.val d.2)).set j (slotAt ρ j)).set i (slotAt ρ i) = ρ := by
      rw [List.set_set, set_set_ne (i := i) (j := j) hij, List.set_set, set_set_ne (i := j) (j := i) (Ne.symm hij), slot_back, slot_back]
    rw [e]
    refine lcP2_map hij ds (acc ++ [g d.1 d.2]) hs hs2 (by rw [List.length_append]; simp; omega) (fun e he => hb e (List.mem_cons_of_mem _ he)) ?_
    rw [List.append_assoc]
    exact h
end
end Fm

set_option maxHeartbeats 2000000
namespace Fm
open PySem PySem.Spec PyProof.Rows L2
section
variable {G : Gs} {E E2 : XK} {K : PySem.W.Frag}
/-- an own list handed on as a whole: the slot is done with -/
theorem St.move {f : Fr} {σ : L2.St} {H : Hp} {ρ : Fm.Env} {i : Nat} {p : Addr} {l : List Dt} (S : St G f σ H ρ) (h : ρ[i]? = some (.own l)) (hp : σ[i]? = some (some (.ref p))) : St G (f.out p) σ H (ρ.set i .un) := by
  have hi : i < ρ.length := by
    by_cases hl : i < ρ.length
    · exact hl
    · rw [List.getElem?_eq_none (by omega)] at h; cases h
  have oi : Own σ ρ p := ⟨i, _, h, rfl, hp⟩
  have oo : ∀ a, Own σ (ρ.set i .un) a → Own σ ρ a ∧ a ≠ p := by
    rintro a ⟨j, t, h1, h2, h3⟩
    by_cases e : i = j
    · subst e
      rw [List.getElem?_set_self hi] at h1
      cases h1; cases h2
    · rw [List.getElem?_set_ne e] at h1
      refine ⟨⟨j, t, h1, h2, h3⟩, ?_⟩
      rintro rfl
      exact e (S.uq i j _ t _ h rfl hp h1 h2 h3)
  have xx : ∀ a, Xs (f.out p) σ (ρ.set i .un) a → Xs f σ ρ a := fun a w => by
    rcases w with (w | w) | w
    · exact .inl w
    · subst w; exact .inr oi
    · exact .inr (oo a w).1
  refine ⟨by rw [List.length_set]; exact S.len, S.fr, fun j t hj => ?_, fun a b s1 t1 q h1 h2 h3 h4 h5 h6 => ?_, fun q hq => S.nw q (oo q hq).1, fun q hq => ?_, S.pd⟩
  · by_cases hij : i = j
    · subst hij
      rw [List.getElem?_set_self hi] at hj
      cases hj
      exact .un
    · rw [List.getElem?_set_ne hij] at hj
      exact (S.sl j t hj).mono (cut_le xx) fun _ _ _ _ h => h
  · have fix : ∀ {c : Nat} {u : Slot}, (ρ.set i .un)[c]? = some u → u.lists = true → ρ[c]? = some u := by
      intro c u hc hu
      by_cases e : i = c
      · subst e
        rw [List.getElem?_set_self hi] at hc; cases hc; cases hu
      · rw [List.getElem?_set_ne e] at hc; exact hc
    exact S.uq a b s1 t1 q (fix h1 h2) h2 h3 (fix h4 h5) h5 h6
  · rcases hq with hq | hq
    · exact ⟨(S.x0 q hq).1, fun w => (S.x0 q hq).2 (oo q w).1⟩
    · subst hq
      exact ⟨Own.lt S oi, fun w => (oo q w).2 rfl⟩
theorem move_ex {f : Fr} {σ : L2.St} {H : Hp} {ρ : Fm.Env} {i : Nat} {p : Addr} {l : List Dt} (h : ρ[i]? = some (.own l)) (hp : σ[i]? = some (some (.ref p))) : Ex (cut (Xs f σ ρ) H) (cut (Xs (f.out p) σ (ρ.set i .un)) H) := by
  refine cut_le fun a w => ?_
  rcases w with (w | w) | ⟨j, t, h1, h2, h3⟩
  · exact .inl w
  · subst w; exact .inr ⟨i, _, h, rfl, hp⟩
  · by_cases e : i = j
    · subst e
      by_cases hl : i < ρ.length
      · rw [List.getElem?_set_self hl] at h1; cases h1; cases h2
      · rw [List.getElem?_eq_none (by rw [List.length_set]; omega)] at h1; cases h1
    · rw [List.getElem?_set_ne e] at h1
      exact .inr ⟨j, t, h1, h2, h3⟩
abbrev F_mv (i : Nat) : FA := fun ρ K _ => ∃ l, ρ[i]? = some (.own l) ∧ K l (ρ.set i .un)
theorem PUF.mv {i : Nat} : PUF G E (tVar i) (F_mv i) where
  run := fun S ⟨l, h, k⟩ => by
    obtain ⟨p, vs, h1, h2, h3, h4⟩ := S.own h
    exact ⟨_, h1, k p vs _ (S.move h h1) (move_ex h h1) (S.nw p h2) (fun w => (S.x0 p w).2 h2) h3 (h4.mono (move_ex h h1))⟩
  mono := fun m _ ⟨d, h, k⟩ => ⟨d, h, m _ _ k⟩
abbrev F_par (i j : Nat) (A B : FE) : FS := fun ρ D => A ρ (fun d ρ1 => B ρ1 (fun e ρ2 => D.nx ((ρ2.set i (.val d)).set j (.val e))) D.ex) D.ex
theorem PUS.par {i j : Nat} {ta tb : TE} {A B : FE} (a : PU G E ta A) (b : PU G E tb B) : PUS G E (tPar i j (tCons ta (tCons tb tNil))) (F_par i j A B) where
  run := fun {f σ H ρ D} S h => a.run S (a.mono (fun d ρ1 k v H1 S1 e1 hv => b.run S1 (b.mono (fun e ρ2 k2 w H2 S2 e2 hw => by
    have S3 : St G f (σ.set i (some v)) H2 (ρ2.set i (.val d)) := S2.put rfl (.val (hv.mono e2))
    have e3 : Ex (cut (Xs f σ ρ2) H2) (cut (Xs f (σ.set i (some v)) (ρ2.set i (.val d))) H2) := put_ex rfl
    exact ⟨_, _, rfl, k2 _ _ (S3.put rfl (.val (hw.mono e3))) (((e1.trans e2).trans e3).trans (put_ex rfl))⟩) (fun _ x => x) k)) (fun _ x => x) h)
  mono := fun m h => a.mono (fun _ _ k => b.mono (fun _ _ k => m.nx _ k) m.ex k) m.ex h
/-- a, b = .., [..]: b an own list -/
abbrev F_parO (i j : Nat) (A : FE) (B : FA) : FS := fun ρ D => A ρ (fun d ρ1 => B ρ1 (fun l ρ2 => D.nx ((ρ2.set i (.val d)).set j (.own l))) D.ex) D.ex
theorem PUS.parO {i j : Nat} {ta tb : TE} {A : FE} {B : FA} (a : PU G E ta A) (b : PUF G E tb B) : PUS G E (tPar i j (tCons ta (tCons tb tNil))) (F_parO i j A B) where
  run := fun {f σ H ρ D} S h => a.run S (a.mono (fun d ρ1 k v H1 S1 e1 hv => b.run S1 (b.mono (fun l ρ2 k2 p vs H2 S2 e2 h1 h2 h3 h4 => by
    have S3 : St G (f.out p) (σ.set i (some v)) H2 (ρ2.set i (.val d)) := S2.put rfl (.val (hv.mono e2))
    have e3 : Ex (cut (Xs (f.out p) σ ρ2) H2) (cut (Xs (f.out p) (σ.set i (some v)) (ρ2.set i (.val d))) H2) := put_ex rfl
    refine ⟨_, _, rfl, ?_⟩
    by_cases hj : j < (ρ2.set i (.val d)).length
    · exact k2 _ _ (S3.take hj h3 (h4.mono e3) h1 h2) (((e1.trans e2).trans e3).trans (take_ex S3 hj))
    · have e4 : (ρ2.set i (.val d)).set j (.own l) = ρ2.set i (.val d) := set_none hj
      rw [e4] at k2
      rw [set_none (by rw [S3.len]; exact hj)]
      exact k2 _ _ S3.back (((e1.trans e2).trans e3).trans out_ex)) (fun _ x => x) k)) (fun _ x => x) h)
  mono := fun m h => a.mono (fun _ _ k => b.mono (fun _ _ k => m.nx _ k) m.ex k) m.ex h
/-- the same through a tuple that is laid and taken apart -/
theorem PUS.tupO {i j : Nat} {ta tb : TE} {A : FE} {B : FA} (a : PU G E ta A) (b : PUF G E tb B) : PUS G E (tAsg (tTup (tCons ta (tCons tb tNil))) (gTup K 2 (gCons (gName i) (gCons (gName j) gNil)))) (F_parO i j A B) where
  run := fun {f σ H ρ D} S h => a.run S (a.mono (fun d ρ1 k v H1 S1 e1 hv => b.run S1 (b.mono (fun l ρ2 k2 p vs H2 S2 e2 h1 h2 h3 h4 => by
    refine ⟨len_lit rfl, fun q hq => ?_⟩
    have et : Ex H2 (upd H2 q (.tup [v, .ref p])) := Ex.new hq
    refine ⟨q, _, rfl, SqT.of upd_same, rfl, _, _, rfl, _, _, rfl, rfl, ?_⟩
    have S2' := S2.grow et
    have S3 : St G (f.out p) (σ.set i (some v)) (upd H2 q (.tup [v, .ref p])) (ρ2.set i (.val d)) := S2'.put rfl (.val ((hv.mono e2).mono (cut_grow et)))
    have e3 : Ex (cut (Xs (f.out p) σ ρ2) H2) (cut (Xs (f.out p) (σ.set i (some v)) (ρ2.set i (.val d))) (upd H2 q (.tup [v, .ref p]))) := (cut_grow et).trans (put_ex rfl)
    by_cases hj : j < (ρ2.set i (.val d)).length
    · exact k2 _ _ (S3.take hj (et _ _ h3) (h4.mono e3) h1 h2) (((e1.trans e2).trans e3).trans (take_ex S3 hj))
    · have e4 : (ρ2.set i (.val d)).set j (.own l) = ρ2.set i (.val d) := set_none hj
      rw [e4] at k2
      rw [set_none (by rw [S3.len]; exact hj)]
      exact k2 _ _ S3.back (((e1.trans e2).trans e3).trans out_ex)) (fun _ x => x) k)) (fun _ x => x) h)
  mono := fun m h => a.mono (fun _ _ k => b.mono (fun _ _ k => m.nx _ k) m.ex k) m.ex h
/-- x += e of ints -/
abbrev F_aug (i : Nat) (g : Int → Int → Int) (A : FE) : FS := fun ρ D => ∃ c : Int, ρ[i]? = some (.val (.int c)) ∧ A ρ (fun d ρ1 => ∃ e : Int, d = .int e ∧ D.nx (ρ1.set i (.val (.int (g c e))))) D.ex
theorem PUS.aug {i : Nat} {t : TE} {A : FE} {g : Int → Int → Int} (a : PU G E t A) : PUS G E (tAug i t (ipI g)) (F_aug i g A) where
  run := fun {f σ H ρ D} S ⟨c, h0, h⟩ => by
    obtain ⟨v, h1, hv⟩ := S.val h0
    cases hv
    refine ⟨_, h1, a.run S (a.mono (fun d ρ1 ⟨e, hd, k⟩ w H1 S1 e1 hw => ?_) (fun _ x => x) h)⟩
    subst hd
    cases hw
    exact ⟨c, e, rfl, rfl, k _ _ (S1.put rfl (.val (.int _))) (e1.trans (put_ex rfl))⟩
  mono := fun m ⟨c, h0, h⟩ => ⟨c, h0, a.mono (fun _ _ ⟨e, hd, k⟩ => ⟨e, hd, m.nx _ k⟩) m.ex h⟩
abbrev F_iterV (i : Nat) : FI := fun ρ K _ => ∃ l, (ρ[i]? = some (.val (.lst l)) ∨ ρ[i]? = some (.val (.tup l))) ∧ K l ρ
theorem PUI.seqV {i : Nat} : PUI G E (fun σ H R => iList K (tVar i) σ H R ∨ iTup K (tVar i) σ H R) (F_iterV i) where
  run := fun S ⟨l, h, k⟩ => by
    rcases h with h | h
    · obtain ⟨v, h1, h2⟩ := S.val h
      cases h2 with
      | lst hp r => exact .inl ⟨_, h1, _, rfl, ⟨_, SqL.of (cut_some.mp hp).2⟩, k _ _ S (Ex.refl _) (Wk.list hp r)⟩
    · obtain ⟨v, h1, h2⟩ := S.val h
      cases h2 with
      | tup hp r => exact .inr ⟨_, h1, _, rfl, ⟨_, SqT.of (cut_some.mp hp).2⟩, k _ _ S (Ex.refl _) (Wk.tup hp r)⟩
  mono := fun m _ ⟨l, h, k⟩ => ⟨l, h, m _ _ k⟩
/-- a walk over the def's own list, which is read only from then on -/
theorem PUF.revL {t : TE} {A : FE} (a : PU G E t A) : PUF G E (tRevL K t) (fun ρ K X => A ρ (fun d ρ1 => ∃ l, d = .lst l ∧ K l.reverse ρ1) X) where
  run := fun S h => a.run S (a.mono (fun d ρ1 ⟨l, hd, k⟩ v H1 S1 e1 hv => by
    subst hd
    cases hv with
    | lst hp r =>
      refine ⟨_, _, rfl, SqL.of (cut_some.mp hp).2, fun p hn => ?_⟩
      obtain ⟨q1, q2, q3, q4, q5⟩ := S1.new (H' := upd H1 p (.lst _)) hn (Ex.new hn) upd_same r.rev
      exact k p _ _ q1 (e1.trans q2) q3 q4 upd_same q5) (fun _ x => x) h)
  mono := fun m x h => a.mono (fun _ _ ⟨l, hd, k⟩ => ⟨l, hd, m _ _ k⟩) x h
abbrev F_revL (A : FE) : FA := fun ρ K X => A ρ (fun d ρ1 => ∃ l, d = .lst l ∧ K l.reverse ρ1) X
abbrev F_lrng (A : FE) : FA := fun ρ K X => A ρ (fun d ρ1 => ∃ n : Nat, d = .int (n : Int) ∧ n ≤ 1000 ∧ K (rngL 0 n) ρ1) X
theorem DtVs.ofInts {H : Hp} (f : Nat → Int) : ∀ l : List Nat, DtVs G H (l.map fun k => V.int (f k)) (l.map fun k => Dt.int (f k))
  | [] => .nil
  | k :: l => .cons (.int _) (DtVs.ofInts f l)
theorem PUF.lrng {t : TE} {A : FE} (a : PU G E t A) : PUF G E (tLstRg (tRg1 t)) (F_lrng A) where
  run := fun {f σ H ρ Q} S h => a.run S (a.mono (fun d ρ1 ⟨n, hd, hn, k⟩ v H1 S1 e1 hv => by
    subst hd
    cases hv
    refine ⟨_, rfl, RgOk.of_le (by decide) (by omega) (by decide) (by omega), fun p hp => ?_⟩
    have r : DtVs G (cut (Xs f σ ρ1) H1) (rgV 0 (n : Int)) (rngL 0 n) := by
      unfold rgV rngL
      rw [Int.sub_zero, Int.toNat_natCast]
      exact DtVs.ofInts (fun k => 0 + (k : Int)) _
    obtain ⟨q1, q2, q3, q4, q5⟩ := S1.new (H' := upd H1 p (.lst (rgV 0 (n : Int)))) hp (Ex.new hp) upd_same r
    exact k p _ _ q1 (e1.trans q2) q3 q4 upd_same q5) (fun _ x => x) h)
  mono := fun m x h => a.mono (fun _ _ ⟨n, hd, hn, k⟩ => ⟨n, hd, hn, m _ _ k⟩) x h
/-- tuple(x) -/
theorem CD.tuple : CD G (fun xs H Q => ∃ p ys, xs = [V.ref p] ∧ ((SqL K H p ys ∧ ∀ l, H l = none → Q (.ref l) (upd H l (.tup ys))) ∨ (SqT K H p ys ∧ Q (.ref p) H))) (fun ds K => ∃ l, (ds = [.lst l] ∨ ds = [.tup l]) ∧ K (.tup l)) where
  run := fun {X H xs ds Q} hx h ⟨l, hd, k⟩ => by
    rcases hd with rfl | rfl
    · cases h with
      | cons h r => cases r; cases h with
        | lst hp r =>
          refine ⟨_, _, rfl, .inl ⟨SqL.of (cut_some.mp hp).2, fun p hn => ?_⟩⟩
          have np : ¬ X p := fun w => (hx p w).ne hn
          exact k _ _ (Ex.new hn) (.tup (cut_some.mpr ⟨np, upd_same⟩) (r.mono (cut_grow (Ex.new hn))))
    · cases h with
      | cons h r => cases r; cases h with
        | tup hp r => exact ⟨_, _, rfl, .inr ⟨SqT.of (cut_some.mp hp).2, k _ _ (Ex.refl _) (.tup hp r)⟩⟩
  mono := fun m ⟨l, hd, k⟩ => ⟨l, hd, m _ k⟩
/-! ### the package's small functions, the law's draws -/
abbrev F_asr (A : FA) : FE := fun ρ K X => A ρ (fun ds ρ1 => ∃ d, ds = [d] ∧ d.isNum = true ∧ Sz 3000 d.num ∧ K (.rat d.num) ρ1) X
theorem PU.asr {t : TA} {A : FA} (a : PUA G E t A) : PU G E (tCall (spAsRatio G.R) [] E2 t) (F_asr A) where
  run := fun S h => a.run S (a.mono (fun ds ρ1 ⟨d, hd, hn, hs, k⟩ vs H1 S1 e1 hv => by
    subst hd
    cases hv with
    | cons h r =>
      cases r
      exact use_asr (h.num hn).cut hs (by decide) fun u H2 ex hu => k u H2 (S1.grow ex) (e1.trans (cut_grow ex)) (.rat (hu.out (fun a ha => S1.lstAt ha) ex))) (fun _ x => x) h)
  mono := fun m x h => a.mono (fun _ _ ⟨d, hd, hn, hs, k⟩ => ⟨d, hd, hn, hs, m _ _ k⟩) x h
abbrev F_isnum (A : FA) : FE := fun ρ K X => A ρ (fun ds ρ1 => ∃ d, ds = [d] ∧ d.kind = true ∧ K (.bl d.isNum) ρ1) X
theorem PU.isnum {t : TA} {A : FA} (R : RC K G.R) (a : PUA G E t A) : PU G E (tCall (spNumber K G.R) [] E2 t) (F_isnum A) where
  run := fun S h => a.run S (a.mono (fun ds ρ1 ⟨d, hd, hn, k⟩ vs H1 S1 e1 hv => by
    subst hd
    cases hv with
    | cons h r =>
      cases r
      exact ⟨_, _, rfl, h.whole.tyk R hn, d.kty hn, fun H2 ex => by rw [d.ty_num hn]; exact k _ H2 (S1.grow ex) (e1.trans (cut_grow ex)) (.bl _)⟩) (fun _ x => x) h)
  mono := fun m x h => a.mono (fun _ _ ⟨d, hd, hn, k⟩ => ⟨d, hd, hn, m _ _ k⟩) x h
def Dt.isInt : Dt → Bool
  | .int _ => true
  | _ => false
abbrev F_iswh (A : FA) : FE := fun ρ K X => A ρ (fun ds ρ1 => ∃ d, ds = [d] ∧ d.kind = true ∧ K (.bl d.isInt) ρ1) X
theorem PU.iswh {t : TA} {A : FA} (R : RC K G.R) (a : PUA G E t A) : PU G E (tCall (spWhole K G.R) [] E2 t) (F_iswh A) where
  run := fun S h => a.run S (a.mono (fun ds ρ1 ⟨d, hd, hn, k⟩ vs H1 S1 e1 hv => by
    subst hd
    cases hv with
    | cons h r =>
      cases r
      refine ⟨_, _, rfl, h.whole.tyk R hn, d.kty hn, fun H2 ex => ?_⟩
      have e : (d.ty G == .type "int") = d.isInt := by cases d <;> first | rfl | simp [Dt.ty, Dt.isInt]
      rw [e]
      exact k _ H2 (S1.grow ex) (e1.trans (cut_grow ex)) (.bl _)) (fun _ x => x) h)
  mono := fun m x h => a.mono (fun _ _ ⟨d, hd, hn, k⟩ => ⟨d, hd, hn, m _ _ k⟩) x h
/-- a draw: any digit below m -/
abbrev F_pick (i : Nat) (A : FA) : FE := fun ρ K X => ∃ p, ρ[i]? = some (.tape p) ∧ A ρ (fun ds ρ' => ρ'[i]? = some (.tape p) ∧ ∃ m : Nat, ds = [.int (m : Int)] ∧ 0 < m ∧ m < 2 ^ 90 ∧ ∀ k : Nat, k < m → K (.int (k : Int)) ρ') X
theorem PU.pick {i : Nat} {t : TA} {A : FA} (a : PUA G E t A) : PU G E (tCall spPick [] E2 (tCons (tVar i) t)) (F_pick i A) where
  run := fun {f σ H ρ Q} S ⟨p, hp, h⟩ => by
    obtain ⟨h1, _, _⟩ := S.tp hp
    refine ⟨_, h1, a.run S (a.mono (fun ds ρ' ⟨k1, m, hd, m0, m1, k⟩ vs H' S' e hv => ?_) (fun _ x => x) h)⟩
    subst hd
    cases hv with
    | cons hm r =>
      cases hm
      cases r
      obtain ⟨_, h2, h3⟩ := S'.tp k1
      refine use_pick (by omega) (by omega) h2 fun d H2 d0 dm mo t => ?_
      obtain ⟨S2, e2⟩ := S'.tape k1 mo t
      have hk := k d.toNat (by omega) (.int d) H2 S2 (e.trans e2)
      rw [Int.toNat_of_nonneg d0] at hk
      exact hk (.int d)
  mono := fun m x ⟨p, hp, h⟩ => ⟨p, hp, a.mono (fun _ _ ⟨k1, n, hd, m0, m1, k⟩ => ⟨k1, n, hd, m0, m1, fun c hc => m _ _ (k c hc)⟩) x h⟩
end
end Fm

set_option maxHeartbeats 2000000
namespace Fm
open PySem PySem.Spec PyProof.Rows L2
/-! ### over data: loops by an invariant -/
theorem forP_from {g : FG} {B : FS} {items : List Dt} {D : DE} (I : Nat → Fm.Env → Prop)
    (hs : ∀ i d ρ (K : Fm.Env → Prop), items[i]? = some d → I i ρ → (∀ ρ', I (i + 1) ρ' → K ρ') → g d ρ (fun ρ1 => B ρ1 { D with nx := K, ct := K, bk := D.nx })) (hd : ∀ ρ, I items.length ρ → D.nx ρ) :
    ∀ (k i : Nat) ρ, items.length - i = k → i ≤ items.length → I i ρ → forP g B (items.drop i) ρ D
  | 0, i, ρ, hk, hi, h => by
    have e : i = items.length := by omega
    subst e
    rw [List.drop_length]
    exact hd ρ h
  | k + 1, i, ρ, hk, hi, h => by
    have hl : i < items.length := by omega
    rw [tkT (List.getElem?_eq_getElem hl)]
    exact hs i _ ρ _ (List.getElem?_eq_getElem hl) h fun ρ' h' => forP_from I hs hd k (i + 1) ρ' (by omega) (by omega) h'
theorem forP_inv {g : FG} {B : FS} {items : List Dt} {ρ : Fm.Env} {D : DE} (I : Nat → Fm.Env → Prop) (h0 : I 0 ρ)
    (hs : ∀ i d ρ (K : Fm.Env → Prop), items[i]? = some d → I i ρ → (∀ ρ', I (i + 1) ρ' → K ρ') → g d ρ (fun ρ1 => B ρ1 { D with nx := K, ct := K, bk := D.nx })) (hd : ∀ ρ, I items.length ρ → D.nx ρ) : forP g B items ρ D :=
  forP_from I hs hd _ 0 ρ rfl (Nat.zero_le _) h0
theorem rngL_len (lo : Int) (n : Nat) : (rngL lo n).length = n := by unfold rngL; rw [List.length_map, List.length_range]
theorem rngL_at {lo : Int} {n i : Nat} {d : Dt} (h : (rngL lo n)[i]? = some d) : d = .int (lo + (i : Int)) ∧ i < n := by
  unfold rngL at h
  rw [List.getElem?_map] at h
  cases e : (List.range n)[i]? with
  | none => rw [e] at h; cases h
  | some k =>
    rw [e] at h
    injection h with h
    obtain ⟨hl, e2⟩ := List.getElem?_eq_some_iff.mp e
    rw [List.getElem_range] at e2
    subst e2
    rw [List.length_range] at hl
    exact ⟨h.symm, hl⟩
/-- a loop over range(n) -/
theorem forP_rng {g : FG} {B : FS} {j : Int} {n : Nat} {ρ : Fm.Env} {D : DE} (I : Nat → Fm.Env → Prop) (hj : j.toNat = n) (h0 : I 0 ρ)
    (hs : ∀ i ρ (K : Fm.Env → Prop), i < n → I i ρ → (∀ ρ', I (i + 1) ρ' → K ρ') → g (.int (i : Int)) ρ (fun ρ1 => B ρ1 { D with nx := K, ct := K, bk := D.nx })) (hd : ∀ ρ, I n ρ → D.nx ρ) : forP g B (rngL 0 j.toNat) ρ D := by
  refine forP_inv I h0 (fun i d ρ K hi h hK => ?_) (fun ρ h => hd ρ (by rw [rngL_len, hj] at h; exact h))
  obtain ⟨rfl, hl⟩ := rngL_at hi
  rw [Int.zero_add]
  exact hs i ρ K (by omega) h hK
/-- a comprehension by an invariant on what is made so far; the environment stays as P says -/
theorem lcP_inv {i : Nat} {T : FT} {B : FE} {items : List Dt} {K : List Dt → Fm.Env → Prop} (I : Nat → List Dt → Fm.Env → Prop)
    (hs : ∀ c d acc ρ (K1 : Nat → List Dt → Fm.Env → Prop), items[c]? = some d → I c acc ρ → (∀ acc' ρ', I (c + 1) acc' ρ' → K1 0 acc' ρ') → acc.length < 100000 ∧ (slotAt ρ i).lists = false ∧
      T (ρ.set i (.val d)) (fun b ρ2 => if b = true then B ρ2 (fun y ρ3 => K1 0 (acc ++ [y]) (ρ3.set i (slotAt ρ i))) (fun _ => False) else K1 0 acc (ρ2.set i (slotAt ρ i))) (fun _ => False))
    (hd : ∀ acc ρ, I items.length acc ρ → K acc ρ) : ∀ (k c : Nat) acc ρ, items.length - c = k → c ≤ items.length → I c acc ρ → lcP i T B (items.drop c) acc ρ K
  | 0, c, acc, ρ, hk, hi, h => by
    have e : c = items.length := by omega
    subst e
    rw [List.drop_length]
    exact hd acc ρ h
  | k + 1, c, acc, ρ, hk, hi, h => by
    have hl : c < items.length := by omega
    rw [tkT (List.getElem?_eq_getElem hl)]
    exact hs c _ acc ρ (fun _ acc' ρ' => lcP i T B (items.drop (c + 1)) acc' ρ' K) (List.getElem?_eq_getElem hl) h fun acc' ρ' h' => lcP_inv I hs hd k (c + 1) acc' ρ' (by omega) (by omega) h'
theorem lcP_by {i : Nat} {T : FT} {B : FE} {items : List Dt} {ρ : Fm.Env} {K : List Dt → Fm.Env → Prop} (I : Nat → List Dt → Fm.Env → Prop) (h0 : I 0 [] ρ)
    (hs : ∀ c d acc ρ (K1 : Nat → List Dt → Fm.Env → Prop), items[c]? = some d → I c acc ρ → (∀ acc' ρ', I (c + 1) acc' ρ' → K1 0 acc' ρ') → acc.length < 100000 ∧ (slotAt ρ i).lists = false ∧
      T (ρ.set i (.val d)) (fun b ρ2 => if b = true then B ρ2 (fun y ρ3 => K1 0 (acc ++ [y]) (ρ3.set i (slotAt ρ i))) (fun _ => False) else K1 0 acc (ρ2.set i (slotAt ρ i))) (fun _ => False))
    (hd : ∀ acc ρ, I items.length acc ρ → K acc ρ) : lcP i T B items [] ρ K := lcP_inv I hs hd _ 0 [] ρ rfl (Nat.zero_le _) h0
theorem ite_t {A B : Prop} (h : A) : if true = true then A else B := by rw [if_pos rfl]; exact h
theorem ite_f {A B : Prop} (h : B) : if false = true then A else B := by rw [if_neg Bool.false_ne_true]; exact h
/-! ### sizes -/
theorem sz_le' {a b : Nat} {q : Rat} (h : Sz a q) (e : a ≤ b) : Sz b q := ⟨Nat.lt_of_lt_of_le h.1 (Nat.pow_le_pow_right (by decide) e), Nat.lt_of_lt_of_le h.2 (Nat.pow_le_pow_right (by decide) e)⟩
theorem lt8000 {n : Nat} (h : n < 2 ^ 3000) : n < 2 ^ 8000 := Nat.lt_of_lt_of_le h (Nat.pow_le_pow_right (by decide) (by decide))
theorem lt8 {n k : Nat} (h : n < 2 ^ k) (hk : k ≤ 8000) : n < 2 ^ 8000 := Nat.lt_of_lt_of_le h (Nat.pow_le_pow_right (by decide) hk)
theorem Sz.mul' {a b : Nat} {p q : Rat} (hp : Sz a p) (hq : Sz b q) : Sz (a + b) (p * q) := by
  have h := Rat.mul_def p q
  have hn : (p * q).num.natAbs ≤ p.num.natAbs * q.num.natAbs := by
    rw [Rat.num_mul]
    refine Nat.le_trans (Nat.le_of_eq (Int.natAbs_ediv_of_dvd ?_)) ?_
    · exact Int.natAbs_dvd_natAbs.mp (by simpa [Int.natAbs_mul] using Nat.gcd_dvd_left _ _)
    · rw [Int.natAbs_mul]; exact Nat.div_le_self _ _
  have hd : (p * q).den ≤ p.den * q.den := by
    rw [Rat.den_mul]
    exact Nat.div_le_self _ _
  refine ⟨Nat.lt_of_le_of_lt hn ?_, Nat.lt_of_le_of_lt hd ?_⟩
  · rw [Nat.pow_add]; exact Nat.mul_lt_mul'' hp.1 hq.1
  · rw [Nat.pow_add]; exact Nat.mul_lt_mul'' hp.2 hq.2
end Fm
namespace Fm
theorem Sz.add' {a b : Nat} {p q : Rat} (hp : Sz a p) (hq : Sz b q) : Sz (a + b + 1) (p + q) := by
  have h := Sz.add (sz_le' hp (Nat.le_max_left a b)) (sz_le' hq (Nat.le_max_right a b))
  have e := add_divInt p q
  have hb : ((p.den : Int) * (q.den : Int)) ≠ 0 := dd_ne p q
  have hle := num_le (t := p.num * q.den + q.num * p.den) hb
  rw [e] at hle
  have h1 : (p.num * q.den).natAbs < 2 ^ a * 2 ^ b := by rw [Int.natAbs_mul, Int.natAbs_natCast]; exact Nat.mul_lt_mul'' hp.1 hq.2
  have h2 : (q.num * p.den).natAbs < 2 ^ a * 2 ^ b := by rw [Int.natAbs_mul, Int.natAbs_natCast, Nat.mul_comm]; exact Nat.mul_lt_mul'' hp.2 hq.1
  have h3 := Int.natAbs_add_le (p.num * q.den) (q.num * p.den)
  have h4 : ((p.den : Int) * (q.den : Int)).natAbs < 2 ^ a * 2 ^ b := by rw [Int.natAbs_mul, Int.natAbs_natCast, Int.natAbs_natCast]; exact Nat.mul_lt_mul'' hp.2 hq.2
  refine ⟨?_, ?_⟩
  · rw [Nat.pow_succ, Nat.pow_add]; omega
  · rw [Nat.pow_succ, Nat.pow_add]; omega
theorem Sz.zero {k : Nat} (h : 1 ≤ k) : Sz k 0 := ⟨Nat.pos_of_ne_zero (by simp), Nat.lt_of_lt_of_le (by decide : (0 : Rat).den < 2 ^ 1) (Nat.pow_le_pow_right (by decide) h)⟩
theorem Sz.one {k : Nat} (h : 1 ≤ k) : Sz k 1 := ⟨Nat.lt_of_lt_of_le (by decide : (1 : Rat).num.natAbs < 2 ^ 1) (Nat.pow_le_pow_right (by decide) h), Nat.lt_of_lt_of_le (by decide : (1 : Rat).den < 2 ^ 1) (Nat.pow_le_pow_right (by decide) h)⟩
theorem Sz.pow {k : Nat} {q : Rat} (h : Sz k q) : ∀ n : Nat, Sz (k * n + 1) (q ^ n)
  | 0 => by rw [Rat.pow_zero]; exact Sz.one (by omega)
  | n + 1 => by
    rw [Rat.pow_succ]
    exact sz_le' ((Sz.pow h n).mul' h) (by rw [Nat.mul_succ]; omega)
end Fm
namespace Fm
open PySem PySem.Spec PyProof.Rows L2
/-- a comprehension with a test -/
theorem lcP_fm {i : Nat} {T : FT} {B : FE} {p : Dt → Bool} {g : Dt → Dt} : ∀ (ds acc : List Dt) {ρ : Fm.Env} {K : List Dt → Fm.Env → Prop}, (slotAt ρ i).lists = false → acc.length + ds.length ≤ 100000 →
    (∀ d ∈ ds, ∀ K' : Bool → Fm.Env → Prop, K' (p d) (ρ.set i (.val d)) → T (ρ.set i (.val d)) K' (fun _ => False)) → (∀ d ∈ ds, p d = true → ∀ K' : Dt → Fm.Env → Prop, K' (g d) (ρ.set i (.val d)) → B (ρ.set i (.val d)) K' (fun _ => False)) →
    K (acc ++ (ds.filter p).map g) ρ → lcP i T B ds acc ρ K
  | [], acc, ρ, K, _, _, _, _, h => by rw [List.filter_nil, List.map_nil, List.append_nil] at h; exact h
  | d :: ds, acc, ρ, K, hs, hl, ht, hb, h => by
    rw [List.length_cons] at hl
    refine ⟨by omega, hs, ht d (List.mem_cons_self ..) _ ?_⟩
    cases hp : p d with
    | true =>
      refine ite_t (hb d (List.mem_cons_self ..) hp _ ?_)
      rw [List.set_set, slot_back]
      refine lcP_fm ds (acc ++ [g d]) hs (by rw [List.length_append]; simp; omega) (fun e he => ht e (List.mem_cons_of_mem _ he)) (fun e he => hb e (List.mem_cons_of_mem _ he)) ?_
      rw [List.filter_cons_of_pos hp, List.map_cons] at h
      rw [List.append_assoc]
      exact h
    | false =>
      refine ite_f ?_
      rw [List.set_set, slot_back]
      refine lcP_fm ds acc hs (by omega) (fun e he => ht e (List.mem_cons_of_mem _ he)) (fun e he => hb e (List.mem_cons_of_mem _ he)) ?_
      rw [List.filter_cons_of_neg (by rw [hp]; simp)] at h
      exact h
theorem lcP2_fm {i j : Nat} {T : FT} {B : FE} {p : Dt → Dt → Bool} {g : Dt → Dt → Dt} (hij : i ≠ j) : ∀ (ds : List (Dt × Dt)) (acc : List Dt) {ρ : Fm.Env} {K : List Dt → Fm.Env → Prop}, (slotAt ρ i).lists = false → (slotAt ρ j).lists = false → acc.length + ds.length ≤ 100000 →
    (∀ d ∈ ds, ∀ K' : Bool → Fm.Env → Prop, K' (p d.1 d.2) ((ρ.set i (.val d.1)).set j (.val d.2)) → T ((ρ.set i (.val d.1)).set j (.val d.2)) K' (fun _ => False)) → (∀ d ∈ ds, p d.1 d.2 = true → ∀ K' : Dt → Fm.Env → Prop, K' (g d.1 d.2) ((ρ.set i (.val d.1)).set j (.val d.2)) → B ((ρ.set i (.val d.1)).set j (.val d.2)) K' (fun _ => False)) →
    K (acc ++ (ds.filter fun e => p e.1 e.2).map fun e => g e.1 e.2) ρ → lcP2 i j T B (ds.map fun e => Dt.tup [e.1, e.2]) acc ρ K
  | [], acc, ρ, K, _, _, _, _, _, h => by rw [List.filter_nil, List.map_nil, List.append_nil] at h; exact h
  | d :: ds, acc, ρ, K, hs, hs2, hl, ht, hb, h => by
    rw [List.length_cons] at hl
    have e : (((ρ.set i (Slot.val d.1)).set j (Slot.val d.2)).set j (slotAt ρ j)).set i (slotAt ρ i) = ρ := by
      rw [List.set_set, set_set_ne (i := i) (j := j) hij, List.set_set, set_set_ne (i := j) (j := i) (Ne.symm hij), slot_back, slot_back]
    refine ⟨by omega, hs, hs2, _, _, rfl, ht d (List.mem_cons_self ..) _ ?_⟩
    cases hp : p d.1 d.2 with
    | true =>
      refine ite_t (hb d (List.mem_cons_self ..) hp _ ?_)
      rw [e]
      refine lcP2_fm hij ds (acc ++ [g d.1 d.2]) hs hs2 (by rw [List.length_append]; simp; omega) (fun e he => ht e (List.mem_cons_of_mem _ he)) (fun e he => hb e (List.mem_cons_of_mem _ he)) ?_
      rw [List.filter_cons_of_pos (by exact hp), List.map_cons] at h
      rw [List.append_assoc]
      exact h
    | false =>
      refine ite_f ?_
      rw [e]
      refine lcP2_fm hij ds acc hs hs2 (by omega) (fun e he => ht e (List.mem_cons_of_mem _ he)) (fun e he => hb e (List.mem_cons_of_mem _ he)) ?_
      rw [List.filter_cons_of_neg (by rw [hp]; simp)] at h
      exact h
end Fm

set_option maxHeartbeats 2000000
namespace Fm
open PySem PySem.Spec PyProof.Rows L2
/-! ### defs that may raise -/
structure FX where
  pre : List Dt → Prop
  post : List Dt → Dt → Prop
  err : List Dt → Er → Prop
def eX (G : Gs) (H : Hp) (X : Addr → Prop) (E : XK) : Er → Prop
  | .bare c => ∀ H', Ex H H' → E (.ref c) none H'
  | .own c n d => ∀ v dd H', Ex H H' → DtV G (cut X H') v d → H' dd = some (.xd [(n, v)]) → H dd = none → E (.ref c) (some dd) H'
def spX (G : Gs) (F : FX) : Sp := fun vs H Q E => ∃ (ds : List Dt) (X : Addr → Prop), DtVs G (cut X H) vs ds ∧ (∀ a, X a → LstAt H a) ∧ F.pre ds ∧ (∀ d v H', F.post ds d → Ex H H' → DtV G (cut X H') v d → Q v H') ∧ ∀ e, F.err ds e → eX G H X E e
/-- .. whose value is a new list -/
def spXL (G : Gs) (F : FX) : Sp := fun vs H Q E => ∃ (ds : List Dt) (X : Addr → Prop), DtVs G (cut X H) vs ds ∧ (∀ a, X a → LstAt H a) ∧ F.pre ds ∧ (∀ l p us H', F.post ds (.lst l) → H p = none → Ex H H' → H' p = some (.lst us) → DtVs G (cut (fun a => X a ∨ a = p) H') us l → Q (.ref p) H') ∧ ∀ e, F.err ds e → eX G H X E e
section
variable {G : Gs} {E : XK} {K : PySem.W.Frag}
theorem eX_of {f : Fr} {σ : L2.St} {H : Hp} {ρ : Fm.Env} (S : St G f σ H ρ) : ∀ {e : Er}, kX G f E e → eX G H (Xs f σ ρ) E e
  | .bare c, h => fun H' ex => h H' fun a o n ha => ex _ _ (S.fr a o n ha)
  | .own c n d, h => fun v dd H' ex hv hd hn => h v dd H' (fun a o n ha => ex _ _ (S.fr a o n ha)) (hv.mono (cut_le fun a ha => .inl ha)) hd (S.fresh hn).1
abbrev F_callX (F : FX) (A : FA) : FE := fun ρ K X => A ρ (fun ds ρ' => F.pre ds ∧ (∀ d, F.post ds d → K d ρ') ∧ ∀ e, F.err ds e → X e) X
theorem PU.callX {F : FX} {t : TA} {A : FA} (a : PUA G E t A) : PU G E (tCallS (spX G F) (WE (fun cls d _ H => E cls d H)) t) (F_callX F A) where
  run := fun {f σ H ρ Q} S h => a.run S (a.mono (fun ds ρ' k vs H' S' e hv => ⟨ds, Xs f σ ρ', hv, fun a ha => S'.lstAt ha, k.1, fun d v H2 hp ex hd => k.2.1 d hp v H2 (S'.grow ex) (e.trans (cut_grow ex)) hd, fun er he => eX_of S' (k.2.2 er he)⟩) (fun _ x => x) h)
  mono := fun m x h => a.mono (fun _ _ k => ⟨k.1, fun d hp => m _ _ (k.2.1 d hp), fun e he => x e (k.2.2 e he)⟩) x h
abbrev F_callXL (F : FX) (A : FA) : FA := fun ρ K X => A ρ (fun ds ρ' => F.pre ds ∧ (∀ l, F.post ds (.lst l) → K l ρ') ∧ ∀ e, F.err ds e → X e) X
theorem PUF.callX {F : FX} {t : TA} {A : FA} (a : PUA G E t A) : PUF G E (tCallS (spXL G F) (WE (fun cls d _ H => E cls d H)) t) (F_callXL F A) where
  run := fun {f σ H ρ Q} S h => a.run S (a.mono (fun ds ρ' k vs H' S' e hv => ⟨ds, Xs f σ ρ', hv, fun a ha => S'.lstAt ha, k.1, fun l p us H2 hp hn ex hl hd =>
    k.2.1 l hp p us H2 (S'.outNew hn ex ⟨_, hl⟩) (e.trans (newOut_ex hn ex)) (.inr (S'.fresh hn).1) (S'.fresh hn).2.1 hl (hd.mono (cut_le fun a h => xs_out.mp h)), fun er he => eX_of S' (k.2.2 er he)⟩) (fun _ x => x) h)
  mono := fun m x h => a.mono (fun _ _ k => ⟨k.1, fun d hp => m _ _ (k.2.1 d hp), fun e he => x e (k.2.2 e he)⟩) x h
/-- raise C(e) -/
abbrev F_raise (C : Addr) (fld : Str) (A : FE) : FS := fun ρ D => A ρ (fun d _ => D.ex (.own C fld d)) D.ex
theorem PUS.raise {C : Addr} {fld : Str} {t : TE} {A : FE} (a : PU G E t A) : PUS G E (fun _ σ H => tMkO C (spBadInit fld C) [] (tCons t tNil) σ H fun cls d H' => E cls d H') (F_raise C fld A) where
  run := fun {f σ H ρ D} S h => a.run S (a.mono (fun d ρ' k v H1 S1 e1 hv => g_oex fun dd H2 hn ex hx => k v dd H2 (fun a o n ha => ex _ _ (S1.fr a o n ha)) (hv.mono ((cut_le fun a ha => .inl ha : Ex (cut (Xs f σ ρ') H1) (cut f.X0 H1)).trans (cut_grow ex))) hx (S1.fresh hn).1) (fun _ x => x) h)
  mono := fun m h => a.mono (fun _ _ k => m.ex _ k) m.ex h
def endX (F : FX) (ds : List Dt) : DE where
  nx := fun _ => F.post ds .non
  rt := fun d _ => F.post ds d
  rl := fun l _ => F.post ds (.lst l)
  ex := F.err ds
def endXL (F : FX) (ds : List Dt) : DE where
  nx := fun _ => False
  rt := fun d _ => False
  rl := fun l _ => F.post ds (.lst l)
  ex := F.err ds
theorem kX_of {H : Hp} {X : Addr → Prop} : ∀ {e : Er}, eX G H X E e → kX G ⟨H, fun _ => False, X⟩ E e
  | .bare c, h => fun H' kp => h H' fun a o ha => kp a o id ha
  | .own c n d, h => fun v dd H' kp hv hd hn => h v dd H' (fun a o ha => kp a o id ha) hv hd hn
theorem spX.def {F : FX} {t : TS} {B : FS} {N : List Str} {vs : List V} {H : Hp} {Q : VK} (U : PUS G E t B) (h : ∀ ds, F.pre ds → B (env0 N.length ds) (endX F ds)) (hs : spX G F vs H Q E) : t { nx := fun _ H' => Q .non H', rt := Q } (L2.start N vs) H := by
  obtain ⟨ds, X, hv, hx, hp, q, qe⟩ := hs
  refine U.run (start_St hv hx) (U.mono (D := endX F ds) ⟨fun ρ' k σ' H' S e => q .non .non H' k ?_ .non, fun d ρ' k v σ' H' S hd => q d v H' k ?_ ?_, fun l ρ' k p us σ' H' S h1 h2 h3 h4 => q (.lst l) _ H' k ?_ ?_, fun _ w => w.elim, fun _ w => w.elim, fun e he => kX_of (qe e he)⟩ (h ds hp))
  · exact fun a o ha => S.fr a o id ha
  · exact fun a o ha => S.fr a o id ha
  · exact hd.mono (cut_le fun a ha => .inl ha)
  · exact fun a o ha => S.fr a o id ha
  · refine .lst (cut_some.mpr ⟨h2, h3⟩) (h4.mono (cut_le fun a ha => .inl (.inl ha)))
theorem spXL.def {F : FX} {t : TS} {B : FS} {N : List Str} {vs : List V} {H : Hp} {Q : VK} (U : PUS G E t B) (h : ∀ ds, F.pre ds → B (env0 N.length ds) (endXL F ds)) (hs : spXL G F vs H Q E) : t { nx := fun _ H' => Q .non H', rt := Q } (L2.start N vs) H := by
  obtain ⟨ds, X, hv, hx, hp, q, qe⟩ := hs
  refine U.run (start_St hv hx) (U.mono (D := endXL F ds) ⟨fun _ w => w.elim, fun _ _ w => w.elim, fun l ρ' k p us σ' H' S h1 h2 h3 h4 => q l p us H' k (h1.elim False.elim id) ?_ h3 ?_, fun _ w => w.elim, fun _ w => w.elim, fun e he => kX_of (qe e he)⟩ (h ds hp))
  · exact fun a o ha => S.fr a o id ha
  · refine h4.mono (cut_le fun a ha => ?_)
    rcases ha with ha | ha
    · exact .inl (.inl ha)
    · exact .inl (.inr ha)
end
end Fm

set_option maxHeartbeats 2000000
namespace Fm
open PySem PySem.Spec PyProof.Rows L2
/-! ### zip of a list and a tuple, either way -/
/-- one of the two walks below a zip: its iterator at i, what it goes over at l -/
structure Leg (prog : Program) (w : World) (i l : Addr) (xs : Array Value) (S : Heap → Nat → Prop) (R : Heap → Prop) : Prop where
  next : ∀ {A : Around} {E : Value → Shared → Prop} {s : Shared} {k : Nat} {x : Value} {Q : Value → Shared → Prop}, S s.heap k → R s.heap → xs[k]? = some x → (∀ g, S g (k + 1) → Heap.SameBut i s.heap g → Q x { s with heap := g }) → wpAny (model prog w) A (Builtin.SmallTypes.nextOf (.ref i)) Q E s
  stop : ∀ {A : Around} {E : Value → Shared → Prop} {s : Shared} {k : Nat} {Q : Value → Shared → Prop}, A.handled = none → S s.heap k → R s.heap → xs[k]? = none → (∀ g e, Heap.ExtBut i s.heap g → (∃ o, g.get? e = some o ∧ o.cls = .type "StopIteration") → E (.ref e) { s with heap := g }) → wpAny (model prog w) A (Builtin.SmallTypes.nextOf (.ref i)) Q E s
  its : ∀ {h g : Heap} {k : Nat}, S h k → (∀ o, h.get? i = some o → g.get? i = some o) → S g k
  src : ∀ {h g : Heap}, R h → (∀ o, h.get? l = some o → g.get? l = some o) → R g
theorem Leg.list {prog : Program} {w : World} {i l : Addr} {xs : Array Value} : Leg prog w i l xs (fun h k => h.IsListIter i l k) (fun h => h.IsList l xs) :=
  ⟨fun a b c d => wpAny_nextOf_list_item a b c d, fun a b c d e => wpAny_nextOf_list_end a b c d e, fun a e => a.at e, fun ⟨o, h, r⟩ e => ⟨o, e o h, r⟩⟩
theorem Leg.tup {prog : Program} {w : World} {i l : Addr} {xs : Array Value} : Leg prog w i l xs (fun h k => h.IsTupleIter i l k) (fun h => h.IsTuple l xs) :=
  ⟨fun a b c d => RZ.nextOf_tuple_item a b c d, fun a b c d e => RZ.nextOf_tuple_end a b c d e, fun a e => a.at e, fun ⟨o, h, r⟩ e => ⟨o, e o h, r⟩⟩
section
variable {prog : Program} {w : World} {A : Around} {E : Value → Shared → Prop} {s : Shared} {z T O i j l m : Addr} {p q : Nat} {xs ys : Array Value} {x y a b : Value} {S1 S2 : Heap → Nat → Prop} {R1 R2 : Heap → Prop}
theorem zipL_item {Q : Value → Shared → Prop} (L1 : Leg prog w i l xs S1 R1) (L2 : Leg prog w j m ys S2 R2) (D : ZipApart z T O i j l m) (hz : IsZip s.heap z T O .none) (hT : PySem.IsPair s.heap T (.ref i) (.ref j)) (hO : PySem.IsPair s.heap O a b) (s1 : S1 s.heap p) (s2 : S2 s.heap q) (r1 : R1 s.heap) (r2 : R2 s.heap) (hx : xs[p]? = some x) (hy : ys[q]? = some y)
    (fin : ∀ g, IsZip g z T O (rawInt s.heap.objs.size) → PySem.IsPair g O x y → S1 g (p + 1) → S2 g (q + 1) → PySem.IsPair g s.heap.objs.size x y → g.objs.size = s.heap.objs.size + 1 → (∀ c o, c ≠ z → c ≠ O → c ≠ i → c ≠ j → s.heap.get? c = some o → g.get? c = some o) → Q (.ref s.heap.objs.size) { s with heap := g }) :
    wpAny (model prog w) A (Builtin.«zip.__next__» ⟨[.ref z], []⟩) (fun f s' => ∃ v, f = .done (.ret v) ∧ Q v s') E s := by
  (show wpAny _ _ (field (.ref z) 2 >>= _) _ _ _); (refine wpAny_bind (wpAny_field hz rfl (x := .bool false) rfl ?_)); (show wpAny _ _ (field (.ref z) 3 >>= _) _ _ _); (refine wpAny_bind (wpAny_field hz rfl (x := .ref T) rfl ?_))
  (refine wpAny_bind (wpAny_seqItems hT rfl ?_)); (show wpAny _ _ (Builtin.SmallTypes.ownedTupleIsFree (.ref z) >>= _) _ _ _); refine wpAny_bind ?_
  (unfold Builtin.SmallTypes.ownedTupleIsFree); (refine wpAny_bind (wpAny_field hz rfl (x := .none) rfl (wpAny_pure ?_))); simp only [if_true]; refine wpAny_bind (wpAny_rule ?_)
  (refine wpAny_bind (wpAny_field hz rfl (x := .ref O) rfl ?_)); (refine wpAny_bind (wpAny_setField_rec hz (by simp) fun g1 (z1 : IsZip g1 z T O .ellipsis) k1 => ?_)); refine wpAny_bind ?_
  simp only [List.zipIdx_cons, List.zipIdx_nil, List.forIn_cons, List.forIn_nil]; (refine wpAny_bind (wpAny_bind (wpAny_onRaise ?_))); (show wpAny _ _ (Builtin.SmallTypes.nextOf (.ref i) >>= _) _ _ _)
  have e1 := k1.extBut
  (refine wpAny_bind (L1.next (L1.its s1 fun o => e1 _ o D.i1z) (L1.src r1 fun o => e1 _ o D.l1z) hx fun g2 t1 k2 => wpAny_pure ?_))
  have e2 := k2.extBut
  have O2 : PySem.IsPair g2 O a b := e2 _ _ D.TOi1 (e1 _ _ D.TOz hO)
  (refine wpAny_bind (wpAny_seqItems O2 rfl ?_)); (refine wpAny_bind (wpAny_updateSeq_pair O2 fun g3 (O3 : PySem.IsPair g3 O x b) k3 => ?_)); (refine wpAny_bind (wpAny_letGo (wpAny_pure ?_)))
  have e3 := k3.extBut
  (refine wpAny_bind (wpAny_bind (wpAny_onRaise ?_))); (show wpAny _ _ (Builtin.SmallTypes.nextOf (.ref j) >>= _) _ _ _)
  have c2 : ∀ o, s.heap.get? j = some o → g3.get? j = some o := fun o h => e3 _ o D.TOi2.symm (e2 _ o D.i12.symm (e1 _ o D.i2z h))
  have c3 : ∀ o, s.heap.get? m = some o → g3.get? m = some o := fun o h => e3 _ o D.l2TO (e2 _ o D.l2i1 (e1 _ o D.l2z h))
  (refine wpAny_bind (L2.next (L2.its s2 c2) (L2.src r2 c3) hy fun g4 t2 k4 => wpAny_pure ?_))
  have e4 := k4.extBut
  have O4 : PySem.IsPair g4 O x b := e4 _ _ D.TOi2 O3
  (refine wpAny_bind (wpAny_seqItems O4 rfl ?_)); (refine wpAny_bind (wpAny_updateSeq_pair O4 fun g5 (O5 : PySem.IsPair g5 O x y) k5 => ?_)); (refine wpAny_bind (wpAny_letGo (wpAny_pure (wpAny_pure ?_))))
  have e5 := k5.extBut
  (refine wpAny_bind (wpAny_seqItems O5 rfl ?_)); refine wpAny_bind (wpAny_newTuple ?_)
  have sz : g5.objs.size = s.heap.objs.size := k5.1.trans (k4.1.trans (k3.1.trans (k2.1.trans k1.1)))
  have z5 : IsZip g5 z T O .ellipsis := e5 _ _ D.TOz.symm (e4 _ _ D.i2z.symm (e3 _ _ D.TOz.symm (e2 _ _ D.i1z.symm z1)))
  have all : ∀ c o, c ≠ z → c ≠ O → c ≠ i → c ≠ j → s.heap.get? c = some o → g5.get? c = some o := fun c o n1 n2 n3 n4 h => e5 _ _ n2 (e4 _ _ n4 (e3 _ _ n2 (e2 _ _ n3 (e1 _ _ n1 h))))
  have u1 : S1 g5 (p + 1) := L1.its t1 fun o h => e5 _ o D.TOi1.symm (e4 _ o D.i12 (e3 _ o D.TOi1.symm h))
  have u2 : S2 g5 (q + 1) := L2.its t2 fun o h => e5 _ o D.TOi2.symm h
  have zl : z < g5.objs.size := Heap.lt_size z5
  (show wpAny _ _ (Builtin.SmallTypes.ownedTupleHandOut (.ref z) (.ref g5.objs.size) >>= _) _ _ _); refine wpAny_bind ?_; unfold Builtin.SmallTypes.ownedTupleHandOut
  have z6 : IsZip (g5.push { cls := .type "tuple", data := .seq #[x, y] }) z T O .ellipsis := Heap.get?_push_of_some _ z5
  (refine wpAny_bind (wpAny_setField_rec z6 (by simp) fun g7 (z7 : IsZip g7 z T O (rawInt g5.objs.size)) k7 => ?_)); (refine wpAny_setField_rec z7 (by simp) fun g8 (z8 : IsZip g8 z T O (rawInt g5.objs.size)) k8 => ?_)
  have up : ∀ c o, c ≠ z → g5.get? c = some o → g8.get? c = some o := fun c o n h => k8.extBut _ _ n (k7.extBut _ _ n (Heap.get?_push_of_some _ h))
  have T8 : PySem.IsPair g8 g5.objs.size x y := k8.extBut _ _ (Nat.ne_of_gt zl) (k7.extBut _ _ (Nat.ne_of_gt zl) (Heap.get?_push_size _ rfl))
  have sz8 : g8.objs.size = g5.objs.size + 1 := k8.1.trans (k7.1.trans (Heap.size_push ..))
  rw [sz] at z8 T8 sz8
  refine wpAny_pure ⟨_, rfl, ?_⟩
  (show Q (.ref g5.objs.size) _); rw [sz]
  exact fin g8 z8 (up _ _ D.TOz O5) (L1.its u1 fun o => up _ o D.i1z) (L2.its u2 fun o => up _ o D.i2z) T8 sz8 fun c o n1 n2 n3 n4 h => up c o n1 (all c o n1 n2 n3 n4 h)
theorem zipL_end {Q : Fin → Shared → Prop} (hh : A.handled = none) (L1 : Leg prog w i l xs S1 R1) (L2 : Leg prog w j m ys S2 R2) (D : ZipApart z T O i j l m) (hz : IsZip s.heap z T O .none) (hT : PySem.IsPair s.heap T (.ref i) (.ref j)) (hO : PySem.IsPair s.heap O a b) (s1 : S1 s.heap p) (s2 : S2 s.heap q) (r1 : R1 s.heap) (r2 : R2 s.heap) (en : xs[p]? = none ∨ ys[q]? = none)
    (fin : ∀ g e, (∀ c o, c ≠ z → c ≠ O → c ≠ i → c ≠ j → s.heap.get? c = some o → g.get? c = some o) → (∃ o, g.get? e = some o ∧ o.cls = .type "StopIteration") → E (.ref e) { s with heap := g }) : wpAny (model prog w) A (Builtin.«zip.__next__» ⟨[.ref z], []⟩) Q E s := by
  (show wpAny _ _ (field (.ref z) 2 >>= _) _ _ _); (refine wpAny_bind (wpAny_field hz rfl (x := .bool false) rfl ?_)); (show wpAny _ _ (field (.ref z) 3 >>= _) _ _ _); (refine wpAny_bind (wpAny_field hz rfl (x := .ref T) rfl ?_))
  (refine wpAny_bind (wpAny_seqItems hT rfl ?_)); (show wpAny _ _ (Builtin.SmallTypes.ownedTupleIsFree (.ref z) >>= _) _ _ _); refine wpAny_bind ?_
  (unfold Builtin.SmallTypes.ownedTupleIsFree); (refine wpAny_bind (wpAny_field hz rfl (x := .none) rfl (wpAny_pure ?_))); simp only [if_true]; refine wpAny_bind (wpAny_rule ?_)
  (refine wpAny_bind (wpAny_field hz rfl (x := .ref O) rfl ?_)); (refine wpAny_bind (wpAny_setField_rec hz (by simp) fun g1 (z1 : IsZip g1 z T O .ellipsis) k1 => ?_)); refine wpAny_bind ?_
  simp only [List.zipIdx_cons, List.zipIdx_nil, List.forIn_cons, List.forIn_nil]; (refine wpAny_bind (wpAny_bind (wpAny_onRaise ?_))); (show wpAny _ _ (Builtin.SmallTypes.nextOf (.ref i) >>= _) _ _ _)
  have e1 := k1.extBut
  cases hx : xs[p]? with
  | none =>
    refine wpAny_bind (L1.stop hh (L1.its s1 fun o => e1 _ o D.i1z) (L1.src r1 fun o => e1 _ o D.l1z) hx fun g2 e k2 he => ?_)
    obtain ⟨oe, h1, h2⟩ := he
    have z2 : IsZip g2 z T O .ellipsis := k2 _ _ D.i1z.symm z1
    have ne : e ≠ z := fun c => by rw [c, z2] at h1; cases h1; simp at h2
    exact wpAny_setField_rec z2 (by simp) fun g3 _ k3 => fin g3 e (fun c o n1 _ n3 _ h => k3.extBut _ _ n1 (k2 _ _ n3 (e1 _ _ n1 h))) ⟨oe, k3.extBut _ _ ne h1, h2⟩
  | some x =>
    have hy : ys[q]? = none := en.elim (fun h => by rw [hx] at h; cases h) id
    refine wpAny_bind (L1.next (L1.its s1 fun o => e1 _ o D.i1z) (L1.src r1 fun o => e1 _ o D.l1z) hx fun g2 t1 k2 => wpAny_pure ?_)
    have e2 := k2.extBut
    have O2 : PySem.IsPair g2 O a b := e2 _ _ D.TOi1 (e1 _ _ D.TOz hO)
    (refine wpAny_bind (wpAny_seqItems O2 rfl ?_)); (refine wpAny_bind (wpAny_updateSeq_pair O2 fun g3 (O3 : PySem.IsPair g3 O x b) k3 => ?_)); (refine wpAny_bind (wpAny_letGo (wpAny_pure ?_)))
    have e3 := k3.extBut
    (refine wpAny_bind (wpAny_bind (wpAny_onRaise ?_))); (show wpAny _ _ (Builtin.SmallTypes.nextOf (.ref j) >>= _) _ _ _)
    have c2 : ∀ o, s.heap.get? j = some o → g3.get? j = some o := fun o h => e3 _ o D.TOi2.symm (e2 _ o D.i12.symm (e1 _ o D.i2z h))
    have c3 : ∀ o, s.heap.get? m = some o → g3.get? m = some o := fun o h => e3 _ o D.l2TO (e2 _ o D.l2i1 (e1 _ o D.l2z h))
    refine wpAny_bind (L2.stop hh (L2.its s2 c2) (L2.src r2 c3) hy fun g4 e k4 he => ?_)
    obtain ⟨oe, h1, h2⟩ := he
    have z4 : IsZip g4 z T O .ellipsis := k4 _ _ D.i2z.symm (e3 _ _ D.TOz.symm (e2 _ _ D.i1z.symm z1))
    have ne : e ≠ z := fun c => by rw [c, z4] at h1; cases h1; simp at h2
    exact wpAny_setField_rec z4 (by simp) fun g5 _ k5 => fin g5 e (fun c o n1 n2 n3 n4 h => k5.extBut _ _ n1 (k4 _ _ n4 (e3 _ _ n2 (e2 _ _ n3 (e1 _ _ n1 h))))) ⟨oe, k5.extBut _ _ ne h1, h2⟩
theorem nextZ_item {Q : Option Value → Shared → Prop} (L1 : Leg prog w i l xs S1 R1) (L2 : Leg prog w j m ys S2 R2) (D : ZipApart z T O i j l m) (hz : IsZip s.heap z T O .none) (hT : PySem.IsPair s.heap T (.ref i) (.ref j)) (hO : PySem.IsPair s.heap O a b) (s1 : S1 s.heap p) (s2 : S2 s.heap q) (r1 : R1 s.heap) (r2 : R2 s.heap) (hx : xs[p]? = some x) (hy : ys[q]? = some y)
    (fin : ∀ g, IsZip g z T O (rawInt s.heap.objs.size) → PySem.IsPair g O x y → S1 g (p + 1) → S2 g (q + 1) → PySem.IsPair g s.heap.objs.size x y → g.objs.size = s.heap.objs.size + 1 → (∀ c o, c ≠ z → c ≠ O → c ≠ i → c ≠ j → s.heap.get? c = some o → g.get? c = some o) → Q (some (.ref s.heap.objs.size)) { s with heap := g }) :
    wpAny (model prog w) A (pyNext (.ref z)) Q E s := by
  have ty : s.TypeIs (.ref z) "zip" := ⟨_, hz, rfl⟩
  unfold pyNext; exact wpAny_bind (wpAny_attempt (wpAny_callSpecial?_slot (name := Str.ofString "__next__") ty F.slot_zip_next (wpAny_call_entry F.slot_zip_next ty F.entry_zip_next (zipL_item L1 L2 D hz hT hO s1 s2 r1 r2 hx hy fun g b1 b2 b3 b4 b5 b6 b7 => wpAny_pure (fin g b1 b2 b3 b4 b5 b6 b7)) (F.args_zip_next_1 _))))
theorem nextZ_end {Q : Option Value → Shared → Prop} (hh : A.handled = none) (L1 : Leg prog w i l xs S1 R1) (L2 : Leg prog w j m ys S2 R2) (D : ZipApart z T O i j l m) (hz : IsZip s.heap z T O .none) (hT : PySem.IsPair s.heap T (.ref i) (.ref j)) (hO : PySem.IsPair s.heap O a b) (s1 : S1 s.heap p) (s2 : S2 s.heap q) (r1 : R1 s.heap) (r2 : R2 s.heap) (en : xs[p]? = none ∨ ys[q]? = none)
    (fin : ∀ g, (∀ c o, c ≠ z → c ≠ O → c ≠ i → c ≠ j → s.heap.get? c = some o → g.get? c = some o) → Q none { s with heap := g }) : wpAny (model prog w) A (pyNext (.ref z)) Q E s := by
  have ty : s.TypeIs (.ref z) "zip" := ⟨_, hz, rfl⟩
  unfold pyNext; refine wpAny_bind (wpAny_attempt (wpAny_callSpecial?_slot (name := Str.ofString "__next__") ty F.slot_zip_next (wpAny_call_entry F.slot_zip_next ty F.entry_zip_next (zipL_end hh L1 L2 D hz hT hO s1 s2 r1 r2 en fun g e hk he => ?_) (F.args_zip_next_1 _))))
  obtain ⟨o, h1, h2⟩ := he
  exact wpAny_bind (wpAny_isInstance (T := "StopIteration") (b := true) ⟨o, h1, h2⟩ isSubtype_stop (wpAny_pure (fin _ hk)))
end
/-! the new zip -/
def zh1 (t : String) (h : Heap) (l : Addr) : Heap := h.push { cls := .type t, data := .fields #[.ref l, .int 0 0] }
def zh3 (t u : String) (h : Heap) (l m : Addr) : Heap := (zh1 u (zh1 t h l) m).push { cls := .type "tuple", data := .seq #[.ref h.objs.size, .ref (zh1 t h l).objs.size] }
def zh4 (t u : String) (h : Heap) (l m : Addr) : Heap := (zh3 t u h l m).push { cls := .type "tuple", data := .seq #[.none, .none] }
def zh5 (t u : String) (h : Heap) (l m : Addr) : Heap := (zh4 t u h l m).push { cls := .type "zip", data := .fields #[.none, .bool false, .bool false, .ref (zh1 u (zh1 t h l) m).objs.size, .ref (zh3 t u h l m).objs.size] }
theorem newZ_LT (l m : Addr) (xs ys : Array Value) : Meets (Builtin.«zip.__new__» ⟨[.type "zip", .ref l, .ref m], []⟩) (fun _ R s => s.heap.IsList l xs ∧ s.heap.IsTuple m ys ∧ R (.ok (.ret (.ref (zh4 "list_iterator" "tuple_iterator" s.heap l m).objs.size))) { s with heap := zh5 "list_iterator" "tuple_iterator" s.heap l m }) :=
  .of_wp fun prog w A R s h => by
    (obtain ⟨hp, g, d, tk, os⟩ := s); (obtain ⟨a1, a2, h⟩ := h); have hsub := sub_zip
    have k1 : Heap.IsList (Shared.heap ⟨hp, g, d, tk, os⟩) l xs := a1
    have k2 : Heap.IsTuple (Shared.heap ⟨hp.push { cls := .type "list_iterator", data := .fields #[.ref l, .int 0 0] }, g, d, tk, os⟩) m ys := Heap.IsTuple.push a2 _
    wp_walk using wpAny_pyIter_list k1, wpAny_pyIter_tuple k2
    exact ⟨_, rfl, h⟩
theorem newZ_TL (l m : Addr) (xs ys : Array Value) : Meets (Builtin.«zip.__new__» ⟨[.type "zip", .ref l, .ref m], []⟩) (fun _ R s => s.heap.IsTuple l xs ∧ s.heap.IsList m ys ∧ R (.ok (.ret (.ref (zh4 "tuple_iterator" "list_iterator" s.heap l m).objs.size))) { s with heap := zh5 "tuple_iterator" "list_iterator" s.heap l m }) :=
  .of_wp fun prog w A R s h => by
    (obtain ⟨hp, g, d, tk, os⟩ := s); (obtain ⟨a1, a2, h⟩ := h); have hsub := sub_zip
    have k1 : Heap.IsTuple (Shared.heap ⟨hp, g, d, tk, os⟩) l xs := a1
    have k2 : Heap.IsList (Shared.heap ⟨hp.push { cls := .type "tuple_iterator", data := .fields #[.ref l, .int 0 0] }, g, d, tk, os⟩) m ys := Heap.IsList.push a2 _
    wp_walk using wpAny_pyIter_tuple k1, wpAny_pyIter_list k2
    exact ⟨_, rfl, h⟩
theorem zh_facts {t u : String} (h : Heap) (l m : Addr) : (zh4 t u h l m).objs.size = h.objs.size + 4 ∧ IsZip (zh5 t u h l m) (h.objs.size + 4) (h.objs.size + 2) (h.objs.size + 3) .none ∧ PySem.IsPair (zh5 t u h l m) (h.objs.size + 2) (.ref h.objs.size) (.ref (h.objs.size + 1)) ∧ PySem.IsPair (zh5 t u h l m) (h.objs.size + 3) .none .none ∧
    (zh5 t u h l m).get? h.objs.size = some { cls := .type t, data := .fields #[.ref l, .int 0 0] } ∧ (zh5 t u h l m).get? (h.objs.size + 1) = some { cls := .type u, data := .fields #[.ref m, .int 0 0] } ∧ (zh5 t u h l m).objs.size = h.objs.size + 5 ∧ ∀ c o, h.get? c = some o → (zh5 t u h l m).get? c = some o := by
  have n1 : (zh1 t h l).objs.size = h.objs.size + 1 := Heap.size_push ..
  have n2 : (zh1 u (zh1 t h l) m).objs.size = h.objs.size + 2 := (Heap.size_push ..).trans (by rw [n1])
  have n3 : (zh3 t u h l m).objs.size = h.objs.size + 3 := (Heap.size_push ..).trans (by rw [n2])
  have n4 : (zh4 t u h l m).objs.size = h.objs.size + 4 := (Heap.size_push ..).trans (by rw [n3])
  have n5 : (zh5 t u h l m).objs.size = h.objs.size + 5 := (Heap.size_push ..).trans (by rw [n4])
  have f5 : (zh5 t u h l m).get? (zh4 t u h l m).objs.size = some { cls := .type "zip", data := .fields #[.none, .bool false, .bool false, .ref (zh1 u (zh1 t h l) m).objs.size, .ref (zh3 t u h l m).objs.size] } := Heap.get?_push_size _ rfl
  have f4 : (zh5 t u h l m).get? (zh3 t u h l m).objs.size = some { cls := .type "tuple", data := .seq #[.none, .none] } := Heap.get?_push_of_some _ (Heap.get?_push_size _ rfl)
  have f3 : (zh5 t u h l m).get? (zh1 u (zh1 t h l) m).objs.size = some { cls := .type "tuple", data := .seq #[.ref h.objs.size, .ref (zh1 t h l).objs.size] } := Heap.get?_push_of_some _ (Heap.get?_push_of_some _ (Heap.get?_push_size _ rfl))
  have f2 : (zh5 t u h l m).get? (zh1 t h l).objs.size = some { cls := .type u, data := .fields #[.ref m, .int 0 0] } := Heap.get?_push_of_some _ (Heap.get?_push_of_some _ (Heap.get?_push_of_some _ (Heap.get?_push_size _ rfl)))
  have f1 : (zh5 t u h l m).get? h.objs.size = some { cls := .type t, data := .fields #[.ref l, .int 0 0] } := Heap.get?_push_of_some _ (Heap.get?_push_of_some _ (Heap.get?_push_of_some _ (Heap.get?_push_of_some _ (Heap.get?_push_size _ rfl))))
  rw [n4, n2, n3] at f5
  rw [n3] at f4
  rw [n2, n1] at f3
  rw [n1] at f2
  exact ⟨n4, f5, f3, f4, f1, f2, n5, fun c o e => Heap.get?_push_of_some _ (Heap.get?_push_of_some _ (Heap.get?_push_of_some _ (Heap.get?_push_of_some _ (Heap.get?_push_of_some _ e))))⟩
section
variable {prog : Program} {w : World} {A : Around} {E : Value → Shared → Prop} {s : Shared} {l m : Addr} {xs ys : Array Value} {Q : Value → Shared → Prop}
theorem callZ_LT (h1 : s.heap.IsList l xs) (h2 : s.heap.IsTuple m ys) (fin : ∀ g, IsZip g (s.heap.objs.size + 4) (s.heap.objs.size + 2) (s.heap.objs.size + 3) .none → PySem.IsPair g (s.heap.objs.size + 2) (.ref s.heap.objs.size) (.ref (s.heap.objs.size + 1)) → PySem.IsPair g (s.heap.objs.size + 3) .none .none → g.IsListIter s.heap.objs.size l 0 → g.IsTupleIter (s.heap.objs.size + 1) m 0 → g.objs.size = s.heap.objs.size + 5 →
    (∀ c o, s.heap.get? c = some o → g.get? c = some o) → Q (.ref (s.heap.objs.size + 4)) { s with heap := g }) : wpAny (model prog w) A (call (.type "zip") [.ref l, .ref m]) Q E s := by
  refine callType_new F.called_zip (by decide) (F.typeCall_zip_2 _ _) (F.newCall_zip_2 _ _) (fun obj => F.args_object_init_3 obj _ _) F.entry_zip_new (newZ_LT l m xs ys) ⟨h1, h2, ?_⟩
  obtain ⟨n4, f5, f3, f4, f1, f2, n5, kp⟩ := zh_facts (t := "list_iterator") (u := "tuple_iterator") s.heap l m
  rw [n4]
  exact ⟨⟨_, f5, rfl⟩, fin _ f5 f3 f4 ⟨_, f1, rfl, rfl⟩ ⟨_, f2, rfl, rfl⟩ n5 kp⟩
theorem callZ_TL (h1 : s.heap.IsTuple l xs) (h2 : s.heap.IsList m ys) (fin : ∀ g, IsZip g (s.heap.objs.size + 4) (s.heap.objs.size + 2) (s.heap.objs.size + 3) .none → PySem.IsPair g (s.heap.objs.size + 2) (.ref s.heap.objs.size) (.ref (s.heap.objs.size + 1)) → PySem.IsPair g (s.heap.objs.size + 3) .none .none → g.IsTupleIter s.heap.objs.size l 0 → g.IsListIter (s.heap.objs.size + 1) m 0 → g.objs.size = s.heap.objs.size + 5 →
    (∀ c o, s.heap.get? c = some o → g.get? c = some o) → Q (.ref (s.heap.objs.size + 4)) { s with heap := g }) : wpAny (model prog w) A (call (.type "zip") [.ref l, .ref m]) Q E s := by
  refine callType_new F.called_zip (by decide) (F.typeCall_zip_2 _ _) (F.newCall_zip_2 _ _) (fun obj => F.args_object_init_3 obj _ _) F.entry_zip_new (newZ_TL l m xs ys) ⟨h1, h2, ?_⟩
  obtain ⟨n4, f5, f3, f4, f1, f2, n5, kp⟩ := zh_facts (t := "tuple_iterator") (u := "list_iterator") s.heap l m
  rw [n4]
  exact ⟨⟨_, f5, rfl⟩, fin _ f5 f3 f4 ⟨_, f1, rfl, rfl⟩ ⟨_, f2, rfl, rfl⟩ n5 kp⟩
end
/-! the walk -/
/-- two sequences as they stand at each turn (by the readers q1, q2), the items in new pairs -/
def ItzX (q1 q2 : Hp → List V → Prop) : It :=
  ⟨fun i H => ∃ (xs ys : List V) (x y : V), q1 H xs ∧ q2 H ys ∧ xs[i]? = some x ∧ ys[i]? = some y, fun i H v H' => ∃ T x y, v = .ref T ∧ H T = none ∧ H' = upd H T (.tup [x, y]) ∧ (∀ xs, q1 H xs → xs[i]? = some x) ∧ ∀ ys, q2 H ys → ys[i]? = some y,
    fun i H => ∃ xs ys : List V, q1 H xs ∧ q2 H ys ∧ (xs.length ≤ i ∨ ys.length ≤ i)⟩
/-- what stands at l, read by q, is walked by S over R -/
structure Src (l i : Addr) (q : PySem.W.Frag → Hp → List V → Prop) (S : Heap → Nat → Prop) (R : Array Value → Heap → Prop) : Prop where
  leg : ∀ {prog : Program} {w : World} {xs : Array Value}, Leg prog w i l xs S (R xs)
  at_ : ∀ {X : Cx} {pins : List (Addr × Obj)} {σ : L2.St} {H : Hp} {s : Shared} {xs : List V}, L2.Inv X pins σ H s → q X.K H xs → ∃ us : List Value, Vals xs us ∧ R us.toArray s.heap
  inj : ∀ {X : Cx} {pins : List (Addr × Obj)} {σ : L2.St} {H : Hp} {s : Shared} {xs ys : List V}, L2.Inv X pins σ H s → q X.K H xs → q X.K H ys → xs = ys
  obj : ∀ {h : Heap} {k : Nat}, S h k → ∃ o, h.get? i = some o ∧ ∀ v, o.data ≠ .cell v
  lt : ∀ {h : Heap} {k : Nat}, S h k → i < h.objs.size
theorem Src.list {l i : Addr} : Src l i (fun K H xs => SqL K H l xs) (fun h k => h.IsListIter i l k) (fun xs h => h.IsList l xs) :=
  ⟨Leg.list, fun I h => by obtain ⟨us, r, pl, _⟩ := I.list h; exact ⟨us, r, pl.isList⟩, fun I a b => I.list_inj a b, fun ⟨o, e, _, d⟩ => ⟨o, e, fun v q => by rw [d] at q; cases q⟩, fun ⟨_, e, _⟩ => Heap.lt_size e⟩
theorem Src.tup {l i : Addr} : Src l i (fun K H xs => SqT K H l xs) (fun h k => h.IsTupleIter i l k) (fun xs h => h.IsTuple l xs) :=
  ⟨Leg.tup, fun I h => by obtain ⟨us, r, pl, _⟩ := I.tuple h; exact ⟨us, r, pl⟩, fun I a b => I.tuple_inj a b, fun ⟨o, e, _, d⟩ => ⟨o, e, fun v q => by rw [d] at q; cases q⟩, fun ⟨_, e, _⟩ => Heap.lt_size e⟩
theorem five {z T O i j c : Addr} (h : c ∈ [z, T, O, i, j]) : c = z ∨ c = T ∨ c = O ∨ c = i ∨ c = j := by simpa using h
theorem turn_zipX {P : Program} {w : World} {K : PySem.W.Frag} {elts : List Expr} {kk : Nat} {tpos : Pos} {l m z T O i j : Addr} {q1 q2 : PySem.W.Frag → Hp → List V → Prop} {S1 S2 : Heap → Nat → Prop} {R1 R2 : Array Value → Heap → Prop} (A1 : Src l i q1 S1 R1) (A2 : Src m j q2 S2 R2) (D : ZipApart z T O i j l m) :
    L2.Turn P w K (.Tuple elts kk tpos) (ItzX (q1 K) (q2 K)) [z, T, O, i, j] z (fun k h => IsZip h z T O .none ∧ PySem.IsPair h T (.ref i) (.ref j) ∧ (∃ x y, PySem.IsPair h O x y) ∧ S1 h k ∧ S2 h k) where
  mem := List.mem_cons_self ..
  obj := fun k h ⟨hz, hT, ⟨x, y, hO⟩, t1, t2⟩ c hc => by
    rcases five hc with rfl | rfl | rfl | rfl | rfl
    · exact ⟨_, hz, fun v => nofun⟩
    · exact ⟨_, hT, fun v => nofun⟩
    · exact ⟨_, hO, fun v => nofun⟩
    · exact A1.obj t1
    · exact A2.obj t2
  keep := fun k h g ⟨hz, hT, ⟨x, y, hO⟩, t1, t2⟩ kp => ⟨kp z (by simp) _ hz, kp T (by simp) _ hT, ⟨x, y, kp O (by simp) _ hO⟩, (A1.leg (prog := P) (w := w) (xs := #[])).its t1 fun o => kp i (by simp) o, (A2.leg (prog := P) (w := w) (xs := #[])).its t2 fun o => kp j (by simp) o⟩
  item := by
    rintro X rfl rfl rfl hc k pins s σ H E I hf ⟨hz, hT, ⟨x0, y0, hO⟩, t1, t2⟩ ⟨xs, ys, x, y, hqx, hqy, hx, hy⟩
    obtain ⟨us, ru, p1⟩ := A1.at_ I hqx
    obtain ⟨ws, rw_, p2⟩ := A2.at_ I hqy
    obtain ⟨u, hu, r1⟩ := ru.get hx
    obtain ⟨v, hv, r2⟩ := rw_.get hy
    have zl : z < s.heap.objs.size := Heap.lt_size hz
    refine nextZ_item A1.leg A2.leg D hz hT hO t1 t2 p1 p2 (x := u) (y := v) (by simpa using hu) (by simpa using hv) fun g z1 O1 u1 u2 hN sz kp => ⟨_, rfl, wpAny_letOwnedTupleGo_zip (s := { s with heap := g }) z1 fun g2 z2 sb => ?_⟩
    have N2 : g2.get? s.heap.objs.size = some { cls := .type "tuple", data := .seq #[u, v] } := (sb.2 _ (Nat.ne_of_gt zl)).trans hN
    have new : ObjOk X.prog X.w (upd H s.heap.objs.size (.tup [x, y])) g2 s.heap.objs.size (.tup [x, y]) := ⟨by show 2 ≤ sizeLine; decide, [u, v], .cons r1 (.cons r2 .nil), ⟨_, N2, rfl, _, rfl⟩⟩
    have out : ∀ c, c ∉ [z, T, O, i, j] → c ≠ z ∧ c ≠ T ∧ c ≠ O ∧ c ≠ i ∧ c ≠ j := fun c h => by simpa using h
    have J : L2.Inv X pins σ (upd H s.heap.objs.size (.tup [x, y])) { s with heap := g2 } := I.turnedNew (t' := s.toks) (ch := [z, T, O, i, j]) (fun c o hb e => (sb.2 c (out c hb).1).trans (kp c o (out c hb).1 (out c hb).2.2.1 (out c hb).2.2.2.1 (out c hb).2.2.2.2 e)) hf (Nat.le_refl _) new
    refine ⟨.ref s.heap.objs.size, _, J, rfl, ⟨_, x, y, rfl, I.hok.fresh (Nat.le_refl _), rfl, fun a ha => by rw [A1.inj I ha hqx]; exact hx, fun a ha => by rw [A2.inj I ha hqy]; exact hy⟩, ⟨z2, (sb.2 _ D.TIz).trans (kp _ _ D.TIz D.TITO D.TIi1 D.TIi2 hT), ⟨u, v, (sb.2 _ D.TOz).trans O1⟩, ?_, ?_⟩, fun c hcm => ?_⟩
    · exact (A1.leg (prog := X.prog) (w := X.w) (xs := #[])).its u1 fun o e => (sb.2 _ D.i1z).trans e
    · exact (A2.leg (prog := X.prog) (w := X.w) (xs := #[])).its u2 fun o e => (sb.2 _ D.i2z).trans e
    · have lt : c < s.heap.objs.size := by
        rcases five hcm with rfl | rfl | rfl | rfl | rfl
        · exact zl
        · exact Heap.lt_size hT
        · exact Heap.lt_size hO
        · exact A1.lt t1
        · exact A2.lt t2
      rw [upd_ne (Nat.ne_of_lt lt)]
      exact (hf c hcm).1
  done := by
    rintro X rfl rfl rfl hc k pins s σ H E I hf ⟨hz, hT, ⟨x0, y0, hO⟩, t1, t2⟩ ⟨xs, ys, hqx, hqy, en⟩
    obtain ⟨us, ru, p1⟩ := A1.at_ I hqx
    obtain ⟨ws, rw_, p2⟩ := A2.at_ I hqy
    have l1 := ru.length
    have l2 := rw_.length
    have he : us.toArray[k]? = none ∨ ws.toArray[k]? = none := en.imp (fun h => by simp; omega) fun h => by simp; omega
    have out : ∀ c, c ∉ [z, T, O, i, j] → c ≠ z ∧ c ≠ T ∧ c ≠ O ∧ c ≠ i ∧ c ≠ j := fun c h => by simpa using h
    exact nextZ_end (I.ok.hd hc) A1.leg A2.leg D hz hT hO t1 t2 p1 p2 he fun g kp => ⟨rfl, I.turnedL (t' := s.toks) (ch := [z, T, O, i, j]) (fun c o hb e => kp c o (out c hb).1 (out c hb).2.2.1 (out c hb).2.2.2.1 (out c hb).2.2.2.2 e) hf⟩
  self := fun A k s Q E st h => wpAny_pyIter_zip st.1 h
/-- zip of two sequences, each a list or a tuple -/
def iZipX (K : PySem.W.Frag) (ta : TA) : TI := fun σ H R => ta σ H fun vs H1 => ∃ a b xs ys, vs = [.ref a, .ref b] ∧ ((SqL K H1 a xs ∧ SqL K H1 b ys ∧ R (Itz K a b) H1) ∨ (SqT K H1 a xs ∧ SqT K H1 b ys ∧ R (RZ.ItzT K a b) H1) ∨
  (SqL K H1 a xs ∧ SqT K H1 b ys ∧ R (ItzX (fun H xs => SqL K H a xs) (fun H xs => SqT K H b xs)) H1) ∨ (SqT K H1 a xs ∧ SqL K H1 b ys ∧ R (ItzX (fun H xs => SqT K H a xs) (fun H xs => SqL K H b xs)) H1))
theorem pi_zipX {X : Cx} {e e2 : Expr} {ta : TA} {p pos tpos : Pos} {elts : List Expr} {kk : Nat} (hg : Gl X "zip") (hm : X.mg "zip" = none) (ha : PA X [e, e2] ta) (hs : starEach [e, e2] X.env = (false, eval e X.env) :: starEach [e2] X.env := by rfl) (hpl : (backTo pos (starEach [e2] X.env)).any (·.1) = false := by rfl) :
    PI X (.Tuple elts kk tpos) (.Call (.Name "zip" p) [e, e2] [] pos) (iZipX X.K ta) := by
  refine ⟨fun pins s σ H R I h => Call_ (ld_blt I hg hm PyProof.Rows.boot_zip (PyProof.Rows.callWith_type1 (thn (ha.run pos pins s σ H _ I h) fun us s1 ⟨vs, H1, I1, r1, q1⟩ => ?_) hs hpl))⟩
  obtain ⟨a, b, xs, ys, rfl, q1⟩ := q1
  obtain ⟨u1, u2, rfl, rr1, rr2⟩ := vals2 r1
  cases rr1
  cases rr2
  have fr : ∀ c, c ∈ [s1.heap.objs.size + 4, s1.heap.objs.size + 2, s1.heap.objs.size + 3, s1.heap.objs.size, s1.heap.objs.size + 1] → L2.FpOk X pins H1 c := fun c hcm => by
    have le : s1.heap.objs.size ≤ c := by rcases five hcm with rfl | rfl | rfl | rfl | rfl <;> omega
    exact I1.fpOk le (I1.hok.fresh le)
  rcases q1 with ⟨hx, hy, q⟩ | ⟨hx, hy, q⟩ | ⟨hx, hy, q⟩ | ⟨hx, hy, q⟩
  · obtain ⟨i1, v1, p1, _⟩ := I1.list hx
    obtain ⟨i2, v2, p2, _⟩ := I1.list hy
    exact call_zip_2 p1.isList p2.isList fun g hz hT hO t1 t2 _ kp => wpAny_pyIter_zip hz ⟨_, _, _, _, H1, rfl, I1.kept (t' := s1.toks) kp, turn_zip (PySem.W.ktu_apart s1.heap.objs.size a b p1.lt p2.lt), ⟨hz, hT, ⟨_, _, hO⟩, t1, t2⟩, fr, q⟩
  · obtain ⟨i1, v1, p1, _⟩ := I1.tuple hx
    obtain ⟨i2, v2, p2, _⟩ := I1.tuple hy
    have l1 : a < s1.heap.objs.size := by obtain ⟨o, e, _⟩ := p1; exact Heap.lt_size e
    have l2 : b < s1.heap.objs.size := by obtain ⟨o, e, _⟩ := p2; exact Heap.lt_size e
    exact RZ.call_zipT p1 p2 fun g hz hT hO t1 t2 _ kp => wpAny_pyIter_zip hz ⟨_, _, _, _, H1, rfl, I1.kept (t' := s1.toks) kp, RZ.turn_zipT (PySem.W.ktu_apart s1.heap.objs.size a b l1 l2), ⟨hz, hT, ⟨_, _, hO⟩, t1, t2⟩, fr, q⟩
  · obtain ⟨i1, v1, p1, _⟩ := I1.list hx
    obtain ⟨i2, v2, p2, _⟩ := I1.tuple hy
    have l2 : b < s1.heap.objs.size := by obtain ⟨o, e, _⟩ := p2; exact Heap.lt_size e
    exact callZ_LT p1.isList p2 fun g hz hT hO t1 t2 _ kp => wpAny_pyIter_zip hz ⟨_, _, _, _, H1, rfl, I1.kept (t' := s1.toks) kp, turn_zipX (q1 := fun K H xs => SqL K H a xs) (q2 := fun K H xs => SqT K H b xs) Src.list Src.tup (PySem.W.ktu_apart s1.heap.objs.size a b p1.lt l2), ⟨hz, hT, ⟨_, _, hO⟩, t1, t2⟩, fr, q⟩
  · obtain ⟨i1, v1, p1, _⟩ := I1.tuple hx
    obtain ⟨i2, v2, p2, _⟩ := I1.list hy
    have l1 : a < s1.heap.objs.size := by obtain ⟨o, e, _⟩ := p1; exact Heap.lt_size e
    exact callZ_TL p1 p2.isList fun g hz hT hO t1 t2 _ kp => wpAny_pyIter_zip hz ⟨_, _, _, _, H1, rfl, I1.kept (t' := s1.toks) kp, turn_zipX (q1 := fun K H xs => SqT K H a xs) (q2 := fun K H xs => SqL K H b xs) Src.tup Src.list (PySem.W.ktu_apart s1.heap.objs.size a b l1 p2.lt), ⟨hz, hT, ⟨_, _, hO⟩, t1, t2⟩, fr, q⟩
end Fm

set_option maxHeartbeats 2000000
namespace Fm
open PySem PySem.Spec PyProof.Rows L2
/-! ### enumerate of a tuple -/
section
variable {prog : Program} {w : World} {A : Around} {E : Value → Shared → Prop} {s : Shared} {e j l : Addr} {p : Nat} {xs : Array Value} {x old : Value} {S1 : Heap → Nat → Prop} {R1 : Heap → Prop}
theorem enumL_item {Q : Value → Shared → Prop} (L1 : Leg prog w j l xs S1 R1) (he : IsEnum s.heap e j p old) (s1 : S1 s.heap p) (r1 : R1 s.heap) (hx : xs[p]? = some x) (ne : e ≠ j)
    (fin : ∀ g, IsEnumOut g e j ((p : Int) + 1) x s.heap.objs.size → S1 g (p + 1) → g.get? s.heap.objs.size = some { cls := .type "tuple", data := .seq #[.int p s.toks, x] } → g.objs.size = s.heap.objs.size + 1 → (∀ b o, b ≠ e → b ≠ j → s.heap.get? b = some o → g.get? b = some o) → Q (.ref s.heap.objs.size) { s with heap := g, toks := s.toks + 1 }) :
    wpAny (model prog w) A (Builtin.«enumerate.__next__» ⟨[.ref e], []⟩) (fun f s' => ∃ v, f = .done (.ret v) ∧ Q v s') E s := by
  obtain ⟨h0, g, d, tk, os⟩ := s
  (show wpAny _ _ (field (.ref e) 2 >>= _) _ _ _); (refine wpAny_bind (wpAny_field he rfl (x := .ref j) rfl ?_)); (refine wpAny_bind (L1.next s1 r1 hx fun h1 t1 (k1 : Heap.SameBut j h0 h1) => ?_))
  have e1 : IsEnum h1 e j p old := (k1.2 e ne).trans he
  (show wpAny _ _ (field (.ref e) 3 >>= _) _ _ ⟨h1, g, d, tk, os⟩); (refine wpAny_bind (wpAny_field e1 rfl (x := rawInt p) rfl ?_)); (show wpAny _ _ (field (.ref e) 4 >>= _) _ _ ⟨h1, g, d, tk, os⟩); (refine wpAny_bind (wpAny_field e1 rfl (x := .none) rfl ?_))
  (show wpAny _ _ (mkInt p >>= _) _ _ ⟨h1, g, d, tk, os⟩); (refine wpAny_bind (wpAny_mkInt ?_)); (show wpAny _ _ (setField (.ref e) 3 (rawInt ((p : Int) + 1)) >>= _) _ _ ⟨h1, g, d, tk + 1, os⟩)
  refine wpAny_bind (wpAny_setField_rec e1 (by simp) fun h2 (e2 : IsEnum h2 e j ((p : Int) + 1) old) (k2 : Heap.SameBut e h1 h2) => ?_)
  (show wpAny _ _ (setField (.ref e) 4 .none >>= _) _ _ ⟨h2, g, d, tk + 1, os⟩); refine wpAny_bind (wpAny_setField_rec e2 (by simp) fun h3 (e3 : IsEnum h3 e j ((p : Int) + 1) old) (k3 : Heap.SameBut e h2 h3) => ?_)
  (show wpAny _ _ (newTuple [.int p tk, x] >>= _) _ _ ⟨h3, g, d, tk + 1, os⟩); refine wpAny_bind (wpAny_newTuple ?_)
  have sz : h3.objs.size = h0.objs.size := k3.1.trans (k2.1.trans k1.1)
  have el : e < h0.objs.size := Heap.lt_size he
  obtain ⟨h4, q4⟩ : ∃ h4, h4 = h3.push { cls := .type "tuple", data := .seq #[.int p tk, x] } := ⟨_, rfl⟩
  have e4 : IsEnum h4 e j ((p : Int) + 1) old := by rw [q4]; exact Heap.get?_push_of_some _ e3
  have n4 : h4.get? h0.objs.size = some { cls := .type "tuple", data := .seq #[.int p tk, x] } := by rw [q4, ← sz]; exact Heap.get?_push_size _ rfl
  have z4 : h4.objs.size = h0.objs.size + 1 := by rw [q4, ← sz]; exact Heap.size_push ..
  have a4 : ∀ b o, b ≠ e → b ≠ j → h0.get? b = some o → h4.get? b = some o := fun b o b1 b2 h => by rw [q4]; exact Heap.get?_push_of_some _ (k3.extBut b o b1 (k2.extBut b o b1 (k1.extBut b o b2 h)))
  have t4 : S1 h4 (p + 1) := L1.its t1 fun o h => by rw [q4]; exact Heap.get?_push_of_some _ (k3.extBut _ o ne.symm (k2.extBut _ o ne.symm h))
  rw [sz, ← q4]
  (show wpAny _ _ (Builtin.SmallTypes.ownedTupleIsFree (.ref e) >>= _) _ _ ⟨h4, g, d, tk + 1, os⟩); refine wpAny_bind ?_; unfold Builtin.SmallTypes.ownedTupleIsFree
  (refine wpAny_bind (wpAny_field e4 rfl (x := .none) rfl (wpAny_pure ?_))); simp only [if_true]; (refine wpAny_bind (wpAny_rule ?_)); (refine wpAny_bind (wpAny_field e4 rfl (x := old) rfl ?_))
  refine wpAny_bind (wpAny_setField_rec e4 (by simp) fun h5 (e5 : IsEnum h5 e j ((p : Int) + 1) x) (k5 : Heap.SameBut e h4 h5) => ?_)
  (show wpAny _ _ (Builtin.SmallTypes.ownedTupleHandOut (.ref e) (.ref h0.objs.size) >>= _) _ _ ⟨h5, g, d, tk + 1, os⟩); refine wpAny_bind ?_; unfold Builtin.SmallTypes.ownedTupleHandOut
  refine wpAny_bind (wpAny_setField_rec e5 (by simp) fun h6 (e6 : IsEnumOut h6 e j ((p : Int) + 1) x h0.objs.size) (k6 : Heap.SameBut e h5 h6) => ?_)
  refine wpAny_setField_rec e6 (by simp) fun h7 (e7 : IsEnumOut h7 e j ((p : Int) + 1) x h0.objs.size) (k7 : Heap.SameBut e h6 h7) => ?_
  have up : ∀ b o, b ≠ e → h4.get? b = some o → h7.get? b = some o := fun b o n h => k7.extBut b o n (k6.extBut b o n (k5.extBut b o n h))
  exact wpAny_bind (wpAny_letGo (wpAny_pure ⟨_, rfl, fin h7 e7 (L1.its t4 fun o => up _ o ne.symm) (up _ _ (Nat.ne_of_gt el) n4) (k7.1.trans (k6.1.trans (k5.1.trans z4))) fun b o b1 b2 h => up b o b1 (a4 b o b1 b2 h)⟩))
theorem nextE_item {Q : Option Value → Shared → Prop} (L1 : Leg prog w j l xs S1 R1) (he : IsEnum s.heap e j p old) (s1 : S1 s.heap p) (r1 : R1 s.heap) (hx : xs[p]? = some x) (ne : e ≠ j)
    (fin : ∀ g, IsEnumOut g e j ((p : Int) + 1) x s.heap.objs.size → S1 g (p + 1) → g.get? s.heap.objs.size = some { cls := .type "tuple", data := .seq #[.int p s.toks, x] } → g.objs.size = s.heap.objs.size + 1 → (∀ b o, b ≠ e → b ≠ j → s.heap.get? b = some o → g.get? b = some o) → Q (some (.ref s.heap.objs.size)) { s with heap := g, toks := s.toks + 1 }) :
    wpAny (model prog w) A (pyNext (.ref e)) Q E s := by
  have ty : s.TypeIs (.ref e) "enumerate" := ⟨_, he, rfl⟩
  unfold pyNext; exact wpAny_bind (wpAny_attempt (wpAny_callSpecial?_slot (name := Str.ofString "__next__") ty F.slot_enumerate_next (wpAny_call_entry F.slot_enumerate_next ty F.entry_enumerate_next (enumL_item L1 he s1 r1 hx ne fun g a b c d k => wpAny_pure (fin g a b c d k)) (F.args_enumerate_next_1 _))))
theorem nextE_end {Q : Option Value → Shared → Prop} (hh : A.handled = none) (L1 : Leg prog w j l xs S1 R1) (he : IsEnum s.heap e j p old) (s1 : S1 s.heap p) (r1 : R1 s.heap) (hx : xs[p]? = none) (fin : ∀ g, Heap.ExtBut j s.heap g → Q none { s with heap := g }) : wpAny (model prog w) A (pyNext (.ref e)) Q E s := by
  have ty : s.TypeIs (.ref e) "enumerate" := ⟨_, he, rfl⟩
  unfold pyNext; refine wpAny_bind (wpAny_attempt (wpAny_callSpecial?_slot (name := Str.ofString "__next__") ty F.slot_enumerate_next (wpAny_call_entry F.slot_enumerate_next ty F.entry_enumerate_next ?_ (F.args_enumerate_next_1 _))))
  (show wpAny _ _ (field (.ref e) 2 >>= _) _ _ _); (refine wpAny_bind (wpAny_field he rfl (x := .ref j) rfl ?_)); refine wpAny_bind (L1.stop hh s1 r1 hx fun g y kp hy => ?_)
  obtain ⟨o, h1, h2⟩ := hy
  exact wpAny_bind (wpAny_isInstance (T := "StopIteration") (b := true) ⟨o, h1, h2⟩ isSubtype_stop (wpAny_pure (fin _ kp)))
end
end Fm
namespace Fm
open PySem PySem.Spec PyProof.Rows L2
def eh1 (h : Heap) (l : Addr) : Heap := h.push { cls := .type "tuple_iterator", data := .fields #[.ref l, .int 0 0] }
def eh2 (h : Heap) (l : Addr) : Heap := (eh1 h l).push { cls := .type "enumerate", data := .fields #[.none, .bool false, .ref h.objs.size, rawInt 0, .none, .none] }
theorem newE_T (l : Addr) (xs : Array Value) : Meets (Builtin.«enumerate.__new__» ⟨[.type "enumerate", .ref l], []⟩) (fun _ R s => s.heap.IsTuple l xs ∧ R (.ok (.ret (.ref (eh1 s.heap l).objs.size))) { s with heap := eh2 s.heap l }) :=
  .of_wp fun prog w A R s h => by
    (obtain ⟨hp, g, d, tk, os⟩ := s); (obtain ⟨a1, h⟩ := h); have hsub := sub_enumerate
    have k1 : Heap.IsTuple (Shared.heap ⟨hp, g, d, tk, os⟩) l xs := a1
    wp_walk using wpAny_pyIter_tuple k1
    refine wpAny_stack_any fun st => wpAny_pure ?_
    split
    · rename_i c _ _ _ _ _
      cases (c == Value.type "enumerate")
      · (wp_walk using wpAny_pyIter_tuple k1); exact ⟨_, rfl, h⟩
      · (wp_walk using wpAny_pyIter_tuple k1); exact ⟨_, rfl, h⟩
    · (wp_walk using wpAny_pyIter_tuple k1); exact ⟨_, rfl, h⟩
end Fm
namespace Fm
open PySem PySem.Spec PyProof.Rows L2
section
variable {prog : Program} {w : World} {A : Around} {E : Value → Shared → Prop} {s : Shared}
theorem callE_T {l : Addr} {xs : Array Value} {Q : Value → Shared → Prop} (h1 : s.heap.IsTuple l xs) (fin : ∀ g, IsEnum g (s.heap.objs.size + 1) s.heap.objs.size 0 .none → g.IsTupleIter s.heap.objs.size l 0 → g.objs.size = s.heap.objs.size + 2 → (∀ b o, s.heap.get? b = some o → g.get? b = some o) → Q (.ref (s.heap.objs.size + 1)) { s with heap := g }) :
    wpAny (model prog w) A (call (.type "enumerate") [.ref l]) Q E s := by
  refine callType_new F.called_enumerate (by decide) (F.typeCall_enumerate_1 _) (F.newCall_enumerate_1 _) (fun obj => F.args_object_init_2 obj _) F.entry_enumerate_new (newE_T l xs) ⟨h1, ?_⟩
  have n1 : (eh1 s.heap l).objs.size = s.heap.objs.size + 1 := Heap.size_push ..
  have n2 : (eh2 s.heap l).objs.size = s.heap.objs.size + 2 := (Heap.size_push ..).trans (by rw [n1])
  have f2 : (eh2 s.heap l).get? (eh1 s.heap l).objs.size = some { cls := .type "enumerate", data := .fields #[.none, .bool false, .ref s.heap.objs.size, rawInt 0, .none, .none] } := Heap.get?_push_size _ rfl
  have f1 : (eh2 s.heap l).get? s.heap.objs.size = some { cls := .type "tuple_iterator", data := .fields #[.ref l, .int 0 0] } := Heap.get?_push_of_some _ (Heap.get?_push_size _ rfl)
  rw [n1] at f2
  rw [n1]
  exact ⟨⟨_, f2, rfl⟩, fin _ f2 ⟨_, f1, rfl, rfl⟩ n2 fun b o e => Heap.get?_push_of_some _ (Heap.get?_push_of_some _ e)⟩
end
/-- a sequence as it stands at each turn (by the reader q), each item in a new pair behind its index -/
def IteX (q : Hp → List V → Prop) : It :=
  ⟨fun i H => ∃ (xs : List V) (x : V), q H xs ∧ xs[i]? = some x, fun i H v H' => ∃ T x, v = .ref T ∧ H T = none ∧ H' = upd H T (.tup [.int (i : Nat), x]) ∧ ∀ xs, q H xs → xs[i]? = some x, fun i H => ∃ xs : List V, q H xs ∧ xs.length ≤ i⟩
theorem turn_enumX {P : Program} {w : World} {K : PySem.W.Frag} {elts : List Expr} {kk : Nat} {tpos : Pos} {l e j : Addr} {q1 : PySem.W.Frag → Hp → List V → Prop} {S1 : Heap → Nat → Prop} {R1 : Array Value → Heap → Prop} (A1 : Src l j q1 S1 R1) (ne : e ≠ j) :
    L2.Turn P w K (.Tuple elts kk tpos) (IteX (q1 K)) [e, j] e (fun k h => (∃ old, IsEnum h e j ((k : Nat) : Int) old) ∧ S1 h k) where
  mem := List.mem_cons_self ..
  obj := fun k h ⟨⟨old, he⟩, t1⟩ b hb => by
    have hb' : b = e ∨ b = j := by simpa using hb
    rcases hb' with rfl | rfl
    · exact ⟨_, he, fun v => nofun⟩
    · exact A1.obj t1
  keep := fun k h g ⟨⟨old, he⟩, t1⟩ kp => ⟨⟨old, kp e (by simp) _ he⟩, (A1.leg (prog := P) (w := w) (xs := #[])).its t1 fun o => kp j (by simp) o⟩
  item := by
    rintro X rfl rfl rfl hc k pins s σ H E I hf ⟨⟨old, he⟩, t1⟩ ⟨xs, x, hq, hx⟩
    obtain ⟨us, ru, p1⟩ := A1.at_ I hq
    obtain ⟨u, hu, r1⟩ := ru.get hx
    have el : e < s.heap.objs.size := Heap.lt_size he
    refine nextE_item A1.leg he t1 p1 (x := u) (by simpa using hu) ne fun g go u1 hN sz kp => ⟨_, rfl, wpAny_letOwnedTupleGo_enum (s := { s with heap := g, toks := s.toks + 1 }) go fun g2 e2 sb => ?_⟩
    have N2 : g2.get? s.heap.objs.size = some { cls := .type "tuple", data := .seq #[.int k s.toks, u] } := (sb.2 _ (Nat.ne_of_gt el)).trans hN
    have new : ObjOk X.prog X.w (upd H s.heap.objs.size (.tup [.int (k : Nat), x])) g2 s.heap.objs.size (.tup [.int (k : Nat), x]) := ⟨by show 2 ≤ sizeLine; decide, [.int k s.toks, u], .cons ⟨_, rfl⟩ (.cons r1 .nil), ⟨_, N2, rfl, _, rfl⟩⟩
    have out : ∀ b, b ∉ [e, j] → b ≠ e ∧ b ≠ j := fun b h => by simpa using h
    have J : L2.Inv X pins σ (upd H s.heap.objs.size (.tup [.int (k : Nat), x])) { s with heap := g2, toks := s.toks + 1 } := I.turnedNew (ch := [e, j]) (fun b o hb h => (sb.2 b (out b hb).1).trans (kp b o (out b hb).1 (out b hb).2 h)) hf (Nat.le_refl _) new
    refine ⟨.ref s.heap.objs.size, _, J, rfl, ⟨_, x, rfl, I.hok.fresh (Nat.le_refl _), rfl, fun a ha => by rw [A1.inj I ha hq]; exact hx⟩, ⟨⟨u, by rw [show ((k + 1 : Nat) : Int) = (k : Int) + 1 by omega]; exact e2⟩, (A1.leg (prog := X.prog) (w := X.w) (xs := #[])).its u1 fun o h => (sb.2 _ ne.symm).trans h⟩, fun b hb => ?_⟩
    have lt : b < s.heap.objs.size := by
      have hb' : b = e ∨ b = j := by simpa using hb
      rcases hb' with rfl | rfl
      · exact el
      · exact A1.lt t1
    rw [upd_ne (Nat.ne_of_lt lt)]
    exact (hf b hb).1
  done := by
    rintro X rfl rfl rfl hc k pins s σ H E I hf ⟨⟨old, he⟩, t1⟩ ⟨xs, hq, en⟩
    obtain ⟨us, ru, p1⟩ := A1.at_ I hq
    obtain ⟨f0, f1, f2, f3, f4, f5⟩ := hf j (by simp)
    have l1 := ru.length
    exact nextE_end (I.ok.hd hc) A1.leg he t1 p1 (by simp; omega) fun g kp => ⟨rfl, I.turned (t' := s.toks) (fun b o hb h => kp b o hb h) f0 f1 f3 f4 f5⟩
  self := fun A k s Q E st h => let ⟨⟨_, he⟩, _⟩ := st; wpAny_pyIter_enum he h
def iEnumX (K : PySem.W.Frag) (ta : TA) : TI := fun σ H R => ta σ H fun vs H1 => ∃ a xs, vs = [.ref a] ∧ ((SqL K H1 a xs ∧ R (Ite K a) H1) ∨ (SqT K H1 a xs ∧ R (IteX fun H xs => SqT K H a xs) H1))
theorem pi_enumX {X : Cx} {e : Expr} {ta : TA} {p pos tpos : Pos} {elts : List Expr} {kk : Nat} (hg : Gl X "enumerate") (hm : X.mg "enumerate" = none) (ha : PA X [e] ta) (hs : starEach [e] X.env = [(false, eval e X.env)] := by rfl) :
    PI X (.Tuple elts kk tpos) (.Call (.Name "enumerate" p) [e] [] pos) (iEnumX X.K ta) := by
  refine ⟨fun pins s σ H R I h => Call_ (ld_blt I hg hm boot_enumerate (PyProof.Rows.callWith_type1 (thn (ha.run pos pins s σ H _ I h) fun us s1 ⟨vs, H1, I1, r1, q1⟩ => ?_) hs rfl))⟩
  obtain ⟨a, xs, rfl, q1⟩ := q1
  obtain ⟨u1, rfl, rr1⟩ := vals1 r1
  cases rr1
  have fr : ∀ b, b ∈ [s1.heap.objs.size + 1, s1.heap.objs.size] → L2.FpOk X pins H1 b := fun b hb => by
    have hb' : b = s1.heap.objs.size + 1 ∨ b = s1.heap.objs.size := by simpa using hb
    have le : s1.heap.objs.size ≤ b := by omega
    exact I1.fpOk le (I1.hok.fresh le)
  rcases q1 with ⟨hq, q⟩ | ⟨hq, q⟩
  · obtain ⟨its, rv, p1, _⟩ := I1.list hq
    exact call_enumerate_list p1.isList fun g he hit _ kp => wpAny_pyIter_enum he ⟨_, _, _, _, H1, rfl, I1.kept (t' := s1.toks) kp, turn_enum a (s1.heap.objs.size + 1) s1.heap.objs.size, ⟨⟨.none, he⟩, hit, Nat.succ_ne_self _⟩, fr, q⟩
  · obtain ⟨its, rv, p1, _⟩ := I1.tuple hq
    exact callE_T p1 fun g he hit _ kp => wpAny_pyIter_enum he ⟨_, _, _, _, H1, rfl, I1.kept (t' := s1.toks) kp, turn_enumX (q1 := fun K H xs => SqT K H a xs) Src.tup (Nat.succ_ne_self _), ⟨⟨.none, he⟩, hit⟩, fr, q⟩
end Fm

set_option maxHeartbeats 2000000
namespace Fm
open PySem PySem.Spec PyProof.Rows L2
/-! ### walks over what may be a list or a tuple -/
def Dt.seq (d : Dt) (l : List Dt) : Prop := d = .lst l ∨ d = .tup l
section
variable {G : Gs} {E : XK} {K : PySem.W.Frag}
/-- q reads, wherever Hc still stands, the items of l -/
structure Rd1 (G : Gs) (q : Hp → List V → Prop) (vs : List V) (l : List Dt) (Hc : Hp) : Prop where
  has : ∀ Y H, Ex Hc (cut Y H) → q H vs
  dv : DtVs G Hc vs l
theorem Rd1.list {p : Addr} {vs : List V} {l : List Dt} {Hc : Hp} (h : Hc p = some (.lst vs)) (r : DtVs G Hc vs l) : Rd1 G (fun H xs => SqL K H p xs) vs l Hc := ⟨fun Y H e => SqL.of (cut_some.mp (e _ _ h)).2, r⟩
theorem Rd1.tup {p : Addr} {vs : List V} {l : List Dt} {Hc : Hp} (h : Hc p = some (.tup vs)) (r : DtVs G Hc vs l) : Rd1 G (fun H xs => SqT K H p xs) vs l Hc := ⟨fun Y H e => SqT.of (cut_some.mp (e _ _ h)).2, r⟩
theorem Wk.zipQ {q1 q2 : Hp → List V → Prop} {vs ws : List V} {l m : List Dt} {Hc : Hp} {J : It} (a : Rd1 G q1 vs l Hc) (b : Rd1 G q2 ws m Hc)
    (hg : ∀ i H, (∃ (xs ys : List V) (x y : V), q1 H xs ∧ q2 H ys ∧ xs[i]? = some x ∧ ys[i]? = some y) → J.go i H) (hs : ∀ i H, (∃ xs ys : List V, q1 H xs ∧ q2 H ys ∧ (xs.length ≤ i ∨ ys.length ≤ i)) → J.stop i H)
    (hy : ∀ i H v H', J.yld i H v H' → ∃ T x y, v = .ref T ∧ H T = none ∧ H' = upd H T (.tup [x, y]) ∧ (∀ xs, q1 H xs → xs[i]? = some x) ∧ ∀ ys, q2 H ys → ys[i]? = some y) : Wk G J ((l.zip m).map fun e => Dt.tup [e.1, e.2]) Hc where
  go := fun i Y H e hi => by
    rw [List.length_map, List.length_zip] at hi
    have hl : i < vs.length := by rw [a.dv.length]; omega
    have hl2 : i < ws.length := by rw [b.dv.length]; omega
    exact hg i H ⟨vs, ws, vs[i], ws[i], a.has Y H e, b.has Y H e, List.getElem?_eq_getElem hl, List.getElem?_eq_getElem hl2⟩
  stop := fun Y H e => hs _ H ⟨vs, ws, a.has Y H e, b.has Y H e, by rw [List.length_map, List.length_zip, a.dv.length, b.dv.length]; omega⟩
  yld := fun i Y H x H' d e hY y hd => by
    obtain ⟨T, y, z, rfl, hT, rfl, hx, hz⟩ := hy i H x H' y
    rw [List.getElem?_map] at hd
    cases hl : (l.zip m)[i]? with
    | none => rw [hl] at hd; cases hd
    | some d0 =>
      rw [hl] at hd
      injection hd with hd
      subst hd
      obtain ⟨k1, k2⟩ := List.getElem?_zip_eq_some.mp hl
      obtain ⟨v, hv, dv⟩ := a.dv.atR k1
      obtain ⟨w, hw, dw⟩ := b.dv.atR k2
      have a1 := hx vs (a.has Y H e)
      have a2 := hz ws (b.has Y H e)
      rw [hv] at a1; rw [hw] at a2
      cases a1; cases a2
      exact ⟨Ex.new hT, .tup (cut_some.mpr ⟨fun w => hY T w hT, upd_same⟩) (.cons ((dv.mono e).mono (cut_grow (Ex.new hT))) (.cons ((dw.mono e).mono (cut_grow (Ex.new hT))) .nil))⟩
abbrev F_zipX (A : FA) : FI := fun ρ K X => A ρ (fun ds ρ' => ∃ d1 d2 l m, ds = [d1, d2] ∧ d1.seq l ∧ d2.seq m ∧ K ((l.zip m).map fun e => Dt.tup [e.1, e.2]) ρ') X
theorem PUI.zipX {t : TA} {A : FA} (a : PUA G E t A) : PUI G E (iZipX K t) (F_zipX A) where
  run := fun S h => a.run S (a.mono (fun ds ρ' ⟨d1, d2, l, m, hd, s1, s2, k⟩ v H' S' e hv => by
    subst hd
    cases hv with
    | cons h1 r => cases r with
      | cons h2 r =>
        cases r
        rcases s1 with rfl | rfl <;> rcases s2 with rfl | rfl
        · cases h1 with
          | lst hp r => cases h2 with
            | lst hp2 r2 => exact ⟨_, _, _, _, rfl, .inl ⟨SqL.of (cut_some.mp hp).2, SqL.of (cut_some.mp hp2).2, k _ H' S' e (Wk.zipQ (Rd1.list (K := K) hp r) (Rd1.list (K := K) hp2 r2) (fun _ _ h => h) (fun _ _ h => h) fun _ _ _ _ h => h)⟩⟩
        · cases h1 with
          | lst hp r => cases h2 with
            | tup hp2 r2 => exact ⟨_, _, _, _, rfl, .inr (.inr (.inl ⟨SqL.of (cut_some.mp hp).2, SqT.of (cut_some.mp hp2).2, k _ H' S' e (Wk.zipQ (Rd1.list (K := K) hp r) (Rd1.tup (K := K) hp2 r2) (fun _ _ h => h) (fun _ _ h => h) fun _ _ _ _ h => h)⟩))⟩
        · cases h1 with
          | tup hp r => cases h2 with
            | lst hp2 r2 => exact ⟨_, _, _, _, rfl, .inr (.inr (.inr ⟨SqT.of (cut_some.mp hp).2, SqL.of (cut_some.mp hp2).2, k _ H' S' e (Wk.zipQ (Rd1.tup (K := K) hp r) (Rd1.list (K := K) hp2 r2) (fun _ _ h => h) (fun _ _ h => h) fun _ _ _ _ h => h)⟩))⟩
        · cases h1 with
          | tup hp r => cases h2 with
            | tup hp2 r2 => exact ⟨_, _, _, _, rfl, .inr (.inl ⟨SqT.of (cut_some.mp hp).2, SqT.of (cut_some.mp hp2).2, k _ H' S' e (Wk.zipQ (Rd1.tup (K := K) hp r) (Rd1.tup (K := K) hp2 r2) (fun _ _ h => h) (fun _ _ h => h) fun _ _ _ _ h => h)⟩)⟩) (fun _ x => x) h)
  mono := fun m x h => a.mono (fun _ _ ⟨d1, d2, l, n, hd, s1, s2, k⟩ => ⟨d1, d2, l, n, hd, s1, s2, m _ _ k⟩) x h
theorem Wk.enumQ {q1 : Hp → List V → Prop} {vs : List V} {l : List Dt} {Hc : Hp} {J : It} (a : Rd1 G q1 vs l Hc) (hg : ∀ i H, (∃ (xs : List V) (x : V), q1 H xs ∧ xs[i]? = some x) → J.go i H) (hs : ∀ i H, (∃ xs : List V, q1 H xs ∧ xs.length ≤ i) → J.stop i H)
    (hy : ∀ i H v H', J.yld i H v H' → ∃ T x, v = .ref T ∧ H T = none ∧ H' = upd H T (.tup [.int ((i : Nat) : Int), x]) ∧ ∀ xs, q1 H xs → xs[i]? = some x) : Wk G J (l.zipIdx.map fun e => Dt.tup [.int (e.2 : Int), e.1]) Hc where
  go := fun i Y H e hi => by
    have hl : i < vs.length := by rw [a.dv.length]; rw [List.length_map, List.length_zipIdx] at hi; exact hi
    exact hg i H ⟨vs, vs[i], a.has Y H e, List.getElem?_eq_getElem hl⟩
  stop := fun Y H e => hs _ H ⟨vs, a.has Y H e, by rw [List.length_map, List.length_zipIdx]; exact Nat.le_of_eq a.dv.length⟩
  yld := fun i Y H x H' d e hY y hd => by
    obtain ⟨T, y, rfl, hT, rfl, hx⟩ := hy i H x H' y
    rw [List.getElem?_map, List.getElem?_zipIdx] at hd
    cases hl : l[i]? with
    | none => rw [hl] at hd; cases hd
    | some d0 =>
      rw [hl] at hd
      injection hd with hd
      subst hd
      obtain ⟨v, hv, dv⟩ := a.dv.atR hl
      have := hx vs (a.has Y H e)
      rw [hv] at this
      cases this
      refine ⟨Ex.new hT, .tup (cut_some.mpr ⟨fun w => hY T w hT, upd_same⟩) (.cons ?_ (.cons ((dv.mono e).mono (cut_grow (Ex.new hT))) .nil))⟩
      show DtV G _ _ (.int ((0 + i : Nat) : Int))
      rw [Nat.zero_add]
      exact .int _
abbrev F_enumX (A : FA) : FI := fun ρ K X => A ρ (fun ds ρ' => ∃ d1 l, ds = [d1] ∧ d1.seq l ∧ K (l.zipIdx.map fun e => Dt.tup [.int (e.2 : Int), e.1]) ρ') X
theorem PUI.enumX {t : TA} {A : FA} (a : PUA G E t A) : PUI G E (iEnumX K t) (F_enumX A) where
  run := fun S h => a.run S (a.mono (fun ds ρ' ⟨d1, l, hd, s1, k⟩ v H' S' e hv => by
    subst hd
    cases hv with
    | cons h1 r =>
      cases r
      rcases s1 with rfl | rfl
      · cases h1 with
        | lst hp r => exact ⟨_, _, rfl, .inl ⟨SqL.of (cut_some.mp hp).2, k _ H' S' e (Wk.enumQ (Rd1.list (K := K) hp r) (fun _ _ h => h) (fun _ _ h => h) fun _ _ _ _ h => h)⟩⟩
      · cases h1 with
        | tup hp r => exact ⟨_, _, rfl, .inr ⟨SqT.of (cut_some.mp hp).2, k _ H' S' e (Wk.enumQ (Rd1.tup (K := K) hp r) (fun _ _ h => h) (fun _ _ h => h) fun _ _ _ _ h => h)⟩⟩) (fun _ x => x) h)
  mono := fun m x h => a.mono (fun _ _ ⟨d1, l, hd, s1, k⟩ => ⟨d1, l, hd, s1, m _ _ k⟩) x h
end
end Fm

set_option maxHeartbeats 2000000
namespace Fm
open PySem PySem.Spec PyProof.Rows L2
/-! ### isinstance, by data -/
def Dt.tag : Dt → Da
  | .non => .non
  | .bl b => .bl b
  | .int i => .int i
  | .str s => .str s
  | .rat q => .rat q
  | .lst _ => .lst []
  | .tup _ => .tup []
  | .dic _ => .dic []
  | .scl _ => .non
def Dt.isLT : Dt → Bool
  | .lst _ => true
  | .tup _ => true
  | _ => false
def Dt.isRat : Dt → Bool
  | .rat _ => true
  | _ => false
def Dt.isBl : Dt → Bool
  | .bl _ => true
  | _ => false
def Dt.isLst : Dt → Bool
  | .lst _ => true
  | _ => false
def Dt.isDic : Dt → Bool
  | .dic _ => true
  | _ => false
def Dt.isScl : Dt → Bool
  | .scl _ => true
  | _ => false
section
variable {G : Gs} {E : XK} {K : PySem.W.Frag}
theorem Dt.tag_ty {d : Dt} (h : d.kind = true) : d.ty G = d.tag.ty G.R := by cases d <;> first | rfl | cases h
def onKind (g : Dt → Bool) (d : Dt) : Option Bool := if d.kind = true then some (g d) else none
theorem onKind_some {g : Dt → Bool} {d : Dt} {b : Bool} (h : onKind g d = some b) : d.kind = true ∧ g d = b := by
  unfold onKind at h
  by_cases hk : d.kind = true
  · rw [if_pos hk] at h; exact ⟨hk, by simpa using h⟩
  · rw [if_neg hk] at h; cases h
theorem onKind_of {g : Dt → Bool} {d : Dt} (h : d.kind = true) : onKind g d = some (g d) := by unfold onKind; rw [if_pos h]
theorem PU.isLT {t : TE} {A : FE} (R : RC K G.R) (R2 : RC2 K G.R) (a : PU G E t A) : PU G E (tCB (rIsiT K) (tCons t (tCons (tTup (tCons (tC (.ty "list")) (tCons (tC (.ty "tuple")) tNil))) tNil))) (F_isi (onKind Dt.isLT) A) :=
  PU.isiT (.ty _) (.ty _) (fun H v d b hv hb => by
    obtain ⟨hk, rfl⟩ := onKind_some hb
    refine ⟨_, hv.tyk R hk, ?_⟩
    rw [Dt.tag_ty hk, kit_lt R2]
    cases d <;> first | rfl | cases hk) a
theorem PU.isRat {t : TE} {A : FE} (R : RC K G.R) (a : PU G E t A) : PU G E (tCB (rIsi K) (tCons t (tCons (tC (.ref G.R)) tNil))) (F_isi (onKind Dt.isRat) A) :=
  PU.isi (.own _) (fun H v d b hv hb => by
    obtain ⟨hk, rfl⟩ := onKind_some hb
    refine ⟨_, hv.tyk R hk, ?_⟩
    rw [Dt.tag_ty hk, kit_rat R]
    cases d <;> first | (simp [Dt.tag, Da.ty, Dt.isRat]; done) | cases hk) a
theorem PU.isLst {t : TE} {A : FE} (R : RC K G.R) (R2 : RC2 K G.R) (a : PU G E t A) : PU G E (tCB (rIsi K) (tCons t (tCons (tC (.ty "list")) tNil))) (F_isi (onKind Dt.isLst) A) :=
  PU.isi (.ty _) (fun H v d b hv hb => by
    obtain ⟨hk, rfl⟩ := onKind_some hb
    refine ⟨_, hv.tyk R hk, ?_⟩
    rw [Dt.tag_ty hk, kit_lst R2]
    cases d <;> first | rfl | cases hk) a
theorem PU.isDic {t : TE} {A : FE} (R : RC K G.R) (R2 : RC2 K G.R) (a : PU G E t A) : PU G E (tCB (rIsi K) (tCons t (tCons (tC (.ty "dict")) tNil))) (F_isi (onKind Dt.isDic) A) :=
  PU.isi (.ty _) (fun H v d b hv hb => by
    obtain ⟨hk, rfl⟩ := onKind_some hb
    refine ⟨_, hv.tyk R hk, ?_⟩
    rw [Dt.tag_ty hk, kit_dic R2]
    cases d <;> first | rfl | cases hk) a
/-- the class of the Ratios is no bool -/
structure RC4 (K : PySem.W.Frag) (C : Addr) : Prop where
  bl : PySem.W.subIn K (.ref C) (.type "bool") = some false
theorem PU.isBl {t : TE} {A : FE} (R : RC K G.R) (R4 : RC4 K G.R) (a : PU G E t A) : PU G E (tCB (rIsi K) (tCons t (tCons (tC (.ty "bool")) tNil))) (F_isi (onKind Dt.isBl) A) :=
  PU.isi (.ty _) (fun H v d b hv hb => by
    obtain ⟨hk, rfl⟩ := onKind_some hb
    refine ⟨_, hv.tyk R hk, ?_⟩
    rw [Dt.tag_ty hk]
    cases d <;> first | (cases hk; done) | exact kit_ty (r := true) (by decide +kernel) | exact kit_ty (r := false) (by decide +kernel) | exact kit_ref (by decide +kernel) R4.bl) a
def Dt.isIR : Dt → Bool
  | .int _ => true
  | .bl _ => true
  | .rat _ => true
  | _ => false
theorem PU.isIR {t : TE} {A : FE} (R : RC K G.R) (a : PU G E t A) : PU G E (tCB (rIsiT K) (tCons t (tCons (tTup (tCons (tC (.ty "int")) (tCons (tC (.ref G.R)) tNil))) tNil))) (F_isi (onKind Dt.isIR) A) :=
  PU.isiT (.ty _) (.own _) (fun H v d b hv hb => by
    obtain ⟨hk, rfl⟩ := onKind_some hb
    refine ⟨_, hv.tyk R hk, ?_⟩
    have h1 := kit_int R (d.kty (G := G) hk)
    have h2 := kit_own R (d.kty (G := G) hk)
    unfold PySem.W.kitAny
    rw [h1]
    cases d <;> first
      | (cases hk; done)
      | rfl
      | (unfold PySem.W.kitAny; rw [h2]; first | rfl | (simp [Dt.ty, Dt.isIR, PySem.W.kitAny]; done) | (simp [Dt.ty, Dt.isIR, PySem.W.kitAny]; generalize (_ || _) = c; cases c <;> rfl))) a
/-! ### == of told data -/
mutual
def Dt.py : Dt → Option PyData
  | .non => some .none
  | .bl b => some (.bool b)
  | .int i => some (.int i)
  | .str s => some (.str s)
  | .lst l => (pyL l).map PyData.list
  | .tup l => (pyL l).map PyData.tuple
  | _ => none
def pyL : List Dt → Option (List PyData)
  | [] => some []
  | d :: r => match d.py, pyL r with
    | some x, some y => some (x :: y)
    | _, _ => none
end
mutual
theorem DtV.dp {H : Hp} : ∀ {v : V} {d : Dt} {y : PyData}, DtV G H v d → d.py = some y → Dp K H v y
  | _, _, _, .non, h => by unfold Dt.py at h; cases h; exact .non
  | _, _, _, .bl b, h => by unfold Dt.py at h; cases h; exact .bl b
  | _, _, _, .int i, h => by unfold Dt.py at h; cases h; exact .int i
  | _, _, _, .str s, h => by unfold Dt.py at h; cases h; exact .str s
  | _, _, _, .rat _, h => by unfold Dt.py at h; cases h
  | _, _, _, .lst hp r, h => by
    unfold Dt.py at h
    cases e : pyL _ with
    | none => rw [e] at h; cases h
    | some ys => rw [e] at h; cases h; exact .lst (SqL.of hp) (DtVs.dp r e)
  | _, _, _, .tup hp r, h => by
    unfold Dt.py at h
    cases e : pyL _ with
    | none => rw [e] at h; cases h
    | some ys => rw [e] at h; cases h; exact .tup (SqT.of hp) (DtVs.dp r e)
  | _, _, _, .dic _ _, h => by unfold Dt.py at h; cases h
  | _, _, _, .scl _ _ _, h => by unfold Dt.py at h; cases h
theorem DtVs.dp {H : Hp} : ∀ {vs : List V} {ds : List Dt} {ys : List PyData}, DtVs G H vs ds → pyL ds = some ys → DpAll K H vs ys
  | _, _, _, .nil, h => by unfold pyL at h; cases h; exact .nil
  | _, _, _, .cons h1 r, h => by
    unfold pyL at h
    split at h
    · rename_i x y e1 e2
      cases h
      exact .cons (DtV.dp h1 e1) (DtVs.dp r e2)
    · cases h
end
abbrev O_eqD (ne : Bool) : O2 := fun d e K => ∃ x y, d.py = some x ∧ e.py = some y ∧ SeqAt.shaped x = true ∧ SeqAt.shaped y = true ∧ K (.bl (if ne = true then !PyData.eqv x y else PyData.eqv x y))
theorem RD.eqD : RD G (rEqD K) (O_eqD false) where
  run := fun hx h1 h2 ⟨x, y, e1, e2, s1, s2, k⟩ => ⟨x, y, DtV.dp h1.whole e1, DtV.dp h2.whole e2, s1, s2, k _ _ (Ex.refl _) (.bl _)⟩
  mono := fun m ⟨x, y, e1, e2, s1, s2, k⟩ => ⟨x, y, e1, e2, s1, s2, m _ k⟩
theorem RD.neD : RD G (rNeD K) (O_eqD true) where
  run := fun hx h1 h2 ⟨x, y, e1, e2, s1, s2, k⟩ => ⟨x, y, DtV.dp h1.whole e1, DtV.dp h2.whole e2, s1, s2, k _ _ (Ex.refl _) (.bl _)⟩
  mono := fun m ⟨x, y, e1, e2, s1, s2, k⟩ => ⟨x, y, e1, e2, s1, s2, m _ k⟩
end
end Fm

set_option maxHeartbeats 2000000
namespace Fm
open PySem PySem.Spec PyProof.Rows L2
/-! ### numbers in lists -/
/-- the items of a list or a tuple; nothing else has any -/
def Dt.items : Dt → List Dt
  | .lst l => l
  | .tup l => l
  | _ => []
def Dt.numsB (d : Dt) : Bool := d.isLT && d.items.all Dt.isNum
theorem Dt.seq_items {d : Dt} {l : List Dt} (h : d.seq l) : d.items = l ∧ d.isLT = true := by rcases h with rfl | rfl <;> exact ⟨rfl, rfl⟩
theorem Dt.seq_of {d : Dt} (h : d.isLT = true) : d.seq d.items := by cases d <;> first | exact .inl rfl | exact .inr rfl | cases h
/-- a value that may be handed in: its items are no scales, not too many, its numbers not too great -/
structure Dt.Ok (k : Nat) (d : Dt) : Prop where
  kd : d.kind = true
  ik : ∀ x ∈ d.items, x.kind = true
  len : d.items.length ≤ 1000
  sz : ∀ x ∈ d.items, Sz k x.num
def nums (l : List Dt) : List Rat := l.map Dt.num
def fdNums : FD where
  pre := fun ds => ∃ d, ds = [d] ∧ d.kind = true ∧ (∀ x ∈ d.items, x.kind = true) ∧ d.items.length ≤ 1000
  post := fun ds r => ∃ d, ds = [d] ∧ r = .bl d.numsB
/-- a sum from the left -/
theorem sumR_nil : sumR [] = 0 := rfl
theorem sumR_snoc (l : List Rat) (q : Rat) : sumR (l ++ [q]) = sumR l + q := by unfold sumR; rw [List.foldl_append]; rfl
theorem foldl_sz {k : Nat} : ∀ (l : List Rat) (acc : Rat) (c : Nat), Sz c acc → (∀ q ∈ l, Sz k q) → Sz ((k + 1) * l.length + c) (l.foldl (· + ·) acc)
  | [], acc, c, h, _ => by simpa using h
  | q :: l, acc, c, h, hq => by
    refine sz_le' (foldl_sz l (acc + q) (c + k + 1) (h.add' (hq q (by simp))) fun x hx => hq x (List.mem_cons_of_mem _ hx)) ?_
    rw [List.length_cons, Nat.mul_succ]
    omega
theorem sumR_sz {k : Nat} (l : List Rat) (h : ∀ q ∈ l, Sz k q) : Sz ((k + 1) * l.length + 1) (sumR l) := foldl_sz l 0 1 (Sz.zero (by omega)) h
def fdTotal : FD where
  pre := fun ds => ∃ d l k, ds = [d] ∧ d.seq l ∧ l.all Dt.isNum = true ∧ (∀ x ∈ l, Sz k x.num) ∧ (k + 1) * (l.length + 1) ≤ 3000
  post := fun ds r => ∃ d l, ds = [d] ∧ d.seq l ∧ r = .rat (sumR (nums l))
/-- products, place by place, summed -/
def dotR (ps qs : List Rat) : Rat := sumR ((ps.zip qs).map fun e => e.1 * e.2)
def fdWeighed : FD where
  pre := fun ds => ∃ d e l m k, ds = [d, e] ∧ d.seq l ∧ e.seq m ∧ l.all Dt.isNum = true ∧ m.all Dt.isNum = true ∧ (∀ x ∈ l, Sz k x.num) ∧ (∀ x ∈ m, Sz k x.num) ∧ (k + k + 1) * (l.length + 1) ≤ 3000
  post := fun ds r => ∃ d e l m, ds = [d, e] ∧ d.seq l ∧ e.seq m ∧ r = .rat (dotR (nums l) (nums m))
theorem allNum_mem {l : List Dt} (h : l.all Dt.isNum = true) {x : Dt} (hx : x ∈ l) : x.isNum = true := List.all_eq_true.mp h x hx
theorem num_kind {d : Dt} (h : d.isNum = true) : d.kind = true := by cases d <;> first | rfl | cases h
theorem len_small {k n : Nat} (h : (k + 1) * (n + 1) ≤ 3000) : n ≤ 3000 := by
  have : n + 1 ≤ (k + 1) * (n + 1) := Nat.le_mul_of_pos_left _ (by omega)
  omega
end Fm
namespace Fm
open PySem PySem.Spec PyProof.Rows L2
/-! ### lots and curves -/
def curveB (d : Dt) (n : Nat) : Bool := d.numsB && decide (d.items.length = n)
def lotB (d : Dt) (n : Nat) : Bool := curveB d n && d.items.all (fun x => decide (0 ≤ x.num.num)) && decide (sumR (nums d.items) = 1)
theorem numsB_all {d : Dt} (h : d.numsB = true) : d.seq d.items ∧ d.items.all Dt.isNum = true := by
  unfold Dt.numsB at h
  rw [Bool.and_eq_true] at h
  exact ⟨Dt.seq_of h.1, h.2⟩
theorem curveB_all {d : Dt} {n : Nat} (h : curveB d n = true) : d.seq d.items ∧ d.items.all Dt.isNum = true ∧ d.items.length = n := by
  unfold curveB at h
  rw [Bool.and_eq_true] at h
  exact ⟨(numsB_all h.1).1, (numsB_all h.1).2, of_decide_eq_true h.2⟩
theorem lotB_all {d : Dt} {n : Nat} (h : lotB d n = true) : d.seq d.items ∧ d.items.all Dt.isNum = true ∧ d.items.length = n ∧ (∀ x ∈ d.items, 0 ≤ x.num.num) ∧ sumR (nums d.items) = 1 := by
  unfold lotB at h
  rw [Bool.and_eq_true, Bool.and_eq_true] at h
  obtain ⟨⟨h1, h2⟩, h3⟩ := h
  obtain ⟨a, b, c⟩ := curveB_all h1
  exact ⟨a, b, c, fun x hx => of_decide_eq_true (List.all_eq_true.mp h2 x hx), of_decide_eq_true h3⟩
def fdShares : FD where
  pre := fun ds => ∃ (d : Dt) (n : Nat), ds = [d, .int (n : Int)] ∧ n ≤ 8 ∧ d.Ok 45
  post := fun ds r => ∃ (d : Dt) (n : Nat), ds = [d, .int (n : Int)] ∧ r = .bl (lotB d n)
def fdCurve : FD where
  pre := fun ds => ∃ qs d, ds = [.scl qs, d] ∧ qs.length ≤ 8 ∧ d.Ok 45
  post := fun ds r => ∃ qs d, ds = [.scl qs, d] ∧ r = .bl (curveB d qs.length)
def fdLot : FD where
  pre := fun ds => ∃ qs d, ds = [.scl qs, d] ∧ qs.length ≤ 8 ∧ d.Ok 45
  post := fun ds r => ∃ qs d, ds = [.scl qs, d] ∧ r = .bl (lotB d qs.length)
def fxCheckLot (C : Addr) : FX where
  pre := fun ds => ∃ qs d, ds = [.scl qs, d] ∧ qs.length ≤ 8 ∧ d.Ok 45
  post := fun ds _ => ∃ qs d, ds = [.scl qs, d] ∧ lotB d qs.length = true
  err := fun ds e => ∃ qs d, ds = [.scl qs, d] ∧ lotB d qs.length = false ∧ e = .own C "given" d
def fxCheckCurve (C : Addr) : FX where
  pre := fun ds => ∃ qs d, ds = [.scl qs, d] ∧ qs.length ≤ 8 ∧ d.Ok 45
  post := fun ds _ => ∃ qs d, ds = [.scl qs, d] ∧ curveB d qs.length = true
  err := fun ds e => ∃ qs d, ds = [.scl qs, d] ∧ curveB d qs.length = false ∧ e = .own C "given" d
def fxMean (C C' : Addr) : FX where
  pre := fun ds => ∃ qs d e, ds = [.scl qs, d, e] ∧ qs.length ≤ 8 ∧ d.Ok 45 ∧ e.Ok 45
  post := fun ds r => ∃ qs d e, ds = [.scl qs, d, e] ∧ lotB d qs.length = true ∧ curveB e qs.length = true ∧ r = .rat (dotR (nums d.items) (nums e.items))
  err := fun ds r => ∃ qs d e, ds = [.scl qs, d, e] ∧ ((lotB d qs.length = false ∧ r = .own C "given" d) ∨ (lotB d qs.length = true ∧ curveB e qs.length = false ∧ r = .own C' "given" e))
/-- the first means of shares on marks -/
def meanK (ps ms : List Rat) (k : Nat) : Rat := sumR ((ps.zip ms).map fun e => e.1 * e.2 ^ k)
def countB : Dt → Bool
  | .int i => decide (0 ≤ i ∧ i ≤ 8)
  | _ => false
def Dt.nat : Dt → Nat
  | .int i => i.toNat
  | _ => 0
def fxMeans (C C' : Addr) : FX where
  pre := fun ds => ∃ qs d e, ds = [.scl qs, d, e] ∧ qs.length ≤ 8 ∧ (∀ q ∈ qs, Sz 30 q) ∧ d.Ok 45 ∧ e.kind = true
  post := fun ds r => ∃ qs d e, ds = [.scl qs, d, e] ∧ lotB d qs.length = true ∧ countB e = true ∧ r = .lst ((List.range e.nat).map fun k => .rat (meanK (nums d.items) qs (k + 1)))
  err := fun ds r => ∃ qs d e, ds = [.scl qs, d, e] ∧ ((lotB d qs.length = false ∧ r = .own C "given" d) ∨ (lotB d qs.length = true ∧ countB e = false ∧ r = .own C' "given" e))
/-- the places of what is not 0 -/
def usesL (ps : List Rat) : List Nat := (ps.zipIdx.filter fun e => !decide (e.1 = 0)).map (·.2)
def fxUses (C : Addr) : FX where
  pre := fun ds => ∃ qs d, ds = [.scl qs, d] ∧ qs.length ≤ 8 ∧ d.Ok 45
  post := fun ds r => ∃ qs d, ds = [.scl qs, d] ∧ lotB d qs.length = true ∧ r = .lst ((usesL (nums d.items)).map fun (i : Nat) => .int (i : Int))
  err := fun ds e => ∃ qs d, ds = [.scl qs, d] ∧ lotB d qs.length = false ∧ e = .own C "given" d
end Fm
namespace Fm
open PySem PySem.Spec PyProof.Rows L2
theorem seq_arg {d : Dt} {l : List Dt} (h : d.seq l) : [d] = [Dt.lst l] ∨ [d] = [Dt.tup l] := h.imp (fun h => congrArg (fun x => [x]) h) (fun h => congrArg (fun x => [x]) h)
theorem seq_slot {d : Dt} {l : List Dt} (h : d.seq l) : some (Slot.val d) = some (Slot.val (.lst l)) ∨ some (Slot.val d) = some (Slot.val (.tup l)) := h.imp (fun h => congrArg (fun x => some (Slot.val x)) h) (fun h => congrArg (fun x => some (Slot.val x)) h)
theorem ite_b {b : Bool} {A B : Prop} (h1 : b = true → A) (h2 : b = false → B) : if b = true then A else B := g_ite h1 h2
/-- a test of whether two ints differ -/
theorem ite_ne {i j : Int} {A B : Prop} (h1 : i ≠ j → A) (h2 : i = j → B) : if (!decide (i = j)) = true then A else B := by
  by_cases h : i = j
  · rw [decide_eq_true h]; exact ite_f (h2 h)
  · rw [decide_eq_false h]; exact ite_t (h1 h)
theorem ite_d {p : Prop} [Decidable p] {A B : Prop} (h1 : p → A) (h2 : ¬ p → B) : if decide p = true then A else B := g_dec h1 h2
theorem seq_inj {d : Dt} {l m : List Dt} (h : d.seq l) (h2 : d.seq m) : l = m := (Dt.seq_items h).1.symm.trans (Dt.seq_items h2).1
end Fm
namespace Fm
open PySem PySem.Spec PyProof.Rows L2
theorem eq_zero {x : Dt} {K1 : Bool → Prop} {K : Dt → Prop} (h : x.isNum = true) (k1 : K1 (decide (x.num = 0))) (k : K (.bl (decide (x.num = 0)))) : (∃ b, eqS x (.int 0) = some b ∧ K1 b) ∨ O_eqR x (.int 0) K := by
  cases x with
  | int i =>
    refine .inl ⟨_, rfl, ?_⟩
    have e : decide (i = 0) = decide ((Dt.int i).num = 0) := decide_eq_decide.mpr (by show i = 0 ↔ (i : Rat) = 0; exact (Rat.intCast_eq_zero_iff).symm)
    rw [e]
    exact k1
  | rat q => exact .inr ⟨q, rfl, rfl, sz_int (w := 0) (by decide) (by decide), k⟩
  | _ => cases h
theorem uses_dt (l : List Dt) : ((l.zipIdx.map fun e => (Dt.int (e.2 : Int), e.1)).filter fun e => !decide (e.2.num = 0)).map (fun e => e.1) = (usesL (nums l)).map fun (i : Nat) => Dt.int (i : Int) := by
  unfold usesL nums
  rw [List.zipIdx_map, List.filter_map, List.filter_map, List.map_map, List.map_map, List.map_map]
  rfl
theorem zip_zip {α β γ δ ε : Type} {f : α × β → γ} {g : β → δ} {h : γ × δ → ε} : ∀ (ps : List α) (qs : List β), (((ps.zip qs).map f).zip (qs.map g)).map h = (ps.zip qs).map fun e => h (f e, g e.2)
  | [], _ => rfl
  | _ :: _, [] => rfl
  | p :: ps, q :: qs => by
    simp only [List.zip_cons_cons, List.map_cons]
    rw [zip_zip ps qs]
end Fm
namespace Fm
open PySem PySem.Spec PyProof.Rows L2
/-- the parts of the means after j turns -/
def partK (ps qs : List Rat) (j : Nat) : List Dt := (ps.zip qs).map fun e => Dt.rat (e.1 * e.2 ^ j)
theorem partK_zero : ∀ {ps qs : List Rat}, ps.length = qs.length → partK ps qs 0 = ps.map .rat
  | [], _, _ => rfl
  | p :: ps, q :: qs, h => by
    unfold partK
    rw [List.zip_cons_cons, List.map_cons, List.map_cons, Rat.pow_zero, Rat.mul_one]
    exact congrArg _ (partK_zero (Nat.succ.inj h))
theorem partK_succ (ps qs : List Rat) (j : Nat) : ((partK ps qs j).zip (qs.map Dt.rat)).map (fun e => Dt.rat (e.1.num * e.2.num)) = partK ps qs (j + 1) := by
  unfold partK
  rw [zip_zip]
  refine List.map_congr_left fun e _ => ?_
  show Dt.rat (e.1 * e.2 ^ j * e.2) = _
  rw [Rat.mul_assoc, Rat.pow_succ]
theorem partK_nums (ps qs : List Rat) (j : Nat) : nums (partK ps qs j) = (ps.zip qs).map fun e => e.1 * e.2 ^ j := by
  unfold partK nums
  rw [List.map_map]
  rfl
theorem partK_num (ps qs : List Rat) (j : Nat) : (partK ps qs j).all Dt.isNum = true := by
  unfold partK
  rw [List.all_map]
  exact List.all_eq_true.mpr fun _ _ => rfl
theorem partK_sz {ps qs : List Rat} (hp : ∀ p ∈ ps, Sz 45 p) (hq : ∀ q ∈ qs, Sz 30 q) {j : Nat} (hj : j ≤ 8) : ∀ x ∈ partK ps qs j, Sz 290 x.num := fun x hx => by
  obtain ⟨e, he, rfl⟩ := List.mem_map.mp hx
  exact sz_le' ((hp _ (List.of_mem_zip he).1).mul' ((hq _ (List.of_mem_zip he).2).pow j)) (by omega)
end Fm

set_option maxHeartbeats 2000000
namespace Fm
open PySem PySem.Spec PyProof.Rows L2
/-! ### Scales, by data -/
section
variable {G : Gs} {E E2 : XK} {K : PySem.W.Frag}
theorem DtV.scale {H : Hp} {v : V} {qs : List Rat} (h : DtV G H v (.scl qs)) : ∃ p, v = .ref p ∧ ScaleAt G.S G.R H p qs := by
  cases h with
  | scl h hm r => exact ⟨_, rfl, _, _, _, h, hm, r⟩
theorem ScaleAt.dt {H : Hp} {p : Addr} {qs : List Rat} (h : ScaleAt G.S G.R H p qs) : DtV G H (.ref p) (.scl qs) := by
  obtain ⟨dx, m, rs, h1, h2, h3⟩ := h
  exact .scl h1 h2 h3
abbrev F_lenS (A : FE) : FE := fun ρ K X => A ρ (fun d ρ1 => ∃ qs, d = .scl qs ∧ qs.length ≤ 1000 ∧ K (.int (qs.length : Int)) ρ1) X
theorem PU.lenS {t : TE} {A : FE} (a : PU G E t A) : PU G E (tCB (rLenOwn G.S (spLenS G.S G.R) E2) (tCons t tNil)) (F_lenS A) where
  run := fun S h => a.run S (a.mono (fun d ρ1 ⟨qs, hd, hl, k⟩ v H1 S1 e1 hv => by
    subst hd
    obtain ⟨p, rfl, hs⟩ := hv.whole.scale
    obtain ⟨dx, m, rs, h1, h2, h3⟩ := id hs
    refine ⟨p, dx, _, rfl, h1, p, qs, rfl, hs, fun H2 ex => ⟨qs.length, rfl, by omega, k _ H2 (S1.grow ex) (e1.trans (cut_grow ex)) (.int _)⟩⟩) (fun _ x => x) h)
  mono := fun m x h => a.mono (fun _ _ ⟨qs, hd, hl, k⟩ => ⟨qs, hd, hl, m _ _ k⟩) x h
theorem rats_len {H : Hp} {C : Addr} {rs : List V} {qs : List Rat} (h : RatsV C H rs qs) : rs.length = qs.length := h.length
abbrev F_marks (A : FE) : FA := fun ρ K X => A ρ (fun d ρ1 => ∃ qs, d = .scl qs ∧ K (qs.map .rat) ρ1) X
theorem PUF.marks {t : TE} {A : FE} (a : PU G E t A) : PUF G E (tMeth G.S "marks" (spMarksS G.S G.R) [] E2 t tNil) (F_marks A) where
  run := fun S h => a.run S (a.mono (fun d ρ1 ⟨qs, hd, k⟩ v H1 S1 e1 hv => by
    subst hd
    obtain ⟨p, rfl, hs⟩ := hv.whole.scale
    obtain ⟨dx, m, rs, h1, h2, h3⟩ := id hs
    refine ⟨p, dx, _, rfl, h1, marks_no m (by decide +kernel), p, qs, rfl, hs, fun l rs2 H2 hl ex hl2 hr => ?_⟩
    have q1 := S1.outNew hl ex ⟨_, hl2⟩
    refine k l rs2 H2 q1 (e1.trans (newOut_ex hl ex)) (.inr (S1.fresh hl).1) (S1.fresh hl).2.1 hl2 ?_
    refine RatsV.dt (Paired.mapP hr fun v q r => r.out (fun b hb => q1.lstAt hb) (Ex.refl _))) (fun _ x => x) h)
  mono := fun m x h => a.mono (fun _ _ ⟨qs, hd, k⟩ => ⟨qs, hd, m _ _ k⟩) x h
/-! numbers as told values -/
def numDa : Dt → Da
  | .int i => .int i
  | .rat q => .rat q
  | _ => .non
def seqDa : Dt → Da
  | .lst l => .lst (l.map numDa)
  | .tup l => .tup (l.map numDa)
  | _ => .non
theorem numDa_num {d : Dt} (h : d.isNum = true) : (numDa d).isNum = true ∧ (numDa d).num = d.num := by cases d <;> first | exact ⟨rfl, rfl⟩ | cases h
theorem DtV.numDa {H : Hp} {v : V} {d : Dt} (h : DtV G H v d) (n : d.isNum = true) : DaV G.R H v (Fm.numDa d) := by
  cases h with
  | int i => exact .int i
  | rat h => exact .rat h
  | _ => cases n
theorem DtVs.numDa {H : Hp} : ∀ {vs : List V} {l : List Dt}, DtVs G H vs l → l.all Dt.isNum = true → DaVs G.R H vs (l.map Fm.numDa)
  | _, _, .nil, _ => .nil
  | _, _, .cons h r, n => by
    rw [List.all_cons, Bool.and_eq_true] at n
    exact .cons (h.numDa n.1) (r.numDa n.2)
theorem numDa_fine {d : Dt} (n : d.isNum = true) (s : Sz 200 d.num) : (numDa d).fine = true := by
  cases d with
  | int i =>
    unfold numDa Da.fine
    have := s.1
    refine decide_eq_true ?_
    show i.natAbs < 2 ^ 200
    have e : ((Dt.int i).num).num = i := rfl
    rw [e] at this
    exact this
  | rat q =>
    unfold numDa Da.fine
    rw [Bool.and_eq_true]
    exact ⟨decide_eq_true s.1, decide_eq_true s.2⟩
  | _ => cases n
theorem fineL_of {l : List Da} (h : ∀ d ∈ l, d.fine = true) : fineL l = true := by
  induction l with
  | nil => rfl
  | cons d l ih =>
    unfold fineL
    rw [Bool.and_eq_true]
    exact ⟨h d (by simp), ih fun x hx => h x (List.mem_cons_of_mem _ hx)⟩
theorem numDa_nums {l : List Dt} (h : l.all Dt.isNum = true) : (l.map numDa).all Da.isNum = true ∧ (l.map numDa).map Da.num = nums l := by
  constructor
  · rw [List.all_map]
    exact List.all_eq_true.mpr fun x hx => (numDa_num (allNum_mem h hx)).1
  · unfold nums
    rw [List.map_map]
    exact List.map_congr_left fun x hx => (numDa_num (allNum_mem h hx)).2
/-- Scale(x) of numbers that differ -/
abbrev F_mkS (A : FA) : FE := fun ρ K X => A ρ (fun ds ρ1 => ∃ d l, ds = [d] ∧ d.seq l ∧ l.all Dt.isNum = true ∧ (∀ x ∈ l, Sz 200 x.num) ∧ 1 ≤ l.length ∧ l.length ≤ 8 ∧ (nums l).Nodup ∧ K (.scl (isort (nums l))) ρ1) X
theorem PU.mkS {t : TA} {A : FA} {B : Addr} (a : PUA G E t A) : PU G E (tMake G.S (spScaleInit G.S G.R B) [] E2 t) (F_mkS A) where
  run := fun {f σ H ρ Q} S h => a.run S (a.mono (fun ds ρ1 ⟨d, l, hd, hs, hn, hz, l1, l8, nd, k⟩ vs H1 S1 e1 hv => by
    subst hd
    cases hv with
    | cons hv r =>
      cases r
      intro x dx hx hdx hne
      have ex0 : Ex H1 (upd (upd H1 dx (.own x)) x (.ins G.S dx [])) := fun b o hb => by
        rw [upd_ne (ne_of_none hb hx), upd_ne (ne_of_none hb hdx)]; exact hb
      obtain ⟨n1, n2⟩ := numDa_nums hn
      have fl : fineL (l.map numDa) = true := fineL_of fun d hd => by
        obtain ⟨y, hy, rfl⟩ := List.mem_map.mp hd
        exact numDa_fine (allNum_mem hn hy) (hz y hy)
      have clb : climbB (isort (nums l)) = true := (dst_climb (nums l)).1.mp (by rw [dst_isort nd, isort_len]; exact Nat.le_refl _)
      have val : ∀ (da : Da), (da = .lst (l.map numDa) ∨ da = .tup (l.map numDa)) → ValsOf da (isort (nums l)) := fun da hda => ⟨_, hda, n1, by rw [List.length_map]; exact l1, by rw [List.length_map]; exact l8, by rw [n2], clb⟩
      have fin : ∀ (v : V) (da : Da), (da = .lst (l.map numDa) ∨ da = .tup (l.map numDa)) → da.fine = true → DaV G.R H1 v da → spScaleInit G.S G.R B [.ref x, v] (upd (upd H1 dx (.own x)) x (.ins G.S dx [])) (fun v H2 => v = .non ∧ Q (.ref x) H2) E2 := fun v da hda fd hvd =>
        ⟨x, dx, v, da, rfl, hvd.mono ex0, fd, upd_same, fun qs hq m rs H2 hm keep hx2 hm2 hr2 => by
          have eq : qs = isort (nums l) := by
            obtain ⟨ds2, h1, _, _, _, h5, _⟩ := hq
            have : ds2 = l.map numDa := by rcases hda with rfl | rfl <;> rcases h1 with h1 | h1 <;> first | (injection h1 with h1; exact h1.symm) | cases h1
            rw [h5, this, n2]
          subst eq
          have ex : Ex H1 H2 := fun b o hb => keep b o (ex0 _ _ hb) (ne_of_none hb hx)
          have S2 := S1.grow ex
          have hm1 : H1 m = none := ex0.free hm
          refine ⟨rfl, k _ H2 S2 (e1.trans (cut_grow ex)) (.scl (cut_some.mpr ⟨(S1.fresh hx).2.2, hx2⟩) (cut_some.mpr ⟨(S1.fresh hm1).2.2, hm2⟩) (Paired.mapP hr2 fun v q r => r.out (fun b hb => S2.lstAt hb) (Ex.refl _)))⟩, fun h => absurd (val da hda) (h _)⟩
      have dec : decide ((l.map numDa).length ≤ 1000) = true := decide_eq_true (by rw [List.length_map]; omega)
      rcases hs with rfl | rfl
      · cases hv.whole with
        | lst hp r => exact fin _ _ (.inl rfl) (by unfold Da.fine; rw [dec, fl]; rfl) (.lst hp (r.numDa hn))
      · cases hv.whole with
        | tup hp r => exact fin _ _ (.inr rfl) (by unfold Da.fine; rw [dec, fl]; rfl) (.tup hp (r.numDa hn))) (fun _ x => x) h)
  mono := fun m x h => a.mono (fun _ _ ⟨d, l, hd, hs, hn, hz, l1, l8, nd, k⟩ => ⟨d, l, hd, hs, hn, hz, l1, l8, nd, m _ _ k⟩) x h
end
end Fm

set_option maxHeartbeats 4000000
namespace Kx
open PySem PySem.Spec PyProof.Rows L2 Fm
section
variable {P : Program} {w : World} {K : PySem.W.Frag} {mg : Str → Option Value} {base : Heap} {a : Ad}
abbrev Ad.G (a : Ad) : Gs := ⟨a.C_Scale, a.C_Ratio⟩
theorem ok_are_numbers (T : Tx K mg a) : FnOk P w K mg base CX0 4 a.f_are_numbers a.d_are_numbers P_are_numbers (spV a.G fdNums) := by
  refine def_ok0 T.F_are_numbers sc_are_numbers (fun vs H Q E h => ?_) (fun cdv A outer s H vs Q E hr h => ?_)
  · obtain ⟨ds, X, hv, _, ⟨d, rfl, _⟩, _⟩ := h
    exact hv.length
  · refine ⟨_, (pss_one (ps_ret (pe_and (pe_callB call_isiT (by rfl) T.b_isinstance (by decide +kernel) (pa_cons (pv 0) (pa_cons (pe_tup (pa_cons (pe_bltn (v := .ty "list") (by rfl) T.b_list (by decide +kernel) rfl) (pa_cons (pe_bltn (v := .ty "tuple") (by rfl) T.b_tuple (by decide +kernel) rfl) pa_nil))) pa_nil))) (pe_one (pe_callB (cr_all rfl) (by rfl) T.b_all (by decide +kernel) (pa_cons (pe_lc (own := [("item", 1)]) (g := (gName 1)) (tt := tYes) rfl sc_are_numbers.nd (pi_seq (pv 0)) (blkOk_by (N := N_are_numbers) (sc := defScope s_are_numbers) (by decide +kernel)) (fun _ _ _ _ _ => pg_name (i := 1) sc_are_numbers.nd rfl (Or.inl rfl)) (fun _ _ _ _ _ => pts_nil) (fun _ _ _ _ _ => (pe_call (ok_is_number T) (hr.mono (by decide)) (by rfl) T.g_is_number T.F_is_number.kp (bd_is_number T) .nil pass0 (pa_cons (pv 1) pa_nil)))) pa_nil)))))), ?_⟩
    refine spV.def (G := a.G) (E := E0) (PUS.ret (PU.andV (PU.isLT T.R T.R2 (PU.var (i := 0))) (PU.cbn CD.all (PUA.cons (PUF.toV (PUF.lc (i := 1) (E1 := E0) (E2 := E0) (PUI.seqV (i := 0)) PUT.yes (PU.isnum T.R (PUA.cons (PU.var (i := 1)) PUA.nil)))) PUA.nil)))) (fun ds hp => ?_) h
    obtain ⟨d, rfl, hk, hi, hl⟩ := hp
    refine ⟨d, rfl, _, onKind_of hk, _, rfl, ?_⟩
    cases hlt : d.isLT with
    | false => exact ite_f ⟨d, rfl, by unfold Dt.numsB; rw [hlt]; rfl⟩
    | true =>
      refine ite_t ⟨d.items, ?_, lcP_map (g := fun x => .bl x.isNum) _ _ rfl (by simp; omega) rfl (fun x hx K hK => ⟨x, rfl, x, rfl, hi x hx, hK⟩) ?_⟩
      · rcases Dt.seq_of hlt with e | e
        · exact .inl (by show some (Slot.val d) = _; rw [← e])
        · exact .inr (by show some (Slot.val d) = _; rw [← e])
      · refine ⟨d.items.map Dt.isNum, ?_, d, rfl, ?_⟩
        · rw [List.nil_append, List.map_map]; rfl
        · unfold Dt.numsB; rw [hlt, List.all_map]; rfl
theorem ok_total (T : Tx K mg a) : FnOk P w K mg base CX0 5 a.f_total a.d_total P_total (spV a.G fdTotal) := by
  refine def_ok0 T.F_total sc_total (fun vs H Q E h => ?_) (fun cdv A outer s H vs Q E hr h => ?_)
  · obtain ⟨ds, X, hv, _, ⟨d, l, k, rfl, _⟩, _⟩ := h
    exact hv.length
  · refine ⟨_, (pss_cons (ps_set (i := 1) sc_total.nd rfl (Or.inl rfl) (pe_make T.mk_Ratio (ok_Ratio_init T) (hr.mono (by decide)) (by rfl) T.g_Ratio (bd1_Ratio_init T).choose_spec.2 (bd1_Ratio_init T).choose_spec.1 pass0 (pa_cons pe_int pa_nil))) (pss_cons (ps_for PassesOwn.never rfl (pi_seq (pv 0)) (pg_name (i := 2) sc_total.nd rfl (Or.inl rfl)) (pss_one (ps_set (i := 1) sc_total.nd rfl (Or.inl rfl) (pe_op (op_own T.o_add (ok_Ratio_add T) (hr.mono (by decide)) (bd_Ratio_add T) pass0) (pv 1) (pv 2))))) (pss_one (ps_ret (pv 1))))), ?_⟩
    refine spV.def (G := a.G) (E := E0) (PUS.seq (PUS.set (i := 1) (PU.mkR1 (PUA.cons PU.ci PUA.nil))) (PUS.seq (PUS.for (PUI.seqV (i := 0)) (PUG.name (i := 2)) (PUS.set (i := 1) (PU.op RD.num2 (PU.var (i := 1)) (PU.var (i := 2))))) (PUS.ret (PU.var (i := 1))))) (fun ds hp => ?_) h
    obtain ⟨d, l, k, rfl, hs, hn, hz, hk⟩ := hp
    have hl := len_small hk
    refine ⟨0, rfl, lt8 (k := 1) (by decide) (by decide), l, ?_, ?_⟩
    · rcases hs with rfl | rfl
      · exact .inl rfl
      · exact .inr rfl
    refine forP_inv (fun i ρ => ∃ u, ρ = [.val d, .val (.rat (sumR ((nums l).take i))), u]) ⟨_, rfl⟩ (fun i x ρ K hx hI hK => ?_) (fun ρ hI => ?_)
    · obtain ⟨u, rfl⟩ := hI
      have hm := List.mem_of_getElem? hx
      have hxn : (nums l)[i]? = some x.num := by unfold nums; rw [List.getElem?_map, hx]; rfl
      refine ⟨_, rfl, _, rfl, _, rfl, allNum_mem hn hm, ?_, sz_le' (hz x hm) ?_, hK _ ⟨_, by rw [sumR_take hxn]; rfl⟩⟩
      · have hi : i < l.length := (List.getElem?_eq_some_iff.mp hx).1
        refine sz_le' (sumR_sz (k := k) _ fun q hq => ?_) ?_
        · obtain ⟨y, hy, rfl⟩ := List.mem_map.mp (List.mem_of_mem_take hq)
          exact hz y hy
        · rw [List.length_take]
          have : (k + 1) * min i (nums l).length ≤ (k + 1) * l.length := Nat.mul_le_mul_left _ (by omega)
          rw [Nat.mul_succ] at hk
          omega
      · have : k + 1 ≤ (k + 1) * (l.length + 1) := Nat.le_mul_of_pos_right _ (by omega)
        omega
    · obtain ⟨u, rfl⟩ := hI
      refine ⟨_, rfl, d, l, rfl, hs, ?_⟩
      rw [List.take_of_length_le (by unfold nums; rw [List.length_map]; exact Nat.le_refl _)]
theorem ok_weighed (T : Tx K mg a) : FnOk P w K mg base CX0 6 a.f_weighed a.d_weighed P_weighed (spV a.G fdWeighed) := by
  refine def_ok0 T.F_weighed sc_weighed (fun vs H Q E h => ?_) (fun cdv A outer s H vs Q E hr h => ?_)
  · obtain ⟨ds, X, hv, _, ⟨d1, d2, l1, l2, k, rfl, _⟩, _⟩ := h
    exact hv.length
  · refine ⟨_, (pss_one (ps_ret (pe_call (ok_total T) (hr.mono (by decide)) (by rfl) T.g_total T.F_total.kp (bd_total T) .nil pass0 (pa_cons (pe_lc (own := [("number", 2), ("weight", 3)]) (g := (gTup K 2 (gCons (gName 2) (gCons (gName 3) gNil)))) (tt := tYes) rfl sc_weighed.nd (pi_zipX (by rfl) T.b_zip (pa_cons (pv 0) (pa_cons (pv 1) pa_nil))) (blkOk_by (N := N_weighed) (sc := defScope s_weighed) (by decide +kernel)) (fun _ _ _ _ _ => by exact (pg_tup rfl (pgs_cons (pg_name (i := 2) sc_weighed.nd rfl (Or.inl rfl)) (pgs_cons (pg_name (i := 3) sc_weighed.nd rfl (Or.inl rfl)) pgs_nil)))) (fun _ _ _ _ _ => pts_nil) (fun _ _ _ _ _ => (pe_op (op_own T.o_mul (ok_Ratio_mul T) (hr.mono (by decide)) (bd_Ratio_mul T) pass0) (pe_call (ok_as_ratio T) (hr.mono (by decide)) (by rfl) T.g_as_ratio T.F_as_ratio.kp (bd_as_ratio T) .nil pass0 (pa_cons (pv 2) pa_nil)) (pv 3)))) pa_nil)))), ?_⟩
    refine spV.def (G := a.G) (E := E0) (PUS.ret (PU.call (PUA.cons (PUF.toV (PUF.lc2 (i := 2) (j := 3) (E1 := E0) (E2 := E0) (by decide) (PUI.zipX (PUA.cons (PU.var (i := 0)) (PUA.cons (PU.var (i := 1)) PUA.nil))) PUT.yes (PU.op RD.num2 (PU.asr (PUA.cons (PU.var (i := 2)) PUA.nil)) (PU.var (i := 3))))) PUA.nil))) (fun ds hp => ?_) h
    obtain ⟨d, e, l, m, k, rfl, hs, hs2, hn, hn2, hz, hz2, hk⟩ := hp
    have hl := len_small hk
    refine ⟨_, rfl, _, rfl, _, _, l, m, rfl, hs, hs2, ?_⟩
    refine lcP2_map (g := fun x y => .rat (x.num * y.num)) (by decide) _ _ rfl rfl (by simp; omega) (fun x hx K hK => ?_) ?_
    · have h1 := (List.of_mem_zip hx).1
      have h2 := (List.of_mem_zip hx).2
      have kb : k ≤ 3000 := by
        have : k + k + 1 ≤ (k + k + 1) * (l.length + 1) := Nat.le_mul_of_pos_right _ (by omega)
        omega
      exact ⟨_, rfl, _, rfl, allNum_mem hn h1, sz_le' (hz _ h1) kb, _, rfl, _, rfl, allNum_mem hn2 h2, sz_le' (hz _ h1) kb, sz_le' (hz2 _ h2) kb, hK⟩
    · refine ⟨⟨_, _, k + k, rfl, .inl rfl, ?_, fun x hx => ?_, ?_⟩, fun r hr => ?_⟩
      · rw [List.nil_append, List.all_map]
        exact List.all_eq_true.mpr fun _ _ => rfl
      · rw [List.nil_append] at hx
        obtain ⟨y, hy, rfl⟩ := List.mem_map.mp hx
        exact (hz _ (List.of_mem_zip hy).1).mul' (hz2 _ (List.of_mem_zip hy).2)
      · rw [List.nil_append, List.length_map, List.length_zip]
        exact Nat.le_trans (Nat.mul_le_mul_left _ (by omega)) hk
      · obtain ⟨d', l', e1, h2, rfl⟩ := hr
        refine ⟨d, e, l, m, rfl, hs, hs2, ?_⟩
        injection e1 with e1
        subst e1
        have e3 := (Dt.seq_items h2).1
        subst e3
        unfold dotR nums
        congr 2
        simp [Dt.items, List.map_map, List.zip_map, Function.comp_def, Dt.num]
theorem ok_are_shares (T : Tx K mg a) : FnOk P w K mg base CX0 6 a.f_are_shares a.d_are_shares P_are_shares (spV a.G fdShares) := by
  refine def_ok0 T.F_are_shares sc_are_shares (fun vs H Q E h => ?_) (fun cdv A outer s H vs Q E hr h => ?_)
  · obtain ⟨ds, X, hv, _, ⟨d, n, rfl, _⟩, _⟩ := h
    exact hv.length
  · refine ⟨_, (pss_cons (ps_if (PW.pt (pw_or (pt_not (pt_val (pe_call (ok_are_numbers T) (hr.mono (by decide)) (by rfl) T.g_are_numbers T.F_are_numbers.kp (bd_are_numbers T) .nil pass0 (pa_cons (pv 0) pa_nil)))) (pw_or1 (pt_cmpR op_ne (pe_callB call_lenQ (by rfl) T.b_len (by decide +kernel) (pa_cons (pv 0) pa_nil)) (pv 1) (nomark _))))) (pss_one (ps_ret pe_bl)) pss_nil) (pss_one (ps_ret (pe_and (pe_callB (cr_all rfl) (by rfl) T.b_all (by decide +kernel) (pa_cons (pe_lc (own := [("share", 2)]) (g := (gName 2)) (tt := tYes) rfl sc_are_shares.nd (pi_seq (pv 0)) (blkOk_by (N := N_are_shares) (sc := defScope s_are_shares) (by decide +kernel)) (fun _ _ _ _ _ => pg_name (i := 2) sc_are_shares.nd rfl (Or.inl rfl)) (fun _ _ _ _ _ => pts_nil) (fun _ _ _ _ _ => (pe_cmpR op_le pe_int (pe_fldV (K := K) rfl (pe_call (ok_as_ratio T) (hr.mono (by decide)) (by rfl) T.g_as_ratio T.F_as_ratio.kp (bd_as_ratio T) .nil pass0 (pa_cons (pv 2) pa_nil)) rfl) (nomark _)))) pa_nil)) (pe_one (pe_cmpR (op_cmp (fun _ _ => rfl) T.p_eq (ok_Ratio_eq T) (hr.mono (by decide)) (bd_Ratio_eq T) pass0) (pe_call (ok_total T) (hr.mono (by decide)) (by rfl) T.g_total T.F_total.kp (bd_total T) .nil pass0 (pa_cons (pv 0) pa_nil)) pe_int (nomark _))))))), ?_⟩
    refine spV.def (G := a.G) (E := E0) (PUS.seq (PUS.ifS (PUT.or (PUT.not (PUT.b (PU.call (PUA.cons (PU.var (i := 0)) PUA.nil)))) (PUT.test (PU.op RD.ne (PU.cbn CD.len (PUA.cons (PU.var (i := 0)) PUA.nil)) (PU.var (i := 1))))) (PUS.ret PU.cb) PUS.next) (PUS.ret (PU.andV (PU.cbn CD.all (PUA.cons (PUF.toV (PUF.lc (i := 2) (E1 := E0) (E2 := E0) (PUI.seqV (i := 0)) PUT.yes (PU.op RD.b0 PU.ci (PU.top T.R (PU.asr (PUA.cons (PU.var (i := 2)) PUA.nil)))))) PUA.nil)) (PU.op (RD.eqR T.R) (PU.call (PUA.cons (PU.var (i := 0)) PUA.nil)) PU.ci)))) (fun ds hp => ?_) h
    obtain ⟨d, n, rfl, hn, ok⟩ := hp
    refine ⟨_, rfl, ⟨d, rfl, ok.kd, ok.ik, ok.len⟩, ?_⟩
    rintro _ ⟨_, e, rfl⟩
    cases e
    refine ⟨_, rfl, ?_⟩
    cases hb : d.numsB with
    | false => exact ite_t (ite_t ⟨d, n, rfl, by unfold lotB curveB; rw [hb]; rfl⟩)
    | true =>
      obtain ⟨hs, hal⟩ := numsB_all hb
      refine ite_f ⟨_, rfl, _, seq_arg hs, _, rfl, _, rfl, _, rfl, ite_ne (fun hne => ?_) (fun hl => ?_)⟩
      · exact ⟨d, n, rfl, by unfold lotB curveB; rw [decide_eq_false (by omega)]; simp⟩
      · have hl : d.items.length = n := by omega
        have hc : curveB d n = true := by unfold curveB; rw [hb, decide_eq_true hl]; rfl
        refine ⟨d.items, seq_slot hs, lcP_map (g := fun x => .bl (decide (0 ≤ x.num.num))) _ _ rfl (by simp; have := ok.len; omega) rfl (fun x hx K hK => ?_) ?_⟩
        · exact ⟨_, rfl, x, rfl, allNum_mem hal hx, sz_le' (ok.sz x hx) (by decide), _, rfl, 0, _, rfl, rfl, hK⟩
        · rw [List.nil_append]
          refine ⟨d.items.map fun x => decide (0 ≤ x.num.num), by rw [List.map_map]; rfl, _, rfl, ?_⟩
          rw [List.all_map]
          refine ite_b (fun ha => ?_) (fun ha => ⟨d, n, rfl, by unfold lotB; rw [hc, show (d.items.all fun x => decide (0 ≤ x.num.num)) = false from ha]; rfl⟩)
          refine ⟨_, rfl, ⟨d, d.items, 45, rfl, hs, hal, fun x hx => ok.sz x hx, by rw [hl]; omega⟩, ?_⟩
          rintro _ ⟨d', l', e, hs', rfl⟩
          cases e
          rw [seq_inj hs' hs]
          refine ⟨_, rfl, rfl, sz_int (w := 1) (by decide) (by decide), d, n, rfl, ?_⟩
          unfold lotB
          rw [hc, show (d.items.all fun x => decide (0 ≤ x.num.num)) = true from ha]
          rfl
theorem ok_is_curve (T : Tx K mg a) : FnOk P w K mg base CX0 5 a.f_is_curve a.d_is_curve P_is_curve (spV a.G fdCurve) := by
  refine def_ok0 T.F_is_curve sc_is_curve (fun vs H Q E h => ?_) (fun cdv A outer s H vs Q E hr h => ?_)
  · obtain ⟨ds, X, hv, _, ⟨qs, d, rfl, _⟩, _⟩ := h
    exact hv.length
  · refine ⟨_, (pss_one (ps_ret (pe_and (pe_call (ok_are_numbers T) (hr.mono (by decide)) (by rfl) T.g_are_numbers T.F_are_numbers.kp (bd_are_numbers T) .nil pass0 (pa_cons (pv 1) pa_nil)) (pe_one (pe_cmpR op_eq (pe_callB call_lenQ (by rfl) T.b_len (by decide +kernel) (pa_cons (pv 1) pa_nil)) (pe_callB (cr_lenOwn T.ln_Scale T.lf_Scale (ok_Scale_len T) (hr.mono (by decide)) (bd_Scale_len T) pass0) (by rfl) T.b_len (by decide +kernel) (pa_cons (pv 0) pa_nil)) (nomark _)))))), ?_⟩
    refine spV.def (G := a.G) (E := E0) (PUS.ret (PU.andV (PU.call (PUA.cons (PU.var (i := 1)) PUA.nil)) (PU.op RD.eq (PU.cbn CD.len (PUA.cons (PU.var (i := 1)) PUA.nil)) (PU.lenS (PU.var (i := 0)))))) (fun ds hp => ?_) h
    obtain ⟨qs, d, rfl, hq, ok⟩ := hp
    refine ⟨_, rfl, ⟨d, rfl, ok.kd, ok.ik, ok.len⟩, ?_⟩
    rintro _ ⟨_, e, rfl⟩
    cases e
    refine ⟨_, rfl, ite_b (fun hb => ?_) (fun hb => ⟨qs, d, rfl, by unfold curveB; rw [hb]; rfl⟩)⟩
    obtain ⟨hs, hal⟩ := numsB_all hb
    refine ⟨_, rfl, _, seq_arg hs, _, rfl, qs, rfl, by omega, _, rfl, qs, d, rfl, ?_⟩
    unfold curveB
    rw [hb, Bool.true_and]
    congr 1
    exact decide_eq_decide.mpr Int.natCast_inj
theorem ok_is_lot (T : Tx K mg a) : FnOk P w K mg base CX0 7 a.f_is_lot a.d_is_lot P_is_lot (spV a.G fdLot) := by
  refine def_ok0 T.F_is_lot sc_is_lot (fun vs H Q E h => ?_) (fun cdv A outer s H vs Q E hr h => ?_)
  · obtain ⟨ds, X, hv, _, ⟨qs, d, rfl, _⟩, _⟩ := h
    exact hv.length
  · refine ⟨_, (pss_one (ps_ret (pe_call (ok_are_shares T) (hr.mono (by decide)) (by rfl) T.g_are_shares T.F_are_shares.kp (bd_are_shares T) .nil pass0 (pa_cons (pv 1) (pa_cons (pe_callB (cr_lenOwn T.ln_Scale T.lf_Scale (ok_Scale_len T) (hr.mono (by decide)) (bd_Scale_len T) pass0) (by rfl) T.b_len (by decide +kernel) (pa_cons (pv 0) pa_nil)) pa_nil))))), ?_⟩
    refine spV.def (G := a.G) (E := E0) (PUS.ret (PU.call (PUA.cons (PU.var (i := 1)) (PUA.cons (PU.lenS (PU.var (i := 0))) PUA.nil)))) (fun ds hp => ?_) h
    obtain ⟨qs, d, rfl, hq, ok⟩ := hp
    refine ⟨_, rfl, _, rfl, qs, rfl, by omega, ⟨d, _, rfl, hq, ok⟩, ?_⟩
    rintro _ ⟨d', n', e, rfl⟩
    injection e with e1 e2
    injection e2 with e2 _
    injection e2 with e2
    have e3 : n' = qs.length := by omega
    subst e1
    subst e3
    exact ⟨qs, _, rfl, rfl⟩
theorem ok_check_lot (T : Tx K mg a) : FnOk P w K mg base (L2N.CX P w) 8 a.f_check_lot a.d_check_lot P_check_lot (spX a.G (fxCheckLot a.C_BadLot)) := by
  refine T.F_check_lot.ok sc_check_lot (fun vs H Q E h => ?_) (fun cdv A outer s H vs Q E hr h => ?_)
  · obtain ⟨ds, X, hv, _, ⟨qs, d, rfl, _⟩, _⟩ := h
    exact hv.length
  · refine ⟨_, (pss_one (ps_if (pt_not (pt_val (pe_call (ok_is_lot T) (hr.mono (by decide)) (by rfl) T.g_is_lot T.F_is_lot.kp (bd_is_lot T) .nil pass0 (pa_cons (pv 0) (pa_cons (pv 1) pa_nil))))) (pss_one (L2N.ps_raise rfl (L2N.takes_of rfl rfl rfl rfl) (pmk_oexN T.oc_BadLot T.fi_BadLot T.ti_BadLot (ok_BadLot_init T) (hr.mono (by decide)) (bd_BadLot_init T) .nil pass0 (by rfl) T.g_BadLot (pa_cons (pv 1) pa_nil)))) pss_nil)), ?_⟩
    refine spX.def (G := a.G) (E := E) (PUS.ifS (PUT.not (PUT.b (PU.call (PUA.cons (PU.var (i := 0)) (PUA.cons (PU.var (i := 1)) PUA.nil))))) (PUS.raise (PU.var (i := 1))) PUS.next) (fun ds hp => ?_) h
    obtain ⟨qs, d, rfl, hq, ok⟩ := hp
    refine ⟨_, rfl, _, rfl, ⟨qs, d, rfl, hq, ok⟩, ?_⟩
    rintro _ ⟨qs', d', e, rfl⟩
    cases e
    refine ⟨_, rfl, ?_⟩
    cases hb : lotB d qs.length with
    | true => exact ite_f ⟨qs, d, rfl, hb⟩
    | false => exact ite_t ⟨_, rfl, qs, d, rfl, hb, rfl⟩
theorem ok_check_curve (T : Tx K mg a) : FnOk P w K mg base (L2N.CX P w) 6 a.f_check_curve a.d_check_curve P_check_curve (spX a.G (fxCheckCurve a.C_BadCurve)) := by
  refine T.F_check_curve.ok sc_check_curve (fun vs H Q E h => ?_) (fun cdv A outer s H vs Q E hr h => ?_)
  · obtain ⟨ds, X, hv, _, ⟨qs, d, rfl, _⟩, _⟩ := h
    exact hv.length
  · refine ⟨_, (pss_one (ps_if (pt_not (pt_val (pe_call (ok_is_curve T) (hr.mono (by decide)) (by rfl) T.g_is_curve T.F_is_curve.kp (bd_is_curve T) .nil pass0 (pa_cons (pv 0) (pa_cons (pv 1) pa_nil))))) (pss_one (L2N.ps_raise rfl (L2N.takes_of rfl rfl rfl rfl) (pmk_oexN T.oc_BadCurve T.fi_BadCurve T.ti_BadCurve (ok_BadCurve_init T) (hr.mono (by decide)) (bd_BadCurve_init T) .nil pass0 (by rfl) T.g_BadCurve (pa_cons (pv 1) pa_nil)))) pss_nil)), ?_⟩
    refine spX.def (G := a.G) (E := E) (PUS.ifS (PUT.not (PUT.b (PU.call (PUA.cons (PU.var (i := 0)) (PUA.cons (PU.var (i := 1)) PUA.nil))))) (PUS.raise (PU.var (i := 1))) PUS.next) (fun ds hp => ?_) h
    obtain ⟨qs, d, rfl, hq, ok⟩ := hp
    refine ⟨_, rfl, _, rfl, ⟨qs, d, rfl, hq, ok⟩, ?_⟩
    rintro _ ⟨qs', d', e, rfl⟩
    cases e
    refine ⟨_, rfl, ?_⟩
    cases hb : curveB d qs.length with
    | true => exact ite_f ⟨qs, d, rfl, hb⟩
    | false => exact ite_t ⟨_, rfl, qs, d, rfl, hb, rfl⟩
theorem ok_mean (T : Tx K mg a) : FnOk P w K mg base (L2N.CX P w) 9 a.f_mean a.d_mean P_mean (spX a.G (fxMean a.C_BadLot a.C_BadCurve)) := by
  refine T.F_mean.ok sc_mean (fun vs H Q E h => ?_) (fun cdv A outer s H vs Q E hr h => ?_)
  · obtain ⟨ds, X, hv, _, ⟨qs, d, e, rfl, _⟩, _⟩ := h
    exact hv.length
  · refine ⟨_, (pss_cons (ps_expr (pe_callS (ok_check_lot T) (hr.mono (by decide)) (by rfl) T.g_check_lot T.F_check_lot.kp (bd_check_lot T) (fun σ => L2N.passAt (L2N.takes_of rfl rfl rfl rfl) σ) (pa_cons (pv 0) (pa_cons (pv 1) pa_nil)))) (pss_cons (ps_expr (pe_callS (ok_check_curve T) (hr.mono (by decide)) (by rfl) T.g_check_curve T.F_check_curve.kp (bd_check_curve T) (fun σ => L2N.passAt (L2N.takes_of rfl rfl rfl rfl) σ) (pa_cons (pv 0) (pa_cons (pv 2) pa_nil)))) (pss_one (ps_ret (pe_call (ok_weighed T) (hr.mono (by decide)) (by rfl) T.g_weighed T.F_weighed.kp (bd_weighed T) .nil pass0 (pa_cons (pv 1) (pa_cons (pv 2) pa_nil))))))), ?_⟩
    refine spX.def (G := a.G) (E := E) (PUS.seq (PUS.drop (PU.callX (PUA.cons (PU.var (i := 0)) (PUA.cons (PU.var (i := 1)) PUA.nil)))) (PUS.seq (PUS.drop (PU.callX (PUA.cons (PU.var (i := 0)) (PUA.cons (PU.var (i := 2)) PUA.nil)))) (PUS.ret (PU.call (PUA.cons (PU.var (i := 1)) (PUA.cons (PU.var (i := 2)) PUA.nil)))))) (fun ds hp => ?_) h
    obtain ⟨qs, d, e, rfl, hq, ok, ok2⟩ := hp
    refine ⟨_, rfl, _, rfl, ⟨qs, d, rfl, hq, ok⟩, fun _ h1 => ?_, fun er h1 => ?_⟩
    · obtain ⟨_, _, e1, hb⟩ := h1
      cases e1
      obtain ⟨s1, n1, l1, _, _⟩ := lotB_all hb
      refine ⟨_, rfl, _, rfl, ⟨qs, e, rfl, hq, ok2⟩, fun _ h2 => ?_, fun er h2 => ?_⟩
      · obtain ⟨_, _, e2, hc⟩ := h2
        cases e2
        obtain ⟨s2, n2, l2⟩ := curveB_all hc
        refine ⟨_, rfl, _, rfl, ⟨d, e, _, _, 45, rfl, s1, s2, n1, n2, fun x hx => ok.sz x hx, fun x hx => ok2.sz x hx, by omega⟩, ?_⟩
        rintro _ ⟨_, _, l, m, e3, s3, s4, rfl⟩
        cases e3
        exact ⟨qs, d, e, rfl, hb, hc, by rw [seq_inj s3 s1, seq_inj s4 s2]⟩
      · obtain ⟨_, _, e2, hc, rfl⟩ := h2
        cases e2
        exact ⟨qs, d, e, rfl, .inr ⟨hb, hc, rfl⟩⟩
    · obtain ⟨_, _, e1, hb, rfl⟩ := h1
      cases e1
      exact ⟨qs, d, e, rfl, .inl ⟨hb, rfl⟩⟩
theorem ok_means_of (T : Tx K mg a) : FnOk P w K mg base (L2N.CX P w) 9 a.f_means_of a.d_means_of P_means_of (spXL a.G (fxMeans a.C_BadLot a.C_BadCount)) := by
  refine T.F_means_of.ok sc_means_of (fun vs H Q E h => ?_) (fun cdv A outer s H vs Q E hr h => ?_)
  · obtain ⟨ds, X, hv, _, ⟨qs, d, e, rfl, _⟩, _⟩ := h
    exact hv.length
  · refine ⟨_, (pss_cons (ps_expr (pe_callS (ok_check_lot T) (hr.mono (by decide)) (by rfl) T.g_check_lot T.F_check_lot.kp (bd_check_lot T) (fun σ => L2N.passAt (L2N.takes_of rfl rfl rfl rfl) σ) (pa_cons (pv 0) (pa_cons (pv 1) pa_nil)))) (pss_cons (ps_if (PW.pt (pw_or (pt_not (pt_val (pe_call (ok_is_whole T) (hr.mono (by decide)) (by rfl) T.g_is_whole T.F_is_whole.kp (bd_is_whole T) .nil pass0 (pa_cons (pv 2) pa_nil)))) (pw_or1 (pt_not (pt_chain op_le op_le pe_int (pv 2) (pe_glob (v := .int 8) rfl T.c_MOST_POWERS.choose_spec ⟨_, rfl⟩)))))) (pss_one (L2N.ps_raise rfl (L2N.takes_of rfl rfl rfl rfl) (pmk_oexN T.oc_BadCount T.fi_BadCount T.ti_BadCount (ok_BadCount_init T) (hr.mono (by decide)) (bd_BadCount_init T) .nil pass0 (by rfl) T.g_BadCount (pa_cons (pv 2) pa_nil)))) pss_nil) (pss_cons (ps_set (i := 3) sc_means_of.nd rfl (Or.inl rfl) (pe_meth0 (pv 0) T.RS.cl T.m_Scale_marks (ok_Scale_marks T) (hr.mono (by decide)) (bd_Scale_marks T) .nil pass0)) (pss_cons (ps_setLc (i := 4) (own := [("share", 5)]) (g := (gName 5)) (tt := tYes) rfl sc_means_of.nd rfl rfl (sw_true rfl rfl rfl (by decide +kernel)) (pi_seq (pv 1)) (blkOk_by (N := N_means_of) (sc := defScope s_means_of) (by decide +kernel)) (fun _ _ _ _ _ => pg_name (i := 5) sc_means_of.nd rfl (Or.inl rfl)) (fun _ _ _ _ _ => pts_nil) (fun _ _ _ _ _ => (pe_call (ok_as_ratio T) (hr.mono (by decide)) (by rfl) T.g_as_ratio T.F_as_ratio.kp (bd_as_ratio T) .nil pass0 (pa_cons (pv 5) pa_nil)))) (pss_cons (ps_set (i := 6) sc_means_of.nd rfl (Or.inl rfl) (pe_lst pa_nil)) (pss_cons (ps_for (passes_of rfl) rfl (pi_range1 (by rfl) T.b_range (pa_cons (pv 2) pa_nil)) (pg_name (i := 7) sc_means_of.nd rfl (Or.inl rfl)) (pss_cons (ps_setLc (i := 4) (own := [("part", 8), ("mark", 9)]) (g := (gTup K 2 (gCons (gName 8) (gCons (gName 9) gNil)))) (tt := tYes) rfl sc_means_of.nd rfl rfl (sw_true rfl rfl rfl (by decide +kernel)) (pi_zip (by rfl) T.b_zip (pa_cons (pv 4) (pa_cons (pv 3) pa_nil))) (blkOk_by (N := N_means_of) (sc := defScope s_means_of) (by decide +kernel)) (fun _ _ _ _ _ => by exact (pg_tup rfl (pgs_cons (pg_name (i := 8) sc_means_of.nd rfl (Or.inl rfl)) (pgs_cons (pg_name (i := 9) sc_means_of.nd rfl (Or.inl rfl)) pgs_nil)))) (fun _ _ _ _ _ => pts_nil) (fun _ _ _ _ _ => (pe_op (op_own T.o_mul (ok_Ratio_mul T) (hr.mono (by decide)) (bd_Ratio_mul T) pass0) (pv 8) (pv 9)))) (pss_one (ps_expr (pe_bm PySem.F.plainAttrs_list PySem.F.slot_list_append PySem.F.type_list_append mt_append (pv 6) (pa_cons (pe_call (ok_total T) (hr.mono (by decide)) (by rfl) T.g_total T.F_total.kp (bd_total T) .nil pass0 (pa_cons (pv 4) pa_nil)) pa_nil)))))) (pss_one (ps_ret (pv 6))))))))), ?_⟩
    refine spXL.def (G := a.G) (E := E) (PUS.seq (PUS.drop (PU.callX (PUA.cons (PU.var (i := 0)) (PUA.cons (PU.var (i := 1)) PUA.nil)))) (PUS.seq (PUS.ifS (PUT.or (PUT.not (PUT.b (PU.iswh T.R (PUA.cons (PU.var (i := 2)) PUA.nil)))) (PUT.not (PUT.test (PU.chain RD.b0 RD.b0 PU.ci (PU.var (i := 2)) PU.ci)))) (PUS.raise (PU.var (i := 2))) PUS.next) (PUS.seq (PUS.set (i := 3) (PUF.toV (PUF.marks (PU.var (i := 0))))) (PUS.seq (PUS.set (i := 4) (PUF.toV (PUF.lc (i := 5) (E1 := E0) (E2 := E0) (PUI.seqV (i := 1)) PUT.yes (PU.asr (PUA.cons (PU.var (i := 5)) PUA.nil))))) (PUS.seq (PUS.setF (i := 6) (PUF.lst PUA.nil)) (PUS.seq (PUS.for (PUI.rng1 (PUA.cons (PU.var (i := 2)) PUA.nil)) (PUG.name (i := 7)) (PUS.seq (PUS.set (i := 4) (PUF.toV (PUF.lc2 (i := 8) (j := 9) (E1 := E0) (E2 := E0) (by decide) (PUI.zip (PUA.cons (PU.var (i := 4)) (PUA.cons (PU.var (i := 3)) PUA.nil))) PUT.yes (PU.op RD.num2 (PU.var (i := 8)) (PU.var (i := 9)))))) (PUS.app (i := 6) (PU.call (PUA.cons (PU.var (i := 4)) PUA.nil))))) (PUS.retF (PUF.mv (i := 6))))))))) (fun ds hp => ?_) h
    obtain ⟨qs, d, e, rfl, hq, szq, ok, hk⟩ := hp
    refine ⟨_, rfl, _, rfl, ⟨qs, d, rfl, hq, ok⟩, fun _ h1 => ?_, fun er h1 => ?_⟩
    · obtain ⟨_, _, e1, hb⟩ := h1
      cases e1
      obtain ⟨s1, n1, l1, _, _⟩ := lotB_all hb
      have hps : ∀ p ∈ nums d.items, Sz 45 p := fun p hp => by
        obtain ⟨x, hx, rfl⟩ := List.mem_map.mp hp
        exact ok.sz x hx
      have hlen : (nums d.items).length = qs.length := by unfold nums; rw [List.length_map]; exact l1
      have hno : countB e = false → (endXL (fxMeans a.C_BadLot a.C_BadCount) [Dt.scl qs, d, e]).ex (.own a.C_BadCount "given" e) := fun hc => ⟨qs, d, e, rfl, .inr ⟨hb, hc, rfl⟩⟩
      refine ⟨_, rfl, _, rfl, hk, _, rfl, ?_⟩
      cases e with
      | int i =>
        have h0 : ¬ (0 ≤ i ∧ i ≤ 8) → countB (.int i) = false := fun h => decide_eq_false h
        refine ite_f ⟨_, rfl, 0, i, rfl, rfl, _, rfl, ite_d (fun hi => ?_) (fun hi => ?_)⟩
        · refine ⟨i, 8, rfl, rfl, _, rfl, ?_⟩
          by_cases hi8 : i ≤ 8
          · rw [decide_eq_true hi8]
            refine ite_f ?_
            have hc : countB (.int i) = true := decide_eq_true ⟨hi, hi8⟩
            refine ⟨_, rfl, qs, rfl, d.items, seq_slot s1, ?_⟩
            refine lcP_map (g := fun x => .rat x.num) _ _ rfl (by simp; have := ok.len; omega) rfl (fun x hx K hK => ⟨x, rfl, x, rfl, allNum_mem n1 hx, sz_le' (ok.sz x hx) (by decide), hK⟩) ?_
            rw [List.nil_append]
            refine ⟨by decide, _, rfl, i, rfl, ⟨by omega, by omega⟩, ?_⟩
            refine forP_rng (n := i.toNat) (fun j ρ => ∃ u, ρ = [.val (.scl qs), .val d, .val (.int i), .val (.lst (qs.map .rat)), .val (.lst (partK (nums d.items) qs j)), .un, .own ((List.range j).map fun k => .rat (meanK (nums d.items) qs (k + 1))), u, .un, .un]) rfl ⟨_, by rw [partK_zero hlen]; unfold nums; rw [List.map_map]; rfl⟩ (fun j ρ K hj hI hK => ?_) (fun ρ hI => ?_)
            · obtain ⟨u, rfl⟩ := hI
              have hj8 : j + 1 ≤ 8 := by omega
              refine ⟨_, rfl, _, rfl, _, _, rfl, ?_⟩
              refine lcP2_map (g := fun x y => .rat (x.num * y.num)) (by decide) _ _ rfl rfl (by simp [partK]; omega) (fun x hx K hK => ?_) ?_
              · have h1 := (List.of_mem_zip hx).1
                have h2 := (List.of_mem_zip hx).2
                have h3 := sz_le' (partK_sz hps szq (j := j) (by omega) _ h1) (b := 3000) (by decide)
                obtain ⟨e, he, e1⟩ := List.mem_map.mp h1
                obtain ⟨q, hq2, e2⟩ := List.mem_map.mp h2
                rw [← e1] at h3 hK ⊢
                rw [← e2] at hK ⊢
                exact ⟨_, rfl, _, rfl, _, rfl, rfl, h3, sz_le' (szq q hq2) (by decide), hK⟩
              · rw [List.nil_append, partK_succ]
                refine ⟨⟨_, rfl⟩, _, rfl, ⟨_, partK (nums d.items) qs (j + 1), 290, rfl, .inl rfl, partK_num .., partK_sz hps szq hj8, ?_⟩, ?_⟩
                · unfold partK
                  rw [List.length_map, List.length_zip]
                  have : min (nums d.items).length qs.length + 1 ≤ 9 := by omega
                  exact Nat.le_trans (Nat.mul_le_mul_left _ this) (by decide)
                · rintro _ ⟨d', l', e1, h2, rfl⟩
                  injection e1 with e1
                  subst e1
                  have e3 := (Dt.seq_items h2).1
                  subst e3
                  refine ⟨_, rfl, by simp; omega, hK _ ⟨.val (.int (j : Int)), ?_⟩⟩
                  rw [List.range_succ, List.map_append, List.map_singleton]
                  show _ = [Slot.val (.scl qs), _, _, _, _, _, .own (_ ++ [Dt.rat (sumR _)]), _, _, _]
                  rw [show sumR (nums (Dt.lst (partK (nums d.items) qs (j + 1))).items) = meanK (nums d.items) qs (j + 1) from congrArg sumR (partK_nums ..)]
                  rfl
            · obtain ⟨u, rfl⟩ := hI
              exact ⟨_, rfl, qs, d, _, rfl, hb, hc, rfl⟩
          · rw [decide_eq_false hi8]
            exact ite_t ⟨_, rfl, hno (h0 fun h => hi8 h.2)⟩
        · exact ⟨_, rfl, ite_t ⟨_, rfl, hno (h0 fun h => hi h.1)⟩⟩
      | _ => exact ite_t (ite_t ⟨_, rfl, hno rfl⟩)
    · obtain ⟨_, _, e1, hb, rfl⟩ := h1
      cases e1
      exact ⟨qs, d, e, rfl, .inl ⟨hb, rfl⟩⟩
theorem ok_uses (T : Tx K mg a) : FnOk P w K mg base (L2N.CX P w) 9 a.f_uses a.d_uses P_uses (spXL a.G (fxUses a.C_BadLot)) := by
  refine T.F_uses.ok sc_uses (fun vs H Q E h => ?_) (fun cdv A outer s H vs Q E hr h => ?_)
  · obtain ⟨ds, X, hv, _, ⟨qs, d, rfl, _⟩, _⟩ := h
    exact hv.length
  · refine ⟨_, (pss_cons (ps_expr (pe_callS (ok_check_lot T) (hr.mono (by decide)) (by rfl) T.g_check_lot T.F_check_lot.kp (bd_check_lot T) (fun σ => L2N.passAt (L2N.takes_of rfl rfl rfl rfl) σ) (pa_cons (pv 0) (pa_cons (pv 1) pa_nil)))) (pss_one (ps_ret (pe_lc (own := [("place", 2), ("share", 3)]) (g := (gTup K 2 (gCons (gName 2) (gCons (gName 3) gNil)))) rfl sc_uses.nd (pi_enumX (by rfl) T.b_enumerate (pa_cons (pv 1) pa_nil)) (blkOk_by (N := N_uses) (sc := defScope s_uses) (by decide +kernel)) (fun _ _ _ _ _ => by exact (pg_tup rfl (pgs_cons (pg_name (i := 2) sc_uses.nd rfl (Or.inl rfl)) (pgs_cons (pg_name (i := 3) sc_uses.nd rfl (Or.inl rfl)) pgs_nil)))) (fun _ _ _ _ _ => pts_one (pt_not (pt_cmpR (opR_or op_eq (op_cmpV (K := K) rfl (fun _ _ => rfl) T.p_eq (ok_Ratio_eq T) (hr.mono (by decide)) (bd_Ratio_eq T) pass0)) (pv 3) pe_int (nomark _)))) (fun _ _ _ _ _ => (pv 2)))))), ?_⟩
    refine spXL.def (G := a.G) (E := E) (PUS.seq (PUS.drop (PU.callX (PUA.cons (PU.var (i := 0)) (PUA.cons (PU.var (i := 1)) PUA.nil)))) (PUS.retF (PUF.lc2 (i := 2) (j := 3) (E1 := E0) (E2 := E0) (by decide) (PUI.enumX (PUA.cons (PU.var (i := 1)) PUA.nil)) (PUT.not (PUT.test (PU.op (RD.or RD.eq (RD.eqR T.R)) (PU.var (i := 3)) PU.ci))) (PU.var (i := 2))))) (fun ds hp => ?_) h
    obtain ⟨qs, d, rfl, hq, ok⟩ := hp
    refine ⟨_, rfl, _, rfl, ⟨qs, d, rfl, hq, ok⟩, fun _ h1 => ?_, fun er h1 => ?_⟩
    · obtain ⟨_, _, e1, hb⟩ := h1
      cases e1
      obtain ⟨s1, n1, l1, _, _⟩ := lotB_all hb
      refine ⟨_, rfl, d, d.items, rfl, s1, ?_⟩
      have e0 : (d.items.zipIdx.map fun e => Dt.tup [.int (e.2 : Int), e.1]) = (d.items.zipIdx.map fun e => (Dt.int (e.2 : Int), e.1)).map fun e => Dt.tup [e.1, e.2] := by rw [List.map_map]; rfl
      rw [e0]
      refine lcP2_fm (p := fun _ y => !decide (y.num = 0)) (g := fun x _ => x) (by decide) _ _ rfl rfl (by simp; have := ok.len; omega) (fun x hx K hK => ?_) (fun x hx _ K hK => ⟨_, rfl, hK⟩) ?_
      · obtain ⟨y, hy, rfl⟩ := List.mem_map.mp hx
        refine ⟨_, rfl, ?_⟩
        refine show _ ∨ O_eqR _ _ _ from ?_
        exact eq_zero (allNum_mem n1 (List.fst_mem_of_mem_zipIdx hy)) ⟨_, rfl, hK⟩ ⟨_, rfl, hK⟩
      · rw [List.nil_append]
        exact ⟨qs, d, rfl, hb, congrArg Dt.lst (uses_dt d.items)⟩
    · obtain ⟨_, _, e1, hb, rfl⟩ := h1
      cases e1
      exact ⟨qs, d, rfl, hb, rfl⟩
end
end Kx


set_option maxHeartbeats 2000000
namespace Fm
open PySem PySem.Spec PyProof.Rows L2
theorem cr_sumV {X : Cx} {K : PySem.W.Frag} (hK : X.K = K) (hc : X.calm = true) : CallR X (.builtin "sum") (rSum K) := by subst hK; exact cr_sum hc
theorem pi_listV {X : Cx} {K : PySem.W.Frag} {tg l : Expr} {tl : TE} (hK : X.K = K) (hl : PE X l tl) : PI X tg l (iList K tl) := by subst hK; exact pi_list hl
/-! ### the laws' own helpers, over data -/
def fdPower : FD where
  pre := fun ds => ∃ q : Rat, ∃ n : Nat, ds = [.rat q, .int (n : Int)] ∧ n ≤ 8 ∧ Sz 30 q
  post := fun ds d => ∃ q : Rat, ∃ n : Nat, ds = [.rat q, .int (n : Int)] ∧ d = .rat (q ^ n)
/-- sums of products of Ratios -/
def fdMeanL : FD where
  pre := fun ds => ∃ ps qs : List Rat, ∃ k m : Nat, ds = [.lst (ps.map .rat), .lst (qs.map .rat)] ∧ ps.length = qs.length ∧ (∀ p ∈ ps, Sz k p) ∧ (∀ q ∈ qs, Sz m q) ∧ (k + m + 1) * (ps.length + 1) ≤ 3000
  post := fun ds d => ∃ ps qs : List Rat, ds = [.lst (ps.map .rat), .lst (qs.map .rat)] ∧ d = .rat (dotR ps qs)
def fdMeansL : FD where
  pre := fun ds => ∃ qs ps : List Rat, ∃ n : Nat, ds = [.lst (qs.map .rat), .lst (ps.map .rat), .int (n : Int)] ∧ ps.length = qs.length ∧ ps.length ≤ 8 ∧ n ≤ 8 ∧ (∀ p ∈ ps, Sz 45 p) ∧ (∀ q ∈ qs, Sz 30 q)
  post := fun ds d => ∃ qs ps : List Rat, ∃ n : Nat, ds = [.lst (qs.map .rat), .lst (ps.map .rat), .int (n : Int)] ∧ d = .lst ((List.range n).map fun k => .rat (meanK ps qs (k + 1)))
/-- shares: none below 0, their sum is 1 -/
def LotR (n : Nat) (ps : List Rat) : Prop := ps.length = n ∧ (∀ p ∈ ps, 0 ≤ p) ∧ sumR ps = 1 ∧ ∀ p ∈ ps, Sz 10 p
def fdLotL : FD where
  pre := fun ds => ∃ n : Nat, ds = [.int (n : Int)] ∧ 1 ≤ n ∧ n ≤ 8
  post := fun ds d => ∃ n : Nat, ∃ ps : List Rat, ds = [.int (n : Int)] ∧ LotR n ps ∧ d = .lst (ps.map .rat)
def CurveR (n : Nat) (ps : List Rat) : Prop := ps.length = n ∧ ∀ p ∈ ps, Sz 10 p
def fdCurveL : FD where
  pre := fun ds => ∃ n : Nat, ds = [.int (n : Int)] ∧ n ≤ 8
  post := fun ds d => ∃ n : Nat, ∃ ps : List Rat, ds = [.int (n : Int)] ∧ CurveR n ps ∧ d = .lst (ps.map .rat)
theorem dotR_take {ps qs : List Rat} (hl : ps.length = qs.length) {i : Nat} (hi : i < ps.length) : dotR (ps.take (i + 1)) (qs.take (i + 1)) = dotR (ps.take i) (qs.take i) + ps[i] * qs[i]'(hl ▸ hi) := by
  have e1 : ps.take (i + 1) = ps.take i ++ [ps[i]] := by rw [List.take_succ_eq_append_getElem hi]
  have e2 : qs.take (i + 1) = qs.take i ++ [qs[i]'(hl ▸ hi)] := by rw [List.take_succ_eq_append_getElem (hl ▸ hi)]
  unfold dotR
  rw [e1, e2, List.zip_append (by rw [List.length_take, List.length_take]; omega), List.map_append, List.zip_cons_cons, List.zip_nil_left, List.map_singleton, sumR_snoc]
/-! shares from units -/
theorem divInt_same {S : Int} (hS : S ≠ 0) (a u : Int) : Rat.divInt a S + Rat.divInt u S = Rat.divInt (a + u) S := by
  rw [Rat.divInt_add_divInt _ _ hS hS, Rat.divInt_eq_divInt_iff (Int.mul_ne_zero hS hS) hS, ← Int.add_mul, Int.mul_assoc]
def natS (us : List Nat) : Int := (us.map fun (u : Nat) => (u : Int)).sum
theorem natS_cons (u : Nat) (us : List Nat) : natS (u :: us) = (u : Int) + natS us := by unfold natS; rw [List.map_cons, List.sum_cons]
theorem units_sum {S : Int} (hS : S ≠ 0) : ∀ (us : List Nat) (a : Int), (us.map fun (u : Nat) => Rat.divInt (u : Int) S).foldl (· + ·) (Rat.divInt a S) = Rat.divInt (a + natS us) S
  | [], a => by
    rw [List.map_nil, List.foldl_nil]
    show _ = Rat.divInt (a + 0) S
    rw [Int.add_zero]
  | u :: us, a => by
    rw [List.map_cons, List.foldl_cons, divInt_same hS, units_sum hS us, natS_cons, Int.add_assoc]
theorem natS_pos : ∀ us : List Nat, 0 ≤ natS us
  | [] => by show (0 : Int) ≤ 0; decide
  | u :: us => by rw [natS_cons]; have := natS_pos us; omega
theorem natS_ge : ∀ {us : List Nat} {u : Nat}, u ∈ us → (u : Int) ≤ natS us
  | v :: us, u, h => by
    rw [natS_cons]
    have := natS_pos us
    rcases List.mem_cons.mp h with rfl | h
    · omega
    · have := natS_ge h; omega
theorem natS_le {k : Nat} : ∀ {us : List Nat}, (∀ u ∈ us, u ≤ k) → natS us ≤ ((k * us.length : Nat) : Int)
  | [], _ => by show (0 : Int) ≤ _; omega
  | u :: us, h => by
    rw [natS_cons, List.length_cons, Nat.mul_succ]
    have := natS_le (us := us) fun x hx => h x (List.mem_cons_of_mem _ hx)
    have := h u (List.mem_cons_self ..)
    omega
theorem lotR_units {us : List Nat} (h5 : ∀ u ∈ us, u ≤ 5) (hl : us.length ≤ 8) {v : Nat} (hv : v ∈ us) (h1 : 1 ≤ v) : LotR us.length (us.map fun (u : Nat) => Rat.divInt (u : Int) (natS us)) := by
  have g := natS_ge hv
  have l := natS_le h5
  generalize hS : natS us = S at g l
  refine ⟨List.length_map .., fun p hp => ?_, ?_, fun p hp => ?_⟩
  · obtain ⟨u, _, rfl⟩ := List.mem_map.mp hp
    have := (divInt_le (p := 0) (q := 1) (r := (u : Int)) (s := S) (by decide) (by omega)).mpr (by omega)
    rwa [Rat.zero_divInt] at this
  · have e := units_sum (S := S) (by omega) us 0
    rw [Rat.zero_divInt, hS, Int.zero_add] at e
    unfold sumR
    rw [e, ← show Rat.divInt 1 1 = (1 : Rat) from int_divInt 1]
    exact (divInt_eq (by omega) (by decide)).mpr (by omega)
  · obtain ⟨u, hu, rfl⟩ := List.mem_map.mp hp
    have := h5 u hu
    exact Sz.divInt (by omega) (by omega) (by omega)
theorem at_ints (l : List Int) {k : Nat} (h : k < l.length) : ∃ u ∈ l, atI (l.map Dt.int) (k : Int) = some (.int u) :=
  ⟨l[k], List.getElem_mem h, atI_nat (by rw [List.getElem?_map, List.getElem?_eq_getElem h]; rfl)⟩
theorem rats_inj : ∀ {ps qs : List Rat}, ps.map Dt.rat = qs.map Dt.rat → ps = qs
  | [], [], _ => rfl
  | p :: ps, q :: qs, h => by
    rw [List.map_cons, List.map_cons] at h
    injection h with h1 h2
    injection h1 with h1
    rw [h1, rats_inj h2]
theorem zip_pow : ∀ (ps qs : List Rat) (n : Nat), (ps.zip (qs.map fun q => q ^ n)).map (fun e => e.1 * e.2) = (ps.zip qs).map fun e => e.1 * e.2 ^ n
  | [], _, _ => rfl
  | _ :: _, [], _ => rfl
  | p :: ps, q :: qs, n => by rw [List.map_cons, List.zip_cons_cons, List.zip_cons_cons, List.map_cons, List.map_cons, zip_pow ps qs n]
theorem dotR_pow (ps qs : List Rat) (n : Nat) : dotR ps (qs.map fun q => q ^ n) = meanK ps qs n := by unfold dotR meanK; rw [zip_pow]
theorem mulW {i j : Int} (h : i.natAbs + j.natAbs < 1000000) : CMulW i j := by
  unfold CMulW
  have := Nat.log2_le_self i.natAbs
  have := Nat.log2_le_self j.natAbs
  omega
theorem ixN_at {n j : Nat} (hj : j < n) : ixN n (j : Int) = some j := by
  unfold ixN
  rw [if_pos (by omega), if_pos (by omega)]
  simp
def fdMixed : FD where
  pre := fun ds => ∃ l : List Dt, ds = [.lst l] ∧ l.length ≤ 1000
  post := fun ds d => ∃ l m : List Dt, ds = [.lst l] ∧ m.Perm l ∧ d = .lst m
/-- values that ascend -/
def Climb (qs : List Rat) : Prop := qs.Pairwise (· < ·)
def fdValues : FD where
  pre := fun ds => ∃ n : Nat, ds = [.int (n : Int)] ∧ 1 ≤ n ∧ n ≤ 8
  post := fun ds d => ∃ n : Nat, ∃ qs : List Rat, ds = [.int (n : Int)] ∧ Climb qs ∧ 1 ≤ qs.length ∧ qs.length ≤ n ∧ (∀ q ∈ qs, Sz 30 q) ∧ d = .lst (qs.map .rat)
def fdMade : FD where
  pre := fun ds => ∃ qs : List Rat, ds = [.lst (qs.map .rat)] ∧ Climb qs ∧ 1 ≤ qs.length ∧ qs.length ≤ 8 ∧ ∀ q ∈ qs, Sz 200 q
  post := fun ds d => ∃ qs : List Rat, ds = [.lst (qs.map .rat)] ∧ d = .scl qs
def fdGiven : FD where
  pre := fun ds => ∃ qs : List Rat, ds = [.lst (qs.map .rat)] ∧ qs.length ≤ 1000
  post := fun ds d => ∃ qs : List Rat, ∃ l : List Dt, ds = [.lst (qs.map .rat)] ∧ d.seq l ∧ l.all Dt.isNum = true ∧ nums l = qs
def fdIsNums : FD where
  pre := fun ds => ∃ (d : Dt) (n : Nat), ds = [d, .int (n : Int)] ∧ n ≤ 8 ∧ d.Ok 45
  post := fun ds r => ∃ (d : Dt) (n : Nat), ds = [d, .int (n : Int)] ∧ r = .bl (curveB d n)
def fdIsLot : FD where
  pre := fun ds => ∃ (d : Dt) (n : Nat), ds = [d, .int (n : Int)] ∧ n ≤ 8 ∧ d.Ok 45
  post := fun ds r => ∃ (d : Dt) (n : Nat), ds = [d, .int (n : Int)] ∧ r = .bl (lotB d n)
/-! taking out and putting on -/
theorem erase_perm {α : Type} : ∀ {l : List α} {k : Nat} {x : α}, l[k]? = some x → (x :: l.eraseIdx k).Perm l
  | y :: l, 0, x, h => by simp at h; subst h; exact .refl _
  | y :: l, k + 1, x, h => by
    rw [List.eraseIdx_cons_succ]
    exact (List.Perm.swap y x _).trans (.cons y (erase_perm (by simpa using h)))
theorem mix_perm {α : Type} {f r l : List α} {k : Nat} {x : α} (h : r[k]? = some x) (p : (f ++ r).Perm l) : ((f ++ [x]) ++ r.eraseIdx k).Perm l := by
  rw [List.append_assoc]
  exact ((erase_perm h).append_left f).trans p
/-! values -/
theorem climb_units {is : List Int} (h : is.Pairwise (· < ·)) {part : Int} (hp : 0 < part) : Climb (is.map fun i => Rat.divInt i part) :=
  List.pairwise_map.mpr (h.imp fun hij => (divInt_lt hp hp).mpr (Int.mul_lt_mul_of_pos_right hij hp))
theorem wide_eq {part : Int} (hp : 0 < part) (i c : Int) : Rat.divInt i part * ((1000 : Int) : Rat) + Rat.divInt c 7 = Rat.divInt (i * 7000 + c * part) (part * 7) := by
  rw [← int_divInt, mul_div2, add_div2 (by omega) (by decide), Int.mul_one]
  congr 1
  rw [Int.mul_assoc]
  rfl
theorem climb_wide {is : List Int} (h : is.Pairwise (· < ·)) {part : Int} (hp : 1 ≤ part ∧ part ≤ 6) : Climb ((List.range is.length).map fun (k : Nat) => Rat.divInt (is.getD k 0) part * ((1000 : Int) : Rat) + Rat.divInt ((k : Int) % 3) 7) := by
  refine List.pairwise_map.mpr (List.Pairwise.imp_of_mem (fun {a b} ha hb hab => ?_) List.pairwise_lt_range)
  have ha := List.mem_range.mp ha
  have hb := List.mem_range.mp hb
  have hlt := List.pairwise_iff_getElem.mp h a b ha hb hab
  rw [wide_eq (by omega), wide_eq (by omega), List.getD_eq_getElem?_getD, List.getD_eq_getElem?_getD, List.getElem?_eq_getElem ha, List.getElem?_eq_getElem hb]
  refine (divInt_lt (by omega) (by omega)).mpr (Int.mul_lt_mul_of_pos_right ?_ (by omega))
  show is[a] * 7000 + _ < is[b] * 7000 + _
  have h1 : (a : Int) % 3 * part ≤ 2 * 6 := Int.mul_le_mul (by omega) hp.2 (by omega) (by decide)
  have h2 : 0 ≤ (b : Int) % 3 * part := Int.mul_nonneg (by omega) (by omega)
  omega
/-- a whole Ratio as an int, otherwise itself -/
theorem whole_num {q : Rat} (h : ((q.den : Nat) : Int) = 1) : ((q.num : Int) : Rat) = q := by
  have h : q.den = 1 := by omega
  exact Rat.ext rfl h.symm
theorem nums_rats (qs : List Rat) : nums (qs.map Dt.rat) = qs := by unfold nums; rw [List.map_map]; exact List.map_id' qs
theorem nums_perm {l m : List Dt} (h : l.Perm m) : (nums l).Perm (nums m) := h.map _
theorem nums_snoc (l : List Dt) (x : Dt) : nums (l ++ [x]) = nums l ++ [x.num] := by unfold nums; rw [List.map_append]; rfl
theorem nums_take (l : List Dt) {i : Nat} {x : Dt} (h : l[i]? = some x) : nums (l.take (i + 1)) = nums (l.take i) ++ [x.num] := by rw [take_succ_get h, nums_snoc]
/-! lists of ones -/
theorem py_ones : ∀ n : Nat, pyL (List.replicate n (Dt.int 1)) = some (List.replicate n (PyData.int 1))
  | 0 => rfl
  | n + 1 => by
    rw [List.replicate_succ, List.replicate_succ]
    unfold pyL
    rw [py_ones n]
    rfl
theorem lay_ones : ∀ n : Nat, PyData.canLayAll0 (List.replicate n (PyData.int 1)) = true
  | 0 => rfl
  | n + 1 => by rw [List.replicate_succ]; simp only [PyData.canLayAll0, PyData.canLay0, Bool.true_and, lay_ones n]
theorem depth_ones : ∀ n : Nat, PyData.depthAll (List.replicate n (PyData.int 1)) ≤ 3
  | 0 => by simp [PyData.depthAll]
  | n + 1 => by have := depth_ones n; rw [List.replicate_succ]; simp only [PyData.depthAll, PyData.depth]; omega
theorem ones_of (l : List Dt) : ∃ k, ((l.filter fun x => !x.isNum).map fun _ => Dt.int 1) = List.replicate k (Dt.int 1) ∧ decide (k = 0) = l.all Dt.isNum ∧ k ≤ l.length := by
  refine ⟨(l.filter fun x => !x.isNum).length, List.map_const' .., ?_, List.length_filter_le ..⟩
  cases h : l.all Dt.isNum with
  | true =>
    refine decide_eq_true (List.length_eq_zero_iff.mpr (List.filter_eq_nil_iff.mpr fun x hx => ?_))
    rw [List.all_eq_true.mp h x hx]
    simp
  | false =>
    refine decide_eq_false fun e => ?_
    rw [Bool.eq_false_iff] at h
    exact h (List.all_eq_true.mpr fun x hx => by have := List.filter_eq_nil_iff.mp (List.length_eq_zero_iff.mp e) x hx; simpa using this)
theorem ones_py (k : Nat) : (Dt.lst (List.replicate k (Dt.int 1))).py = some (.list (List.replicate k (PyData.int 1))) := by unfold Dt.py; rw [py_ones]; rfl
theorem ones_shaped (k : Nat) : SeqAt.shaped (.list (List.replicate k (PyData.int 1))) = true := by
  show (PyData.canLay0 _ && decide (PyData.depth _ ≤ 64)) = true
  rw [show PyData.canLay0 (.list (List.replicate k (PyData.int 1))) = true from by simp only [PyData.canLay0, lay_ones], Bool.true_and]
  have := depth_ones k
  exact decide_eq_true (by simp only [PyData.depth]; omega)
theorem ones_nil (k : Nat) : PyData.eqv (.list (List.replicate k (PyData.int 1))) (.list []) = decide (k = 0) := by
  cases k with
  | zero => rfl
  | succ k => rfl
theorem ite_bn {b : Bool} {A B : Prop} (h1 : b = false → A) (h2 : b = true → B) : if (!b) = true then A else B := by cases b <;> simp <;> first | exact h1 rfl | exact h2 rfl
theorem neg_no {q : Rat} (h : ((0 : Int) : Rat) + q < ((0 : Int) : Rat)) : ¬ 0 ≤ q.num := fun h2 => by
  have h3 := Rat.num_nonneg.mp h2
  grind
theorem neg_yes {q : Rat} (h : ¬ ((0 : Int) : Rat) + q < ((0 : Int) : Rat)) : 0 ≤ q.num := Rat.num_nonneg.mpr (by grind)
/-- one of two, whichever -/
theorem ite_val {b : Bool} {K : Dt → Prop} {x y : Dt} (h : ∀ z, z = x ∨ z = y → K z) : if b = true then (∃ d, some (Slot.val x) = some (Slot.val d) ∧ K d) else (∃ d, some (Slot.val y) = some (Slot.val d) ∧ K d) := by
  cases b with
  | true => exact ite_t ⟨x, rfl, h x (.inl rfl)⟩
  | false => exact ite_f ⟨y, rfl, h y (.inr rfl)⟩
end Fm

set_option maxHeartbeats 4000000
namespace Kx
open PySem PySem.Spec PyProof.Rows L2 Fm
section
variable {P : Program} {w : World} {K : PySem.W.Frag} {mg : Str → Option Value} {base : Heap} {a : Ad}
theorem ok_Lpower (T : Tx K mg a) : FnOk P w K mg base CX0 5 a.f_Lpower a.d_Lpower P_Lpower (spV a.G fdPower) := by
  refine def_ok0 T.F_Lpower sc_Lpower (fun vs H Q E h => ?_) (fun cdv A outer s H vs Q E hr h => ?_)
  · obtain ⟨ds, X, hv, _, ⟨q, n, rfl, _⟩, _⟩ := h
    exact hv.length
  · refine ⟨_, (pss_cons (ps_set (i := 2) sc_Lpower.nd rfl (Or.inl rfl) (pe_make T.mk_Ratio (ok_Ratio_init T) (hr.mono (by decide)) (by rfl) T.g_Ratio (bd1_Ratio_init T).choose_spec.2 (bd1_Ratio_init T).choose_spec.1 pass0 (pa_cons pe_int pa_nil))) (pss_cons (ps_for PassesOwn.never rfl (pi_range1 (by rfl) T.b_range (pa_cons (pv 1) pa_nil)) (pg_name (i := 3) sc_Lpower.nd rfl (Or.inl rfl)) (pss_one (ps_set (i := 2) sc_Lpower.nd rfl (Or.inl rfl) (pe_op (op_own T.o_mul (ok_Ratio_mul T) (hr.mono (by decide)) (bd_Ratio_mul T) pass0) (pv 2) (pv 0))))) (pss_one (ps_ret (pv 2))))), ?_⟩
    refine spV.def (G := a.G) (E := E0) (PUS.seq (PUS.set (i := 2) (PU.mkR1 (PUA.cons PU.ci PUA.nil))) (PUS.seq (PUS.for (PUI.rng1 (PUA.cons (PU.var (i := 1)) PUA.nil)) (PUG.name (i := 3)) (PUS.set (i := 2) (PU.op RD.num2 (PU.var (i := 2)) (PU.var (i := 0))))) (PUS.ret (PU.var (i := 2))))) (fun ds hp => ?_) h
    obtain ⟨q, n, rfl, hn, hq⟩ := hp
    refine ⟨1, rfl, by decide, _, rfl, (n : Int), rfl, by omega, ?_⟩
    refine forP_rng (n := n) (fun i ρ => ∃ u, ρ = [.val (.rat q), .val (.int (n : Int)), .val (.rat (q ^ i)), u]) (Int.toNat_natCast n) ⟨.un, by rw [Rat.pow_zero]; rfl⟩ (fun i ρ K hi hI hK => ?_) (fun ρ hI => ?_)
    · obtain ⟨u, rfl⟩ := hI
      exact ⟨_, rfl, _, rfl, _, rfl, rfl, sz_le' (hq.pow i) (by omega), sz_le' hq (by decide), hK _ ⟨_, by rw [Rat.pow_succ]; rfl⟩⟩
    · obtain ⟨u, rfl⟩ := hI
      exact ⟨_, rfl, q, n, rfl, rfl⟩
theorem ok_Lmean (T : Tx K mg a) : FnOk P w K mg base CX0 5 a.f_Lmean a.d_Lmean P_Lmean (spV a.G fdMeanL) := by
  refine def_ok0 T.F_Lmean sc_Lmean (fun vs H Q E h => ?_) (fun cdv A outer s H vs Q E hr h => ?_)
  · obtain ⟨ds, X, hv, _, ⟨ps, qs, k, m, rfl, _⟩, _⟩ := h
    exact hv.length
  · refine ⟨_, (pss_cons (ps_set (i := 2) sc_Lmean.nd rfl (Or.inl rfl) (pe_make T.mk_Ratio (ok_Ratio_init T) (hr.mono (by decide)) (by rfl) T.g_Ratio (bd1_Ratio_init T).choose_spec.2 (bd1_Ratio_init T).choose_spec.1 pass0 (pa_cons pe_int pa_nil))) (pss_cons (ps_for PassesOwn.never rfl (pi_range1 (by rfl) T.b_range (pa_cons (pe_callB call_lenQ (by rfl) T.b_len (by decide +kernel) (pa_cons (pv 0) pa_nil)) pa_nil)) (pg_name (i := 3) sc_Lmean.nd rfl (Or.inl rfl)) (pss_one (ps_set (i := 2) sc_Lmean.nd rfl (Or.inl rfl) (pe_op (op_own T.o_add (ok_Ratio_add T) (hr.mono (by decide)) (bd_Ratio_add T) pass0) (pv 2) (pe_op (op_own T.o_mul (ok_Ratio_mul T) (hr.mono (by decide)) (bd_Ratio_mul T) pass0) (pe_ix ix_list (pv 0) (pv 3) (fun _ _ => rfl)) (pe_ix ix_list (pv 1) (pv 3) (fun _ _ => rfl))))))) (pss_one (ps_ret (pv 2))))), ?_⟩
    refine spV.def (G := a.G) (E := E0) (PUS.seq (PUS.set (i := 2) (PU.mkR1 (PUA.cons PU.ci PUA.nil))) (PUS.seq (PUS.for (PUI.rng1 (PUA.cons (PU.cbn CD.len (PUA.cons (PU.var (i := 0)) PUA.nil)) PUA.nil)) (PUG.name (i := 3)) (PUS.set (i := 2) (PU.op RD.num2 (PU.var (i := 2)) (PU.op RD.num2 (PU.op RD.ixL (PU.var (i := 0)) (PU.var (i := 3))) (PU.op RD.ixL (PU.var (i := 1)) (PU.var (i := 3))))))) (PUS.ret (PU.var (i := 2))))) (fun ds hp => ?_) h
    obtain ⟨ps, qs, k, m, rfl, hl, hp, hq, hs⟩ := hp
    have hl3 : ps.length ≤ 3000 := len_small (k := k + m) hs
    refine ⟨0, rfl, by decide, _, rfl, _, .inl rfl, _, rfl, by rw [List.length_map]; omega, ?_⟩
    refine forP_rng (n := ps.length) (fun i ρ => ∃ u, ρ = [.val (.lst (ps.map .rat)), .val (.lst (qs.map .rat)), .val (.rat (dotR (ps.take i) (qs.take i))), u]) (by rw [List.length_map]; rfl) ⟨.un, rfl⟩ (fun i ρ K hi hI hK => ?_) (fun ρ hI => ?_)
    · obtain ⟨u, rfl⟩ := hI
      have hi2 : i < qs.length := by omega
      refine ⟨_, rfl, _, rfl, _, rfl, _, (i : Int), _, rfl, rfl, atI_nat (by rw [List.getElem?_map, List.getElem?_eq_getElem hi]; rfl), _, rfl, _, rfl, _, (i : Int), _, rfl, rfl, atI_nat (by rw [List.getElem?_map, List.getElem?_eq_getElem hi2]; rfl), _, rfl, rfl, ?_⟩
      have s1 := hp _ (List.getElem_mem hi)
      have s2 := hq _ (List.getElem_mem hi2)
      have hkm : k + m + 1 ≤ (k + m + 1) * (ps.length + 1) := Nat.le_mul_of_pos_right _ (by omega)
      refine ⟨sz_le' s1 (by omega), sz_le' s2 (by omega), _, rfl, rfl, ?_, sz_le' (s1.mul' s2) (by omega), hK _ ⟨.val (.int (i : Int)), ?_⟩⟩
      · refine sz_le' (sumR_sz (k := k + m) _ fun q hq2 => ?_) ?_
        · obtain ⟨e, he, rfl⟩ := List.mem_map.mp hq2
          exact (hp _ (List.mem_of_mem_take (List.of_mem_zip he).1)).mul' (hq _ (List.mem_of_mem_take (List.of_mem_zip he).2))
        · rw [List.length_map, List.length_zip, List.length_take, List.length_take]
          have : (k + m + 1) * min (min i ps.length) (min i qs.length) ≤ (k + m + 1) * ps.length := Nat.mul_le_mul_left _ (by omega)
          rw [Nat.mul_succ] at hs
          omega
      · rw [dotR_take hl hi]
        rfl
    · obtain ⟨u, rfl⟩ := hI
      refine ⟨_, rfl, ps, qs, rfl, ?_⟩
      rw [List.take_length, hl, List.take_length]
theorem ok_Lmeans (T : Tx K mg a) : FnOk P w K mg base CX0 6 a.f_Lmeans a.d_Lmeans P_Lmeans (spL a.G fdMeansL) := by
  refine def_ok0 T.F_Lmeans sc_Lmeans (fun vs H Q E h => ?_) (fun cdv A outer s H vs Q E hr h => ?_)
  · obtain ⟨ds, X, hv, _, ⟨qs, ps, n, rfl, _⟩, _⟩ := h
    exact hv.length
  · refine ⟨_, (pss_one (ps_ret (pe_lc (own := [("_law_k", 3)]) (g := (gName 3)) (tt := tYes) rfl sc_Lmeans.nd (pi_range1 (by rfl) T.b_range (pa_cons (pv 2) pa_nil)) (blkOk_by (N := N_Lmeans) (sc := defScope s_Lmeans) (by decide +kernel)) (fun _ _ _ _ _ => pg_name (i := 3) sc_Lmeans.nd rfl (Or.inr rfl)) (fun _ _ _ _ _ => pts_nil) (fun _ _ _ _ _ => (pe_call (ok_Lmean T) (hr.mono (by decide)) (by rfl) T.g_Lmean T.F_Lmean.kp (bd_Lmean T) .nil pass0 (pa_cons (pv 1) (pa_cons (pe_lc (own := [("_law_mark", 4)]) (g := (gName 4)) (tt := tYes) rfl sc_Lmeans.nd (pi_listV (K := K) rfl (pv 0)) (by show BlkOk N_Lmeans ⟨_, _, _, _, _⟩ _ _; exact blkOk_by (by rfl)) (fun _ _ _ _ _ => pg_name (i := 4) sc_Lmeans.nd rfl (Or.inl rfl)) (fun _ _ _ _ _ => pts_nil) (fun _ _ _ _ _ => (pe_call (ok_Lpower T) (hr.mono (by decide)) (by rfl) T.g_Lpower T.F_Lpower.kp (bd_Lpower T) .nil pass0 (pa_cons (pv 4) (pa_cons (pe_op op_add (pv 3) pe_int) pa_nil))))) pa_nil))))))), ?_⟩
    refine spL.def (G := a.G) (E := E0) (PUS.retF (PUF.lc (i := 3) (E1 := E0) (E2 := E0) (PUI.rng1 (PUA.cons (PU.var (i := 2)) PUA.nil)) PUT.yes (PU.call (PUA.cons (PU.var (i := 1)) (PUA.cons (PUF.toV (PUF.lc (i := 4) (E1 := E0) (E2 := E0) (PUI.list (PU.var (i := 0))) PUT.yes (PU.call (PUA.cons (PU.var (i := 4)) (PUA.cons (PU.op RD.i0 (PU.var (i := 3)) PU.ci) PUA.nil))))) PUA.nil))))) (fun ds hp => ?_) h
    obtain ⟨qs, ps, n, rfl, hl, h8, hn, hp, hq⟩ := hp
    refine ⟨_, rfl, _, rfl, ⟨by omega, by omega⟩, ?_⟩
    refine lcP_map (g := fun x => .rat (meanK ps qs (x.nat + 1))) _ _ rfl (by rw [rngL_len]; simp; omega) rfl (fun x hx K hK => ?_) ?_
    · obtain ⟨k, hk, rfl⟩ := List.mem_map.mp hx
      have hk := List.mem_range.mp hk
      rw [Int.zero_add] at hK ⊢
      refine ⟨_, rfl, _, rfl, _, rfl, ?_⟩
      refine lcP_map (g := fun y => .rat (y.num ^ (k + 1))) _ _ rfl (by simp; omega) rfl (fun y hy K hK => ?_) ?_
      · obtain ⟨q, hq2, rfl⟩ := List.mem_map.mp hy
        refine ⟨_, rfl, _, rfl, (k : Int), 1, rfl, rfl, ⟨q, k + 1, rfl, by omega, hq q hq2⟩, ?_⟩
        rintro _ ⟨q', n', e, rfl⟩
        injection e with e1 e2
        injection e1 with e1
        injection e2 with e2 _
        injection e2 with e2
        have e3 : n' = k + 1 := by omega
        subst e1
        subst e3
        exact hK
      · rw [List.nil_append, List.map_map]
        have e : (qs.map ((fun y : Dt => Dt.rat (y.num ^ (k + 1))) ∘ Dt.rat)) = (qs.map fun q => q ^ (k + 1)).map .rat := by rw [List.map_map]; rfl
        rw [e]
        refine ⟨⟨ps, qs.map fun q => q ^ (k + 1), 45, 241, rfl, by rw [List.length_map]; exact hl, hp, fun q hq2 => ?_, ?_⟩, ?_⟩
        · obtain ⟨q, hq3, rfl⟩ := List.mem_map.mp hq2
          exact sz_le' ((hq q hq3).pow (k + 1)) (by omega)
        · exact Nat.le_trans (Nat.mul_le_mul_left _ (by omega : ps.length + 1 ≤ 9)) (by decide)
        · rintro _ ⟨ps', qs', e, rfl⟩
          injection e with e1 e2
          injection e2 with e2 _
          injection e1 with e1
          injection e2 with e2
          rw [← rats_inj e1, ← rats_inj e2, dotR_pow]
          exact hK
    · rw [List.nil_append]
      refine ⟨qs, ps, n, rfl, ?_⟩
      unfold rngL
      rw [List.map_map]
      exact congrArg Dt.lst (List.map_congr_left fun k _ => by show Dt.rat (meanK ps qs ((0 + (k : Int)).toNat + 1)) = _; rw [Int.zero_add, Int.toNat_natCast])
theorem ok_Llot (T : Tx K mg a) : FnOk P w K mg base CX0 4 a.f_Llot a.d_Llot P_Llot (spTL a.G fdLotL) := by
  refine def_ok0 T.F_Llot sc_Llot (fun vs H Q E h => ?_) (fun cdv A outer s H vs Q E hr h => ?_)
  · obtain ⟨p, us, ds, X, rfl, _, _, hv, _, ⟨n, rfl, _⟩, _⟩ := h
    exact congrArg Nat.succ hv.length
  · refine ⟨_, (pss_cons (ps_set (i := 2) sc_Llot.nd rfl (Or.inr rfl) (pe_lc (own := [("_law_k", 3)]) (g := (gName 3)) (tt := tYes) rfl sc_Llot.nd (pi_range1 (by rfl) T.b_range (pa_cons (pv 1) pa_nil)) (blkOk_by (N := N_Llot) (sc := defScope s_Llot) (by decide +kernel)) (fun _ _ _ _ _ => pg_name (i := 3) sc_Llot.nd rfl (Or.inl rfl)) (fun _ _ _ _ _ => pts_nil) (fun _ _ _ _ _ => (pe_ix (ix_listV (K := K) rfl) (pe_lst (pa_cons pe_int (pa_cons pe_int (pa_cons pe_int (pa_cons pe_int (pa_cons pe_int pa_nil)))))) (pe_call (ok_Lpick T) (hr.mono (by decide)) (by rfl) T.g_Lpick T.F_Lpick.kp (bd_Lpick T) .nil pass0 (pa_cons (pv 0) (pa_cons pe_int pa_nil))) (fun _ _ => rfl))))) (pss_cons (ps_asg (pe_op op_add pe_int (pe_call (ok_Lpick T) (hr.mono (by decide)) (by rfl) T.g_Lpick T.F_Lpick.kp (bd_Lpick T) .nil pass0 (pa_cons (pv 0) (pa_cons pe_int pa_nil)))) (pg_sub (pv 2) (pe_call (ok_Lpick T) (hr.mono (by decide)) (by rfl) T.g_Lpick T.F_Lpick.kp (bd_Lpick T) .nil pass0 (pa_cons (pv 0) (pa_cons (pv 1) pa_nil))) set_list)) (pss_one (ps_ret (pe_lc (own := [("_law_unit", 4)]) (g := (gName 4)) (tt := tYes) rfl sc_Llot.nd (pi_list (pv 2)) (blkOk_by (N := N_Llot) (sc := defScope s_Llot) (by decide +kernel)) (fun _ _ _ _ _ => pg_name (i := 4) sc_Llot.nd rfl (Or.inl rfl)) (fun _ _ _ _ _ => pts_nil) (fun _ _ _ _ _ => (pe_make T.mk_Ratio (ok_Ratio_init T) (hr.mono (by decide)) (by rfl) T.g_Ratio (bd_Ratio_init T) .nil pass0 (pa_cons (pv 4) (pa_cons (pe_callB (cr_sumV (K := K) rfl rfl) (by rfl) T.b_sum (by decide +kernel) (pa_cons (pv 2) pa_nil)) pa_nil))))))))), ?_⟩
    refine spTL.def (G := a.G) (E := E0) (PUS.seq (PUS.setF (i := 2) (PUF.lc (i := 3) (E1 := E0) (E2 := E0) (PUI.rng1 (PUA.cons (PU.var (i := 1)) PUA.nil)) PUT.yes (PU.op RD.ixL (PUF.toV (PUF.lst (PUA.cons PU.ci (PUA.cons PU.ci (PUA.cons PU.ci (PUA.cons PU.ci (PUA.cons PU.ci PUA.nil))))))) (PU.pick (i := 0) (PUA.cons PU.ci PUA.nil))))) (PUS.seq (PUS.seti (i := 2) (PU.op RD.i0 PU.ci (PU.pick (i := 0) (PUA.cons PU.ci PUA.nil))) (PU.pick (i := 0) (PUA.cons (PU.var (i := 1)) PUA.nil))) (PUS.retF (PUF.lc (i := 4) (E1 := E0) (E2 := E0) (PUI.list (PU.melt (i := 2))) PUT.yes (PU.mkR (PUA.cons (PU.var (i := 4)) (PUA.cons (PU.cbn CD.sum (PUA.cons (PU.var (i := 2)) PUA.nil)) PUA.nil))))))) (by decide) (fun p ds hp => ?_) h
    obtain ⟨n, rfl, hn, hn8⟩ := hp
    refine ⟨_, rfl, _, rfl, ⟨by omega, by omega⟩, ?_⟩
    refine lcP_by (fun c acc ρ => ρ = env1 p N_Llot.length [Dt.int (n : Int)] ∧ ∃ us : List Nat, acc = us.map (fun (u : Nat) => Dt.int (u : Int)) ∧ us.length = c ∧ ∀ u ∈ us, u ≤ 5) ⟨rfl, [], rfl, rfl, fun _ h => nomatch h⟩ (fun c d acc ρ K1 hd hI hK => ?_) (fun acc ρ hI => ?_)
    · obtain ⟨rfl, us, rfl, rfl, h5⟩ := hI
      obtain ⟨rfl, hcn⟩ := rngL_at hd
      refine ⟨by rw [List.length_map]; omega, rfl, ite_t ⟨by decide, p, rfl, rfl, 5, rfl, by decide, by decide, fun k hk => ?_⟩⟩
      obtain ⟨u, hu, e⟩ := at_ints [0, 0, 1, 2, 5] (k := k) hk
      have hu5 : 0 ≤ u ∧ u ≤ 5 := by simp at hu; omega
      refine ⟨_, _, _, rfl, rfl, e, hK _ _ ⟨rfl, us ++ [u.toNat], ?_, by simp, fun x hx => ?_⟩⟩
      · rw [List.map_append, List.map_singleton, Int.toNat_of_nonneg hu5.1]
      · rcases List.mem_append.mp hx with hx | hx
        · exact h5 x hx
        · rw [List.mem_singleton.mp hx]; omega
    · obtain ⟨rfl, us, rfl, hlen, h5⟩ := hI
      rw [rngL_len, Int.toNat_natCast] at hlen
      refine ⟨p, rfl, rfl, 4, rfl, by decide, by decide, fun t ht => ⟨1, (t : Int), rfl, rfl, ⟨_, rfl⟩, p, rfl, _, rfl, rfl, n, rfl, by omega, by omega, fun j hj => ?_⟩⟩
      refine ⟨_, (j : Int), j, rfl, rfl, ixN_at (by rw [List.length_map]; omega), ?_⟩
      have hv : 1 + t ∈ us.set j (1 + t) := List.mem_set (by omega : j < us.length) (1 + t)
      have h5' : ∀ u ∈ us.set j (1 + t), u ≤ 5 := fun u hu => by
        rcases List.mem_or_eq_of_mem_set hu with h | h
        · exact h5 u h
        · omega
      have e : (us.map (fun (u : Nat) => Dt.int (u : Int))).set j (Dt.int (1 + (t : Int))) = (us.set j (1 + t)).map (fun (u : Nat) => Dt.int (u : Int)) := by rw [List.map_set]; congr 2
      rw [e]
      have hl2 : (us.set j (1 + t)).length = n := by rw [List.length_set, hlen]
      have hS := natS_ge hv
      have hS2 := natS_le h5'
      generalize us.set j (1 + t) = vs at hv h5' hl2 hS hS2
      have ev : vs.map (fun (u : Nat) => Dt.int (u : Int)) = (vs.map fun (u : Nat) => (u : Int)).map Dt.int := by rw [List.map_map]; rfl
      refine ⟨_, rfl, _, rfl, ?_⟩
      refine lcP_map (g := fun x => .rat (Rat.divInt x.num.num (natS vs))) _ _ rfl (by simp; omega) rfl (fun x hx K hK => ?_) ?_
      · obtain ⟨u, hu, rfl⟩ := List.mem_map.mp hx
        have hu5 := h5' u hu
        refine ⟨_, rfl, _, rfl, (vs.map fun (u : Nat) => (u : Int)), by rw [← ev], _, _, rfl, ?_, lt8 (k := 10) (by omega) (by decide), lt8 (k := 10) ?_ (by decide), hK⟩
        · show natS vs ≠ 0
          omega
        · show (natS vs).natAbs < _
          omega
      · rw [List.nil_append, List.map_map]
        have h := lotR_units h5' (by omega) hv (by omega)
        rw [hl2] at h
        exact ⟨rfl, n, _, rfl, h, by rw [List.map_map]; rfl⟩
theorem ok_Lcurve (T : Tx K mg a) : FnOk P w K mg base CX0 4 a.f_Lcurve a.d_Lcurve P_Lcurve (spTL a.G fdCurveL) := by
  refine def_ok0 T.F_Lcurve sc_Lcurve (fun vs H Q E h => ?_) (fun cdv A outer s H vs Q E hr h => ?_)
  · obtain ⟨p, us, ds, X, rfl, _, _, hv, _, ⟨n, rfl, _⟩, _⟩ := h
    exact congrArg Nat.succ hv.length
  · refine ⟨_, (pss_cons (ps_set (i := 2) sc_Lcurve.nd rfl (Or.inr rfl) (pe_ix ix_list (pe_lst (pa_cons pe_int (pa_cons pe_int (pa_cons pe_int pa_nil)))) (pe_call (ok_Lpick T) (hr.mono (by decide)) (by rfl) T.g_Lpick T.F_Lpick.kp (bd_Lpick T) .nil pass0 (pa_cons (pv 0) (pa_cons pe_int pa_nil))) (fun _ _ => rfl))) (pss_one (ps_ret (pe_lc (own := [("_law_k", 3)]) (g := (gName 3)) (tt := tYes) rfl sc_Lcurve.nd (pi_range1 (by rfl) T.b_range (pa_cons (pv 1) pa_nil)) (blkOk_by (N := N_Lcurve) (sc := defScope s_Lcurve) (by decide +kernel)) (fun _ _ _ _ _ => pg_name (i := 3) sc_Lcurve.nd rfl (Or.inl rfl)) (fun _ _ _ _ _ => pts_nil) (fun _ _ _ _ _ => (pe_make T.mk_Ratio (ok_Ratio_init T) (hr.mono (by decide)) (by rfl) T.g_Ratio (bd_Ratio_init T) .nil pass0 (pa_cons (pe_op op_sub (pe_call (ok_Lpick T) (hr.mono (by decide)) (by rfl) T.g_Lpick T.F_Lpick.kp (bd_Lpick T) .nil pass0 (pa_cons (pv 0) (pa_cons (pe_op op_add (pe_op op_mulW pe_int (pv 2)) pe_int) pa_nil))) (pv 2)) (pa_cons (pe_ix (ix_listV (K := K) rfl) (pe_lst (pa_cons pe_int (pa_cons pe_int (pa_cons pe_int (pa_cons pe_int pa_nil))))) (pe_call (ok_Lpick T) (hr.mono (by decide)) (by rfl) T.g_Lpick T.F_Lpick.kp (bd_Lpick T) .nil pass0 (pa_cons (pv 0) (pa_cons pe_int pa_nil))) (fun _ _ => rfl)) pa_nil)))))))), ?_⟩
    refine spTL.def (G := a.G) (E := E0) (PUS.seq (PUS.set (i := 2) (PU.op RD.ixL (PUF.toV (PUF.lst (PUA.cons PU.ci (PUA.cons PU.ci (PUA.cons PU.ci PUA.nil))))) (PU.pick (i := 0) (PUA.cons PU.ci PUA.nil)))) (PUS.retF (PUF.lc (i := 3) (E1 := E0) (E2 := E0) (PUI.rng1 (PUA.cons (PU.var (i := 1)) PUA.nil)) PUT.yes (PU.mkR (PUA.cons (PU.op RD.i0 (PU.pick (i := 0) (PUA.cons (PU.op RD.i0 (PU.op RD.i PU.ci (PU.var (i := 2))) PU.ci) PUA.nil)) (PU.var (i := 2))) (PUA.cons (PU.op RD.ixL (PUF.toV (PUF.lst (PUA.cons PU.ci (PUA.cons PU.ci (PUA.cons PU.ci (PUA.cons PU.ci PUA.nil)))))) (PU.pick (i := 0) (PUA.cons PU.ci PUA.nil))) PUA.nil)))))) (by decide) (fun p ds hp => ?_) h
    obtain ⟨n, rfl, hn⟩ := hp
    refine ⟨by decide, p, rfl, rfl, 3, rfl, by decide, by decide, fun k hk => ?_⟩
    obtain ⟨z, hz, e⟩ := at_ints [2, 9, 100] (k := k) hk
    have hz5 : 2 ≤ z ∧ z ≤ 100 := by simp at hz; omega
    refine ⟨_, _, _, rfl, rfl, e, _, rfl, _, rfl, ⟨by omega, by omega⟩, ?_⟩
    refine lcP_by (fun c acc ρ => ρ = [.tape p, .val (.int (n : Int)), .val (.int z), .un] ∧ ∃ qs : List Rat, acc = qs.map .rat ∧ qs.length = c ∧ ∀ q ∈ qs, Sz 10 q) ⟨rfl, [], rfl, rfl, fun _ h => nomatch h⟩ (fun c d acc ρ K1 hd hI hK => ?_) (fun acc ρ hI => ?_)
    · obtain ⟨rfl, qs, rfl, rfl, h5⟩ := hI
      obtain ⟨rfl, hcn⟩ := rngL_at hd
      refine ⟨by rw [List.length_map]; omega, rfl, ite_t ⟨p, rfl, _, rfl, 2, z, rfl, rfl, ?_, _, _, rfl, rfl, rfl, (2 * z + 1).toNat, by rw [Int.toNat_of_nonneg (by omega)], by omega, by omega, fun k hk => ?_⟩⟩
      · exact mulW (by show (2 : Int).natAbs + _ < _; omega)
      · refine ⟨_, rfl, _, _, rfl, rfl, by decide, p, rfl, rfl, 4, rfl, by decide, by decide, fun k2 hk2 => ?_⟩
        obtain ⟨u, hu, e⟩ := at_ints [1, 1, 2, 3] (k := k2) hk2
        have hu5 : 1 ≤ u ∧ u ≤ 3 := by simp at hu; omega
        refine ⟨_, _, _, rfl, rfl, e, _, _, rfl, by omega, lt8 (k := 10) (by omega) (by decide), lt8 (k := 10) (by omega) (by decide), hK _ _ ⟨rfl, qs ++ [_], by rw [List.map_append]; rfl, by simp, fun x hx => ?_⟩⟩
        rcases List.mem_append.mp hx with hx | hx
        · exact h5 x hx
        · rw [List.mem_singleton.mp hx]
          exact Sz.divInt (by omega) (by omega) (by omega)
    · obtain ⟨rfl, qs, rfl, hlen, h5⟩ := hI
      rw [rngL_len, Int.toNat_natCast] at hlen
      exact ⟨rfl, n, qs, rfl, ⟨hlen, h5⟩, rfl⟩
end
end Kx


set_option maxHeartbeats 4000000
namespace Kx
open PySem PySem.Spec PyProof.Rows L2 Fm
section
variable {P : Program} {w : World} {K : PySem.W.Frag} {mg : Str → Option Value} {base : Heap} {a : Ad}
theorem ok_Lmixed (T : Tx K mg a) : FnOk P w K mg base CX0 4 a.f_Lmixed a.d_Lmixed P_Lmixed (spTL a.G fdMixed) := by
  refine def_ok0 T.F_Lmixed sc_Lmixed (fun vs H Q E h => ?_) (fun cdv A outer s H vs Q E hr h => ?_)
  · obtain ⟨p, us, ds, X, rfl, _, _, hv, _, ⟨l, rfl, _⟩, _⟩ := h
    exact congrArg Nat.succ hv.length
  · refine ⟨_, (pss_cons (ps_set (i := 2) sc_Lmixed.nd rfl (Or.inl rfl) (pe_callTy call_list_of (by rfl) T.b_list (by decide +kernel) (pa_cons (pv 1) pa_nil))) (pss_cons (ps_set (i := 3) sc_Lmixed.nd rfl (Or.inl rfl) (pe_lst pa_nil)) (pss_cons (ps_for PassesOwn.never rfl (pi_range1 (by rfl) T.b_range (pa_cons (pe_callB call_lenQ (by rfl) T.b_len (by decide +kernel) (pa_cons (pv 2) pa_nil)) pa_nil)) (pg_name (i := 4) sc_Lmixed.nd rfl (Or.inl rfl)) (pss_one (ps_expr (pe_bm PySem.F.plainAttrs_list PySem.F.slot_list_append PySem.F.type_list_append mt_append (pv 3) (pa_cons (pe_bm PySem.F.plainAttrs_list PySem.F.slot_list_pop PySem.F.type_list_pop mt_popAt (pv 2) (pa_cons (pe_call (ok_Lpick T) (hr.mono (by decide)) (by rfl) T.g_Lpick T.F_Lpick.kp (bd_Lpick T) .nil pass0 (pa_cons (pv 0) (pa_cons (pe_callB call_lenQ (by rfl) T.b_len (by decide +kernel) (pa_cons (pv 2) pa_nil)) pa_nil))) pa_nil)) pa_nil))))) (pss_one (ps_ret (pv 3)))))), ?_⟩
    refine spTL.def (G := a.G) (E := E0) (PUS.seq (PUS.setF (i := 2) (PUF.cbn CL.list (PUA.cons (PU.var (i := 1)) PUA.nil))) (PUS.seq (PUS.setF (i := 3) (PUF.lst PUA.nil)) (PUS.seq (PUS.for (PUI.rng1 (PUA.cons (PU.lenO (i := 2)) PUA.nil)) (PUG.name (i := 4)) (PUS.app (i := 3) (PU.pop (i := 2) (PU.pick (i := 0) (PUA.cons (PU.lenO (i := 2)) PUA.nil))))) (PUS.retF (PUF.mv (i := 3)))))) (by decide) (fun p ds hp => ?_) h
    obtain ⟨l, rfl, hl⟩ := hp
    refine ⟨_, rfl, _, .inl rfl, by decide, _, rfl, _, rfl, ⟨by omega, by omega⟩, ?_⟩
    refine forP_rng (n := l.length) (fun c ρ => ∃ r f u, ρ = [.tape p, .val (.lst l), .own r, .own f, u] ∧ r.length + c = l.length ∧ (f ++ r).Perm l) (Int.toNat_natCast _) ⟨l, [], .un, rfl, rfl, .refl _⟩ (fun c ρ K hc hI hK => ?_) (fun ρ hI => ?_)
    · obtain ⟨r, f, u, rfl, hr2, hp⟩ := hI
      have hf : f.length ≤ l.length := by
        have := hp.length_eq
        rw [List.length_append] at this
        omega
      refine ⟨⟨f, rfl⟩, ⟨r, rfl⟩, p, rfl, _, rfl, rfl, r.length, rfl, by omega, by omega, fun k hk => ?_⟩
      exact ⟨r, k, r[k], rfl, rfl, by omega, List.getElem?_eq_getElem hk, f, rfl, by omega, hK _ ⟨_, _, _, rfl, by rw [List.length_eraseIdx_of_lt hk]; omega, mix_perm (List.getElem?_eq_getElem hk) hp⟩⟩
    · obtain ⟨r, f, u, rfl, hr2, hp⟩ := hI
      have hr0 : r = [] := List.eq_nil_of_length_eq_zero (by omega)
      subst hr0
      rw [List.append_nil] at hp
      exact ⟨f, rfl, rfl, l, f, rfl, hp, rfl⟩
theorem ok_Lvalues (T : Tx K mg a) : FnOk P w K mg base CX0 5 a.f_Lvalues a.d_Lvalues P_Lvalues (spTL a.G fdValues) := by
  refine def_ok0 T.F_Lvalues sc_Lvalues (fun vs H Q E h => ?_) (fun cdv A outer s H vs Q E hr h => ?_)
  · obtain ⟨p, us, ds, X, rfl, _, _, hv, _, ⟨l, rfl, _⟩, _⟩ := h
    exact congrArg Nat.succ hv.length
  · refine ⟨_, (pss_cons (ps_par (i := 2) (j := 3) (by rfl) sc_Lvalues.nd rfl rfl (by decide) rfl rfl (pa_cons (pe_call (ok_Lpick T) (hr.mono (by decide)) (by rfl) T.g_Lpick T.F_Lpick.kp (bd_Lpick T) .nil pass0 (pa_cons (pv 0) (pa_cons (pv 1) pa_nil))) (pa_cons (pe_call (ok_Lpick T) (hr.mono (by decide)) (by rfl) T.g_Lpick T.F_Lpick.kp (bd_Lpick T) .nil pass0 (pa_cons (pv 0) (pa_cons (pv 1) pa_nil))) pa_nil)) (by rfl)) (pss_cons (ps_set (i := 4) sc_Lvalues.nd rfl (Or.inl rfl) (pe_op op_add pe_int (pe_ifExp (pt_cmpR op_lt (pv 3) (pv 2) (nomark _)) (pv 2) (pv 3)))) (pss_cons (ps_set (i := 5) sc_Lvalues.nd rfl (Or.inl rfl) (pe_ix ix_list (pe_lst (pa_cons pe_int (pa_cons pe_int (pa_cons pe_int (pa_cons pe_int (pa_cons pe_int pa_nil)))))) (pe_call (ok_Lpick T) (hr.mono (by decide)) (by rfl) T.g_Lpick T.F_Lpick.kp (bd_Lpick T) .nil pass0 (pa_cons (pv 0) (pa_cons pe_int pa_nil))) (fun _ _ => rfl))) (pss_cons (ps_asg (pe_tup (pa_cons (pe_op op_sub (pe_call (ok_Lpick T) (hr.mono (by decide)) (by rfl) T.g_Lpick T.F_Lpick.kp (bd_Lpick T) .nil pass0 (pa_cons (pv 0) (pa_cons pe_int pa_nil))) pe_int) (pa_cons (pe_lst pa_nil) pa_nil))) (pg_tup rfl (pgs_cons (pg_name (i := 6) sc_Lvalues.nd rfl (Or.inl rfl)) (pgs_cons (pg_name (i := 7) sc_Lvalues.nd rfl (Or.inr rfl)) pgs_nil)))) (pss_cons (ps_for PassesOwn.never rfl (pi_range1 (by rfl) T.b_range (pa_cons (pv 4) pa_nil)) (pg_name (i := 8) sc_Lvalues.nd rfl (Or.inl rfl)) (pss_cons (ps_expr (pe_bm PySem.F.plainAttrs_list PySem.F.slot_list_append PySem.F.type_list_append mt_append (pv 7) (pa_cons (pe_make T.mk_Ratio (ok_Ratio_init T) (hr.mono (by decide)) (by rfl) T.g_Ratio (bd_Ratio_init T) .nil pass0 (pa_cons (pv 6) (pa_cons (pv 5) pa_nil))) pa_nil))) (pss_one (ps_set (i := 6) sc_Lvalues.nd rfl (Or.inl rfl) (pe_op op_add (pe_op op_add (pv 6) pe_int) (pe_ix ix_list (pe_lst (pa_cons pe_int (pa_cons pe_int (pa_cons pe_int (pa_cons pe_int (pa_cons pe_int (pa_cons pe_int pa_nil))))))) (pe_call (ok_Lpick T) (hr.mono (by decide)) (by rfl) T.g_Lpick T.F_Lpick.kp (bd_Lpick T) .nil pass0 (pa_cons (pv 0) (pa_cons pe_int pa_nil))) (fun _ _ => rfl))))))) (pss_cons (ps_if (pt_cmpR op_eq (pe_call (ok_Lpick T) (hr.mono (by decide)) (by rfl) T.g_Lpick T.F_Lpick.kp (bd_Lpick T) .nil pass0 (pa_cons (pv 0) (pa_cons pe_int pa_nil))) pe_int (nomark _)) (pss_one (ps_set (i := 7) sc_Lvalues.nd rfl (Or.inr rfl) (pe_lc (own := [("_law_k", 8)]) (g := (gName 8)) (tt := tYes) rfl sc_Lvalues.nd (pi_range1 (by rfl) T.b_range (pa_cons (pv 4) pa_nil)) (blkOk_by (N := N_Lvalues) (sc := defScope s_Lvalues) (by decide +kernel)) (fun _ _ _ _ _ => pg_name (i := 8) sc_Lvalues.nd rfl (Or.inl rfl)) (fun _ _ _ _ _ => pts_nil) (fun _ _ _ _ _ => (pe_op (op_own T.o_add (ok_Ratio_add T) (hr.mono (by decide)) (bd_Ratio_add T) pass0) (pe_op (op_own T.o_mul (ok_Ratio_mul T) (hr.mono (by decide)) (bd_Ratio_mul T) pass0) (pe_ix (ix_listV (K := K) rfl) (pv 7) (pv 8) (fun _ _ => rfl)) (pe_op op_pow pe_int pe_int)) (pe_make T.mk_Ratio (ok_Ratio_init T) (hr.mono (by decide)) (by rfl) T.g_Ratio (bd_Ratio_init T) .nil pass0 (pa_cons (pe_op op_mod (pv 8) pe_int) (pa_cons pe_int pa_nil)))))))) pss_nil) (pss_one (ps_ret (pv 7))))))))), ?_⟩
    refine spTL.def (G := a.G) (E := E0) (PUS.seq (PUS.par (i := 2) (j := 3) (PU.pick (i := 0) (PUA.cons (PU.var (i := 1)) PUA.nil)) (PU.pick (i := 0) (PUA.cons (PU.var (i := 1)) PUA.nil))) (PUS.seq (PUS.set (i := 4) (PU.op RD.i0 PU.ci (PU.ife (PUT.test (PU.op RD.b0 (PU.var (i := 3)) (PU.var (i := 2)))) (PU.var (i := 2)) (PU.var (i := 3))))) (PUS.seq (PUS.set (i := 5) (PU.op RD.ixL (PUF.toV (PUF.lst (PUA.cons PU.ci (PUA.cons PU.ci (PUA.cons PU.ci (PUA.cons PU.ci (PUA.cons PU.ci PUA.nil))))))) (PU.pick (i := 0) (PUA.cons PU.ci PUA.nil)))) (PUS.seq (PUS.tupO (i := 6) (j := 7) (PU.op RD.i0 (PU.pick (i := 0) (PUA.cons PU.ci PUA.nil)) PU.ci) (PUF.lst PUA.nil)) (PUS.seq (PUS.for (PUI.rng1 (PUA.cons (PU.var (i := 4)) PUA.nil)) (PUG.name (i := 8)) (PUS.seq (PUS.app (i := 7) (PU.mkR (PUA.cons (PU.var (i := 6)) (PUA.cons (PU.var (i := 5)) PUA.nil)))) (PUS.set (i := 6) (PU.op RD.i0 (PU.op RD.i0 (PU.var (i := 6)) PU.ci) (PU.op RD.ixL (PUF.toV (PUF.lst (PUA.cons PU.ci (PUA.cons PU.ci (PUA.cons PU.ci (PUA.cons PU.ci (PUA.cons PU.ci (PUA.cons PU.ci PUA.nil)))))))) (PU.pick (i := 0) (PUA.cons PU.ci PUA.nil))))))) (PUS.seq (PUS.ifS (PUT.test (PU.op RD.eq (PU.pick (i := 0) (PUA.cons PU.ci PUA.nil)) PU.ci)) (PUS.setF (i := 7) (PUF.lc (i := 8) (E1 := E0) (E2 := E0) (PUI.rng1 (PUA.cons (PU.var (i := 4)) PUA.nil)) PUT.yes (PU.op RD.num2 (PU.op RD.num2 (PU.ixO (i := 7) (PU.var (i := 8))) (PU.op RD.i PU.ci PU.ci)) (PU.mkR (PUA.cons (PU.op RD.i (PU.var (i := 8)) PU.ci) (PUA.cons PU.ci PUA.nil)))))) PUS.next) (PUS.retF (PUF.mv (i := 7))))))))) (by decide) (fun p ds hp => ?_) h
    obtain ⟨n, rfl, hn, hn8⟩ := hp
    refine ⟨p, rfl, _, rfl, rfl, n, rfl, by omega, by omega, fun o1 ho1 => ⟨p, rfl, _, rfl, rfl, n, rfl, by omega, by omega, fun o2 ho2 => ?_⟩⟩
    refine ⟨_, rfl, _, rfl, _, _, rfl, rfl, _, rfl, ite_val fun z hz => ?_⟩
    obtain ⟨o, rfl, ho⟩ : ∃ o : Nat, z = .int (o : Int) ∧ o < n := hz.elim (fun h => ⟨o1, h, ho1⟩) fun h => ⟨o2, h, ho2⟩
    refine ⟨1, (o : Int), rfl, rfl, by decide, p, rfl, rfl, 5, rfl, by decide, by decide, fun k hk => ?_⟩
    obtain ⟨part, hpart, e⟩ := at_ints [1, 1, 2, 3, 6] (k := k) hk
    have hp6 : 1 ≤ part ∧ part ≤ 6 := by simp at hpart; omega
    clear hpart
    refine ⟨_, _, _, rfl, rfl, e, p, rfl, rfl, 9, rfl, by decide, by decide, fun st hst => ⟨_, 4, rfl, rfl, by decide, _, rfl, _, rfl, ⟨by omega, by omega⟩, ?_⟩⟩
    refine forP_rng (n := 1 + o) (fun c ρ => ∃ (is : List Int) (at0 : Int) (u : Slot), ρ = [.tape p, .val (.int (n : Int)), .val (.int (o1 : Int)), .val (.int (o2 : Int)), .val (.int (1 + (o : Int))), .val (.int part), .val (.int at0), .own (is.map fun i => .rat (Rat.divInt i part)), u] ∧ is.length = c ∧ is.Pairwise (· < ·) ∧ (∀ i ∈ is, -4 ≤ i ∧ i < at0) ∧ -4 ≤ at0 ∧ at0 ≤ 4 + 6 * (c : Int) ∧ u.lists = false) (by omega) ⟨[], (st : Int) - 4, .un, rfl, rfl, .nil, (fun _ h => nomatch h), by omega, by omega, rfl⟩ (fun c ρ K hc hI hK => ?_) (fun ρ hI => ?_)
    · obtain ⟨is, at0, u, rfl, hl, hpw, hb, h1, h2, hu⟩ := hI
      refine ⟨⟨_, rfl⟩, _, rfl, _, rfl, _, _, rfl, by omega, lt8 (k := 10) (by omega) (by decide), lt8 (k := 10) (by omega) (by decide), _, rfl, by rw [List.length_map]; omega, ?_⟩
      refine ⟨_, rfl, at0, 1, rfl, rfl, by decide, p, rfl, rfl, 6, rfl, by decide, by decide, fun k2 hk2 => ?_⟩
      obtain ⟨s, hs, e2⟩ := at_ints [0, 0, 0, 1, 2, 5] (k := k2) hk2
      have hs5 : 0 ≤ s ∧ s ≤ 5 := by simp at hs; omega
      clear hs
      refine ⟨_, _, _, rfl, rfl, e2, _, _, rfl, rfl, hK _ ⟨is ++ [at0], at0 + 1 + s, _, by rw [List.map_append]; rfl, by rw [List.length_append, hl]; rfl, ?_, fun i hi => ?_, by omega, by omega, rfl⟩⟩
      · exact List.pairwise_append.mpr ⟨hpw, List.pairwise_singleton .., fun x hx y hy => by rw [List.mem_singleton.mp hy]; exact (hb x hx).2⟩
      · rcases List.mem_append.mp hi with hi | hi
        · have := hb i hi; omega
        · rw [List.mem_singleton.mp hi]; omega
    · obtain ⟨is, at0, u, rfl, hl, hpw, hb, h1, h2, hu⟩ := hI
      have hbb : ∀ i ∈ is, i.natAbs ≤ 60 := fun i hi => by have := hb i hi; omega
      refine ⟨p, rfl, rfl, 8, rfl, by decide, by decide, fun k hk => ⟨_, rfl, _, rfl, ite_d (fun _ => ?_) (fun _ => ?_)⟩⟩
      · refine ⟨_, rfl, _, rfl, ⟨by omega, by omega⟩, ?_⟩
        refine lcP_map (g := fun x => .rat (Rat.divInt (is.getD x.nat 0) part * ((1000 : Int) : Rat) + Rat.divInt ((x.nat : Int) % 3) 7)) _ _ hu (by rw [rngL_len]; simp; omega) rfl (fun x hx K hK => ?_) ?_
        · obtain ⟨k, hk, rfl⟩ := List.mem_map.mp hx
          have hk := List.mem_range.mp hk
          have hki : k < is.length := by omega
          have e : is.getD k 0 = is[k] := by rw [List.getD_eq_getElem?_getD, List.getElem?_eq_getElem hki]; rfl
          have ei : (0 + (k : Int)) = (k : Int) := Int.zero_add _
          rw [ei] at hK ⊢
          have e5 : Dt.rat (Rat.divInt (is.getD (Dt.int (k : Int)).nat 0) part * ((1000 : Int) : Rat) + Rat.divInt (((Dt.int (k : Int)).nat : Int) % 3) 7) = Dt.rat (Rat.divInt is[k] part * ((1000 : Int) : Rat) + Rat.divInt ((k : Int) % 3) 7) := by
            show Dt.rat (Rat.divInt (is.getD k 0) part * _ + _) = _
            rw [e]
            rfl
          rw [e5] at hK
          have hbk := hbb _ (List.getElem_mem hki)
          have s1 : Sz 10 (Rat.divInt is[k] part) := Sz.divInt (by omega) (by omega) (by omega)
          have s2 : Sz 20 ((1000 : Int) : Rat) := sz_int (by decide) (by decide)
          have s3 : Sz 10 (Rat.divInt ((k : Int) % 3) 7) := Sz.divInt (by omega) (by decide) (by decide)
          refine ⟨⟨_, rfl⟩, _, rfl, _, (k : Int), _, rfl, rfl, atI_nat (by rw [List.getElem?_map, List.getElem?_eq_getElem hki]; rfl), 10, 3, rfl, rfl, ?_, _, rfl, rfl, sz_le' s1 (by decide), sz_le' s2 (by decide), _, rfl, _, 3, rfl, rfl, by decide, _, _, rfl, by decide, lt8 (k := 10) (by omega) (by decide), lt8 (k := 10) (by decide) (by decide), _, rfl, rfl, sz_le' (s1.mul' s2) (by decide), sz_le' s3 (by decide), hK⟩
          exact ⟨by decide, by decide, by decide⟩
        · rw [List.nil_append]
          have e : (rngL 0 (1 + (o : Int)).toNat).map (fun x => Dt.rat (Rat.divInt (is.getD x.nat 0) part * ((1000 : Int) : Rat) + Rat.divInt ((x.nat : Int) % 3) 7)) = ((List.range is.length).map fun (k : Nat) => Rat.divInt (is.getD k 0) part * ((1000 : Int) : Rat) + Rat.divInt ((k : Int) % 3) 7).map .rat := by
            unfold rngL
            rw [List.map_map, List.map_map, show (1 + (o : Int)).toNat = is.length by omega]
            refine List.map_congr_left fun k _ => ?_
            show Dt.rat (Rat.divInt (is.getD (0 + (k : Int)).toNat 0) part * _ + Rat.divInt ((((0 + (k : Int)).toNat : Nat) : Int) % 3) 7) = _
            rw [Int.zero_add, Int.toNat_natCast]
            rfl
          rw [e]
          refine ⟨_, rfl, rfl, n, _, rfl, climb_wide hpw hp6, by rw [List.length_map, List.length_range]; omega, by rw [List.length_map, List.length_range]; omega, fun q hq => ?_, rfl⟩
          obtain ⟨k, hk, rfl⟩ := List.mem_map.mp hq
          have hk := List.mem_range.mp hk
          have hbk := hbb _ (List.getElem_mem hk)
          rw [List.getD_eq_getElem?_getD, List.getElem?_eq_getElem hk, wide_eq (by omega)]
          have h3 : (k : Int) % 3 * part ≤ 2 * 6 := Int.mul_le_mul (by omega) hp6.2 (by omega) (by decide)
          have h4 : 0 ≤ (k : Int) % 3 * part := Int.mul_nonneg (by omega) (by omega)
          show Sz 30 (Rat.divInt (is[k] * 7000 + _) _)
          exact Sz.divInt (by omega) (by omega) (by omega)
      · refine ⟨_, rfl, rfl, n, is.map fun i => Rat.divInt i part, rfl, climb_units hpw (by omega), by rw [List.length_map]; omega, by rw [List.length_map]; omega, fun q hq => ?_, by rw [List.map_map]; rfl⟩
        obtain ⟨i, hi, rfl⟩ := List.mem_map.mp hq
        have := hbb i hi
        exact Sz.divInt (by omega) (by omega) (by omega)
theorem ok_Lmade (T : Tx K mg a) : FnOk P w K mg base (L2N.CX P w) 10 a.f_Lmade a.d_Lmade P_Lmade (spT a.G fdMade) := by
  refine T.F_Lmade.ok sc_Lmade (fun vs H Q E h => ?_) (fun cdv A outer s H vs Q E hr h => ?_)
  · obtain ⟨p, us, ds, X, rfl, _, _, hv, _, ⟨l, rfl, _⟩, _⟩ := h
    exact congrArg Nat.succ hv.length
  · refine ⟨_, (pss_cons (ps_set (i := 2) sc_Lmade.nd rfl (Or.inl rfl) (pe_lst pa_nil)) (pss_cons (ps_for (passes_of rfl) rfl (pi_list (pe_call (ok_Lmixed T) (hr.mono (by decide)) (by rfl) T.g_Lmixed T.F_Lmixed.kp (bd_Lmixed T) .nil pass0 (pa_cons (pv 0) (pa_cons (pv 1) pa_nil)))) (pg_name (i := 3) sc_Lmade.nd rfl (Or.inl rfl)) (pss_one (ps_expr (pe_bm PySem.F.plainAttrs_list PySem.F.slot_list_append PySem.F.type_list_append mt_append (pv 2) (pa_cons (pe_ifExp (PW.pt (pw_and (pt_cmpR op_eq (pe_fld (pv 3) rfl) pe_int (nomark _)) (pw_and1 (pt_cmpR op_eq (pe_call (ok_Lpick T) (hr.mono (by decide)) (by rfl) T.g_Lpick T.F_Lpick.kp (bd_Lpick T) .nil pass0 (pa_cons (pv 0) (pa_cons pe_int pa_nil))) pe_int (nomark _))))) (pe_fld (pv 3) rfl) (pv 3)) pa_nil))))) (pss_one (ps_ret (pe_make T.mk_Scale (ok_Scale_init T) (hr.mono (by decide)) (by rfl) T.g_Scale (bd_Scale_init T) .nil passN (pa_cons (pv 2) pa_nil)))))), ?_⟩
    refine spT.def (G := a.G) (E := E) (PUS.seq (PUS.setF (i := 2) (PUF.lst PUA.nil)) (PUS.seq (PUS.for (PUI.list (PUF.toV (PUF.callT (i := 0) (PUA.cons (PU.var (i := 1)) PUA.nil)))) (PUG.name (i := 3)) (PUS.app (i := 2) (PU.ife (PUT.and (PUT.test (PU.op RD.eq (PU.bottom T.R (PU.var (i := 3))) PU.ci)) (PUT.test (PU.op RD.eq (PU.pick (i := 0) (PUA.cons PU.ci PUA.nil)) PU.ci))) (PU.top T.R (PU.var (i := 3))) (PU.var (i := 3))))) (PUS.ret (PU.mkS (PUA.cons (PU.melt (i := 2)) PUA.nil))))) (by decide) (fun p ds hp => ?_) h
    obtain ⟨qs, rfl, hs, h1, h8, hz⟩ := hp
    refine ⟨by decide, p, rfl, _, rfl, rfl, ⟨_, rfl, by rw [List.length_map]; omega⟩, fun m hm => ?_⟩
    obtain ⟨l, m0, e, hp, e2⟩ := hm
    cases e2
    injection e with e _
    injection e with e
    subst e
    have hml : m.length = qs.length := by rw [hp.length_eq, List.length_map]
    have hmr : ∀ x ∈ m, ∃ q ∈ qs, x = .rat q := fun x hx => by
      obtain ⟨q, hq, e⟩ := List.mem_map.mp (hp.mem_iff.mp hx)
      exact ⟨q, hq, e.symm⟩
    refine ⟨_, rfl, ?_⟩
    refine forP_inv (fun c ρ => ∃ g u, ρ = [.tape p, .val (.lst (qs.map .rat)), .own g, u] ∧ g.length = c ∧ g.all Dt.isNum = true ∧ nums g = nums (m.take c)) ⟨[], .un, rfl, rfl, rfl, rfl⟩ (fun c x ρ K hx hI hK => ?_) (fun ρ hI => ?_)
    · obtain ⟨g, u, rfl, hg, hn, hv⟩ := hI
      obtain ⟨q, hq, rfl⟩ := hmr x (List.mem_of_getElem? hx)
      have hcl : c < m.length := (List.getElem?_eq_some_iff.mp hx).1
      have put : ∀ y : Dt, y.isNum = true → y.num = q → K [.tape p, .val (.lst (qs.map .rat)), .own (g ++ [y]), .val (.rat q)] := fun y h1 h2 => hK _ ⟨_, _, rfl, by rw [List.length_append, hg]; rfl, by rw [List.all_append, hn]; simp [h1], by rw [nums_snoc, hv, h2, nums_take m hx]; rfl⟩
      refine ⟨⟨g, rfl⟩, _, rfl, q, rfl, _, rfl, _, rfl, ite_d (fun hd => ?_) (fun _ => ⟨_, rfl, g, rfl, by omega, put _ rfl rfl⟩)⟩
      refine ⟨p, rfl, rfl, 2, rfl, by decide, by decide, fun k hk => ⟨_, rfl, _, rfl, ite_d (fun _ => ?_) (fun _ => ⟨_, rfl, g, rfl, by omega, put _ rfl rfl⟩)⟩⟩
      exact ⟨_, rfl, q, rfl, g, rfl, by omega, put _ rfl (whole_num hd)⟩
    · obtain ⟨g, u, rfl, hg, hn, hv⟩ := hI
      rw [List.take_length] at hv
      have hperm : (nums g).Perm qs := by rw [hv]; have := nums_perm hp; rwa [nums_rats] at this
      have hsz : ∀ x ∈ g, Sz 200 x.num := fun x hx => hz _ (hperm.mem_iff.mp (List.mem_map.mpr ⟨x, hx, rfl⟩))
      refine ⟨g, rfl, _, g, rfl, .inl rfl, hn, hsz, by omega, by omega, hperm.nodup_iff.mpr (hs.imp fun h => Rat.ne_of_lt h), rfl, qs, rfl, ?_⟩
      rw [isort_climb hs hperm]
theorem ok_Lgiven (T : Tx K mg a) : FnOk P w K mg base CX0 4 a.f_Lgiven a.d_Lgiven P_Lgiven (spT a.G fdGiven) := by
  refine def_ok0 T.F_Lgiven sc_Lgiven (fun vs H Q E h => ?_) (fun cdv A outer s H vs Q E hr h => ?_)
  · obtain ⟨p, us, ds, X, rfl, _, _, hv, _, ⟨l, rfl, _⟩, _⟩ := h
    exact congrArg Nat.succ hv.length
  · refine ⟨_, (pss_cons (ps_set (i := 2) sc_Lgiven.nd rfl (Or.inl rfl) (pe_lst pa_nil)) (pss_cons (ps_for PassesOwn.never rfl (pi_list (pv 1)) (pg_name (i := 3) sc_Lgiven.nd rfl (Or.inl rfl)) (pss_one (ps_expr (pe_bm PySem.F.plainAttrs_list PySem.F.slot_list_append PySem.F.type_list_append mt_append (pv 2) (pa_cons (pe_ifExp (PW.pt (pw_and (pt_cmpR op_eq (pe_fld (pv 3) rfl) pe_int (nomark _)) (pw_and1 (pt_cmpR op_eq (pe_call (ok_Lpick T) (hr.mono (by decide)) (by rfl) T.g_Lpick T.F_Lpick.kp (bd_Lpick T) .nil pass0 (pa_cons (pv 0) (pa_cons pe_int pa_nil))) pe_int (nomark _))))) (pe_fld (pv 3) rfl) (pv 3)) pa_nil))))) (pss_one (ps_ret (pe_ifExp (pt_cmpR op_gt (pe_call (ok_Lpick T) (hr.mono (by decide)) (by rfl) T.g_Lpick T.F_Lpick.kp (bd_Lpick T) .nil pass0 (pa_cons (pv 0) (pa_cons pe_int pa_nil))) pe_int (nomark _)) (pv 2) (pe_callTy call_tuple_of (by rfl) T.b_tuple (by decide +kernel) (pa_cons (pv 2) pa_nil))))))), ?_⟩
    refine spT.def (G := a.G) (E := E0) (PUS.seq (PUS.setF (i := 2) (PUF.lst PUA.nil)) (PUS.seq (PUS.for (PUI.list (PU.var (i := 1))) (PUG.name (i := 3)) (PUS.app (i := 2) (PU.ife (PUT.and (PUT.test (PU.op RD.eq (PU.bottom T.R (PU.var (i := 3))) PU.ci)) (PUT.test (PU.op RD.eq (PU.pick (i := 0) (PUA.cons PU.ci PUA.nil)) PU.ci))) (PU.top T.R (PU.var (i := 3))) (PU.var (i := 3))))) (PUS.ret (PU.ife (PUT.test (PU.op RD.b0 (PU.pick (i := 0) (PUA.cons PU.ci PUA.nil)) PU.ci)) (PU.melt (i := 2)) (PU.cbn CD.tuple (PUA.cons (PU.melt (i := 2)) PUA.nil)))))) (by decide) (fun p ds hp => ?_) h
    obtain ⟨qs, rfl, hl⟩ := hp
    refine ⟨by decide, _, rfl, _, rfl, ?_⟩
    refine forP_inv (fun c ρ => ∃ g u, ρ = [.tape p, .val (.lst (qs.map .rat)), .own g, u] ∧ g.length = c ∧ g.all Dt.isNum = true ∧ nums g = nums ((qs.map Dt.rat).take c)) ⟨[], .un, rfl, rfl, rfl, rfl⟩ (fun c x ρ K hx hI hK => ?_) (fun ρ hI => ?_)
    · obtain ⟨g, u, rfl, hg, hn, hv⟩ := hI
      obtain ⟨q, hq, rfl⟩ := List.mem_map.mp (List.mem_of_getElem? hx)
      have hcl : c < qs.length := by
        have := (List.getElem?_eq_some_iff.mp hx).1
        rwa [List.length_map] at this
      have put : ∀ y : Dt, y.isNum = true → y.num = q → K [.tape p, .val (.lst (qs.map .rat)), .own (g ++ [y]), .val (.rat q)] := fun y h1 h2 => hK _ ⟨_, _, rfl, by rw [List.length_append, hg]; rfl, by rw [List.all_append, hn]; simp [h1], by rw [nums_snoc, hv, h2, nums_take _ hx]; rfl⟩
      refine ⟨⟨g, rfl⟩, _, rfl, q, rfl, _, rfl, _, rfl, ite_d (fun hd => ?_) (fun _ => ⟨_, rfl, g, rfl, by omega, put _ rfl rfl⟩)⟩
      refine ⟨p, rfl, rfl, 2, rfl, by decide, by decide, fun k hk => ⟨_, rfl, _, rfl, ite_d (fun _ => ?_) (fun _ => ⟨_, rfl, g, rfl, by omega, put _ rfl rfl⟩)⟩⟩
      exact ⟨_, rfl, q, rfl, g, rfl, by omega, put _ rfl (whole_num hd)⟩
    · obtain ⟨g, u, rfl, hg, hn, hv⟩ := hI
      rw [List.take_length, nums_rats] at hv
      refine ⟨p, rfl, rfl, 3, rfl, by decide, by decide, fun k hk => ⟨_, 0, rfl, rfl, _, rfl, ite_d (fun _ => ?_) (fun _ => ?_)⟩⟩
      · exact ⟨g, rfl, rfl, qs, g, rfl, .inl rfl, hn, hv⟩
      · exact ⟨g, rfl, g, .inl rfl, rfl, qs, g, rfl, .inr rfl, hn, hv⟩
theorem ok_Lis_numbers (T : Tx K mg a) : FnOk P w K mg base CX0 4 a.f_Lis_numbers a.d_Lis_numbers P_Lis_numbers (spV a.G fdIsNums) := by
  refine def_ok0 T.F_Lis_numbers sc_Lis_numbers (fun vs H Q E h => ?_) (fun cdv A outer s H vs Q E hr h => ?_)
  · obtain ⟨ds, X, hv, _, ⟨d, n, rfl, _⟩, _⟩ := h
    exact hv.length
  · refine ⟨_, (pss_cons (ps_if (PW.pt (pw_or (pt_not (pt_val (pe_callB call_isiT (by rfl) T.b_isinstance (by decide +kernel) (pa_cons (pv 0) (pa_cons (pe_tup (pa_cons (pe_bltn (v := .ty "list") (by rfl) T.b_list (by decide +kernel) rfl) (pa_cons (pe_bltn (v := .ty "tuple") (by rfl) T.b_tuple (by decide +kernel) rfl) pa_nil))) pa_nil))))) (pw_or1 (pt_cmpR op_ne (pe_callB call_lenQ (by rfl) T.b_len (by decide +kernel) (pa_cons (pv 0) pa_nil)) (pv 1) (nomark _))))) (pss_one (ps_ret pe_bl)) pss_nil) (pss_one (ps_ret (pe_cmpR (op_eqD hr.units) (pe_lc (own := [("_law_item", 2)]) (g := (gName 2)) rfl sc_Lis_numbers.nd (pi_seq (pv 0)) (blkOk_by (N := N_Lis_numbers) (sc := defScope s_Lis_numbers) (by decide +kernel)) (fun _ _ _ _ _ => pg_name (i := 2) sc_Lis_numbers.nd rfl (Or.inl rfl)) (fun _ _ _ _ _ => pts_one (PW.pt (pw_or (pt_val (pe_callB (call_isiV (K := K) rfl) (by rfl) T.b_isinstance (by decide +kernel) (pa_cons (pv 2) (pa_cons (pe_bltn (v := .ty "bool") (by rfl) T.b_bool (by decide +kernel) rfl) pa_nil)))) (pw_or1 (pt_not (pt_val (pe_callB (call_isiTV (K := K) rfl) (by rfl) T.b_isinstance (by decide +kernel) (pa_cons (pv 2) (pa_cons (pe_tup (pa_cons (pe_bltn (v := .ty "int") (by rfl) T.b_int (by decide +kernel) rfl) (pa_cons (pe_glob (v := .ref a.C_Ratio) rfl T.g_Ratio rfl) pa_nil))) pa_nil))))))))) (fun _ _ _ _ _ => pe_int)) (pe_lst pa_nil) (nomark _))))), ?_⟩
    refine spV.def (G := a.G) (E := E0) (PUS.seq (PUS.ifS (PUT.or (PUT.not (PUT.b (PU.isLT T.R T.R2 (PU.var (i := 0))))) (PUT.test (PU.op RD.ne (PU.cbn CD.len (PUA.cons (PU.var (i := 0)) PUA.nil)) (PU.var (i := 1))))) (PUS.ret PU.cb) PUS.next) (PUS.ret (PU.op RD.eqD (PUF.toV (PUF.lc (i := 2) (E1 := E0) (E2 := E0) (PUI.seqV (i := 0)) (PUT.or (PUT.b (PU.isBl T.R ⟨T.R4⟩ (PU.var (i := 2)))) (PUT.not (PUT.b (PU.isIR T.R (PU.var (i := 2)))))) PU.ci)) (PUF.toV (PUF.lst PUA.nil))))) (fun ds hp => ?_) h
    obtain ⟨d, n, rfl, hn, ok⟩ := hp
    refine ⟨_, rfl, _, onKind_of ok.kd, _, rfl, ?_⟩
    cases hlt : d.isLT with
    | false => exact ite_t (ite_t ⟨d, n, rfl, by unfold curveB Dt.numsB; rw [hlt]; rfl⟩)
    | true =>
      have hs := Dt.seq_of hlt
      refine ite_f ⟨_, rfl, _, seq_arg hs, _, rfl, _, rfl, _, rfl, ite_ne (fun hne => ?_) (fun hl => ?_)⟩
      · exact ⟨d, n, rfl, by unfold curveB; rw [decide_eq_false (by omega)]; simp⟩
      · refine ⟨d.items, seq_slot hs, ?_⟩
        refine lcP_fm (p := fun x => !x.isNum) (g := fun _ => .int 1) _ _ rfl (by simp; have := ok.len; omega) (fun x hx K hK => ?_) (fun x hx _ K hK => hK) ?_
        · have hk := ok.ik x hx
          refine ⟨_, rfl, _, onKind_of hk, _, rfl, ?_⟩
          cases x <;> first
            | (cases hk; done)
            | exact ite_t hK
            | exact ite_f ⟨_, rfl, _, onKind_of hk, _, rfl, hK⟩
        · rw [List.nil_append]
          obtain ⟨k, hk, hk2, _⟩ := ones_of d.items
          rw [hk]
          refine ⟨by decide, _, _, ones_py k, rfl, ones_shaped k, rfl, ?_⟩
          refine ⟨d, n, rfl, ?_⟩
          rw [ones_nil, curveB, Dt.numsB, hlt, decide_eq_true (by omega : d.items.length = n), ← hk2, Bool.true_and, Bool.and_true]
          rfl
theorem ok_Lis_lot (T : Tx K mg a) : FnOk P w K mg base CX0 5 a.f_Lis_lot a.d_Lis_lot P_Lis_lot (spV a.G fdIsLot) := by
  refine def_ok0 T.F_Lis_lot sc_Lis_lot (fun vs H Q E h => ?_) (fun cdv A outer s H vs Q E hr h => ?_)
  · obtain ⟨ds, X, hv, _, ⟨d, n, rfl, _⟩, _⟩ := h
    exact hv.length
  · refine ⟨_, (pss_cons (ps_if (pt_not (pt_val (pe_call (ok_Lis_numbers T) (hr.mono (by decide)) (by rfl) T.g_Lis_numbers T.F_Lis_numbers.kp (bd_Lis_numbers T) .nil pass0 (pa_cons (pv 0) (pa_cons (pv 1) pa_nil))))) (pss_one (ps_ret pe_bl)) pss_nil) (pss_cons (ps_set (i := 2) sc_Lis_lot.nd rfl (Or.inl rfl) (pe_make T.mk_Ratio (ok_Ratio_init T) (hr.mono (by decide)) (by rfl) T.g_Ratio (bd1_Ratio_init T).choose_spec.2 (bd1_Ratio_init T).choose_spec.1 pass0 (pa_cons pe_int pa_nil))) (pss_cons (ps_for PassesOwn.never rfl (pi_seq (pv 0)) (pg_name (i := 3) sc_Lis_lot.nd rfl (Or.inl rfl)) (pss_cons (ps_if (pt_cmpR (op_cmp (fun _ _ => rfl) T.p_lt (ok_Ratio_lt T) (hr.mono (by decide)) (bd_Ratio_lt T) pass0) (pe_op (op_own T.o_add (ok_Ratio_add T) (hr.mono (by decide)) (bd_Ratio_add T) pass0) (pe_make T.mk_Ratio (ok_Ratio_init T) (hr.mono (by decide)) (by rfl) T.g_Ratio (bd1_Ratio_init T).choose_spec.2 (bd1_Ratio_init T).choose_spec.1 pass0 (pa_cons pe_int pa_nil)) (pv 3)) pe_int (nomark _)) (pss_one (ps_ret pe_bl)) pss_nil) (pss_one (ps_set (i := 2) sc_Lis_lot.nd rfl (Or.inl rfl) (pe_op (op_own T.o_add (ok_Ratio_add T) (hr.mono (by decide)) (bd_Ratio_add T) pass0) (pv 2) (pv 3)))))) (pss_one (ps_ret (pe_cmpR (op_cmp (fun _ _ => rfl) T.p_eq (ok_Ratio_eq T) (hr.mono (by decide)) (bd_Ratio_eq T) pass0) (pv 2) pe_int (nomark _))))))), ?_⟩
    refine spV.def (G := a.G) (E := E0) (PUS.seq (PUS.ifS (PUT.not (PUT.b (PU.call (PUA.cons (PU.var (i := 0)) (PUA.cons (PU.var (i := 1)) PUA.nil))))) (PUS.ret PU.cb) PUS.next) (PUS.seq (PUS.set (i := 2) (PU.mkR1 (PUA.cons PU.ci PUA.nil))) (PUS.seq (PUS.for (PUI.seqV (i := 0)) (PUG.name (i := 3)) (PUS.seq (PUS.ifS (PUT.test (PU.op (RD.rel2 T.R) (PU.op RD.num2 (PU.mkR1 (PUA.cons PU.ci PUA.nil)) (PU.var (i := 3))) PU.ci)) (PUS.ret PU.cb) PUS.next) (PUS.set (i := 2) (PU.op RD.num2 (PU.var (i := 2)) (PU.var (i := 3)))))) (PUS.ret (PU.op (RD.eqR T.R) (PU.var (i := 2)) PU.ci))))) (fun ds hp => ?_) h
    obtain ⟨d, n, rfl, hn, ok⟩ := hp
    refine ⟨_, rfl, _, rfl, ⟨d, n, rfl, hn, ok⟩, ?_⟩
    rintro _ ⟨d', n', e, rfl⟩
    injection e with e1 e2
    injection e2 with e2 _
    injection e2 with e2
    have e3 : n' = n := by omega
    subst e1
    subst e3
    refine ⟨_, rfl, ite_bn (fun hc => ?_) (fun hc => ?_)⟩
    · exact ⟨d, n', rfl, by unfold lotB; rw [hc]; rfl⟩
    · obtain ⟨hs, hal, hlen⟩ := curveB_all hc
      refine ⟨0, rfl, by decide, d.items, seq_slot hs, ?_⟩
      refine forP_inv (fun c ρ => ∃ u, ρ = [.val d, .val (.int (n' : Int)), .val (.rat (sumR (nums (d.items.take c)))), u] ∧ ∀ x ∈ d.items.take c, 0 ≤ x.num.num) ⟨.un, rfl, fun _ h => nomatch h⟩ (fun c x ρ K hx hI hK => ?_) (fun ρ hI => ?_)
      · obtain ⟨u, rfl, hpos⟩ := hI
        have hxm := List.mem_of_getElem? hx
        have hxn := allNum_mem hal hxm
        have hxz := ok.sz x hxm
        have hsz : ∀ k ≤ d.items.length, Sz 500 (sumR (nums (d.items.take k))) := fun k hk => sz_le' (sumR_sz (k := 45) _ fun q hq => by
          obtain ⟨y, hy, rfl⟩ := List.mem_map.mp hq
          exact ok.sz y (List.mem_of_mem_take hy)) (by unfold nums; rw [List.length_map, List.length_take]; omega)
        refine ⟨0, rfl, by decide, _, rfl, _, rfl, hxn, sz_int (w := 0) (by decide) (by decide), sz_le' hxz (by decide), _, rfl, rfl, sz_le' (Sz.add' (sz_int (w := 0) (k := 1) (by decide) (by decide)) hxz) (by decide), sz_int (w := 0) (by decide) (by decide), _, rfl, ite_d (fun hneg => ?_) (fun hneg => ?_)⟩
        · refine ⟨d, n', rfl, ?_⟩
          have : ¬ ∀ y ∈ d.items, 0 ≤ y.num.num := fun h => neg_no hneg (h x hxm)
          unfold lotB
          rw [show (d.items.all fun x => decide (0 ≤ x.num.num)) = false from Bool.eq_false_iff.mpr fun h => this fun y hy => of_decide_eq_true (List.all_eq_true.mp h y hy)]
          simp
        · refine ⟨_, rfl, _, rfl, _, rfl, hxn, sz_le' (hsz c (by have := (List.getElem?_eq_some_iff.mp hx).1; omega)) (by decide), sz_le' hxz (by decide), hK _ ⟨_, by rw [nums_take _ hx, sumR_snoc]; rfl, fun y hy => ?_⟩⟩
          rw [take_succ_get hx] at hy
          rcases List.mem_append.mp hy with hy | hy
          · exact hpos y hy
          · rw [List.mem_singleton.mp hy]; exact neg_yes hneg
      · obtain ⟨u, rfl, hpos⟩ := hI
        rw [List.take_length] at hpos
        refine ⟨_, rfl, _, rfl, rfl, sz_int (w := 1) (by decide) (by decide), d, n', rfl, ?_⟩
        unfold lotB
        rw [hc, show (d.items.all fun x => decide (0 ≤ x.num.num)) = true from List.all_eq_true.mpr fun y hy => decide_eq_true (hpos y hy), List.take_length]
        rfl
end
end Kx


set_option maxHeartbeats 4000000
namespace Kx
open PySem PySem.Spec PyProof.Rows L2 Fm
local macro_rules | `(tactic| walk_at "gv") => `(tactic| ((with_reducible refine' g_var ?gh ?_); (case gh => exact rfl)))
local macro_rules | `(tactic| walk_at "g1") => `(tactic| first
  | walk_at "gv"
  | with_reducible refine g_c ?_ | with_reducible refine g_op ?_ | with_reducible refine g_un ?_ | with_reducible refine g_I0 ?_ | with_reducible refine g_U ?_
  | with_reducible refine g_eqI ?_ | with_reducible refine g_neI ?_ | with_reducible refine g_eqS ?_ | with_reducible refine g_neS ?_
  | with_reducible refine g_test ?_ | with_reducible refine g_B ?_ | with_reducible refine g_bl ?_ | with_reducible refine g_not ?_ | with_reducible refine g_and ?_ | with_reducible refine g_or ?_
  | with_reducible refine g_andV ?_ | with_reducible refine g_orV ?_ | with_reducible refine g_notV ?_ | with_reducible refine g_chain ?_ | with_reducible refine g_if ?_ | with_reducible refine g_ifS ?_
  | with_reducible refine g_seq ?_ | with_reducible refine g_next ?_ | with_reducible refine g_break ?_ | with_reducible refine g_cont ?_ | with_reducible refine g_drop ?_ | with_reducible refine g_ret ?_ | with_reducible refine g_retN ?_
  | with_reducible refine g_asg ?_ | with_reducible refine g_name ?_ | with_reducible refine g_par ?_ | with_reducible refine g_par2 ?_ | with_reducible refine g_fld ?_ | with_reducible refine g_sfld ?_
  | with_reducible refine g_nil ?_ | with_reducible refine g_cons ?_ | with_reducible refine g_tup ?_ | with_reducible refine g_lst ?_ | with_reducible refine g_call ?_ | with_reducible refine g_meth ?_ | with_reducible refine g_make1 ?_ | with_reducible refine g_make ?_ | with_reducible refine g_cb ?_ | with_reducible refine g_sub ?_ | with_reducible refine g_m0 ?_ | with_reducible refine g_gcons ?_ | with_reducible refine g_gnil ?_ | with_reducible refine g_for ?_ | with_reducible refine g_lc ?_ | with_reducible refine g_ilist ?_ | with_reducible refine g_itup ?_ | with_reducible refine g_rng1 ?_ | with_reducible refine g_rng3 ?_ | with_reducible refine g_yes ?_ | with_reducible refine g_sl ?_ | with_reducible refine g_nopart ?_ | with_reducible refine g_part ?_ | with_reducible refine g_exI ?_ | with_reducible refine g_m1 ?_ | with_reducible refine g_isS ?_ | with_reducible refine g_bm ?_ | with_reducible refine g_revL ?_ | with_reducible refine g_istr ?_ | with_reducible refine g_notInS ?_ | with_reducible refine g_absI ?_ | with_reducible refine g_intI ?_ | with_reducible refine g_izip ?_ | with_reducible refine g_ienum ?_ | with_reducible refine g_bm0 ?_ | with_reducible refine g_mko ?_ | with_reducible refine g_methW ?_ | with_reducible refine g_callW ?_
  | with_reducible refine iteT ?_ | with_reducible refine iteF ?_ | with_reducible refine g_gcd ?_)
local macro_rules | `(tactic| walk_at "g") => `(tactic| (repeat (first | walk_at "g1" | dsimp only [cx_K, cx_Kn, b_nt, b_nf])))
local macro_rules | `(tactic| walk_at "mul") => `(tactic| exact mulA (a := 200) (b := 200) (by omega) (by omega) (by decide))
local macro_rules | `(tactic| walk_at "pow") => `(tactic| exact ⟨by omega, by omega, by omega⟩)

def spSh (C : Addr) (n : Nat) : Sp := fun vs H Q _ => ∃ (v : V) (d : Da), vs = [v] ∧ DaV C H v d ∧ d.fine = true ∧ d.dp < n ∧ ∀ r H', Ex H H' → DpN H H' r d.sh → Q r H'
section
variable {P : Program} {w : World} {K : PySem.W.Frag} {mg : Str → Option Value} {base : Heap} {a : Ad}
theorem shown_step (T : Tx K mg a) {n k : Nat} (F' : FnOk P w K mg base CX0 k a.f_Lshown a.d_Lshown P_Lshown (spSh a.C_Ratio n)) : FnOk P w K mg base CX0 (k + 1) a.f_Lshown a.d_Lshown P_Lshown (spSh a.C_Ratio (n + 1)) := by
  refine def_ok0 T.F_Lshown sc_Lshown (fun vs H Q E h => ?_) (fun cdv A outer s H vs Q E hr h => ?_)
  · obtain ⟨v, d, rfl, _⟩ := h
    rfl
  · obtain ⟨v, d, rfl, hv, fine, hdp, z⟩ := h
    refine ⟨_, (pss_cons (ps_if (pt_val (pe_callB call_isi (by rfl) T.b_isinstance (by decide +kernel) (pa_cons (pv 0) (pa_cons (pe_glob (v := .ref a.C_Ratio) rfl T.g_Ratio rfl) pa_nil)))) (pss_one (ps_ret (pe_lst (pa_cons pe_str (pa_cons (pe_fld (pv 0) rfl) (pa_cons (pe_fld (pv 0) rfl) pa_nil)))))) pss_nil) (pss_cons (ps_if (pt_val (pe_callB call_isi (by rfl) T.b_isinstance (by decide +kernel) (pa_cons (pv 0) (pa_cons (pe_bltn (v := .ty "dict") (by rfl) T.b_dict (by decide +kernel) rfl) pa_nil)))) (pss_one (ps_ret (pe_lst (pa_cons pe_str (pa_cons (pe_lock (pe_lc (own := [("_law_key", 1)]) (g := (gName 1)) (tt := tYes) rfl sc_Lshown.nd (pi_keys (pv 0)) (blkOk_by (N := N_Lshown) (sc := defScope s_Lshown) (by decide +kernel)) (fun _ _ _ _ _ => pg_name (i := 1) sc_Lshown.nd rfl (Or.inl rfl)) (fun _ _ _ _ _ => pts_nil) (fun _ _ _ _ _ => (pe_tup (pa_cons (pe_call F' hr (by rfl) T.g_Lshown T.F_Lshown.kp (bd_Lshown T) .nil pass0 (pa_cons (pv 1) pa_nil)) (pa_cons (pe_call F' hr (by rfl) T.g_Lshown T.F_Lshown.kp (bd_Lshown T) .nil pass0 (pa_cons (pe_dget (hu_of hr) (pv 0) (pv 1) (fun _ _ => rfl)) pa_nil)) pa_nil)))))) pa_nil))))) pss_nil) (pss_cons (ps_if (pt_val (pe_callB call_isiT (by rfl) T.b_isinstance (by decide +kernel) (pa_cons (pv 0) (pa_cons (pe_tup (pa_cons (pe_bltn (v := .ty "list") (by rfl) T.b_list (by decide +kernel) rfl) (pa_cons (pe_bltn (v := .ty "tuple") (by rfl) T.b_tuple (by decide +kernel) rfl) pa_nil))) pa_nil)))) (pss_one (ps_ret (pe_lst (pa_cons (pe_ifExp (pt_val (pe_callB call_isi (by rfl) T.b_isinstance (by decide +kernel) (pa_cons (pv 0) (pa_cons (pe_bltn (v := .ty "list") (by rfl) T.b_list (by decide +kernel) rfl) pa_nil)))) pe_str pe_str) (pa_cons (pe_lc (own := [("_law_item", 2)]) (g := (gName 2)) (tt := tYes) rfl sc_Lshown.nd (pi_seq (pv 0)) (blkOk_by (N := N_Lshown) (sc := defScope s_Lshown) (by decide +kernel)) (fun _ _ _ _ _ => pg_name (i := 2) sc_Lshown.nd rfl (Or.inl rfl)) (fun _ _ _ _ _ => pts_nil) (fun _ _ _ _ _ => (pe_call F' hr (by rfl) T.g_Lshown T.F_Lshown.kp (bd_Lshown T) .nil pass0 (pa_cons (pv 2) pa_nil)))) pa_nil))))) pss_nil) (pss_one (ps_ret (pe_callB cr_reprF (by rfl) T.b_repr (by decide +kernel) (pa_cons (pv 0) pa_nil))))))), ?_⟩
    walk_at "g"
    refine g_isi (hv.tyx T.R) (.own _) (kit_rat T.R d) ?_
    walk_at "g"
    have comp : ∀ (p : Addr) (xs : List V) (ds : List Da) (w : Str), v = .ref p → (H p = some (.lst xs) ∨ H p = some (.tup xs)) → DaVs a.C_Ratio H xs ds → d.sh = .list [.str w, .list (shL ds)] → fineL ds = true → ds.length ≤ 1000 → dpL ds < n → ∀ H1, Ex H H1 →
        tLc (fun σ H R => iList K (tVar 0) σ H R ∨ iTup K (tVar 0) σ H R) (gName 2) tYes (tCall (spSh a.C_Ratio n) [] E0 (tCons (tVar 2) tNil)) (List.map (fun x => x.snd) [((Str.ofString "_law_item" : Str), 2)]) (L2.start N_Lshown [v]) H1
          (fun x H2 => (V.str w :: [x]).length ≤ sizeLine ∧ ∀ l, H2 l = none → Q (.ref l) (upd H2 l (.lst (V.str w :: [x])))) := by
      intro p xs ds w hvp hp hr2 hsh hf hl hdn H1 e1
      subst hvp
      walk_at "g"
      have hp1 : H1 p = some (.lst xs) ∨ H1 p = some (.tup xs) := hp.imp (fun h => e1 _ _ h) fun h => e1 _ _ h
      have hpo : ∃ ob, H1 p = some ob := hp1.elim (fun h => ⟨_, h⟩) fun h => ⟨_, h⟩
      refine cp_Q (p := p) (xs := xs) (fun Q q => ⟨_, rfl, q⟩) hp1 (fun D i H' => ∃ ls, Ex H1 H' ∧ H' D = some (.lst ls) ∧ DpNs (upd H1 D (.lst [])) H' ls (shL (ds.take i))) (fun D hD => ⟨[], Ex.new hD, upd_same, .nil⟩) (fun D hD i H' h => by
        obtain ⟨_, ex, _⟩ := h
        obtain ⟨ob, hob⟩ := hpo
        rw [ex _ _ hob, hob]) (fun D hD i x H' hx h => ?_) (fun D hD H' h => ?_)
      · obtain ⟨ls, ex, hD', hls⟩ := h
        obtain ⟨d', hd', hvd⟩ := hr2.at hx
        have hm := List.mem_of_getElem? hd'
        refine ⟨rfl, ?_⟩
        walk_at "g"
        refine ⟨x, d', rfl, hvd.mono (e1.trans ex), fineL_mem hf hm, Nat.lt_of_le_of_lt (dpL_mem hm) hdn, fun r H2 e2 hr3 => ?_⟩
        have hD2 := e2 _ _ hD'
        have new := newD (o := .lst []) ex hD'
        refine ⟨ls, hD2, Nat.lt_of_le_of_lt (m := 1000) (by rw [hls.length, shL_len, List.length_take]; omega) (by decide), _, (ex.trans e2).mut hD, upd_same, ?_⟩
        rw [take_succ_get hd', shL_app]
        exact DpNs.snoc ((hr3.weak new).set (ob := .lst []) upd_same) ((hls.mono e2).set (ob := .lst []) upd_same)
      · obtain ⟨ls, ex, hD', hls⟩ := h
        rw [hr2.length, List.take_length] at hls
        refine ⟨len_lit rfl, fun l hl2 => ?_⟩
        refine z _ _ ((e1.trans ex).trans (Ex.new hl2)) ?_
        rw [hsh]
        refine .lst ((e1.trans ex).free hl2) upd_same (.cons (.str _) (.cons (.lst (e1.free hD) (Ex.new hl2 _ _ hD') ?_) .nil))
        refine (hls.mono (Ex.new hl2)).weak fun q hq => e1.free ?_
        by_cases hqD : q = D
        · rw [hqD, upd_same] at hq; cases hq
        · rw [upd_ne hqD] at hq; exact hq
    cases hv with
    | rat h =>
      rw [show ((Da.rat _).ty a.C_Ratio == Value.ref a.C_Ratio) = true by simp [Da.ty]]
      walk_at "g"
      refine g_top T.R.cl T.R.nT h ?_
      walk_at "g"
      refine g_bottom T.R.cl T.R.nB h ?_
      walk_at "g"
      exact ⟨len_lit rfl, fun l hl => z _ _ (Ex.new hl) (.lst hl upd_same (.cons (.str _) (.cons (.int _) (.cons (.int _) .nil))))⟩
    | dic hp hr2 =>
      rename_i p ks ds
      rw [show ((Da.dic ds).ty a.C_Ratio == Value.ref a.C_Ratio) = false by simp [Da.ty]]
      walk_at "g"
      refine g_isi ((DaV.dic hp hr2).tyx T.R) (.ty _) (kit_dic T.R2 (.dic ds)) ?_
      rw [show (Da.dic ds).isDic = true from rfl]
      walk_at "g"
      unfold Da.fine at fine
      rw [Bool.and_eq_true] at fine
      obtain ⟨l1, ln⟩ : ds.length ≤ 8 ∧ (ds.map (·.1)).Nodup := of_decide_eq_true fine.1
      have fd := fine.2
      unfold Da.dp at hdp
      have hkl := hr2.length
      refine ⟨p, .dK ks, hp, trivial, fun od => ?_⟩
      have h1 : (upd H p (.frz od (.dK ks))) p = some (.frz od (.dK ks)) := upd_same
      have o1 : ∀ b, b ≠ p → (upd H p (.frz od (.dK ks))) b = H b := fun b hb => upd_ne hb
      have d1 : ∀ {v : V} {e : Da}, DaV a.C_Ratio H v e → e.noDic = true → DaV a.C_Ratio (upd H p (.frz od (.dK ks))) v e := fun h n => h.lock hp n
      generalize (upd H p (.frz od (.dK ks))) = H1 at h1 o1 d1 ⊢
      walk_at "g"
      refine ⟨_, rfl, p, od, rfl, .inl ⟨ks, h1, cp_K (fun D i H' => ∃ ls, Ex H1 H' ∧ H' D = some (.lst ls) ∧ DpNs (upd H1 D (.lst [])) H' ls (shD (ds.take i))) (fun D hD => ⟨[], Ex.new hD, upd_same, .nil⟩) (fun D hD i H' h => by
        obtain ⟨_, ex, _⟩ := h
        exact ex _ _ h1) (fun D hD i k v H' hx h => ?_) (fun D hD H' h => ?_)⟩⟩
      · obtain ⟨ls, ex, hD', hls⟩ := h
        obtain ⟨s, d', hd', rfl, hvd⟩ := hr2.at hx
        have hm := List.mem_of_getElem? hd'
        obtain ⟨f1, f2, f3⟩ := fineD_mem fd hm
        refine ⟨rfl, ?_⟩
        walk_at "g"
        refine ⟨.str s, .str s, rfl, .str s, by unfold Da.fine; exact f1, by show 0 < n; omega, fun r H2 e2 hr3 => ?_⟩
        have er := dpN_str hr3
        subst er
        refine ⟨_, rfl, _, rfl, p, v, rfl, .inl ⟨ks, .inr s, .inr ⟨od, e2 _ _ (ex _ _ h1)⟩, rfl, (hr2.look ln hx).symm⟩, ?_⟩
        walk_at "g"
        have dm := dpD_mem hm
        refine ⟨v, d', rfl, (d1 hvd f3).mono (ex.trans e2), f2, by omega, fun r2 H3 e3 hr4 => ?_⟩
        walk_at "g"
        refine ⟨len_lit rfl, fun tq htq => ?_⟩
        have e4 : Ex H3 (upd H3 tq (.tup [.str (reprText s), r2])) := Ex.new htq
        have hD2 := e3 _ _ (e2 _ _ hD')
        have new := newD (o := .lst []) (ex.trans e2) (e2 _ _ hD')
        have new3 := newD (o := .lst []) ((ex.trans e2).trans e3) hD2
        have hD4 := e4 _ _ hD2
        refine ⟨ls, hD4, Nat.lt_of_le_of_lt (m := 1000) (by rw [hls.length, shD_len, List.length_take]; omega) (by decide), _, (((ex.trans e2).trans e3).trans e4).mut hD, upd_same, ?_⟩
        rw [take_succ_get hd', shD_app]
        refine DpNs.snoc ?_ ((hls.mono ((e2.trans e3).trans e4)).set (ob := .lst []) upd_same)
        have ntD : tq ≠ D := fun z => by rw [z, hD2] at htq; cases htq
        refine .tup (new3 _ htq) (by rw [upd_ne ntD, upd_same]) (.cons (.str _) (.cons ?_ .nil))
        exact ((hr4.mono e4).weak new).set (ob := .lst []) upd_same
      · obtain ⟨ls, ex, hD', hls⟩ := h
        rw [hkl, List.take_length] at hls
        have hp' := ex _ _ h1
        have npD : p ≠ D := fun z => by rw [← z, h1] at hD; cases hD
        refine ⟨hp', ?_⟩
        walk_at "g"
        have eH : Ex H (upd H' p (.dK ks)) := fun b o hb => by
          by_cases hbp : b = p
          · rw [hbp] at hb ⊢
            rw [upd_same, ← hb, hp]
          · rw [upd_ne hbp]
            exact ex _ _ (by rw [o1 b hbp]; exact hb)
        have hD5 : (upd H' p (.dK ks)) D = some (.lst ls) := by rw [upd_ne npD.symm]; exact hD'
        have hls5 : DpNs (upd H1 D (.lst [])) (upd H' p (.dK ks)) ls (shD ds) := hls.set (D := p) (ob := .frz od (.dK ks)) (by rw [upd_ne npD]; exact h1)
        generalize (upd H' p (.dK ks)) = H5 at eH hD5 hls5 ⊢
        refine ⟨len_lit rfl, fun l hl2 => z _ _ (eH.trans (Ex.new hl2)) (.lst (eH.free hl2) upd_same (.cons (.str _) (.cons (.lst ?_ (Ex.new hl2 _ _ hD5) ?_) .nil)))⟩
        · rw [← o1 D npD.symm]; exact hD
        · refine (hls5.mono (Ex.new hl2)).weak fun q hq => ?_
          by_cases hqD : q = D
          · rw [hqD, upd_same] at hq; cases hq
          · rw [upd_ne hqD] at hq
            by_cases hqp : q = p
            · rw [hqp, h1] at hq; cases hq
            · rw [← o1 q hqp]; exact hq
    | lst hp hr2 =>
      rename_i p xs ds
      rw [show ((Da.lst ds).ty a.C_Ratio == Value.ref a.C_Ratio) = false by simp [Da.ty]]
      walk_at "g"
      refine g_isi ((DaV.lst hp hr2).tyx T.R) (.ty _) (kit_dic T.R2 (.lst ds)) ?_
      simp only [Da.isDic]
      walk_at "g"
      refine ⟨len_lit rfl, fun tp htp => ?_⟩
      have et : Ex H (upd H tp (.tup [.ty "list", .ty "tuple"])) := Ex.new htp
      have at_ : (upd H tp (.tup [.ty "list", .ty "tuple"])) tp = some (.tup [.ty "list", .ty "tuple"]) := upd_same
      generalize (upd H tp (.tup [.ty "list", .ty "tuple"])) = H1 at et at_ ⊢
      walk_at "g"
      refine g_isiT at_ (.cons (.ty _) (.cons (.ty _) .nil)) (((DaV.lst hp hr2).mono et).tyx T.R) (kit_lt T.R2 (.lst ds)) ?_
      simp only [Da.isLst, Da.isTup, Bool.or_false]
      walk_at "g"
      refine g_isi (((DaV.lst hp hr2).mono et).tyx T.R) (.ty _) (kit_lst T.R2 (.lst ds)) ?_
      simp only [Da.isLst]
      walk_at "g"
      unfold Da.fine at fine
      rw [Bool.and_eq_true] at fine
      unfold Da.dp at hdp
      exact comp p xs ds _ rfl (.inl hp) hr2 rfl fine.2 (of_decide_eq_true fine.1) (by omega) H1 et
    | tup hp hr2 =>
      rename_i p xs ds
      rw [show ((Da.tup ds).ty a.C_Ratio == Value.ref a.C_Ratio) = false by simp [Da.ty]]
      walk_at "g"
      refine g_isi ((DaV.tup hp hr2).tyx T.R) (.ty _) (kit_dic T.R2 (.tup ds)) ?_
      simp only [Da.isDic]
      walk_at "g"
      refine ⟨len_lit rfl, fun tp htp => ?_⟩
      have et : Ex H (upd H tp (.tup [.ty "list", .ty "tuple"])) := Ex.new htp
      have at_ : (upd H tp (.tup [.ty "list", .ty "tuple"])) tp = some (.tup [.ty "list", .ty "tuple"]) := upd_same
      generalize (upd H tp (.tup [.ty "list", .ty "tuple"])) = H1 at et at_ ⊢
      walk_at "g"
      refine g_isiT at_ (.cons (.ty _) (.cons (.ty _) .nil)) (((DaV.tup hp hr2).mono et).tyx T.R) (kit_lt T.R2 (.tup ds)) ?_
      simp only [Da.isLst, Da.isTup, Bool.false_or]
      walk_at "g"
      refine g_isi (((DaV.tup hp hr2).mono et).tyx T.R) (.ty _) (kit_lst T.R2 (.tup ds)) ?_
      simp only [Da.isLst]
      walk_at "g"
      unfold Da.fine at fine
      rw [Bool.and_eq_true] at fine
      unfold Da.dp at hdp
      exact comp p xs ds _ rfl (.inr hp) hr2 rfl fine.2 (of_decide_eq_true fine.1) (by omega) H1 et
    | _ =>
      simp only [Da.ty]
      refine g_ite (fun h => by simp at h) (fun _ => ?_)
      walk_at "g"
      first | refine g_isi (DaV.tyx T.R .non) (.ty _) (kit_dic T.R2 .non) ?_ | refine g_isi (DaV.tyx T.R (.bl _)) (.ty _) (kit_dic T.R2 (.bl _)) ?_ | refine g_isi (DaV.tyx T.R (.int _)) (.ty _) (kit_dic T.R2 (.int _)) ?_ | refine g_isi (DaV.tyx T.R (.str _)) (.ty _) (kit_dic T.R2 (.str _)) ?_
      simp only [Da.isDic]
      walk_at "g"
      refine ⟨len_lit rfl, fun tp htp => ?_⟩
      have et : Ex H (upd H tp (.tup [.ty "list", .ty "tuple"])) := Ex.new htp
      have at_ : (upd H tp (.tup [.ty "list", .ty "tuple"])) tp = some (.tup [.ty "list", .ty "tuple"]) := upd_same
      generalize (upd H tp (.tup [.ty "list", .ty "tuple"])) = H1 at et at_ ⊢
      walk_at "g"
      first | refine g_isiT at_ (.cons (.ty _) (.cons (.ty _) .nil)) (DaV.tyx T.R .non) (kit_lt T.R2 .non) ?_ | refine g_isiT at_ (.cons (.ty _) (.cons (.ty _) .nil)) (DaV.tyx T.R (.bl _)) (kit_lt T.R2 (.bl _)) ?_ | refine g_isiT at_ (.cons (.ty _) (.cons (.ty _) .nil)) (DaV.tyx T.R (.int _)) (kit_lt T.R2 (.int _)) ?_ | refine g_isiT at_ (.cons (.ty _) (.cons (.ty _) .nil)) (DaV.tyx T.R (.str _)) (kit_lt T.R2 (.str _)) ?_
      simp only [Da.isLst, Da.isTup, Bool.or_false]
      walk_at "g"
      first | exact .inl ⟨rfl, z _ H1 et (.str _)⟩ | exact .inr (.inl ⟨_, rfl, z _ H1 et (.str _)⟩) | exact .inr (.inr (.inl ⟨_, rfl, fine_int fine, z _ H1 et (.str _)⟩)) | exact .inr (.inr (.inr ⟨_, rfl, fine_str fine, z _ H1 et (.str _)⟩))
theorem shown_all (T : Tx K mg a) : ∀ n : Nat, FnOk P w K mg base CX0 (n + 1) a.f_Lshown a.d_Lshown P_Lshown (spSh a.C_Ratio n)
  | 0 => ⟨fun vs H Q E h => by
      obtain ⟨v, d, _, _, _, h, _⟩ := h
      exact absurd h (Nat.not_lt_zero _), fun A outer s H args us vs Q E hr he hb hv h => by
      obtain ⟨v, d, _, _, _, h, _⟩ := h
      exact absurd h (Nat.not_lt_zero _)⟩
  | n + 1 => shown_step T (shown_all T n)
theorem ok_Lshown (T : Tx K mg a) : FnOk P w K mg base CX0 7 a.f_Lshown a.d_Lshown P_Lshown (spSh a.C_Ratio 6) := shown_all T 6
end
end Kx


set_option maxHeartbeats 4000000
namespace Kx
open PySem PySem.Spec PyProof.Rows L2 Fm
open L2H (FnH RoomH HotC Hot1 cxH pe_callH)
local macro_rules | `(tactic| walk_at "gv") => `(tactic| ((with_reducible refine' g_var ?gh ?_); (case gh => exact rfl)))
local macro_rules | `(tactic| walk_at "g1") => `(tactic| first
  | walk_at "gv"
  | with_reducible refine g_c ?_ | with_reducible refine g_op ?_ | with_reducible refine g_un ?_ | with_reducible refine g_I0 ?_ | with_reducible refine g_U ?_
  | with_reducible refine g_eqI ?_ | with_reducible refine g_neI ?_ | with_reducible refine g_eqS ?_ | with_reducible refine g_neS ?_
  | with_reducible refine g_test ?_ | with_reducible refine g_B ?_ | with_reducible refine g_bl ?_ | with_reducible refine g_not ?_ | with_reducible refine g_and ?_ | with_reducible refine g_or ?_
  | with_reducible refine g_andV ?_ | with_reducible refine g_orV ?_ | with_reducible refine g_notV ?_ | with_reducible refine g_chain ?_ | with_reducible refine g_if ?_ | with_reducible refine g_ifS ?_
  | with_reducible refine g_seq ?_ | with_reducible refine g_next ?_ | with_reducible refine g_break ?_ | with_reducible refine g_cont ?_ | with_reducible refine g_drop ?_ | with_reducible refine g_ret ?_ | with_reducible refine g_retN ?_
  | with_reducible refine g_asg ?_ | with_reducible refine g_name ?_ | with_reducible refine g_par ?_ | with_reducible refine g_par2 ?_ | with_reducible refine g_fld ?_ | with_reducible refine g_sfld ?_
  | with_reducible refine g_nil ?_ | with_reducible refine g_cons ?_ | with_reducible refine g_tup ?_ | with_reducible refine g_lst ?_ | with_reducible refine g_call ?_ | with_reducible refine g_meth ?_ | with_reducible refine g_make1 ?_ | with_reducible refine g_make ?_ | with_reducible refine g_cb ?_ | with_reducible refine g_sub ?_ | with_reducible refine g_m0 ?_ | with_reducible refine g_gcons ?_ | with_reducible refine g_gnil ?_ | with_reducible refine g_for ?_ | with_reducible refine g_lc ?_ | with_reducible refine g_ilist ?_ | with_reducible refine g_itup ?_ | with_reducible refine g_rng1 ?_ | with_reducible refine g_rng3 ?_ | with_reducible refine g_yes ?_ | with_reducible refine g_sl ?_ | with_reducible refine g_nopart ?_ | with_reducible refine g_part ?_ | with_reducible refine g_exI ?_ | with_reducible refine g_m1 ?_ | with_reducible refine g_isS ?_ | with_reducible refine g_bm ?_ | with_reducible refine g_revL ?_ | with_reducible refine g_istr ?_ | with_reducible refine g_notInS ?_ | with_reducible refine g_absI ?_ | with_reducible refine g_intI ?_ | with_reducible refine g_izip ?_ | with_reducible refine g_ienum ?_ | with_reducible refine g_bm0 ?_ | with_reducible refine g_mko ?_ | with_reducible refine g_methW ?_ | with_reducible refine g_callW ?_
  | with_reducible refine iteT ?_ | with_reducible refine iteF ?_ | with_reducible refine g_gcd ?_)
local macro_rules | `(tactic| walk_at "g") => `(tactic| (repeat (first | walk_at "g1" | dsimp only [cx_K, cx_Kn, b_nt, b_nf])))
local macro_rules | `(tactic| walk_at "mul") => `(tactic| exact mulA (a := 200) (b := 200) (by omega) (by omega) (by decide))
local macro_rules | `(tactic| walk_at "pow") => `(tactic| exact ⟨by omega, by omega, by omega⟩)

theorem huH {A : Around} {k : Nat} (hr : RoomH k A) : A.units + 1 < cLine := by
  have := hr.un
  omega
theorem pe_callH0 {X : Cx} {k : Nat} {f : Addr} {fd : FuncData} {ps : List Str} {sp : Sp} {x : Str} {q pos : Pos} {e : Expr} {es : List Expr} {t : TA} (F : FnH X.prog X.w X.K X.mg X.base CX0 k f fd ps sp) (hr : RoomH k X.A) (hc : HotC X) (hg : Gl X x) (hm : X.mg x = some (.ref f)) (hk : PySem.W.keepIn X.K (.ref f) = true) (hb : Binds X.K fd ps [])
    (ha : PA X (e :: es) t) (hdb : (x == ("__debug__" : Str)) = false := by decide) (he : starEach (e :: es) X.env = (false, eval e X.env) :: starEach es X.env := by rfl) (hpl : (backTo pos (starEach es X.env)).any (·.1) = false := by rfl) :
    PE X (.Call (.Name x q) (e :: es) [] pos) (tCall sp [] E0 t) := by
  have h := pe_callH (q := q) (E := fun _ => E0) F hr hc hg hm hk hb (fun σ => at0 σ) ha hdb he hpl
  refine ⟨fun pins s σ H Q I hq => h.run pins s σ H Q I ?_⟩
  simpa [tCall, tCallS] using hq
section
variable {P : Program} {w : World} {K : PySem.W.Frag} {mg : Str → Option Value} {base : Heap} {a : Ad}
theorem shown_stepH (T : Tx K mg a) {n k : Nat} (F' : FnH P w K mg base CX0 k a.f_Lshown a.d_Lshown P_Lshown (spSh a.C_Ratio n)) : FnH P w K mg base CX0 (k + 1) a.f_Lshown a.d_Lshown P_Lshown (spSh a.C_Ratio (n + 1)) := by
  refine def_okH T.F_Lshown sc_Lshown (fun vs H Q E h => ?_) (fun cdv A outer s H vs Q E p0 hot hr h => ?_)
  · obtain ⟨v, d, rfl, _⟩ := h
    rfl
  · obtain ⟨v, d, rfl, hv, fine, hdp, z⟩ := h
    refine ⟨_, (pss_cons (ps_if (pt_val (pe_callB call_isi (by rfl) T.b_isinstance (by decide +kernel) (pa_cons (pv 0) (pa_cons (pe_glob (v := .ref a.C_Ratio) rfl T.g_Ratio rfl) pa_nil)))) (pss_one (ps_ret (pe_lst (pa_cons pe_str (pa_cons (pe_fld (pv 0) rfl) (pa_cons (pe_fld (pv 0) rfl) pa_nil)))))) pss_nil) (pss_cons (ps_if (pt_val (pe_callB call_isi (by rfl) T.b_isinstance (by decide +kernel) (pa_cons (pv 0) (pa_cons (pe_bltn (v := .ty "dict") (by rfl) T.b_dict (by decide +kernel) rfl) pa_nil)))) (pss_one (ps_ret (pe_lst (pa_cons pe_str (pa_cons (pe_lock (pe_lcH (own := [("_law_key", 1)]) (g := (gName 1)) (tt := tYes) ⟨p0, hot, List.mem_singleton.mpr rfl⟩ sc_Lshown.nd (pi_keysH (pv 0)) (blkOk_by (N := N_Lshown) (sc := defScope s_Lshown) (by decide +kernel)) (fun _ _ _ _ _ _ _ => pg_name (i := 1) sc_Lshown.nd rfl (Or.inl rfl)) (fun _ _ _ _ _ _ _ => pts_nil) (fun _ _ _ _ _ q hq => (pe_tup (pa_cons (pe_callH0 F' hr ⟨q, hq, List.mem_singleton.mpr rfl⟩ (by rfl) T.g_Lshown T.F_Lshown.kp (bd_Lshown T) (pa_cons (pv 1) pa_nil)) (pa_cons (pe_callH0 F' hr ⟨q, hq, List.mem_singleton.mpr rfl⟩ (by rfl) T.g_Lshown T.F_Lshown.kp (bd_Lshown T) (pa_cons (pe_dget (huH hr) (pv 0) (pv 1) (fun _ _ => rfl)) pa_nil)) pa_nil)))))) pa_nil))))) pss_nil) (pss_cons (ps_if (pt_val (pe_callB call_isiT (by rfl) T.b_isinstance (by decide +kernel) (pa_cons (pv 0) (pa_cons (pe_tup (pa_cons (pe_bltn (v := .ty "list") (by rfl) T.b_list (by decide +kernel) rfl) (pa_cons (pe_bltn (v := .ty "tuple") (by rfl) T.b_tuple (by decide +kernel) rfl) pa_nil))) pa_nil)))) (pss_one (ps_ret (pe_lst (pa_cons (pe_ifExp (pt_val (pe_callB call_isi (by rfl) T.b_isinstance (by decide +kernel) (pa_cons (pv 0) (pa_cons (pe_bltn (v := .ty "list") (by rfl) T.b_list (by decide +kernel) rfl) pa_nil)))) pe_str pe_str) (pa_cons (pe_lcH (own := [("_law_item", 2)]) (g := (gName 2)) (tt := tYes) ⟨p0, hot, List.mem_singleton.mpr rfl⟩ sc_Lshown.nd (pi_seqH (pv 0)) (blkOk_by (N := N_Lshown) (sc := defScope s_Lshown) (by decide +kernel)) (fun _ _ _ _ _ _ _ => pg_name (i := 2) sc_Lshown.nd rfl (Or.inl rfl)) (fun _ _ _ _ _ _ _ => pts_nil) (fun _ _ _ _ _ q hq => (pe_callH0 F' hr ⟨q, hq, List.mem_singleton.mpr rfl⟩ (by rfl) T.g_Lshown T.F_Lshown.kp (bd_Lshown T) (pa_cons (pv 2) pa_nil)))) pa_nil))))) pss_nil) (pss_one (ps_ret (pe_callB cr_reprF (by rfl) T.b_repr (by decide +kernel) (pa_cons (pv 0) pa_nil))))))), ?_⟩
    walk_at "g"
    refine g_isi (hv.tyx T.R) (.own _) (kit_rat T.R d) ?_
    walk_at "g"
    have comp : ∀ (p : Addr) (xs : List V) (ds : List Da) (w : Str), v = .ref p → (H p = some (.lst xs) ∨ H p = some (.tup xs)) → DaVs a.C_Ratio H xs ds → d.sh = .list [.str w, .list (shL ds)] → fineL ds = true → ds.length ≤ 1000 → dpL ds < n → ∀ H1, Ex H H1 →
        tLc (fun σ H R => iList K (tVar 0) σ H R ∨ iTup K (tVar 0) σ H R) (gName 2) tYes (tCall (spSh a.C_Ratio n) [] E0 (tCons (tVar 2) tNil)) (List.map (fun x => x.snd) [((Str.ofString "_law_item" : Str), 2)]) (L2.start N_Lshown [v]) H1
          (fun x H2 => (V.str w :: [x]).length ≤ sizeLine ∧ ∀ l, H2 l = none → Q (.ref l) (upd H2 l (.lst (V.str w :: [x])))) := by
      intro p xs ds w hvp hp hr2 hsh hf hl hdn H1 e1
      subst hvp
      walk_at "g"
      have hp1 : H1 p = some (.lst xs) ∨ H1 p = some (.tup xs) := hp.imp (fun h => e1 _ _ h) fun h => e1 _ _ h
      have hpo : ∃ ob, H1 p = some ob := hp1.elim (fun h => ⟨_, h⟩) fun h => ⟨_, h⟩
      refine cp_Q (p := p) (xs := xs) (fun Q q => ⟨_, rfl, q⟩) hp1 (fun D i H' => ∃ ls, Ex H1 H' ∧ H' D = some (.lst ls) ∧ DpNs (upd H1 D (.lst [])) H' ls (shL (ds.take i))) (fun D hD => ⟨[], Ex.new hD, upd_same, .nil⟩) (fun D hD i H' h => by
        obtain ⟨_, ex, _⟩ := h
        obtain ⟨ob, hob⟩ := hpo
        rw [ex _ _ hob, hob]) (fun D hD i x H' hx h => ?_) (fun D hD H' h => ?_)
      · obtain ⟨ls, ex, hD', hls⟩ := h
        obtain ⟨d', hd', hvd⟩ := hr2.at hx
        have hm := List.mem_of_getElem? hd'
        refine ⟨rfl, ?_⟩
        walk_at "g"
        refine ⟨x, d', rfl, hvd.mono (e1.trans ex), fineL_mem hf hm, Nat.lt_of_le_of_lt (dpL_mem hm) hdn, fun r H2 e2 hr3 => ?_⟩
        have hD2 := e2 _ _ hD'
        have new := newD (o := .lst []) ex hD'
        refine ⟨ls, hD2, Nat.lt_of_le_of_lt (m := 1000) (by rw [hls.length, shL_len, List.length_take]; omega) (by decide), _, (ex.trans e2).mut hD, upd_same, ?_⟩
        rw [take_succ_get hd', shL_app]
        exact DpNs.snoc ((hr3.weak new).set (ob := .lst []) upd_same) ((hls.mono e2).set (ob := .lst []) upd_same)
      · obtain ⟨ls, ex, hD', hls⟩ := h
        rw [hr2.length, List.take_length] at hls
        refine ⟨len_lit rfl, fun l hl2 => ?_⟩
        refine z _ _ ((e1.trans ex).trans (Ex.new hl2)) ?_
        rw [hsh]
        refine .lst ((e1.trans ex).free hl2) upd_same (.cons (.str _) (.cons (.lst (e1.free hD) (Ex.new hl2 _ _ hD') ?_) .nil))
        refine (hls.mono (Ex.new hl2)).weak fun q hq => e1.free ?_
        by_cases hqD : q = D
        · rw [hqD, upd_same] at hq; cases hq
        · rw [upd_ne hqD] at hq; exact hq
    cases hv with
    | rat h =>
      rw [show ((Da.rat _).ty a.C_Ratio == Value.ref a.C_Ratio) = true by simp [Da.ty]]
      walk_at "g"
      refine g_top T.R.cl T.R.nT h ?_
      walk_at "g"
      refine g_bottom T.R.cl T.R.nB h ?_
      walk_at "g"
      exact ⟨len_lit rfl, fun l hl => z _ _ (Ex.new hl) (.lst hl upd_same (.cons (.str _) (.cons (.int _) (.cons (.int _) .nil))))⟩
    | dic hp hr2 =>
      rename_i p ks ds
      rw [show ((Da.dic ds).ty a.C_Ratio == Value.ref a.C_Ratio) = false by simp [Da.ty]]
      walk_at "g"
      refine g_isi ((DaV.dic hp hr2).tyx T.R) (.ty _) (kit_dic T.R2 (.dic ds)) ?_
      rw [show (Da.dic ds).isDic = true from rfl]
      walk_at "g"
      unfold Da.fine at fine
      rw [Bool.and_eq_true] at fine
      obtain ⟨l1, ln⟩ : ds.length ≤ 8 ∧ (ds.map (·.1)).Nodup := of_decide_eq_true fine.1
      have fd := fine.2
      unfold Da.dp at hdp
      have hkl := hr2.length
      refine ⟨p, .dK ks, hp, trivial, fun od => ?_⟩
      have h1 : (upd H p (.frz od (.dK ks))) p = some (.frz od (.dK ks)) := upd_same
      have o1 : ∀ b, b ≠ p → (upd H p (.frz od (.dK ks))) b = H b := fun b hb => upd_ne hb
      have d1 : ∀ {v : V} {e : Da}, DaV a.C_Ratio H v e → e.noDic = true → DaV a.C_Ratio (upd H p (.frz od (.dK ks))) v e := fun h n => h.lock hp n
      generalize (upd H p (.frz od (.dK ks))) = H1 at h1 o1 d1 ⊢
      walk_at "g"
      refine ⟨_, rfl, p, od, ks, rfl, h1, cp_K (fun D i H' => ∃ ls, Ex H1 H' ∧ H' D = some (.lst ls) ∧ DpNs (upd H1 D (.lst [])) H' ls (shD (ds.take i))) (fun D hD => ⟨[], Ex.new hD, upd_same, .nil⟩) (fun D hD i H' h => by
        obtain ⟨_, ex, _⟩ := h
        exact ex _ _ h1) (fun D hD i k v H' hx h => ?_) (fun D hD H' h => ?_)⟩
      · obtain ⟨ls, ex, hD', hls⟩ := h
        obtain ⟨s, d', hd', rfl, hvd⟩ := hr2.at hx
        have hm := List.mem_of_getElem? hd'
        obtain ⟨f1, f2, f3⟩ := fineD_mem fd hm
        refine ⟨rfl, ?_⟩
        walk_at "g"
        refine ⟨.str s, .str s, rfl, .str s, by unfold Da.fine; exact f1, by show 0 < n; omega, fun r H2 e2 hr3 => ?_⟩
        have er := dpN_str hr3
        subst er
        refine ⟨_, rfl, _, rfl, p, v, rfl, .inl ⟨ks, .inr s, .inr ⟨od, e2 _ _ (ex _ _ h1)⟩, rfl, (hr2.look ln hx).symm⟩, ?_⟩
        walk_at "g"
        have dm := dpD_mem hm
        refine ⟨v, d', rfl, (d1 hvd f3).mono (ex.trans e2), f2, by omega, fun r2 H3 e3 hr4 => ?_⟩
        walk_at "g"
        refine ⟨len_lit rfl, fun tq htq => ?_⟩
        have e4 : Ex H3 (upd H3 tq (.tup [.str (reprText s), r2])) := Ex.new htq
        have hD2 := e3 _ _ (e2 _ _ hD')
        have new := newD (o := .lst []) (ex.trans e2) (e2 _ _ hD')
        have new3 := newD (o := .lst []) ((ex.trans e2).trans e3) hD2
        have hD4 := e4 _ _ hD2
        refine ⟨ls, hD4, Nat.lt_of_le_of_lt (m := 1000) (by rw [hls.length, shD_len, List.length_take]; omega) (by decide), _, (((ex.trans e2).trans e3).trans e4).mut hD, upd_same, ?_⟩
        rw [take_succ_get hd', shD_app]
        refine DpNs.snoc ?_ ((hls.mono ((e2.trans e3).trans e4)).set (ob := .lst []) upd_same)
        have ntD : tq ≠ D := fun z => by rw [z, hD2] at htq; cases htq
        refine .tup (new3 _ htq) (by rw [upd_ne ntD, upd_same]) (.cons (.str _) (.cons ?_ .nil))
        exact ((hr4.mono e4).weak new).set (ob := .lst []) upd_same
      · obtain ⟨ls, ex, hD', hls⟩ := h
        rw [hkl, List.take_length] at hls
        have hp' := ex _ _ h1
        have npD : p ≠ D := fun z => by rw [← z, h1] at hD; cases hD
        refine ⟨hp', ?_⟩
        walk_at "g"
        have eH : Ex H (upd H' p (.dK ks)) := fun b o hb => by
          by_cases hbp : b = p
          · rw [hbp] at hb ⊢
            rw [upd_same, ← hb, hp]
          · rw [upd_ne hbp]
            exact ex _ _ (by rw [o1 b hbp]; exact hb)
        have hD5 : (upd H' p (.dK ks)) D = some (.lst ls) := by rw [upd_ne npD.symm]; exact hD'
        have hls5 : DpNs (upd H1 D (.lst [])) (upd H' p (.dK ks)) ls (shD ds) := hls.set (D := p) (ob := .frz od (.dK ks)) (by rw [upd_ne npD]; exact h1)
        generalize (upd H' p (.dK ks)) = H5 at eH hD5 hls5 ⊢
        refine ⟨len_lit rfl, fun l hl2 => z _ _ (eH.trans (Ex.new hl2)) (.lst (eH.free hl2) upd_same (.cons (.str _) (.cons (.lst ?_ (Ex.new hl2 _ _ hD5) ?_) .nil)))⟩
        · rw [← o1 D npD.symm]; exact hD
        · refine (hls5.mono (Ex.new hl2)).weak fun q hq => ?_
          by_cases hqD : q = D
          · rw [hqD, upd_same] at hq; cases hq
          · rw [upd_ne hqD] at hq
            by_cases hqp : q = p
            · rw [hqp, h1] at hq; cases hq
            · rw [← o1 q hqp]; exact hq
    | lst hp hr2 =>
      rename_i p xs ds
      rw [show ((Da.lst ds).ty a.C_Ratio == Value.ref a.C_Ratio) = false by simp [Da.ty]]
      walk_at "g"
      refine g_isi ((DaV.lst hp hr2).tyx T.R) (.ty _) (kit_dic T.R2 (.lst ds)) ?_
      simp only [Da.isDic]
      walk_at "g"
      refine ⟨len_lit rfl, fun tp htp => ?_⟩
      have et : Ex H (upd H tp (.tup [.ty "list", .ty "tuple"])) := Ex.new htp
      have at_ : (upd H tp (.tup [.ty "list", .ty "tuple"])) tp = some (.tup [.ty "list", .ty "tuple"]) := upd_same
      generalize (upd H tp (.tup [.ty "list", .ty "tuple"])) = H1 at et at_ ⊢
      walk_at "g"
      refine g_isiT at_ (.cons (.ty _) (.cons (.ty _) .nil)) (((DaV.lst hp hr2).mono et).tyx T.R) (kit_lt T.R2 (.lst ds)) ?_
      simp only [Da.isLst, Da.isTup, Bool.or_false]
      walk_at "g"
      refine g_isi (((DaV.lst hp hr2).mono et).tyx T.R) (.ty _) (kit_lst T.R2 (.lst ds)) ?_
      simp only [Da.isLst]
      walk_at "g"
      unfold Da.fine at fine
      rw [Bool.and_eq_true] at fine
      unfold Da.dp at hdp
      exact comp p xs ds _ rfl (.inl hp) hr2 rfl fine.2 (of_decide_eq_true fine.1) (by omega) H1 et
    | tup hp hr2 =>
      rename_i p xs ds
      rw [show ((Da.tup ds).ty a.C_Ratio == Value.ref a.C_Ratio) = false by simp [Da.ty]]
      walk_at "g"
      refine g_isi ((DaV.tup hp hr2).tyx T.R) (.ty _) (kit_dic T.R2 (.tup ds)) ?_
      simp only [Da.isDic]
      walk_at "g"
      refine ⟨len_lit rfl, fun tp htp => ?_⟩
      have et : Ex H (upd H tp (.tup [.ty "list", .ty "tuple"])) := Ex.new htp
      have at_ : (upd H tp (.tup [.ty "list", .ty "tuple"])) tp = some (.tup [.ty "list", .ty "tuple"]) := upd_same
      generalize (upd H tp (.tup [.ty "list", .ty "tuple"])) = H1 at et at_ ⊢
      walk_at "g"
      refine g_isiT at_ (.cons (.ty _) (.cons (.ty _) .nil)) (((DaV.tup hp hr2).mono et).tyx T.R) (kit_lt T.R2 (.tup ds)) ?_
      simp only [Da.isLst, Da.isTup, Bool.false_or]
      walk_at "g"
      refine g_isi (((DaV.tup hp hr2).mono et).tyx T.R) (.ty _) (kit_lst T.R2 (.tup ds)) ?_
      simp only [Da.isLst]
      walk_at "g"
      unfold Da.fine at fine
      rw [Bool.and_eq_true] at fine
      unfold Da.dp at hdp
      exact comp p xs ds _ rfl (.inr hp) hr2 rfl fine.2 (of_decide_eq_true fine.1) (by omega) H1 et
    | _ =>
      simp only [Da.ty]
      refine g_ite (fun h => by simp at h) (fun _ => ?_)
      walk_at "g"
      first | refine g_isi (DaV.tyx T.R .non) (.ty _) (kit_dic T.R2 .non) ?_ | refine g_isi (DaV.tyx T.R (.bl _)) (.ty _) (kit_dic T.R2 (.bl _)) ?_ | refine g_isi (DaV.tyx T.R (.int _)) (.ty _) (kit_dic T.R2 (.int _)) ?_ | refine g_isi (DaV.tyx T.R (.str _)) (.ty _) (kit_dic T.R2 (.str _)) ?_
      simp only [Da.isDic]
      walk_at "g"
      refine ⟨len_lit rfl, fun tp htp => ?_⟩
      have et : Ex H (upd H tp (.tup [.ty "list", .ty "tuple"])) := Ex.new htp
      have at_ : (upd H tp (.tup [.ty "list", .ty "tuple"])) tp = some (.tup [.ty "list", .ty "tuple"]) := upd_same
      generalize (upd H tp (.tup [.ty "list", .ty "tuple"])) = H1 at et at_ ⊢
      walk_at "g"
      first | refine g_isiT at_ (.cons (.ty _) (.cons (.ty _) .nil)) (DaV.tyx T.R .non) (kit_lt T.R2 .non) ?_ | refine g_isiT at_ (.cons (.ty _) (.cons (.ty _) .nil)) (DaV.tyx T.R (.bl _)) (kit_lt T.R2 (.bl _)) ?_ | refine g_isiT at_ (.cons (.ty _) (.cons (.ty _) .nil)) (DaV.tyx T.R (.int _)) (kit_lt T.R2 (.int _)) ?_ | refine g_isiT at_ (.cons (.ty _) (.cons (.ty _) .nil)) (DaV.tyx T.R (.str _)) (kit_lt T.R2 (.str _)) ?_
      simp only [Da.isLst, Da.isTup, Bool.or_false]
      walk_at "g"
      first | exact .inl ⟨rfl, z _ H1 et (.str _)⟩ | exact .inr (.inl ⟨_, rfl, z _ H1 et (.str _)⟩) | exact .inr (.inr (.inl ⟨_, rfl, fine_int fine, z _ H1 et (.str _)⟩)) | exact .inr (.inr (.inr ⟨_, rfl, fine_str fine, z _ H1 et (.str _)⟩))
theorem shown_allH (T : Tx K mg a) : ∀ n : Nat, FnH P w K mg base CX0 (n + 1) a.f_Lshown a.d_Lshown P_Lshown (spSh a.C_Ratio n)
  | 0 => ⟨fun vs H Q E h => by
      obtain ⟨v, d, _, _, _, h, _⟩ := h
      exact absurd h (Nat.not_lt_zero _), fun A outer s H args us vs Q E p0 hr hot hpin he hb hv h => by
      obtain ⟨v, d, _, _, _, h, _⟩ := h
      exact absurd h (Nat.not_lt_zero _)⟩
  | n + 1 => shown_stepH T (shown_allH T n)
theorem ok_LshownH (T : Tx K mg a) : FnH P w K mg base CX0 7 a.f_Lshown a.d_Lshown P_Lshown (spSh a.C_Ratio 6) := shown_allH T 6
end
end Kx



set_option maxHeartbeats 2000000
namespace Fm
open PySem PySem.Spec PyProof.Rows L2
/-! ### what is shown can be laid, compares as the same -/
theorem ofString_ok (s : String) : PyData.strOk (Str.ofString s) = true := by
  rw [Str.ofString_eq_toList]
  unfold PyData.strOk
  simp only [Array.all_eq_true]
  intro i h
  simp only [List.getElem_toArray, List.getElem_map, decide_eq_true_eq]
  have := (s.toList[i]'(by simpa using h)).valid
  show (s.toList[i]'(by simpa using h)).val.toNat < 0x110000
  rcases this with h | h
  · exact Nat.lt_of_lt_of_le h (by decide)
  · exact h.2
mutual
theorem sh_lay : ∀ d : Da, d.fine = true → d.sh.canLay0 = true
  | .non, _ => ofString_ok _
  | .bl _, _ => ofString_ok _
  | .int _, _ => ofString_ok _
  | .str s, h => by
    unfold Da.fine fineS at h
    simp only [Bool.and_eq_true] at h
    exact h.1.2
  | .rat q, _ => by
    simp only [Da.sh, PyData.canLay0, PyData.canLayAll0, Bool.and_true, Bool.true_and]
    exact ofString_ok _
  | .lst l, h => by
    unfold Da.fine at h
    rw [Bool.and_eq_true] at h
    simp only [Da.sh, PyData.canLay0, PyData.canLayAll0, Bool.and_true, shL_lay l h.2]
    exact ofString_ok _
  | .tup l, h => by
    unfold Da.fine at h
    rw [Bool.and_eq_true] at h
    simp only [Da.sh, PyData.canLay0, PyData.canLayAll0, Bool.and_true, shL_lay l h.2]
    exact ofString_ok _
  | .dic l, h => by
    unfold Da.fine at h
    rw [Bool.and_eq_true] at h
    simp only [Da.sh, PyData.canLay0, PyData.canLayAll0, Bool.and_true, shD_lay l h.2]
    exact ofString_ok _
theorem shL_lay : ∀ l : List Da, fineL l = true → PyData.canLayAll0 (shL l) = true
  | [], _ => rfl
  | d :: r, h => by
    unfold fineL at h
    rw [Bool.and_eq_true] at h
    simp only [shL, PyData.canLayAll0, sh_lay d h.1, shL_lay r h.2, Bool.and_true]
theorem shD_lay : ∀ l : List (Str × Da), fineD l = true → PyData.canLayAll0 (shD l) = true
  | [], _ => rfl
  | (s, d) :: r, h => by
    unfold fineD at h
    simp only [Bool.and_eq_true] at h
    have hs : PyData.strOk (reprText s) = true := by
      have := h.1.1.1
      unfold fineS at this
      simp only [Bool.and_eq_true] at this
      exact this.1.2
    simp only [shD, PyData.canLayAll0, PyData.canLay0, sh_lay d h.1.1.2, shD_lay r h.2, Bool.and_true]
    exact hs
end
mutual
theorem sh_depth : ∀ d : Da, d.sh.depth ≤ 3 * d.dp + 3
  | .non => by simp only [Da.sh, PyData.depth, Da.dp]; omega
  | .bl _ => by simp only [Da.sh, PyData.depth, Da.dp]; omega
  | .int _ => by simp only [Da.sh, PyData.depth, Da.dp]; omega
  | .str s => by simp only [Da.sh, PyData.depth, Da.dp]; omega
  | .rat q => by simp only [Da.sh, PyData.depth, PyData.depthAll, Da.dp]; omega
  | .lst l => by have := shL_depth l; simp only [Da.sh, PyData.depth, PyData.depthAll, Da.dp]; omega
  | .tup l => by have := shL_depth l; simp only [Da.sh, PyData.depth, PyData.depthAll, Da.dp]; omega
  | .dic l => by have := shD_depth l; simp only [Da.sh, PyData.depth, PyData.depthAll, Da.dp]; omega
theorem shL_depth : ∀ l : List Da, PyData.depthAll (shL l) ≤ 3 * dpL l + 3
  | [] => by simp [shL, PyData.depthAll]
  | d :: r => by have h1 := sh_depth d; have h2 := shL_depth r; simp only [shL, PyData.depthAll, dpL]; omega
theorem shD_depth : ∀ l : List (Str × Da), PyData.depthAll (shD l) ≤ 3 * dpD l + 4
  | [] => by simp [shD, PyData.depthAll]
  | (s, d) :: r => by have h1 := sh_depth d; have h2 := shD_depth r; simp only [shD, PyData.depthAll, PyData.depth, dpD]; omega
end
def toldD (wd : Str) (d : Da) : PyData := .list [.str wd, d.sh]
theorem told_lay {wd : Str} {d : Da} (hw : PyData.strOk wd = true) (h : d.fine = true) : (toldD wd d).canLay0 = true := by
  simp only [toldD, PyData.canLay0, PyData.canLayAll0, Bool.and_true, sh_lay d h]
  exact hw
theorem told_shaped {wd : Str} {d : Da} (hw : PyData.strOk wd = true) (h : d.fine = true) (hd : d.dp < 6) : SeqAt.shaped (toldD wd d) = true := by
  show ((toldD wd d).canLay0 && decide ((toldD wd d).depth ≤ 64)) = true
  rw [told_lay hw h, Bool.true_and]
  have := sh_depth d
  exact decide_eq_true (by simp only [toldD, PyData.depth, PyData.depthAll]; omega)
theorem told_same {wd : Str} {d : Da} (hw : PyData.strOk wd = true) (h : d.fine = true) : PyData.eqv (toldD wd d) (toldD wd d) = true := SeqAt.eqv_refl _ (told_lay hw h)
section
variable {K : PySem.W.Frag} {H : Hp} {Q : VK} {p r : Addr} {u v : V} {wd : Str} {d : Da}
theorem told_dp {H0 : Hp} (hp : H p = some (.lst [.str wd, u])) (hu : DpN H0 H u d.sh) : Dp K H (.ref p) (toldD wd d) := .lst (SqL.of hp) (.cons (.str _) (.cons hu.dp .nil))
theorem g_toldNe {H0 H1 : Hp} (hw : PyData.strOk wd = true) (h : d.fine = true) (hd : d.dp < 6) (hp : H p = some (.lst [.str wd, u])) (hu : DpN H0 H u d.sh) (hr : H r = some (.lst [.str wd, v])) (hv : DpN H1 H v d.sh) (q : Q (.bl false) H) : rNeD K (.ref p) (.ref r) H Q :=
  ⟨_, _, told_dp hp hu, told_dp hr hv, told_shaped hw h hd, told_shaped hw h hd, by rw [told_same hw h]; exact q⟩
theorem g_toldEq {H0 H1 : Hp} (hw : PyData.strOk wd = true) (h : d.fine = true) (hd : d.dp < 6) (hp : H p = some (.lst [.str wd, u])) (hu : DpN H0 H u d.sh) (hr : H r = some (.lst [.str wd, v])) (hv : DpN H1 H v d.sh) (q : Q (.bl true) H) : rEqD K (.ref p) (.ref r) H Q :=
  ⟨_, _, told_dp hp hu, told_dp hr hv, told_shaped hw h hd, told_shaped hw h hd, by rw [told_same hw h]; exact q⟩
end
end Fm

set_option maxHeartbeats 2000000
namespace Fm
open PySem PySem.Spec PyProof.Rows L2
open L2H (FnH RoomH HotC Hot1 cxH pe_callH)
theorem vals_app {vs zs : List V} {us ws : List Value} (r : Vals vs us) (q : Vals zs ws) : Vals (vs ++ zs) (us ++ ws) := by
  induction r with
  | nil => exact q
  | cons h _ ih => exact .cons h ih
/-! ### calls with values and keywords, the keywords in the def's own order -/
def tApp (n m : Nat) (t tk : TA) : TA := fun σ H Q => t σ H fun vs H1 => tk σ H1 fun zs H2 => vs.length = n ∧ zs.length = m ∧ Q (vs ++ zs) H2
section
variable {X : Cx} {CX : CXT} {k n : Nat} {f C : Addr} {fd : FuncData} {ps ks : List Str} {sp : Sp} {E : L2.St → XK} {x m : Str} {p pos apos : Pos} {e o : Expr} {es : List Expr} {kws : List Keyword} {t tk : TA} {ta : TE}
theorem pe_callP (F : FnOk X.prog X.w X.K X.mg X.base CX k f fd ps sp) (hr : Room k X.A) (hg : Gl X x) (hm : X.mg x = some (.ref f)) (hk : PySem.W.keepIn X.K (.ref f) = true) (hb : KBn X.K fd ps n ks (fun us ws => us ++ ws) (fun vs zs => vs ++ zs)) (hx : ∀ σ, PassesAt CX X σ (E σ)) (ha : PA X (e :: es) t) (hkw : PK X kws tk)
    (hall : (backToKw pos (keywordEach kws X.env)).all (·.1.isSome) = true := by rfl) (hks : (backToKw pos (keywordEach kws X.env)).filterMap (·.1) = ks := by rfl) (hdb : (x == ("__debug__" : Str)) = false := by decide)
    (hst : starEach (e :: es) X.env = (false, eval e X.env) :: starEach es X.env := by rfl)
    (hpl : ((backTo pos (starEach (e :: es) X.env)).any (·.1) || (backToKw pos (keywordEach kws X.env)).any (·.1.isNone)) = false := by rfl) : PE X (.Call (.Name x p) (e :: es) kws pos) (tCallS sp E (tApp n ks.length t tk)) := by
  refine ⟨fun pins s σ H Q I h => ?_⟩
  refine wpAny_Call_Name_kw (ld_glob I hg hm ?_ hdb)
  refine PySem.W.callWith_KW (first := []) (h₀ := X.base) I.ok.mod.kin hk hall (thn (ha.run pos pins s σ H _ I h) fun us s3 ⟨vs, H3, I3, r3, q3⟩ => ?_) hpl hst
  refine thn (hkw.run pos pins s3 σ H3 _ I3 q3) fun ws s2 hh => ?_
  obtain ⟨zs, H2, I2, rz, l1, l2, q2⟩ := hh
  refine ⟨I2.kIn, ?_⟩
  rw [hks]
  exact run_kwS (us := us) (vs := vs) F hr hb (hx σ) I2 r3 rz l1 l2 q2
theorem pe_callP0 (F : FnOk X.prog X.w X.K X.mg X.base CX0 k f fd ps sp) (hr : Room k X.A) (hg : Gl X x) (hm : X.mg x = some (.ref f)) (hk : PySem.W.keepIn X.K (.ref f) = true) (hb : KBn X.K fd ps n ks (fun us ws => us ++ ws) (fun vs zs => vs ++ zs)) (ha : PA X (e :: es) t) (hkw : PK X kws tk)
    (hall : (backToKw pos (keywordEach kws X.env)).all (·.1.isSome) = true := by rfl) (hks : (backToKw pos (keywordEach kws X.env)).filterMap (·.1) = ks := by rfl) (hdb : (x == ("__debug__" : Str)) = false := by decide)
    (hst : starEach (e :: es) X.env = (false, eval e X.env) :: starEach es X.env := by rfl)
    (hpl : ((backTo pos (starEach (e :: es) X.env)).any (·.1) || (backToKw pos (keywordEach kws X.env)).any (·.1.isNone)) = false := by rfl) : PE X (.Call (.Name x p) (e :: es) kws pos) (tCall sp [] E0 (tApp n ks.length t tk)) := by
  have h := pe_callP (E := fun _ => E0) (p := p) F hr hg hm hk hb (fun σ => at0 σ) ha hkw hall hks hdb hst hpl
  refine ⟨fun pins s σ H Q I hq => h.run pins s σ H Q I ?_⟩
  simpa [tCall, tCallS] using hq
end
section
variable {G : Gs} {E : XK}
abbrev F_kw (n m : Nat) (A B : FA) : FA := fun ρ K X => A ρ (fun ds ρ1 => B ρ1 (fun es ρ2 => ds.length = n ∧ es.length = m ∧ K (ds ++ es) ρ2) X) X
theorem DtVs.app2 {H : Hp} {vs zs : List V} {ds es : List Dt} (h : DtVs G H vs ds) (h2 : DtVs G H zs es) : DtVs G H (vs ++ zs) (ds ++ es) := h.app h2
theorem PUA.kw {n m : Nat} {t tk : TA} {A B : FA} (a : PUA G E t A) (b : PUA G E tk B) : PUA G E (tApp n m t tk) (F_kw n m A B) where
  run := fun S h => a.run S (a.mono (fun ds ρ1 k vs H1 S1 e1 hv => b.run S1 (b.mono (fun es ρ2 ⟨l1, l2, k⟩ zs H2 S2 e2 hz => ⟨hv.length.trans l1, hz.length.trans l2, k _ H2 S2 (e1.trans e2) ((hv.mono e2).app hz)⟩) (fun _ x => x) k)) (fun _ x => x) h)
  mono := fun m x h => a.mono (fun _ _ k => b.mono (fun _ _ ⟨l1, l2, k⟩ => ⟨l1, l2, m _ _ k⟩) x k) x h
end
/-! ### what _law_shown tells, over data -/
mutual
def Dt.da : Dt → Da
  | .non => .non
  | .bl b => .bl b
  | .int i => .int i
  | .str s => .str s
  | .rat q => .rat q
  | .lst l => .lst (daL l)
  | .tup l => .tup (daL l)
  | .dic l => .dic (daK l)
  | .scl _ => .non
def daL : List Dt → List Da
  | [] => []
  | d :: r => d.da :: daL r
def daK : List (Str × Dt) → List (Str × Da)
  | [] => []
  | (s, d) :: r => (s, d.da) :: daK r
end
mutual
def Dt.flat : Dt → Bool
  | .lst l => flatL l
  | .tup l => flatL l
  | .dic l => flatK l
  | .scl _ => false
  | _ => true
def flatL : List Dt → Bool
  | [] => true
  | d :: r => d.flat && flatL r
def flatK : List (Str × Dt) → Bool
  | [] => true
  | (_, d) :: r => d.flat && flatK r
end
mutual
theorem DtV.toDa {G : Gs} {H : Hp} : ∀ {v : V} {d : Dt}, DtV G H v d → d.flat = true → DaV G.R H v d.da
  | _, _, .non, _ => .non
  | _, _, .bl b, _ => .bl b
  | _, _, .int i, _ => .int i
  | _, _, .str s, _ => .str s
  | _, _, .rat h, _ => .rat h
  | _, _, .lst h r, f => .lst h (DtVs.toDa r (by unfold Dt.flat at f; exact f))
  | _, _, .tup h r, f => .tup h (DtVs.toDa r (by unfold Dt.flat at f; exact f))
  | _, _, .dic h r, f => .dic h (DtKs.toDa r (by unfold Dt.flat at f; exact f))
  | _, _, .scl _ _ _, f => by unfold Dt.flat at f; cases f
theorem DtVs.toDa {G : Gs} {H : Hp} : ∀ {vs : List V} {ds : List Dt}, DtVs G H vs ds → flatL ds = true → DaVs G.R H vs (daL ds)
  | _, _, .nil, _ => .nil
  | _, _, .cons h r, f => by
    unfold flatL at f
    rw [Bool.and_eq_true] at f
    exact .cons (DtV.toDa h f.1) (DtVs.toDa r f.2)
theorem DtKs.toDa {G : Gs} {H : Hp} : ∀ {vs : List (Key × V)} {ds : List (Str × Dt)}, DtKs G H vs ds → flatK ds = true → DaKs G.R H vs (daK ds)
  | _, _, .nil, _ => .nil
  | _, _, .cons h r, f => by
    unfold flatK at f
    rw [Bool.and_eq_true] at f
    exact .cons (DtV.toDa h f.1) (DtKs.toDa r f.2)
end
mutual
def ofPy : PyData → Dt
  | .none => .non
  | .bool b => .bl b
  | .int i => .int i
  | .str s => .str s
  | .list l => .lst (ofPyL l)
  | .tuple l => .tup (ofPyL l)
  | .dict _ => .non
def ofPyL : List PyData → List Dt
  | [] => []
  | d :: r => ofPy d :: ofPyL r
end
mutual
theorem DpN.dt {G : Gs} {X : Addr → Prop} {H0 H : Hp} (hx : ∀ a, X a → H0 a ≠ none) : ∀ {v : V} {y : PyData}, DpN H0 H v y → DtV G (cut X H) v (ofPy y)
  | _, _, .int i => .int i
  | _, _, .str s => .str s
  | _, _, .lst n h r => .lst (cut_some.mpr ⟨fun z => hx _ z n, h⟩) (DpNs.dt hx r)
  | _, _, .tup n h r => .tup (cut_some.mpr ⟨fun z => hx _ z n, h⟩) (DpNs.dt hx r)
theorem DpNs.dt {G : Gs} {X : Addr → Prop} {H0 H : Hp} (hx : ∀ a, X a → H0 a ≠ none) : ∀ {vs : List V} {ys : List PyData}, DpNs H0 H vs ys → DtVs G (cut X H) vs (ofPyL ys)
  | _, _, .nil => .nil
  | _, _, .cons h r => .cons (DpN.dt hx h) (DpNs.dt hx r)
end
mutual
theorem py_sh : ∀ d : Da, (ofPy d.sh).py = some d.sh
  | .non => rfl
  | .bl _ => rfl
  | .int _ => rfl
  | .str _ => rfl
  | .rat _ => rfl
  | .lst l => by simp only [Da.sh, ofPy, ofPyL, Dt.py, pyL, py_shL l, Option.map_some]
  | .tup l => by simp only [Da.sh, ofPy, ofPyL, Dt.py, pyL, py_shL l, Option.map_some]
  | .dic l => by simp only [Da.sh, ofPy, ofPyL, Dt.py, pyL, py_shD l, Option.map_some]
theorem py_shL : ∀ l : List Da, pyL (ofPyL (shL l)) = some (shL l)
  | [] => rfl
  | d :: r => by simp only [shL, ofPyL, pyL, py_sh d, py_shL r]
theorem py_shD : ∀ l : List (Str × Da), pyL (ofPyL (shD l)) = some (shD l)
  | [] => rfl
  | (s, d) :: r => by simp only [shD, ofPyL, ofPy, pyL, Dt.py, py_sh d, py_shD r, Option.map_some]
end
def Dt.tell (d : Dt) : Dt := ofPy d.da.sh
structure Dt.Fine (d : Dt) : Prop where
  flat : d.flat = true
  fine : d.da.fine = true
  dp : d.da.dp < 6
def fdShown : FD where
  pre := fun ds => ∃ d : Dt, ds = [d] ∧ d.Fine
  post := fun ds r => ∃ d : Dt, ds = [d] ∧ r = d.tell
def spShn (C : Addr) (n : Nat) : Sp := fun vs H Q _ => ∃ (v : V) (d : Da), vs = [v] ∧ DaV C H v d ∧ d.fine = true ∧ d.dp < n ∧ ∀ r H', Ex H H' → DpN H H' r d.sh → Q r H'
theorem shown_imp {G : Gs} {vs : List V} {H : Hp} {Q : VK} {E : XK} (h : spV G fdShown vs H Q E) : spShn G.R 6 vs H Q E := by
  obtain ⟨ds, X, hv, hx, ⟨d, rfl, f⟩, q⟩ := h
  cases hv with
  | cons hv r =>
    cases r
    refine ⟨_, d.da, rfl, (hv.mono cut_H).toDa f.flat, f.fine, f.dp, fun r H' ex hr => q _ r H' ⟨d, rfl, rfl⟩ ex (hr.dt fun a ha => ?_)⟩
    obtain ⟨us, hu⟩ := hx a ha
    rw [hu]
    exact fun z => nomatch z
theorem FnH.imp' {P : Program} {w : World} {K : PySem.W.Frag} {mg : Str → Option Value} {base : Heap} {CX : CXT} {k : Nat} {f : Addr} {fd : FuncData} {ps : List Str} {sp sp' : Sp} (F : FnH P w K mg base CX k f fd ps sp) (h : ∀ vs H Q E, sp' vs H Q E → sp vs H Q E) : FnH P w K mg base CX k f fd ps sp' :=
  ⟨fun vs H Q E hs => F.len vs H Q E (h _ _ _ _ hs), fun A outer s H args us vs Q E p hr hot hpin he hb hv hs => F.run A outer s H args us vs Q E p hr hot hpin he hb hv (h _ _ _ _ hs)⟩
/-- what is told can be compared -/
theorem tell_py (d : Dt) : d.tell.py = some d.da.sh := py_sh _
theorem told_py (w : Str) (d : Dt) : (Dt.lst [.str w, d.tell]).py = some (toldD w d.da) := by
  unfold Dt.py
  simp only [pyL, tell_py, Dt.py, toldD, Option.map_some]
/-- a told answer is not different from itself -/
theorem told_ne {w : Str} {d : Dt} {K : Dt → Prop} (f : d.Fine) (hw : PyData.strOk w = true) (k : K (.bl false)) : O_eqD true (.lst [.str w, d.tell]) (.lst [.str w, d.tell]) K :=
  ⟨_, _, told_py w d, told_py w d, told_shaped hw f.fine f.dp, told_shaped hw f.fine f.dp, by rw [if_pos rfl, told_same hw f.fine]; exact k⟩
theorem tell_ne {d : Dt} {K : Dt → Prop} (f : d.Fine) (k : K (.bl true)) : O_eqD false d.tell d.tell K := by
  have hs : SeqAt.shaped d.da.sh = true := by
    show (PyData.canLay0 _ && decide (PyData.depth _ ≤ 64)) = true
    rw [sh_lay _ f.fine, Bool.true_and]
    have := sh_depth d.da
    have := f.dp
    exact decide_eq_true (by omega)
  exact ⟨_, _, tell_py d, tell_py d, hs, hs, by rw [if_neg (by decide), SeqAt.eqv_refl _ (sh_lay _ f.fine)]; exact k⟩
end Fm

set_option maxHeartbeats 2000000
namespace Fm
open PySem PySem.Spec PyProof.Rows L2
/-! ### a def whose body is one try: its clauses tell what was given -/
/-- except C as e: return [w, _law_shown(e.given)], e in slot i -/
def clS (G : Gs) (i : Nat) (e : Str × Addr) : Cl := ⟨.ref e.2, some i, fun a cls d => tRet (tLst (tCons (tC (.str e.1)) (tCons (tCall (spV G fdShown) [] E0 (tCons (tXf a cls d e.2 "given" (tVar i)) tNil)) tNil)))⟩
/-- as kD, where the slots stay -/
def kW (G : Gs) (U : WX) (f : Fr) (σ : L2.St) (H : Hp) (ρ : Fm.Env) (D : Ends) : DE :=
  { kD G (fun c d H => U c d σ H) f σ H ρ D with nx := fun ρ' => ∀ H', St G f σ H' ρ' → Ex (cut (Xs f σ ρ) H) (cut (Xs f σ ρ') H') → D.nx σ H' }
/-- a suite that returns or raises and stores nothing -/
structure PVS (G : Gs) (U : WX) (t : TS) (F : FS) : Prop where
  run : ∀ {f : Fr} {σ : L2.St} {H : Hp} {ρ : Fm.Env} {D : Ends}, St G f σ H ρ → F ρ (kW G U f σ H ρ D) → t D σ H
  mono : ∀ {ρ : Fm.Env} {D D' : DE}, D.Le D' → F ρ D → F ρ D'
section
variable {G : Gs} {U : WX} {K : PySem.W.Frag}
theorem kW_ex {f : Fr} {σ : L2.St} {H H1 : Hp} {ρ ρ1 : Fm.Env} {D : Ends} (e : Ex (cut (Xs f σ ρ) H) (cut (Xs f σ ρ1) H1)) : (kW G U f σ H ρ D).Le (kW G U f σ H1 ρ1 D) :=
  ⟨fun _ h H' S e2 => h H' S (e.trans e2), fun _ _ h => h, fun _ _ h => h, fun _ h => kN_ex e h, fun _ h => kN_ex e h, fun _ h => h⟩
theorem PVS.next : PVS G U tNext F_next where
  run := fun S h => h _ S (Ex.refl _)
  mono := fun m h => m.nx _ h
theorem PVS.seq {t u : TS} {A B : FS} (a : PVS G U t A) (b : PVS G U u B) : PVS G U (tSeq t u) (F_seq A B) where
  run := fun {f σ H ρ D} S h => a.run (D := { D with nx := u D }) S (a.mono (D := { kW G U f σ H ρ D with nx := fun ρ' => B ρ' (kW G U f σ H ρ D) }) ⟨fun ρ' k H' S' e => b.run S' (b.mono (kW_ex e) k), fun _ _ k => k, fun _ _ k => k, fun _ k => k, fun _ k => k, fun _ k => k⟩ h)
  mono := fun {ρ D D'} m h => a.mono (D := { D with nx := fun ρ' => B ρ' D }) (D' := { D' with nx := fun ρ' => B ρ' D' }) ⟨fun ρ' k => b.mono m k, m.rt, m.rl, m.bk, m.ct, m.ex⟩ h
theorem PVS.ifS {c : TT} {t u : TS} {T : FT} {A B : FS} (w : ∀ E, PUT G E c T) (a : PVS G U t A) (b : PVS G U u B) : PVS G U (tIfS c t u) (F_if T A B) where
  run := fun {f σ H ρ D} S h => (w (fun c d H => U c d σ H)).run S ((w E0).mono (fun d ρ' k H' S' e => by
    cases d with
    | true => rw [if_pos rfl] at k ⊢; exact a.run S' (a.mono (kW_ex e) k)
    | false => rw [if_neg Bool.false_ne_true] at k ⊢; exact b.run S' (b.mono (kW_ex e) k)) (fun _ x => x) h)
  mono := fun m h => (w E0).mono (fun d ρ' k => by
    cases d with
    | true => rw [if_pos rfl] at k ⊢; exact a.mono m k
    | false => rw [if_neg Bool.false_ne_true] at k ⊢; exact b.mono m k) m.ex h
theorem PVS.retX {Fx : FX} {t : TA} {A : FA} (a : ∀ E, PUA G E t A) : PVS G U (tRet (tCallS (spX G Fx) (WE U) t)) (F_ret (F_callX Fx A)) where
  run := fun {f σ H ρ D} S h => (PUS.ret (PU.callX (E := fun c d H => U c d σ H) (a _))).run (D := D) S h
  mono := fun m h => (PUS.ret (PU.callX (E := E0) (a _))).mono m h
theorem PVS.retXL {Fx : FX} {t : TA} {A : FA} (a : ∀ E, PUA G E t A) : PVS G U (tRet (tCallS (spXL G Fx) (WE U) t)) (F_ret (F_toV (F_callXL Fx A))) where
  run := fun {f σ H ρ D} S h => (PUS.ret (PUF.toV (PUF.callX (E := fun c d H => U c d σ H) (a _)))).run (D := D) S h
  mono := fun m h => (PUS.ret (PUF.toV (PUF.callX (E := E0) (a _)))).mono m h
/-- which clause takes an exception of class c -/
def catches (K : PySem.W.Frag) : List (Str × Addr) → Addr → (Str → Prop) → Prop
  | [], _, _ => False
  | (w, C) :: r, c, k => ∃ b, PySem.W.exmOne K (.ref c) (.ref C) = some b ∧ (b = true → c = C ∧ k w) ∧ (b = false → catches K r c k)
def endTry (K : PySem.W.Frag) (l : List (Str × Addr)) (F : FD) (ds : List Dt) : DE :=
  { endV F ds with ex := fun e => match e with | .own c n d => n = Str.ofString "given" ∧ catches K l c (fun w => d.Fine ∧ F.post ds (.lst [.str w, d.tell])) | .bare _ => False }
variable {vs : List V} {H : Hp} {Q : VK} {E2 : XK} {N : List Str}
theorem spV.defTry {F : FD} {l : List (Str × Addr)} {i : Nat} {tb : WX → TS} {B : FS} (S0 : ∀ U, PVS G U (tb U) B) (hi : i < N.length) (h : ∀ ds, F.pre ds → B (env0 N.length ds) (endTry K l F ds)) (hs : spV G F vs H Q E2) :
    (fun (D : Ends) (m : L2.St) (G' : Hp) => tb (wCls K (fun _ _ _ _ => False) D (l.map (clS G i))) D m G') { nx := fun _ H' => Q .non H', rt := Q } (L2.start N vs) H := by
  obtain ⟨ds, X, hv, hx, hp, q⟩ := hs
  have hlen : (L2.start N vs).length = (env0 N.length ds).length := start_len hv.length
  have hlen2 : i < (L2.start N vs).length := by
    rw [hlen]
    unfold env0
    rw [List.length_append, List.length_map, List.length_replicate]
    omega
  refine (S0 _).run (start_St hv hx) ((S0 (fun _ _ _ _ => False)).mono (D := endTry K l F ds) ⟨fun ρ' k H' S e => q .non .non H' k ?_ .non, fun d ρ' k v σ' H' S hd => q d v H' k ?_ ?_, fun l ρ' k p us σ' H' S h1 h2 h3 h4 => q (.lst l) _ H' k ?_ ?_, fun _ w => w.elim, fun _ w => w.elim, fun e he => ?_⟩ (h ds hp))
  · exact fun a o ha => S.fr a o id ha
  · exact fun a o ha => S.fr a o id ha
  · exact hd.mono (cut_le fun a ha => .inl ha)
  · exact fun a o ha => S.fr a o id ha
  · refine .lst (cut_some.mpr ⟨h2, h3⟩) (h4.mono (cut_le fun a ha => .inl (.inl ha)))
  · cases e with
    | bare c => exact False.elim he
    | own c n d =>
      obtain ⟨rfl, hc⟩ := he
      intro v dd H' kp hd hdd hn
      have ex : Ex H H' := fun a o ha => kp a o id ha
      have go : ∀ l : List (Str × Addr), catches K l c (fun w => d.Fine ∧ F.post ds (.lst [.str w, d.tell])) → wCls K (fun _ _ _ _ => False) { nx := fun _ H' => Q .non H', rt := Q } (l.map (clS G i)) (.ref c) (some dd) (L2.start N vs) H' := by
        intro l
        induction l with
        | nil => exact fun h => h
        | cons e r ih =>
          obtain ⟨w, C⟩ := e
          rintro ⟨b, hb, h1, h2⟩
          refine ⟨b, hb, fun e a ha => ?_, fun e => ih (h2 e)⟩
          obtain ⟨rfl, fine, post⟩ := h1 e
          show (clS G i (w, c)).ts a (.ref c) (some dd) _ ((L2.start N vs).set i (some (.ref a))) H'
          refine ⟨.ref a, by rw [List.getElem?_set_self hlen2], rfl, rfl, dd, _, v, rfl, hdd, rfl, ?_⟩
          refine ⟨[d], X, .cons hd .nil, fun a ha => ?_, ⟨d, rfl, fine⟩, fun d2 r2 H2 hp2 ex2 hr2 => ?_⟩
          · obtain ⟨us, hu⟩ := hx a ha
            exact ⟨us, ex _ _ hu⟩
          · obtain ⟨d3, e3, rfl⟩ := hp2
            injection e3 with e3 _
            subst e3
            refine ⟨len_lit rfl, fun p hpn => ?_⟩
            have exn : Ex H2 (upd H2 p (.lst [.str w, r2])) := Ex.new hpn
            refine q _ (.ref p) _ post ((ex.trans ex2).trans exn) (.lst (cut_some.mpr ⟨fun z => ?_, upd_same⟩) (.cons (.str _) (.cons (hr2.mono (cut_grow exn)) .nil)))
            obtain ⟨us, hu⟩ := hx p z
            rw [ex2 _ _ (ex _ _ hu)] at hpn
            cases hpn
      exact go l hc
end
end Fm

set_option maxHeartbeats 4000000
namespace Kx
open PySem PySem.Spec PyProof.Rows L2 Fm
open L2H (FnH RoomH HotC Hot1)
theorem hot_suite {X : Cx} {a : Addr} {oe : Obj} {k : Value} {d : Option Addr} {pn : List (Addr × Obj)} (hz : L2N.Zn k d oe) (hf : ∃ vs, oe.data = .fields vs) : HotC (X.suite a ((a, oe) :: pn)) :=
  let ⟨vs, e⟩ := hf
  ⟨(a, oe), ⟨rfl, vs, e, hz.2.2 vs e⟩, List.mem_cons_self⟩
theorem roomH_mk {k : Nat} {A : Around} (r : Room k A) (h : Option Value) : RoomH k (A.mark h) := ⟨r.dp, r.un⟩
section
variable {P : Program} {w : World} {K : PySem.W.Frag} {mg : Str → Option Value} {base : Heap} {a : Ad}
theorem ok_LshownHD (T : Tx K mg a) : FnH P w K mg base CX0 7 a.f_Lshown a.d_Lshown P_Lshown (spV a.G fdShown) := FnH.imp' (ok_LshownH T) fun _ _ _ _ h => shown_imp h
theorem ok_LshownD (T : Tx K mg a) : FnOk P w K mg base CX0 7 a.f_Lshown a.d_Lshown P_Lshown (spV a.G fdShown) := (ok_Lshown T).imp fun _ _ _ _ h => shown_imp h
def askedR (k : Int) (qs : List Rat) (d e : Dt) : Dt :=
  if lotB d qs.length = false then .lst [.str "lot", d.tell] else
  if k = 0 then (if curveB e qs.length = false then .lst [.str "curve", e.tell] else .rat (dotR (nums d.items) (nums e.items))) else
  if k = 1 then (if countB e = false then .lst [.str "count", e.tell] else .lst ((List.range e.nat).map fun k => .rat (meanK (nums d.items) qs (k + 1)))) else
  .lst ((usesL (nums d.items)).map fun (i : Nat) => .int (i : Int))
def fdAsked : FD where
  pre := fun ds => ∃ (k : Int) (qs : List Rat) (d e : Dt), ds = [.int k, .scl qs, d, e] ∧ qs.length ≤ 8 ∧ (∀ q ∈ qs, Sz 30 q) ∧ d.Ok 45 ∧ d.Fine ∧ (k = 0 → e.Ok 45) ∧ (k = 0 ∨ k = 1 → e.Fine ∧ e.kind = true)
  post := fun ds r => ∃ (k : Int) (qs : List Rat) (d e : Dt), ds = [.int k, .scl qs, d, e] ∧ r = askedR k qs d e
theorem ok_Lasked (T : Tx K mg a) : FnOk P w K mg base CX0 10 a.f_Lasked a.d_Lasked P_Lasked (spV a.G fdAsked) := by
  refine def_ok0 T.F_Lasked sc_Lasked (fun vs H Q E h => ?_) (fun cdv A outer s H vs Q E hr h => ?_)
  · obtain ⟨ds, X, hv, _, ⟨k, qs, d, e, rfl, _⟩, _⟩ := h
    exact hv.length
  · refine ⟨_, (pss_one (ps_try_clsN (W := fun _ _ _ _ => False) (l := [clS a.G 4 (Str.ofString "lot", a.C_BadLot), clS a.G 4 (Str.ofString "curve", a.C_BadCurve), clS a.G 4 (Str.ofString "count", a.C_BadCount)]) rfl rfl sc_Lasked.nd takesN0 (fun V pn xe tk _ => (pss_cons (ps_if (pt_cmpR op_eq (pv 0) pe_int (nomark _)) (pss_one (ps_ret (pe_callP (ok_mean T) (hr.mono (by decide)) (by rfl) T.g_mean T.F_mean.kp (kbN T.F_mean 1 ["lot", "curve"] (fun us ws => us ++ ws) (fun r q => Fm.vals_app r q) fun kV doc pm an cdv ct us ws h1 h2 => match us, ws, h1, h2 with | [_], [_, _], _, _ => rfl) (fun σ => L2N.passAt tk σ) (pa_cons (pv 1) pa_nil) (pk_cons (pv 2) (pk_cons (pv 3) pk_nil))))) pss_nil) (pss_cons (ps_if (pt_cmpR op_eq (pv 0) pe_int (nomark _)) (pss_one (ps_ret (pe_callP (ok_means_of T) (hr.mono (by decide)) (by rfl) T.g_means_of T.F_means_of.kp (kbN T.F_means_of 1 ["lot", "count"] (fun us ws => us ++ ws) (fun r q => Fm.vals_app r q) fun kV doc pm an cdv ct us ws h1 h2 => match us, ws, h1, h2 with | [_], [_, _], _, _ => rfl) (fun σ => L2N.passAt tk σ) (pa_cons (pv 1) pa_nil) (pk_cons (pv 2) (pk_cons (pv 3) pk_nil))))) pss_nil) (pss_one (ps_ret (pe_callP (ok_uses T) (hr.mono (by decide)) (by rfl) T.g_uses T.F_uses.kp (kbN T.F_uses 1 ["lot"] (fun us ws => us ++ ws) (fun r q => Fm.vals_app r q) fun kV doc pm an cdv ct us ws h1 h2 => match us, ws, h1, h2 with | [_], [_], _, _ => rfl) (fun σ => L2N.passAt tk σ) (pa_cons (pv 1) pa_nil) (pk_cons (pv 2) pk_nil))))))) (.cons ⟨rfl, rfl⟩ ⟨rfl, by decide, .inl T.g_BadLot⟩ (fun _ _ _ _ _ hz hf => pss_one (ps_ret (pe_lst (pa_cons pe_str (pa_cons (pe_callH0 (ok_LshownHD T) (roomH_mk (hr.mono (by decide)) _) (hot_suite hz hf) (by rfl) T.g_Lshown T.F_Lshown.kp (bd_Lshown T) (pa_cons (pe_xf T.xf_BadLot T.xa_BadLot_given hz.zc hf (pv 4)) pa_nil)) pa_nil))))) (.cons ⟨rfl, rfl⟩ ⟨rfl, by decide, .inl T.g_BadCurve⟩ (fun _ _ _ _ _ hz hf => pss_one (ps_ret (pe_lst (pa_cons pe_str (pa_cons (pe_callH0 (ok_LshownHD T) (roomH_mk (hr.mono (by decide)) _) (hot_suite hz hf) (by rfl) T.g_Lshown T.F_Lshown.kp (bd_Lshown T) (pa_cons (pe_xf T.xf_BadCurve T.xa_BadCurve_given hz.zc hf (pv 4)) pa_nil)) pa_nil))))) (.cons ⟨rfl, rfl⟩ ⟨rfl, by decide, .inl T.g_BadCount⟩ (fun _ _ _ _ _ hz hf => pss_one (ps_ret (pe_lst (pa_cons pe_str (pa_cons (pe_callH0 (ok_LshownHD T) (roomH_mk (hr.mono (by decide)) _) (hot_suite hz hf) (by rfl) T.g_Lshown T.F_Lshown.kp (bd_Lshown T) (pa_cons (pe_xf T.xf_BadCount T.xa_BadCount_given hz.zc hf (pv 4)) pa_nil)) pa_nil))))) .nil))))), ?_⟩
    refine spV.defTry (G := a.G) (K := K) (l := [(Str.ofString "lot", a.C_BadLot), (Str.ofString "curve", a.C_BadCurve), (Str.ofString "count", a.C_BadCount)]) (i := 4) (fun U => (PVS.seq (PVS.ifS (fun _ => (PUT.test (PU.op RD.eq (PU.var (i := 0)) PU.ci))) (PVS.retX (fun _ => (PUA.kw (PUA.cons (PU.var (i := 1)) PUA.nil) (PUA.cons (PU.var (i := 2)) (PUA.cons (PU.var (i := 3)) PUA.nil))))) PVS.next) (PVS.seq (PVS.ifS (fun _ => (PUT.test (PU.op RD.eq (PU.var (i := 0)) PU.ci))) (PVS.retXL (fun _ => (PUA.kw (PUA.cons (PU.var (i := 1)) PUA.nil) (PUA.cons (PU.var (i := 2)) (PUA.cons (PU.var (i := 3)) PUA.nil))))) PVS.next) (PVS.retXL (fun _ => (PUA.kw (PUA.cons (PU.var (i := 1)) PUA.nil) (PUA.cons (PU.var (i := 2)) PUA.nil))))))) (by decide) (fun ds hp => ?_) h
    obtain ⟨k, qs, d, e, rfl, hq, hz, ok, fine, ok2, fine2⟩ := hp
    have cl : ∀ kk : Str → Prop, kk (Str.ofString "lot") → catches K [(Str.ofString "lot", a.C_BadLot), (Str.ofString "curve", a.C_BadCurve), (Str.ofString "count", a.C_BadCount)] a.C_BadLot kk := fun kk h => ⟨true, T.xs_BadLot, fun _ => ⟨rfl, h⟩, (fun z => nomatch z)⟩
    have cc : ∀ kk : Str → Prop, kk (Str.ofString "curve") → catches K [(Str.ofString "lot", a.C_BadLot), (Str.ofString "curve", a.C_BadCurve), (Str.ofString "count", a.C_BadCount)] a.C_BadCurve kk := fun kk h => ⟨false, T.xo_BadCurve_BadLot, (fun z => nomatch z), fun _ => ⟨true, T.xs_BadCurve, fun _ => ⟨rfl, h⟩, (fun z => nomatch z)⟩⟩
    have cn : ∀ kk : Str → Prop, kk (Str.ofString "count") → catches K [(Str.ofString "lot", a.C_BadLot), (Str.ofString "curve", a.C_BadCurve), (Str.ofString "count", a.C_BadCount)] a.C_BadCount kk := fun kk h => ⟨false, T.xo_BadCount_BadLot, (fun z => nomatch z), fun _ => ⟨false, T.xo_BadCount_BadCurve, (fun z => nomatch z), fun _ => ⟨true, T.xs_BadCount, fun _ => ⟨rfl, h⟩, (fun z => nomatch z)⟩⟩⟩
    refine ⟨_, rfl, _, rfl, _, rfl, ite_d (fun h0 => ?_) (fun h0 => ?_)⟩
    · refine ⟨_, rfl, _, rfl, _, rfl, rfl, rfl, ⟨qs, d, e, rfl, hq, ok, ok2 h0⟩, fun r h1 => ?_, fun r h1 => ?_⟩
      · obtain ⟨_, _, _, e1, hb, hc, rfl⟩ := h1
        cases e1
        refine ⟨k, qs, d, e, rfl, ?_⟩
        unfold askedR
        rw [if_neg (by rw [hb]; decide), if_pos h0, if_neg (by rw [hc]; decide)]
      · obtain ⟨_, _, _, e1, h2⟩ := h1
        cases e1
        rcases h2 with ⟨hb, rfl⟩ | ⟨hb, hc, rfl⟩
        · exact ⟨rfl, cl _ ⟨fine, k, qs, d, e, rfl, by unfold askedR; rw [if_pos hb]⟩⟩
        · exact ⟨rfl, cc _ ⟨(fine2 (.inl h0)).1, k, qs, d, e, rfl, by unfold askedR; rw [if_neg (by rw [hb]; decide), if_pos h0, if_pos hc]⟩⟩
    · refine ⟨_, rfl, _, rfl, _, rfl, ite_d (fun h1 => ?_) (fun h1 => ?_)⟩
      · refine ⟨_, rfl, _, rfl, _, rfl, rfl, rfl, ⟨qs, d, e, rfl, hq, hz, ok, (fine2 (.inr h1)).2⟩, fun r h2 => ?_, fun r h2 => ?_⟩
        · obtain ⟨_, _, _, e1, hb, hc, e2⟩ := h2
          cases e1
          refine ⟨k, qs, d, e, rfl, ?_⟩
          rw [e2]
          unfold askedR
          rw [if_neg (by rw [hb]; decide), if_neg h0, if_pos h1, if_neg (by rw [hc]; decide)]
        · obtain ⟨_, _, _, e1, h2⟩ := h2
          cases e1
          rcases h2 with ⟨hb, rfl⟩ | ⟨hb, hc, rfl⟩
          · exact ⟨rfl, cl _ ⟨fine, k, qs, d, e, rfl, by unfold askedR; rw [if_pos hb]⟩⟩
          · exact ⟨rfl, cn _ ⟨(fine2 (.inr h1)).1, k, qs, d, e, rfl, by unfold askedR; rw [if_neg (by rw [hb]; decide), if_neg h0, if_pos h1, if_pos hc]⟩⟩
      · refine ⟨_, rfl, _, rfl, rfl, rfl, ⟨qs, d, rfl, hq, ok⟩, fun r h2 => ?_, fun r h2 => ?_⟩
        · obtain ⟨_, _, e1, hb, e2⟩ := h2
          cases e1
          refine ⟨k, qs, d, e, rfl, ?_⟩
          rw [e2]
          unfold askedR
          rw [if_neg (by rw [hb]; decide), if_neg h0, if_neg h1]
        · obtain ⟨_, _, e1, hb, rfl⟩ := h2
          cases e1
          exact ⟨rfl, cl _ ⟨fine, k, qs, d, e, rfl, by unfold askedR; rw [if_pos hb]⟩⟩
end
end Kx


set_option maxHeartbeats 2000000
namespace Fm
open PySem PySem.Spec PyProof.Rows L2
/-! ### a list first, then a value: the list stays while the value is made -/
section
variable {G : Gs} {E : XK} {K : PySem.W.Frag} {f : Fr} {σ : L2.St} {H H1 H2 : Hp} {ρ ρ2 : Fm.Env}
def subF (f : Fr) (σ : L2.St) (ρ : Fm.Env) (H : Hp) : Fr := ⟨H, fun a => Own σ ρ a, f.X0⟩
theorem lst_some {p : Addr} (h : LstAt H p) : H p ≠ none := by obtain ⟨_, e⟩ := h; rw [e]; exact fun z => nomatch z
theorem St.sub (S : St G f σ H ρ) : St G (subF f σ ρ H) σ H ρ where
  len := S.len
  fr := fun a o _ h => h
  sl := S.sl
  uq := S.uq
  nw := fun q h => .inl h
  x0 := S.x0
  pd := fun q h => lst_some (S.lstAt (.inr h))
theorem St.supK (S : St G f σ H ρ) (k : Kp (subF f σ ρ H) H2) : Kp f H2 := fun a o np h0 =>
  k a o (fun own => (S.nw a own).elim np fun n => by rw [n] at h0; cases h0) (S.fr a o np h0)
theorem St.sup (S : St G f σ H ρ) (S2 : St G (subF f σ ρ H) σ H2 ρ2) : St G f σ H2 ρ2 where
  len := S2.len
  fr := S.supK S2.fr
  sl := S2.sl
  uq := S2.uq
  nw := fun q h => by
    rcases S2.nw q h with h1 | h1
    · exact S.nw q h1
    · by_cases hp : f.P q
      · exact .inl hp
      · refine .inr ?_
        cases e : f.H0 q with
        | none => rfl
        | some o =>
          have := S.fr q o hp e
          rw [show H q = none from h1] at this
          cases this
  x0 := S2.x0
  pd := fun q h => by
    cases e : H q with
    | none => exact absurd e (S.pd q h)
    | some o =>
      by_cases own : Own σ ρ q
      · exact S2.pd q own
      · have h2 : H2 q = some o := S2.fr q o own e
        rw [h2]
        exact fun z => nomatch z
theorem kX_sub {p : Addr} (S : St G (f.out p) σ H ρ) : ∀ e, kX G f E e → kX G (subF (f.out p) σ ρ H) E e
  | .bare c, h => fun H' k => h H' (S.supK k)
  | .own c n d, h => fun v dd H' k hv hd hn => h v dd H' (S.supK k) (hv.mono (cut_le fun a ha => .inl ha)) hd (by
      by_cases hp : f.P dd
      · exact absurd hn (S.pd dd hp)
      · cases e : f.H0 dd with
        | none => rfl
        | some o =>
          have := S.fr dd o hp e
          rw [show H dd = none from hn] at this
          cases this)
abbrev F_parO2 (i j : Nat) (A : FA) (B : FE) : FS := fun ρ D => A ρ (fun l ρ1 => B ρ1 (fun d ρ2 => D.nx ((ρ2.set i (.own l)).set j (.val d))) D.ex) D.ex
theorem PUS.tupO2 {i j : Nat} {ta tb : TE} {A : FA} {B : FE} (a : PUF G E ta A) (b : PU G E tb B) : PUS G E (tAsg (tTup (tCons ta (tCons tb tNil))) (gTup K 2 (gCons (gName i) (gCons (gName j) gNil)))) (F_parO2 i j A B) where
  run := fun {f σ H ρ D} S h => a.run S (a.mono (fun l ρ1 k p vs H1 S1 e1 h1 h2 h3 h4 => b.run S1.sub (b.mono (fun d ρ2 k2 v H2 S2 e2 hv => by
    refine ⟨len_lit rfl, fun q hq => ?_⟩
    have hp2 : H2 p = some (.lst vs) := S2.fr p _ (fun own => (S1.x0 p (.inr rfl)).2 own) h3
    have S2a := S1.sup S2
    have et : Ex H2 (upd H2 q (.tup [.ref p, v])) := Ex.new hq
    refine ⟨q, _, rfl, SqT.of upd_same, rfl, _, _, rfl, _, _, rfl, rfl, ?_⟩
    have S3 := S2a.grow et
    have e3 : Ex (cut (Xs (f.out p) σ ρ2) H2) (cut (Xs (f.out p) σ ρ2) (upd H2 q (.tup [.ref p, v]))) := cut_grow et
    have hr : DtVs G (cut (Xs (f.out p) σ ρ2) (upd H2 q (.tup [.ref p, v]))) vs l := (h4.mono e2).mono e3
    have hv3 : DtV G (cut (Xs (f.out p) σ ρ2) (upd H2 q (.tup [.ref p, v]))) v d := DtV.mono e3 hv
    by_cases hi : i < ρ2.length
    · have S4 := S3.take hi (et _ _ hp2) hr h1 h2
      have e4 := take_ex (l := l) S3 hi
      exact k2 _ _ (S4.put (i := j) (o := some v) rfl (.val (hv3.mono e4))) ((((e1.trans e2).trans e3).trans e4).trans (put_ex rfl))
    · have e4 : ρ2.set i (.own l) = ρ2 := set_none hi
      rw [e4] at k2
      have e5 : σ.set i (some (.ref p)) = σ := set_none (by rw [S3.len]; exact hi)
      rw [e5]
      have S4 := S3.back
      exact k2 _ _ (S4.put (i := j) (o := some v) rfl (.val (hv3.mono out_ex))) ((((e1.trans e2).trans e3).trans out_ex).trans (put_ex rfl))) (kX_sub S1) k)) (fun _ x => x) h)
  mono := fun m h => a.mono (fun _ _ k => b.mono (fun _ _ k => m.nx _ k) m.ex k) m.ex h
/-! ### dicts of texts, str of an int -/
theorem PU.dic0 : PU G E tDNewK (fun ρ Kk _ => Kk (.dic []) ρ) where
  run := fun {f σ H ρ Q} S h p hp => by
    have ex : Ex H (upd H p (.dK [])) := Ex.new hp
    refine h (.ref p) _ (S.grow ex) (cut_grow ex) (.dic (cut_some.mpr ⟨fun z => lst_some (S.lstAt z) hp, upd_same⟩) .nil)
  mono := fun m _ h => m _ _ h
abbrev F_dic0 : FE := fun ρ Kk _ => Kk (.dic []) ρ
/-- {"s": []} -/
abbrev F_dicL (s : Str) : FE := fun ρ Kk _ => Kk (.dic [(s, .lst [])]) ρ
theorem upd_over {H : Hp} {p q : Addr} {a b c : HO} (h : q ≠ p) : upd (upd (upd H p a) q b) p c = upd (upd H q b) p c := by
  funext x
  by_cases hx : x = p
  · rw [hx, upd_same, upd_same]
  · rw [upd_ne hx, upd_ne hx]
    by_cases hq : x = q
    · rw [hq, upd_same, upd_same]
    · rw [upd_ne hq, upd_ne hq, upd_ne hx]
theorem PU.dicL {s : Str} : PU G E (tDisp [(tC (.str s), tLst tNil)]) (F_dicL s) where
  run := fun {f σ H ρ Q} S h p hp => by
    refine ⟨len_lit rfl, fun q hq => ?_⟩
    have hne : q ≠ p := fun z => by rw [z, upd_same] at hq; cases hq
    have hq0 : H q = none := by rw [upd_ne hne] at hq; exact hq
    refine ⟨by rw [upd_ne (Ne.symm hne), upd_same], [(.inr s, .ref q)], rfl, by show 1 ≤ 15; decide, ?_⟩
    rw [upd_over hne, show L2.mergeK [] [((.inr s : Key), V.ref q)] = [(.inr s, V.ref q)] from rfl]
    have e1 : Ex H (upd H q (.lst [])) := Ex.new hq0
    have hp1 : (upd H q (.lst [])) p = none := by rw [upd_ne (Ne.symm hne)]; exact hp
    have e2 : Ex (upd H q (.lst [])) (upd (upd H q (.lst [])) p (.dK [(.inr s, .ref q)])) := Ex.new hp1
    have ex := e1.trans e2
    refine h (.ref p) _ (S.grow ex) (cut_grow ex) (.dic (cut_some.mpr ⟨fun z => lst_some (S.lstAt z) hp, upd_same⟩) (.cons (.lst (cut_some.mpr ⟨fun z => lst_some (S.lstAt z) hq0, ?_⟩) .nil) .nil))
    rw [upd_ne hne, upd_same]
  mono := fun m _ h => m _ _ h
theorem CD.str : CD G rStrI (fun ds Kk => ∃ i : Int, ds = [.int i] ∧ i.natAbs < 2 ^ 200 ∧ Kk (.str (toString i))) where
  run := fun hx h ⟨i, hd, hi, k⟩ => by
    subst hd
    cases h with
    | cons h r => cases r; cases h; exact ⟨i, rfl, fine_int (decide_eq_true hi), k _ _ (Ex.refl _) (.str _)⟩
  mono := fun m ⟨i, hd, hi, k⟩ => ⟨i, hd, hi, m _ k⟩
theorem merge_nodup : ∀ (more acc : List (Key × V)), ((acc ++ more).map (·.1)).Nodup → L2.mergeK acc more = acc ++ more
  | [], acc, _ => by rw [List.append_nil]; rfl
  | e :: r, acc, h => by
    have hp : putK acc e.1 e.2 = acc ++ [e] := by
      unfold putK
      rw [if_neg]
      intro hany
      obtain ⟨x, hx, hk⟩ := List.any_eq_true.mp hany
      have hk := of_decide_eq_true hk
      rw [List.map_append, List.nodup_append] at h
      exact h.2.2 x.1 (List.mem_map.mpr ⟨x, hx, rfl⟩) e.1 (List.mem_map.mpr ⟨e, List.mem_cons_self, rfl⟩) hk
    show L2.mergeK (putK acc e.1 e.2) r = _
    rw [hp, merge_nodup r (acc ++ [e]) (by rw [List.append_assoc]; exact h), List.append_assoc]
    rfl
theorem dt_pairs {H : Hp} {X : Addr → Prop} : ∀ {kds : List (Str × Dt)} {xs : List V}, DtVs G (cut X H) xs (kds.map fun e => Dt.tup [.str e.1, e.2]) → ∃ (ps : List Addr) (kvs : List (Key × V)), xs = ps.map V.ref ∧ Paired (fun p kv => SqT K H p [L2.kV kv.1, kv.2]) ps kvs ∧ DtKs G (cut X H) kvs kds
  | [], _, .nil => ⟨[], [], rfl, .nil, .nil⟩
  | (s, d) :: r, _, .cons (.tup hp (.cons (.str _) (.cons hd .nil))) t => by
    obtain ⟨ps, kvs, e, q, ks⟩ := dt_pairs t
    exact ⟨_ :: ps, (.inr s, _) :: kvs, by rw [e]; rfl, .cons (SqT.of (cut_some.mp hp).2) q, .cons hd ks⟩
theorem DtKs.keys {H : Hp} : ∀ {kvs : List (Key × V)} {kds : List (Str × Dt)}, DtKs G H kvs kds → kvs.map (·.1) = kds.map fun e => (.inr e.1 : Key)
  | _, _, .nil => rfl
  | _, _, .cons h r => by rw [List.map_cons, List.map_cons, r.keys]
theorem CD.dict : CD G (fun xs H Q => ∃ (a : Addr) (ps : List Addr) (kvs : List (Key × V)), xs = [.ref a] ∧ SqL K H a (ps.map V.ref) ∧ Paired (fun p kv => SqT K H p [L2.kV kv.1, kv.2]) ps kvs ∧ ∀ p, H p = none → Q (.ref p) (upd H p (.dK (L2.mergeK [] kvs)))) (fun ds Kk => ∃ kds : List (Str × Dt), ds = [.lst (kds.map fun e => .tup [.str e.1, e.2])] ∧ (kds.map (·.1)).Nodup ∧ Kk (.dic kds)) where
  run := fun {X H xs ds Q} hx h ⟨kds, hd, hn, k⟩ => by
    subst hd
    cases h with
    | cons h r =>
      cases r
      cases h with
      | lst hp r =>
        obtain ⟨ps, kvs, e, q, ks⟩ := dt_pairs (K := K) r
        subst e
        refine ⟨_, ps, kvs, rfl, SqL.of (cut_some.mp hp).2, q, fun p hpn => ?_⟩
        have hkn : ((([] : List (Key × V)) ++ kvs).map fun e => e.1).Nodup := by
          rw [List.nil_append, ks.keys]
          have e : (kds.map fun e => (.inr e.1 : Key)) = (kds.map (·.1)).map fun s => (.inr s : Key) := by rw [List.map_map]; rfl
          rw [e]
          exact List.Pairwise.map _ (fun x y (hxy : x ≠ y) h => hxy (by injection h)) hn
        rw [merge_nodup kvs [] hkn, List.nil_append]
        have ex : Ex H (upd H p (.dK kvs)) := Ex.new hpn
        exact k _ _ ex (.dic (cut_some.mpr ⟨fun z => lst_some (hx _ z) hpn, upd_same⟩) (ks.mono (cut_grow ex)))
  mono := fun m ⟨l, hd, hn, k⟩ => ⟨l, hd, hn, m _ k⟩
end
/-- a value near shares: what may be handed in and told -/
def fdNear : FD where
  pre := fun ds => ∃ ps : List Rat, ds = [.lst (ps.map .rat)] ∧ 1 ≤ ps.length ∧ ps.length ≤ 8 ∧ ∀ p ∈ ps, Sz 10 p
  post := fun ds d => ∃ ps : List Rat, ds = [.lst (ps.map .rat)] ∧ d.Ok 45 ∧ d.Fine
/-! what may be told, item by item -/
structure ItOk (d : Dt) : Prop where
  kd : d.kind = true
  sz : Sz 45 d.num
  fl : d.flat = true
  fi : d.da.fine = true
  dp : d.da.dp < 4
theorem lt200 {n k : Nat} (h : n < 2 ^ k) (hk : k ≤ 200) : n < 2 ^ 200 := Nat.lt_of_lt_of_le h (Nat.pow_le_pow_right (by decide) hk)
theorem ItOk.rat {q : Rat} {k : Nat} (h : Sz k q) (hk : k ≤ 45) : ItOk (.rat q) := ⟨rfl, sz_le' h hk, rfl, by
  show (decide (q.num.natAbs < 2 ^ 200) && decide (q.den < 2 ^ 200)) = true
  rw [decide_eq_true (lt200 h.1 (by omega)), decide_eq_true (lt200 h.2 (by omega))]
  rfl, by show 0 < 4; decide⟩
theorem ItOk.int {i : Int} (h : i.natAbs < 2 ^ 45) : ItOk (.int i) := ⟨rfl, sz_int h (by decide), rfl, decide_eq_true (lt200 h (by decide)), by show 0 < 4; decide⟩
theorem daL_length : ∀ l : List Dt, (daL l).length = l.length
  | [] => rfl
  | _ :: r => congrArg Nat.succ (daL_length r)
theorem flatL_of : ∀ {l : List Dt}, (∀ x ∈ l, x.flat = true) → flatL l = true
  | [], _ => rfl
  | d :: r, h => by unfold flatL; rw [h d (by simp), flatL_of fun x hx => h x (List.mem_cons_of_mem _ hx)]; rfl
theorem fineL_dt : ∀ {l : List Dt}, (∀ x ∈ l, x.da.fine = true) → fineL (daL l) = true
  | [], _ => rfl
  | d :: r, h => by unfold daL fineL; rw [h d (by simp), fineL_dt fun x hx => h x (List.mem_cons_of_mem _ hx)]; rfl
theorem dpL_of {n : Nat} : ∀ {l : List Dt}, (∀ x ∈ l, x.da.dp ≤ n) → dpL (daL l) ≤ n
  | [], _ => Nat.zero_le _
  | d :: r, h => by
    unfold daL dpL
    have := h d (by simp)
    have := dpL_of (l := r) fun x hx => h x (List.mem_cons_of_mem _ hx)
    omega
theorem fine_lst {l : List Dt} (h : ∀ x ∈ l, x.flat = true ∧ x.da.fine = true ∧ x.da.dp < 5) (hl : l.length ≤ 1000) : (Dt.lst l).Fine :=
  ⟨flatL_of fun x hx => (h x hx).1, by
    show (decide ((daL l).length ≤ 1000) && fineL (daL l)) = true
    rw [fineL_dt fun x hx => (h x hx).2.1, decide_eq_true (by rw [daL_length]; exact hl)]
    rfl, by
    show dpL (daL l) + 1 < 6
    have := dpL_of (n := 4) fun x hx => Nat.le_of_lt_succ (h x hx).2.2
    omega⟩
theorem fine_tup {l : List Dt} (h : ∀ x ∈ l, x.flat = true ∧ x.da.fine = true ∧ x.da.dp < 5) (hl : l.length ≤ 1000) : (Dt.tup l).Fine :=
  ⟨flatL_of fun x hx => (h x hx).1, by
    show (decide ((daL l).length ≤ 1000) && fineL (daL l)) = true
    rw [fineL_dt fun x hx => (h x hx).2.1, decide_eq_true (by rw [daL_length]; exact hl)]
    rfl, by
    show dpL (daL l) + 1 < 6
    have := dpL_of (n := 4) fun x hx => Nat.le_of_lt_succ (h x hx).2.2
    omega⟩
theorem fine_of_items {d : Dt} {l : List Dt} (hs : d.seq l) (h : ∀ x ∈ l, ItOk x) (hl : l.length ≤ 1000) : d.Ok 45 ∧ d.Fine := by
  have h2 : ∀ x ∈ l, x.flat = true ∧ x.da.fine = true ∧ x.da.dp < 5 := fun x hx => ⟨(h x hx).fl, (h x hx).fi, Nat.lt_succ_of_lt (h x hx).dp⟩
  rcases hs with rfl | rfl
  · exact ⟨⟨rfl, fun x hx => (h x hx).kd, hl, fun x hx => (h x hx).sz⟩, fine_lst h2 hl⟩
  · exact ⟨⟨rfl, fun x hx => (h x hx).kd, hl, fun x hx => (h x hx).sz⟩, fine_tup h2 hl⟩
theorem items_set {l : List Dt} {k : Nat} {y : Dt} (h : ∀ x ∈ l, ItOk x) (hy : ItOk y) : ∀ x ∈ l.set k y, ItOk x := fun x hx => by
  rcases List.mem_or_eq_of_mem_set hx with h1 | h1
  · exact h x h1
  · rw [h1]; exact hy
theorem at_rats (ps : List Rat) {k : Nat} (h : k < ps.length) : atI (ps.map Dt.rat) (k : Int) = some (.rat ps[k]) := atI_nat (by rw [List.getElem?_map, List.getElem?_eq_getElem h]; rfl)
theorem set_rats (ps : List Rat) (k : Nat) (q : Rat) : (ps.map Dt.rat).set k (.rat q) = (ps.set k q).map Dt.rat := by rw [List.map_set]
theorem set_szs {ps : List Rat} {a b k : Nat} {q : Rat} (h : ∀ p ∈ ps, Sz a p) (hq : Sz b q) (hab : a ≤ b) : ∀ p ∈ ps.set k q, Sz b p := fun x hx => by
  rcases List.mem_or_eq_of_mem_set hx with h1 | h1
  · exact sz_le' (h x h1) hab
  · rw [h1]; exact hq
theorem rats_items {ps : List Rat} {k : Nat} (h : ∀ p ∈ ps, Sz k p) (hk : k ≤ 45) : ∀ x ∈ ps.map Dt.rat, ItOk x := fun x hx => by
  obtain ⟨q, hq, rfl⟩ := List.mem_map.mp hx
  exact .rat (h q hq) hk
theorem sz_neg' {k : Nat} {q : Rat} (h : Sz k q) : Sz k (-q) := ⟨by show (-q.num).natAbs < _; rw [Int.natAbs_neg]; exact h.1, h.2⟩
theorem Sz.sub' {a b : Nat} {p q : Rat} (hp : Sz a p) (hq : Sz b q) : Sz (a + b + 1) (p - q) := by rw [Rat.sub_eq_add_neg]; exact hp.add' (sz_neg' hq)
/-- an entry of a list that is written out -/
theorem at_all {l : List Dt} {Q : Dt → Prop} (h : ∀ x ∈ l, Q x) {k : Nat} (hk : k < l.length) : ∃ x, atI l (k : Int) = some x ∧ Q x := ⟨l[k], atI_nat (List.getElem?_eq_getElem hk), h _ (List.getElem_mem hk)⟩
theorem odd_items : ∀ x ∈ [Dt.non, .bl true, .str (Str.ofString "1"), .lst [.int 1], .tup [], .tup [.lst [.int 1]], .dic [(Str.ofString "a", .lst [])]], ItOk x := by
  have z : Sz 45 0 := Sz.zero (by decide)
  intro x hx
  simp only [List.mem_cons, List.not_mem_nil, or_false] at hx
  rcases hx with rfl | rfl | rfl | rfl | rfl | rfl | rfl
  · exact ⟨rfl, z, rfl, rfl, by decide⟩
  · exact ⟨rfl, z, rfl, rfl, by decide⟩
  · exact ⟨rfl, z, rfl, by decide +kernel, by decide⟩
  · exact ⟨rfl, z, rfl, by decide +kernel, by decide⟩
  · exact ⟨rfl, z, rfl, by decide +kernel, by decide⟩
  · exact ⟨rfl, z, rfl, by decide +kernel, by decide⟩
  · exact ⟨rfl, z, rfl, by decide +kernel, by decide⟩
theorem cutG_sub (l : List Dt) (lo hi : Option Int) : (cutG l lo hi).Sublist l := (List.take_sublist _ _).trans (List.drop_sublist _ _)
theorem cutG_mem {l : List Dt} {lo hi : Option Int} {x : Dt} (h : x ∈ cutG l lo hi) : x ∈ l := (cutG_sub l lo hi).mem h
theorem cutG_len (l : List Dt) (lo hi : Option Int) : (cutG l lo hi).length ≤ l.length := (cutG_sub l lo hi).length_le
theorem daK_keys : ∀ l : List (Str × Dt), (daK l).map (·.1) = l.map (·.1)
  | [] => rfl
  | (s, d) :: r => by unfold daK; rw [List.map_cons, List.map_cons, daK_keys r]
theorem flatK_of : ∀ {l : List (Str × Dt)}, (∀ x ∈ l, x.2.flat = true) → flatK l = true
  | [], _ => rfl
  | (s, d) :: r, h => by unfold flatK; rw [show d.flat = true from h (s, d) (by simp), flatK_of fun x hx => h x (List.mem_cons_of_mem _ hx)]; rfl
theorem fineD_dt : ∀ {l : List (Str × Dt)}, (∀ x ∈ l, fineS x.1 = true ∧ x.2.da.fine = true ∧ x.2.da.noDic = true) → fineD (daK l) = true
  | [], _ => rfl
  | (s, d) :: r, h => by
    obtain ⟨h1, h2, h3⟩ := h (s, d) (by simp)
    unfold daK fineD
    rw [h1, h2, h3, fineD_dt fun x hx => h x (List.mem_cons_of_mem _ hx)]
    rfl
theorem dpD_of {n : Nat} : ∀ {l : List (Str × Dt)}, (∀ x ∈ l, x.2.da.dp ≤ n) → dpD (daK l) ≤ n
  | [], _ => Nat.zero_le _
  | (s, d) :: r, h => by
    unfold daK dpD
    have h1 : d.da.dp ≤ n := h (s, d) (by simp)
    have := dpD_of (l := r) fun x hx => h x (List.mem_cons_of_mem _ hx)
    omega
theorem fine_dic {l : List (Str × Dt)} (hl : l.length ≤ 8) (hn : (l.map (·.1)).Nodup) (h : ∀ x ∈ l, fineS x.1 = true ∧ x.2.flat = true ∧ x.2.da.fine = true ∧ x.2.da.noDic = true ∧ x.2.da.dp < 5) : (Dt.dic l).Fine :=
  ⟨flatK_of fun x hx => (h x hx).2.1, by
    show (decide ((daK l).length ≤ 8 ∧ ((daK l).map (·.1)).Nodup) && fineD (daK l)) = true
    have e : (daK l).length = l.length := by have := congrArg List.length (daK_keys l); rwa [List.length_map, List.length_map] at this
    rw [fineD_dt fun x hx => ⟨(h x hx).1, (h x hx).2.2.1, (h x hx).2.2.2.1⟩, decide_eq_true (by rw [e, daK_keys]; exact ⟨hl, hn⟩)]
    rfl, by
    show dpD (daK l) + 1 < 6
    have := dpD_of (n := 4) fun x hx => Nat.le_of_lt_succ (h x hx).2.2.2.2
    omega⟩
/-- numbers by their places as texts -/
def placedD (ps : List Rat) : List (Str × Dt) := (List.range ps.length).map fun (k : Nat) => (Str.ofString (toString (k : Int)), Dt.rat (ps.getD k 0))
theorem placed_nodup {ps : List Rat} (h : ps.length ≤ 8) : ((placedD ps).map (·.1)).Nodup := by
  unfold placedD
  rw [List.map_map]
  have h8 : ((List.range 8).map fun (k : Nat) => Str.ofString (toString (k : Int))).Nodup := by decide +kernel
  exact List.Pairwise.sublist ((List.range_sublist.mpr h).map _) h8
theorem placed_fine {ps : List Rat} (h : ps.length ≤ 8) (hz : ∀ p ∈ ps, Sz 10 p) : (Dt.dic (placedD ps)).Fine :=
  fine_dic (by unfold placedD; rw [List.length_map, List.length_range]; exact h) (placed_nodup h) fun x hx => by
    obtain ⟨k, hk, rfl⟩ := List.mem_map.mp hx
    have hk := List.mem_range.mp hk
    have f8 : ∀ k : Nat, k < 8 → fineS (Str.ofString (toString (k : Int))) = true := by decide +kernel
    have it : ItOk (.rat (ps.getD k 0)) := .rat (k := 10) (by rw [List.getD_eq_getElem?_getD, List.getElem?_eq_getElem hk]; exact hz _ (List.getElem_mem hk)) (by decide)
    exact ⟨f8 k (by omega), rfl, it.fi, rfl, by show 0 < 5; decide⟩
theorem okFine_bare {d : Dt} (h : ItOk d) (hi : d.items = []) : d.Ok 45 ∧ d.Fine :=
  ⟨⟨h.kd, (by rw [hi]; exact (fun _ h => nomatch h)), (by rw [hi]; exact Nat.zero_le _), (by rw [hi]; exact (fun _ h => nomatch h))⟩, ⟨h.fl, h.fi, Nat.lt_of_lt_of_le h.dp (by decide)⟩⟩
theorem near_others {ps : List Rat} (h : ps.length ≤ 8) (hz : ∀ p ∈ ps, Sz 10 p) : ∀ x ∈ [Dt.non, .dic [], .str (Str.ofString "x"), .int 3, .lst [], .dic (placedD ps)], x.Ok 45 ∧ x.Fine := by
  have z : Sz 45 0 := Sz.zero (by decide)
  intro x hx
  simp only [List.mem_cons, List.not_mem_nil, or_false] at hx
  rcases hx with rfl | rfl | rfl | rfl | rfl | rfl
  · exact okFine_bare ⟨rfl, z, rfl, rfl, by decide⟩ rfl
  · exact okFine_bare ⟨rfl, z, rfl, by decide +kernel, by decide⟩ rfl
  · exact okFine_bare ⟨rfl, z, rfl, by decide +kernel, by decide⟩ rfl
  · exact okFine_bare (.int (by decide)) rfl
  · exact okFine_bare ⟨rfl, z, rfl, by decide +kernel, by decide⟩ rfl
  · exact ⟨⟨rfl, (fun _ h => nomatch h), Nat.zero_le _, (fun _ h => nomatch h)⟩, placed_fine h hz⟩
end Fm

set_option maxHeartbeats 4000000
namespace Kx
open PySem PySem.Spec PyProof.Rows L2 Fm
section
variable {P : Program} {w : World} {K : PySem.W.Frag} {mg : Str → Option Value} {base : Heap} {a : Ad}
theorem ok_Lnear (T : Tx K mg a) : FnOk P w K mg base CX0 5 a.f_Lnear a.d_Lnear P_Lnear (spT a.G fdNear) := by
  refine def_ok0 T.F_Lnear sc_Lnear (fun vs H Q E h => ?_) (fun cdv A outer s H vs Q E hr h => ?_)
  · obtain ⟨p, us, ds, X, rfl, _, _, hv, _, ⟨l, rfl, _⟩, _⟩ := h
    exact congrArg Nat.succ hv.length
  · refine ⟨_, (pss_cons (ps_asg (pe_tup (pa_cons (pe_callTy call_list_of (by rfl) T.b_list (by decide +kernel) (pa_cons (pv 1) pa_nil)) (pa_cons (pe_call (ok_Lpick T) (hr.mono (by decide)) (by rfl) T.g_Lpick T.F_Lpick.kp (bd_Lpick T) .nil pass0 (pa_cons (pv 0) (pa_cons (pe_callB call_lenQ (by rfl) T.b_len (by decide +kernel) (pa_cons (pv 1) pa_nil)) pa_nil))) pa_nil))) (pg_tup rfl (pgs_cons (pg_name (i := 2) sc_Lnear.nd rfl (Or.inr rfl)) (pgs_cons (pg_name (i := 3) sc_Lnear.nd rfl (Or.inl rfl)) pgs_nil)))) (pss_cons (ps_set (i := 4) sc_Lnear.nd rfl (Or.inl rfl) (pe_call (ok_Lpick T) (hr.mono (by decide)) (by rfl) T.g_Lpick T.F_Lpick.kp (bd_Lpick T) .nil pass0 (pa_cons (pv 0) (pa_cons (pe_callB call_lenQ (by rfl) T.b_len (by decide +kernel) (pa_cons (pv 1) pa_nil)) pa_nil)))) (pss_cons (ps_set (i := 5) sc_Lnear.nd rfl (Or.inl rfl) (pe_call (ok_Lpick T) (hr.mono (by decide)) (by rfl) T.g_Lpick T.F_Lpick.kp (bd_Lpick T) .nil pass0 (pa_cons (pv 0) (pa_cons pe_int pa_nil)))) (pss_cons (ps_if (pt_cmpR op_eq (pv 5) pe_int (nomark _)) (pss_one (ps_asg (pe_op (op_own T.o_add (ok_Ratio_add T) (hr.mono (by decide)) (bd_Ratio_add T) pass0) (pe_ix ix_list (pv 2) (pv 3) (fun _ _ => rfl)) (pe_make T.mk_Ratio (ok_Ratio_init T) (hr.mono (by decide)) (by rfl) T.g_Ratio (bd_Ratio_init T) .nil pass0 (pa_cons pe_int (pa_cons (pe_ix ix_list (pe_lst (pa_cons pe_int (pa_cons (pe_op op_pow pe_int pe_int) pa_nil))) (pe_call (ok_Lpick T) (hr.mono (by decide)) (by rfl) T.g_Lpick T.F_Lpick.kp (bd_Lpick T) .nil pass0 (pa_cons (pv 0) (pa_cons pe_int pa_nil))) (fun _ _ => rfl)) pa_nil)))) (pg_sub (pv 2) (pv 3) set_list))) (pss_one (ps_if (pt_cmpR op_eq (pv 5) pe_int (nomark _)) (pss_cons (ps_asg (pe_op (op_own T.o_sub (ok_Ratio_sub T) (hr.mono (by decide)) (bd_Ratio_sub T) pass0) (pe_ix ix_list (pv 2) (pv 3) (fun _ _ => rfl)) (pe_make T.mk_Ratio (ok_Ratio_init T) (hr.mono (by decide)) (by rfl) T.g_Ratio (bd_Ratio_init T) .nil pass0 (pa_cons pe_int (pa_cons pe_int pa_nil)))) (pg_sub (pv 2) (pv 3) set_list)) (pss_one (ps_asg (pe_op (op_own T.o_add (ok_Ratio_add T) (hr.mono (by decide)) (bd_Ratio_add T) pass0) (pe_ix ix_list (pv 2) (pv 4) (fun _ _ => rfl)) (pe_make T.mk_Ratio (ok_Ratio_init T) (hr.mono (by decide)) (by rfl) T.g_Ratio (bd_Ratio_init T) .nil pass0 (pa_cons pe_int (pa_cons pe_int pa_nil)))) (pg_sub (pv 2) (pv 4) set_list)))) (pss_one (ps_if (pt_cmpR op_eq (pv 5) pe_int (nomark _)) (pss_one (ps_asg (pe_ix ix_list (pe_lst (pa_cons pe_non (pa_cons pe_bl (pa_cons pe_str (pa_cons (pe_lst (pa_cons pe_int pa_nil)) (pa_cons (pe_tup pa_nil) (pa_cons (pe_tup (pa_cons (pe_lst (pa_cons pe_int pa_nil)) pa_nil)) (pa_cons (pe_disp (pps_cons pe_str (pe_lst pa_nil) pps_nil) rfl rfl (List.cons_ne_nil _ _) (by decide)) pa_nil)))))))) (pe_call (ok_Lpick T) (hr.mono (by decide)) (by rfl) T.g_Lpick T.F_Lpick.kp (bd_Lpick T) .nil pass0 (pa_cons (pv 0) (pa_cons pe_int pa_nil))) (fun _ _ => rfl)) (pg_sub (pv 2) (pv 3) set_list))) (pss_one (ps_if (pt_cmpR op_eq (pv 5) pe_int (nomark _)) (pss_one (ps_ret (pe_op op_cat (pv 2) (pe_lst (pa_cons (pe_make T.mk_Ratio (ok_Ratio_init T) (hr.mono (by decide)) (by rfl) T.g_Ratio (bd1_Ratio_init T).choose_spec.2 (bd1_Ratio_init T).choose_spec.1 pass0 (pa_cons pe_int pa_nil)) pa_nil))))) (pss_one (ps_if (pt_cmpR op_eq (pv 5) pe_int (nomark _)) (pss_one (ps_ret (pe_slice sl_list (pv 2) (po_some pe_int) po_none))) (pss_one (ps_if (pt_cmpR op_eq (pv 5) pe_int (nomark _)) (pss_one (ps_ret (pe_ix ix_list (pe_lst (pa_cons pe_non (pa_cons pe_dnewK (pa_cons pe_str (pa_cons pe_int (pa_cons (pe_lst pa_nil) (pa_cons (pe_callTy (call_dictP rfl) (by rfl) T.b_dict (by decide +kernel) (pa_cons (pe_lc (own := [("_law_k", 6)]) (g := (gName 6)) (tt := tYes) rfl sc_Lnear.nd (pi_range1 (by rfl) T.b_range (pa_cons (pe_callB call_lenQ (by rfl) T.b_len (by decide +kernel) (pa_cons (pv 2) pa_nil)) pa_nil)) (blkOk_by (N := N_Lnear) (sc := defScope s_Lnear) (by decide +kernel)) (fun _ _ _ _ _ => pg_name (i := 6) sc_Lnear.nd rfl (Or.inl rfl)) (fun _ _ _ _ _ => pts_nil) (fun _ _ _ _ _ => (pe_tup (pa_cons (pe_callTy cr_strI (by rfl) T.b_str (by decide +kernel) (pa_cons (pv 6) pa_nil)) (pa_cons (pe_ix (ix_listV (K := K) rfl) (pv 2) (pv 6) (fun _ _ => rfl)) pa_nil))))) pa_nil)) pa_nil))))))) (pe_call (ok_Lpick T) (hr.mono (by decide)) (by rfl) T.g_Lpick T.F_Lpick.kp (bd_Lpick T) .nil pass0 (pa_cons (pv 0) (pa_cons pe_int pa_nil))) (fun _ _ => rfl)))) (pss_one (ps_if (pt_cmpR op_eq (pv 5) pe_int (nomark _)) (pss_cons (ps_asg (pe_op (op_own T.o_sub (ok_Ratio_sub T) (hr.mono (by decide)) (bd_Ratio_sub T) pass0) (pe_ix ix_list (pv 2) (pv 3) (fun _ _ => rfl)) (pe_make T.mk_Ratio (ok_Ratio_init T) (hr.mono (by decide)) (by rfl) T.g_Ratio (bd_Ratio_init T) .nil pass0 (pa_cons pe_int (pa_cons pe_int pa_nil)))) (pg_sub (pv 2) (pv 3) set_list)) (pss_one (ps_asg (pe_op (op_own T.o_add (ok_Ratio_add T) (hr.mono (by decide)) (bd_Ratio_add T) pass0) (pe_ix ix_list (pv 2) (pv 4) (fun _ _ => rfl)) (pe_make T.mk_Ratio (ok_Ratio_init T) (hr.mono (by decide)) (by rfl) T.g_Ratio (bd_Ratio_init T) .nil pass0 (pa_cons pe_int (pa_cons pe_int pa_nil)))) (pg_sub (pv 2) (pv 4) set_list)))) pss_nil))))))))))))) (pss_one (ps_ret (pv 2))))))), ?_⟩
    refine spT.def (G := a.G) (E := E0) (PUS.seq (PUS.tupO2 (i := 2) (j := 3) (PUF.cbn CL.list (PUA.cons (PU.var (i := 1)) PUA.nil)) (PU.pick (i := 0) (PUA.cons (PU.cbn CD.len (PUA.cons (PU.var (i := 1)) PUA.nil)) PUA.nil))) (PUS.seq (PUS.set (i := 4) (PU.pick (i := 0) (PUA.cons (PU.cbn CD.len (PUA.cons (PU.var (i := 1)) PUA.nil)) PUA.nil))) (PUS.seq (PUS.set (i := 5) (PU.pick (i := 0) (PUA.cons PU.ci PUA.nil))) (PUS.seq (PUS.ifS (PUT.test (PU.op RD.eq (PU.var (i := 5)) PU.ci)) (PUS.seti (i := 2) (PU.op RD.num2 (PU.ixO (i := 2) (PU.var (i := 3))) (PU.mkR (PUA.cons PU.ci (PUA.cons (PU.op RD.ixL (PUF.toV (PUF.lst (PUA.cons PU.ci (PUA.cons (PU.op RD.i PU.ci PU.ci) PUA.nil)))) (PU.pick (i := 0) (PUA.cons PU.ci PUA.nil))) PUA.nil)))) (PU.var (i := 3))) (PUS.ifS (PUT.test (PU.op RD.eq (PU.var (i := 5)) PU.ci)) (PUS.seq (PUS.seti (i := 2) (PU.op RD.num2 (PU.ixO (i := 2) (PU.var (i := 3))) (PU.mkR (PUA.cons PU.ci (PUA.cons PU.ci PUA.nil)))) (PU.var (i := 3))) (PUS.seti (i := 2) (PU.op RD.num2 (PU.ixO (i := 2) (PU.var (i := 4))) (PU.mkR (PUA.cons PU.ci (PUA.cons PU.ci PUA.nil)))) (PU.var (i := 4)))) (PUS.ifS (PUT.test (PU.op RD.eq (PU.var (i := 5)) PU.ci)) (PUS.seti (i := 2) (PU.op RD.ixL (PUF.toV (PUF.lst (PUA.cons PU.cn (PUA.cons PU.cb (PUA.cons PU.cs (PUA.cons (PUF.toV (PUF.lst (PUA.cons PU.ci PUA.nil))) (PUA.cons (PU.tup PUA.nil) (PUA.cons (PU.tup (PUA.cons (PUF.toV (PUF.lst (PUA.cons PU.ci PUA.nil))) PUA.nil)) (PUA.cons PU.dicL PUA.nil))))))))) (PU.pick (i := 0) (PUA.cons PU.ci PUA.nil))) (PU.var (i := 3))) (PUS.ifS (PUT.test (PU.op RD.eq (PU.var (i := 5)) PU.ci)) (PUS.ret (PUF.toV (PUF.op RL.cat (PU.melt (i := 2)) (PUF.toV (PUF.lst (PUA.cons (PU.mkR1 (PUA.cons PU.ci PUA.nil)) PUA.nil)))))) (PUS.ifS (PUT.test (PU.op RD.eq (PU.var (i := 5)) PU.ci)) (PUS.ret (PUF.toV (PUF.slice (PU.melt (i := 2)) (PUO.some PU.ci) PUO.none))) (PUS.ifS (PUT.test (PU.op RD.eq (PU.var (i := 5)) PU.ci)) (PUS.ret (PU.op RD.ixL (PUF.toV (PUF.lst (PUA.cons PU.cn (PUA.cons PU.dic0 (PUA.cons PU.cs (PUA.cons PU.ci (PUA.cons (PUF.toV (PUF.lst PUA.nil)) (PUA.cons (PU.cbn CD.dict (PUA.cons (PUF.toV (PUF.lc (i := 6) (E1 := E0) (E2 := E0) (PUI.rng1 (PUA.cons (PU.lenO (i := 2)) PUA.nil)) PUT.yes (PU.tup (PUA.cons (PU.cbn CD.str (PUA.cons (PU.var (i := 6)) PUA.nil)) (PUA.cons (PU.ixO (i := 2) (PU.var (i := 6))) PUA.nil))))) PUA.nil)) PUA.nil)))))))) (PU.pick (i := 0) (PUA.cons PU.ci PUA.nil)))) (PUS.ifS (PUT.test (PU.op RD.eq (PU.var (i := 5)) PU.ci)) (PUS.seq (PUS.seti (i := 2) (PU.op RD.num2 (PU.ixO (i := 2) (PU.var (i := 3))) (PU.mkR (PUA.cons PU.ci (PUA.cons PU.ci PUA.nil)))) (PU.var (i := 3))) (PUS.seti (i := 2) (PU.op RD.num2 (PU.ixO (i := 2) (PU.var (i := 4))) (PU.mkR (PUA.cons PU.ci (PUA.cons PU.ci PUA.nil)))) (PU.var (i := 4)))) PUS.next))))))) (PUS.ret (PU.melt (i := 2))))))) (by decide) (fun p ds hp => ?_) h
    obtain ⟨ps, rfl, h1, h8, hz⟩ := hp
    have fin : ∀ l : List Dt, (∀ x ∈ l, ItOk x) → l.length ≤ 1000 → fdNear.post [.lst (ps.map .rat)] (.lst l) := fun l h hl =>
      ⟨ps, rfl, fine_of_items (.inl rfl) h hl⟩
    refine ⟨_, rfl, _, .inl rfl, p, rfl, _, rfl, _, .inl rfl, rfl, (ps.map Dt.rat).length, rfl, by rw [List.length_map]; omega, by rw [List.length_map]; omega, fun k1 hk1 => ?_⟩
    refine ⟨p, rfl, _, rfl, _, .inl rfl, rfl, (ps.map Dt.rat).length, rfl, by rw [List.length_map]; omega, by rw [List.length_map]; omega, fun k2 hk2 => ?_⟩
    rw [List.length_map] at hk1 hk2
    refine ⟨p, rfl, rfl, 9, rfl, by decide, by decide, fun w hw => ?_⟩
    have its := rats_items (k := 10) hz (by decide)
    refine ⟨_, rfl, _, rfl, _, rfl, ite_d (fun _ => ?_) (fun _ => ?_)⟩
    · refine ⟨⟨_, rfl⟩, _, rfl, _, (k1 : Int), _, rfl, rfl, at_rats ps hk1, 10, 9, rfl, rfl, ⟨by decide, by decide, by decide⟩, by decide, p, rfl, rfl, 2, rfl, by decide, by decide, fun c hc => ?_⟩
      obtain ⟨z, hz2, e⟩ := at_ints [3, 10 ^ (9 : Int).toNat] (k := c) hc
      have hz3 : 3 ≤ z ∧ z ≤ 1000000000 := by
        have e9 : (10 : Int) ^ (9 : Int).toNat = 1000000000 := by decide
        rw [e9] at hz2
        simp at hz2
        omega
      clear hz2
      have s0 : Sz 31 (Rat.divInt 1 z) := Sz.divInt (by decide) (by omega) (by omega)
      refine ⟨_, _, _, rfl, rfl, e, _, _, rfl, by omega, lt8 (k := 10) (by decide) (by decide), lt8 (k := 40) (by omega) (by decide), _, rfl, rfl, sz_le' (hz _ (List.getElem_mem hk1)) (by decide), sz_le' s0 (by decide), ⟨_, rfl⟩, _, rfl, _, (k1 : Int), k1, rfl, rfl, ixN_at (by rw [List.length_map]; exact hk1), ?_⟩
      exact ⟨_, rfl, rfl, fin _ (items_set its (.rat (Sz.add' (hz _ (List.getElem_mem hk1)) s0) (by decide))) (by rw [List.length_set, List.length_map]; omega)⟩
    · refine ⟨_, rfl, _, rfl, _, rfl, ite_d (fun _ => ?_) (fun _ => ?_)⟩
      · skip
        have s0 : Sz 13 (Rat.divInt 4 3) := Sz.divInt (by decide) (by decide) (by decide)
        refine ⟨⟨_, rfl⟩, _, rfl, _, (k1 : Int), _, rfl, rfl, at_rats ps hk1, _, _, rfl, by decide, lt8 (k := 10) (by decide) (by decide), lt8 (k := 10) (by decide) (by decide), _, rfl, rfl, sz_le' (hz _ (List.getElem_mem hk1)) (by decide), sz_le' s0 (by decide), ⟨_, rfl⟩, _, rfl, _, (k1 : Int), k1, rfl, rfl, ixN_at (by rw [List.length_map]; exact hk1), ?_⟩
        rw [set_rats, show ps.set k1 ((fun x1 x2 => x1 - x2) ps[k1] (Dt.rat (Rat.divInt 4 3)).num) = ps.set k1 (ps[k1] - Rat.divInt 4 3) from rfl]
        have hz2 := set_szs hz (sz_le' (Sz.sub' (hz _ (List.getElem_mem hk1)) s0) (by decide) : Sz 24 (ps[k1] - Rat.divInt 4 3)) (by decide) (k := k1)
        have hl2 : (ps.set k1 (ps[k1] - Rat.divInt 4 3)).length = ps.length := List.length_set
        generalize ps.set k1 (ps[k1] - Rat.divInt 4 3) = qs at hz2 hl2 ⊢
        have hk2' : k2 < qs.length := by omega
        refine ⟨⟨_, rfl⟩, _, rfl, _, (k2 : Int), _, rfl, rfl, at_rats qs hk2', _, _, rfl, by decide, lt8 (k := 10) (by decide) (by decide), lt8 (k := 10) (by decide) (by decide), _, rfl, rfl, sz_le' (hz2 _ (List.getElem_mem hk2')) (by decide), sz_le' s0 (by decide), ⟨_, rfl⟩, _, rfl, _, (k2 : Int), k2, rfl, rfl, ixN_at (by rw [List.length_map]; exact hk2'), ?_⟩
        rw [set_rats]
        have hz3 := set_szs hz2 (sz_le' (Sz.add' (hz2 _ (List.getElem_mem hk2')) s0) (by decide) : Sz 40 (qs[k2] + Rat.divInt 4 3)) (by decide) (k := k2)
        exact ⟨_, rfl, rfl, fin _ (rats_items hz3 (by decide)) (by rw [List.length_map, List.length_set]; omega)⟩
      · refine ⟨_, rfl, _, rfl, _, rfl, ite_d (fun _ => ?_) (fun _ => ?_)⟩
        · refine ⟨by decide, by decide, by decide, by decide, by decide, p, rfl, rfl, 7, rfl, by decide, by decide, fun c hc => ?_⟩
          obtain ⟨y, e, hy⟩ := at_all odd_items (k := c) hc
          refine ⟨_, _, _, rfl, rfl, e, ⟨_, rfl⟩, _, rfl, _, (k1 : Int), k1, rfl, rfl, ixN_at (by rw [List.length_map]; exact hk1), ?_⟩
          exact ⟨_, rfl, rfl, fin _ (items_set its hy) (by rw [List.length_set, List.length_map]; omega)⟩
        · refine ⟨_, rfl, _, rfl, _, rfl, ite_d (fun _ => ?_) (fun _ => ?_)⟩
          · refine ⟨_, rfl, 0, rfl, by decide, by decide, _, _, rfl, rfl, by rw [List.length_map]; show ps.length + 1 ≤ 1000; omega, rfl, fin _ (fun x hx => ?_) (by rw [List.length_append, List.length_map]; show ps.length + 1 ≤ 1000; omega)⟩
            rcases List.mem_append.mp hx with h | h
            · exact its x h
            · rw [List.mem_singleton.mp h]; exact .rat (sz_int (w := 0) (k := 1) (by decide) (by decide)) (by decide)
          · refine ⟨_, rfl, _, rfl, _, rfl, ite_d (fun _ => ?_) (fun _ => ?_)⟩
            · exact ⟨_, rfl, _, rfl, _, rfl, rfl, fin _ (fun x hx => its x (cutG_mem hx)) (by have := cutG_len (ps.map Dt.rat) (some 1) none; rw [List.length_map] at this; omega)⟩
            · refine ⟨_, rfl, _, rfl, _, rfl, ite_d (fun _ => ?_) (fun _ => ?_)⟩
              · refine ⟨by decide, _, rfl, _, rfl, ⟨by omega, by rw [List.length_map]; omega⟩, ?_⟩
                refine lcP_map (g := fun x => .tup [.str (Str.ofString (toString x.num.num)), .rat (ps.getD x.nat 0)]) _ _ rfl (by rw [rngL_len]; simp; omega) rfl (fun x hx K hK => ?_) ?_
                · obtain ⟨k, hk, rfl⟩ := List.mem_map.mp hx
                  have hk := List.mem_range.mp hk
                  have hkp : k < ps.length := by rw [List.length_map] at hk; omega
                  have e5 : Dt.tup [.str (Str.ofString (toString (Dt.int (0 + (k : Int))).num.num)), .rat (ps.getD (Dt.int (0 + (k : Int))).nat 0)] = Dt.tup [.str (Str.ofString (toString (0 + (k : Int)))), .rat ps[k]] := by
                    show Dt.tup [.str (Str.ofString (toString (0 + (k : Int)))), .rat (ps.getD (0 + (k : Int)).toNat 0)] = _
                    rw [Int.zero_add, Int.toNat_natCast, List.getD_eq_getElem?_getD, List.getElem?_eq_getElem hkp]
                    rfl
                  have hK : K (Dt.tup [.str (Str.ofString (toString (Dt.int (0 + (k : Int))).num.num)), .rat (ps.getD (Dt.int (0 + (k : Int))).nat 0)]) _ := hK
                  rw [e5] at hK
                  exact ⟨_, rfl, 0 + (k : Int), rfl, lt200 (k := 10) (by omega) (by decide), ⟨_, rfl⟩, _, rfl, _, 0 + (k : Int), _, rfl, rfl, by rw [Int.zero_add]; exact at_rats ps hkp, by show 2 ≤ 1000; decide, hK⟩
                · rw [List.nil_append]
                  have e6 : ((rngL 0 ((List.map Dt.rat ps).length : Int).toNat).map fun x => Dt.tup [.str (Str.ofString (toString x.num.num)), .rat (ps.getD x.nat 0)]) = (placedD ps).map fun e => Dt.tup [.str e.1, e.2] := by
                    unfold rngL placedD
                    rw [List.map_map, List.map_map, Int.toNat_natCast, List.length_map]
                    refine List.map_congr_left fun k _ => ?_
                    show Dt.tup [.str (Str.ofString (toString (0 + (k : Int)))), .rat (ps.getD (0 + (k : Int)).toNat 0)] = _
                    rw [Int.zero_add, Int.toNat_natCast]
                    rfl
                  rw [e6]
                  refine ⟨placedD ps, rfl, placed_nodup h8, by show 6 ≤ 1000; decide, p, rfl, rfl, 6, rfl, by decide, by decide, fun c hc => ?_⟩
                  obtain ⟨y, e, hy⟩ := at_all (near_others h8 hz) (k := c) hc
                  exact ⟨_, _, _, rfl, rfl, e, rfl, ps, rfl, hy⟩
              · refine ⟨_, rfl, _, rfl, _, rfl, ite_d (fun _ => ?_) (fun _ => ?_)⟩
                · skip
                  have s0 : Sz 13 (Rat.divInt 1 9) := Sz.divInt (by decide) (by decide) (by decide)
                  refine ⟨⟨_, rfl⟩, _, rfl, _, (k1 : Int), _, rfl, rfl, at_rats ps hk1, _, _, rfl, by decide, lt8 (k := 10) (by decide) (by decide), lt8 (k := 10) (by decide) (by decide), _, rfl, rfl, sz_le' (hz _ (List.getElem_mem hk1)) (by decide), sz_le' s0 (by decide), ⟨_, rfl⟩, _, rfl, _, (k1 : Int), k1, rfl, rfl, ixN_at (by rw [List.length_map]; exact hk1), ?_⟩
                  rw [set_rats, show ps.set k1 ((fun x1 x2 => x1 - x2) ps[k1] (Dt.rat (Rat.divInt 1 9)).num) = ps.set k1 (ps[k1] - Rat.divInt 1 9) from rfl]
                  have hz2 := set_szs hz (sz_le' (Sz.sub' (hz _ (List.getElem_mem hk1)) s0) (by decide) : Sz 24 (ps[k1] - Rat.divInt 1 9)) (by decide) (k := k1)
                  have hl2 : (ps.set k1 (ps[k1] - Rat.divInt 1 9)).length = ps.length := List.length_set
                  generalize ps.set k1 (ps[k1] - Rat.divInt 1 9) = qs at hz2 hl2 ⊢
                  have hk2' : k2 < qs.length := by omega
                  refine ⟨⟨_, rfl⟩, _, rfl, _, (k2 : Int), _, rfl, rfl, at_rats qs hk2', _, _, rfl, by decide, lt8 (k := 10) (by decide) (by decide), lt8 (k := 10) (by decide) (by decide), _, rfl, rfl, sz_le' (hz2 _ (List.getElem_mem hk2')) (by decide), sz_le' s0 (by decide), ⟨_, rfl⟩, _, rfl, _, (k2 : Int), k2, rfl, rfl, ixN_at (by rw [List.length_map]; exact hk2'), ?_⟩
                  rw [set_rats]
                  have hz3 := set_szs hz2 (sz_le' (Sz.add' (hz2 _ (List.getElem_mem hk2')) s0) (by decide) : Sz 40 (qs[k2] + Rat.divInt 1 9)) (by decide) (k := k2)
                  exact ⟨_, rfl, rfl, fin _ (rats_items hz3 (by decide)) (by rw [List.length_map, List.length_set]; omega)⟩
                · exact ⟨_, rfl, rfl, fin _ its (by rw [List.length_map]; omega)⟩
end
end Kx


set_option maxHeartbeats 2000000
namespace Fm
open PySem PySem.Spec PyProof.Rows L2
section
variable {G : Gs} {E : XK} {K : PySem.W.Frag} {f : Fr} {σ : L2.St} {H H1 H2 : Hp} {ρ ρ2 : Fm.Env}
theorem St.supX {Y : Addr → Prop} (S : St G f σ H ρ) (S2 : St G ⟨H, fun a => Own σ ρ a, Y⟩ σ H2 ρ2) : St G ⟨f.H0, f.P, Y⟩ σ H2 ρ2 where
  len := S2.len
  fr := fun a o np h0 => S2.fr a o (fun own => (S.nw a own).elim np fun n => by rw [n] at h0; cases h0) (S.fr a o np h0)
  sl := S2.sl
  uq := S2.uq
  nw := fun q h => by
    rcases S2.nw q h with h1 | h1
    · exact S.nw q h1
    · by_cases hp : f.P q
      · exact .inl hp
      · refine .inr ?_
        show f.H0 q = none
        cases e : f.H0 q with
        | none => rfl
        | some o =>
          have := S.fr q o hp e
          rw [show H q = none from h1] at this
          cases this
  x0 := S2.x0
  pd := fun q h => by
    cases e : H q with
    | none => exact absurd e (S.pd q h)
    | some o =>
      by_cases own : Own σ ρ q
      · exact S2.pd q own
      · have h2 : H2 q = some o := S2.fr q o own e
        rw [h2]
        exact fun z => nomatch z
theorem out_swap {p q : Addr} : (f.out p).out q = (f.out q).out p := by
  unfold Fr.out
  congr 1
  funext a
  exact propext ⟨fun h => h.elim (fun h => h.elim (fun h => .inl (.inl h)) .inr) fun h => .inl (.inr h), fun h => h.elim (fun h => h.elim (fun h => .inl (.inl h)) .inr) fun h => .inl (.inr h)⟩
/-- a, b = new list, new list -/
abbrev F_parOO (i j : Nat) (A B : FA) : FS := fun ρ D => A ρ (fun l ρ1 => B ρ1 (fun m ρ2 => i < ρ2.length ∧ j < ρ2.length ∧ D.nx ((ρ2.set i (.own l)).set j (.own m))) D.ex) D.ex
theorem PUS.parOO {i j : Nat} {ta tb : TE} {A B : FA} (hij : i ≠ j) (a : PUF G E ta A) (b : PUF G E tb B) : PUS G E (tPar i j (tCons ta (tCons tb tNil))) (F_parOO i j A B) where
  run := fun {f σ H ρ D} S h => a.run S (a.mono (fun l ρ1 k p vs H1 S1 e1 h1 h2 h3 h4 => b.run S1.sub (b.mono (fun m ρ2 ⟨hi, hj, k2⟩ q ws H2 S2 e2 g1 g2 g3 g4 => by
    have hp2 : H2 p = some (.lst vs) := S2.fr p _ (fun own => (S1.x0 p (.inr rfl)).2 own) h3
    have S3 : St G ((f.out p).out q) σ H2 ρ2 := S1.supX S2
    have hr : DtVs G (cut (Xs ((f.out p).out q) σ ρ2) H2) vs l := h4.mono e2
    have hw : DtVs G (cut (Xs ((f.out p).out q) σ ρ2) H2) ws m := g4
    have ee : Ex (cut (Xs (f.out p) σ ρ1) H1) (cut (Xs ((f.out p).out q) σ ρ2) H2) := e2
    rw [out_swap] at S3 hr hw ee
    have hpq : ¬ (f.out q).X0 p := fun z => z.elim h2 fun e => g2 (.inr e.symm)
    have S4 := S3.take hi hp2 hr h1 hpq
    have e4 := take_ex (l := l) S3 hi
    have hnq : f.P q ∨ f.H0 q = none := by
      rcases g1 with g1 | g1
      · exact S1.nw q g1
      · by_cases hP : f.P q
        · exact .inl hP
        · refine .inr ?_
          cases e : f.H0 q with
          | none => rfl
          | some o =>
            have := S1.fr q o hP e
            rw [show H1 q = none from g1] at this
            cases this
    have hj2 : j < (ρ2.set i (.own l)).length := by rw [List.length_set]; exact hj
    have S5 := S4.take hj2 g3 (hw.mono e4) hnq fun z => g2 (.inl z)
    have e5 := take_ex (l := m) S4 hj2
    exact ⟨_, _, rfl, k2 _ _ S5 (((e1.trans ee).trans e4).trans e5)⟩) (kX_sub S1) k)) (fun _ x => x) h)
  mono := fun m h => a.mono (fun _ _ k => b.mono (fun _ _ ⟨h1, h2, k⟩ => ⟨h1, h2, m.nx _ k⟩) m.ex k) m.ex h
theorem RD.isB : RD G (fun x y H Q => ∃ a b, x = .bl a ∧ y = .bl b ∧ Q (.bl (decide (a = b))) H) (fun d e Kk => ∃ a b, d = .bl a ∧ e = .bl b ∧ Kk (.bl (decide (a = b)))) where
  run := fun _ h1 h2 ⟨a, b, e1, e2, k⟩ => by subst e1; subst e2; exact ⟨a, b, dbl h1, dbl h2, k _ _ (Ex.refl _) (.bl _)⟩
  mono := fun m ⟨a, b, e1, e2, k⟩ => ⟨a, b, e1, e2, m _ k⟩
theorem CD.repr : CD G rReprF (fun ds Kk => ∃ b : Bool, ds = [.bl b] ∧ Kk (.str ((if b then "True" else "False" : String) : Str))) where
  run := fun hx h ⟨b, hd, k⟩ => by
    subst hd
    cases h with
    | cons h r => cases r; cases h; exact .inr (.inl ⟨b, rfl, k _ _ (Ex.refl _) (.str _)⟩)
  mono := fun m ⟨b, hd, k⟩ => ⟨b, hd, m _ k⟩
/-- an own list beside other data -/
abbrev F_neO (ne : Bool) (i : Nat) (B : FE) : FE := fun ρ Kk X => (∃ l0, ρ[i]? = some (.own l0)) ∧ B ρ (fun e ρ1 => ∃ l ys y, ρ1[i]? = some (.own l) ∧ pyL l = some ys ∧ e.py = some y ∧ SeqAt.shaped (.list ys) = true ∧ SeqAt.shaped y = true ∧ Kk (.bl (if ne = true then !PyData.eqv (.list ys) y else PyData.eqv (.list ys) y)) ρ1) X
theorem PU.neO {i : Nat} {tb : TE} {B : FE} (b : PU G E tb B) : PU G E (tOp (rNeD K) (tVar i) tb) (F_neO true i B) where
  run := fun S ⟨⟨l0, h0⟩, h⟩ => by
    obtain ⟨p, vs0, q1, _⟩ := S.own h0
    refine ⟨_, q1, b.run S (b.mono (fun e ρ1 ⟨l, ys, y, h1, hl, he, s1, s2, k⟩ v H1 S1 e1 hv => ?_) (fun _ x => x) h)⟩
    obtain ⟨p', vs, w1, _, w3, w4⟩ := S1.own h1
    rw [q1] at w1
    injection w1 with w1; injection w1 with w1; injection w1 with w1; subst w1
    exact ⟨.list ys, y, .lst (SqL.of w3) (DtVs.dp (w4.mono cut_H) hl), DtV.dp hv.whole he, s1, s2, k _ _ S1 e1 (.bl _)⟩
  mono := fun m x ⟨h0, h⟩ => ⟨h0, b.mono (fun _ _ ⟨l, ys, y, h1, hl, he, s1, s2, k⟩ => ⟨l, ys, y, h1, hl, he, s1, s2, m _ _ k⟩) x h⟩
end
/-! lists of places -/
def intsL (is : List Nat) : List Dt := is.map fun (i : Nat) => Dt.int (i : Int)
theorem py_ints : ∀ is : List Nat, pyL (intsL is) = some (is.map fun (i : Nat) => PyData.int (i : Int))
  | [] => rfl
  | i :: r => by
    show pyL (Dt.int (i : Int) :: intsL r) = _
    unfold pyL
    rw [py_ints r]
    rfl
theorem lay_ints : ∀ is : List Nat, PyData.canLayAll0 (is.map fun (i : Nat) => PyData.int (i : Int)) = true
  | [] => rfl
  | i :: r => by rw [List.map_cons]; simp only [PyData.canLayAll0, PyData.canLay0, Bool.true_and, lay_ints r]
theorem depth_ints : ∀ is : List Nat, PyData.depthAll (is.map fun (i : Nat) => PyData.int (i : Int)) ≤ 3
  | [] => by simp [PyData.depthAll]
  | i :: r => by have := depth_ints r; rw [List.map_cons]; simp only [PyData.depthAll, PyData.depth]; omega
theorem ints_lay (is : List Nat) : PyData.canLay0 (.list (is.map fun (i : Nat) => PyData.int (i : Int))) = true := by simp only [PyData.canLay0, lay_ints]
theorem ints_shaped (is : List Nat) : SeqAt.shaped (.list (is.map fun (i : Nat) => PyData.int (i : Int))) = true := by
  show (PyData.canLay0 _ && decide (PyData.depth _ ≤ 64)) = true
  rw [ints_lay, Bool.true_and]
  have := depth_ints is
  exact decide_eq_true (by simp only [PyData.depth]; omega)
theorem ints_py (is : List Nat) : (Dt.lst (intsL is)).py = some (.list (is.map fun (i : Nat) => PyData.int (i : Int))) := by unfold Dt.py; rw [py_ints]; rfl
theorem ints_ne {is : List Nat} {Kk : Dt → Prop} (k : Kk (.bl false)) : O_eqD true (.lst (intsL is)) (.lst (intsL is)) Kk :=
  ⟨_, _, ints_py is, ints_py is, ints_shaped is, ints_shaped is, by rw [if_pos rfl, SeqAt.eqv_refl _ (ints_lay is)]; exact k⟩
theorem ite_no {p : Prop} [Decidable p] {A B : Prop} (hp : p) (b : B) : if (!decide p) = true then A else B := by rw [decide_eq_true hp]; exact ite_f b
theorem uses_from : ∀ (ps : List Rat) (o : Nat), (List.range' o ps.length).filter (fun k => !decide (ps.getD (k - o) 0 = 0)) = ((ps.zipIdx o).filter fun e => !decide (e.1 = 0)).map (·.2)
  | [], _ => rfl
  | p :: ps, o => by
    have ht : (List.range' (o + 1) ps.length).filter (fun k => !decide ((p :: ps).getD (k - o) 0 = 0)) = (((ps.zipIdx (o + 1)).filter fun e => !decide (e.1 = 0)).map (·.2)) := by
      rw [← uses_from ps (o + 1)]
      refine List.filter_congr fun k hk => ?_
      have h1 := (List.mem_range'_1.mp hk).1
      rw [show k - o = (k - (o + 1)) + 1 by omega, List.getD_cons_succ]
    rw [List.length_cons, List.range'_succ, List.zipIdx_cons, List.filter_cons, List.filter_cons, ht, Nat.sub_self, List.getD_cons_zero]
    by_cases hp : p = 0
    · rw [decide_eq_true hp]
      rfl
    · rw [decide_eq_false hp]
      rfl
theorem usesL_range (ps : List Rat) : (List.range ps.length).filter (fun k => !decide (ps.getD k 0 = 0)) = usesL ps := by
  have h := uses_from ps 0
  rw [List.range_eq_range']
  exact h
theorem meanK_sz {ps qs : List Rat} {k : Nat} (hp : ∀ p ∈ ps, Sz 10 p) (hq : ∀ q ∈ qs, Sz 30 q) (hl : ps.length ≤ 8) (hk : k ≤ 8) : Sz 3000 (meanK ps qs k) := by
  refine sz_le' (sumR_sz (k := 251) _ fun q hq2 => ?_) ?_
  · obtain ⟨e, he, rfl⟩ := List.mem_map.mp hq2
    exact sz_le' ((hp _ (List.of_mem_zip he).1).mul' ((hq _ (List.of_mem_zip he).2).pow k)) (by omega)
  · rw [List.length_map, List.length_zip]
    have : min ps.length qs.length ≤ 8 := by omega
    omega
theorem dotR_sz {ps qs : List Rat} (hp : ∀ p ∈ ps, Sz 10 p) (hq : ∀ q ∈ qs, Sz 10 q) (hl : ps.length ≤ 8) : Sz 3000 (dotR ps qs) := by
  refine sz_le' (sumR_sz (k := 20) _ fun q hq2 => ?_) ?_
  · obtain ⟨e, he, rfl⟩ := List.mem_map.mp hq2
    exact (hp _ (List.of_mem_zip he).1).mul' (hq _ (List.of_mem_zip he).2)
  · rw [List.length_map, List.length_zip]
    have : min ps.length qs.length ≤ 8 := by omega
    omega
/-! numbers as they were handed in -/
structure GivenOk (d : Dt) (ps : List Rat) : Prop where
  sq : d.seq d.items
  al : d.items.all Dt.isNum = true
  nu : nums d.items = ps
  ok : d.Ok 45
  fine : d.Fine
  dp : d.da.dp < 5
theorem num_it {x : Dt} (h : x.isNum = true) (hz : Sz 10 x.num) : ItOk x := by
  cases x with
  | int i => exact .int (Nat.lt_of_lt_of_le (show i.natAbs < 2 ^ 10 from hz.1) (by decide))
  | rat q => exact .rat hz (by decide)
  | _ => cases h
theorem given_of {d : Dt} {l : List Dt} {ps : List Rat} (hs : d.seq l) (hn : l.all Dt.isNum = true) (hv : nums l = ps) (hz : ∀ p ∈ ps, Sz 10 p) (h8 : ps.length ≤ 8) : GivenOk d ps := by
  have hi := (Dt.seq_items hs).1
  have hll : l.length = ps.length := by rw [← hv]; unfold nums; rw [List.length_map]
  have its : ∀ x ∈ l, ItOk x := fun x hx => num_it (allNum_mem hn hx) (hz _ (by rw [← hv]; exact List.mem_map.mpr ⟨x, hx, rfl⟩))
  obtain ⟨ok, fine⟩ := fine_of_items hs its (by omega)
  refine ⟨by rw [hi]; exact hs, by rw [hi]; exact hn, by rw [hi]; exact hv, ok, fine, ?_⟩
  have := dpL_of (n := 3) (l := l) fun x hx => Nat.le_of_lt_succ (its x hx).dp
  rcases hs with rfl | rfl
  · show dpL (daL l) + 1 < 5
    omega
  · show dpL (daL l) + 1 < 5
    omega
theorem GivenOk.curve {d : Dt} {ps : List Rat} (h : GivenOk d ps) : curveB d ps.length = true := by
  have hl : d.items.length = ps.length := by have := congrArg List.length h.nu; unfold nums at this; rwa [List.length_map] at this
  unfold curveB Dt.numsB
  rw [(Dt.seq_items h.sq).2, h.al, decide_eq_true hl]
  rfl
theorem GivenOk.lot {d : Dt} {ps : List Rat} {n : Nat} (h : GivenOk d ps) (hl : LotR n ps) : lotB d n = true := by
  obtain ⟨h1, h2, h3, _⟩ := hl
  unfold lotB
  rw [← h1, h.curve, h.nu, decide_eq_true h3, show (d.items.all fun x => decide (0 ≤ x.num.num)) = true from List.all_eq_true.mpr fun x hx => decide_eq_true (Rat.num_nonneg.mpr (h2 _ (by rw [← h.nu]; exact List.mem_map.mpr ⟨x, hx, rfl⟩)))]
  rfl
theorem GivenOk.pair {d e : Dt} {ps qs : List Rat} (h1 : GivenOk d ps) (h2 : GivenOk e qs) : (Dt.lst [d, e]).Fine :=
  fine_lst (fun x hx => by
    rcases List.mem_cons.mp hx with rfl | hx
    · exact ⟨h1.fine.flat, h1.fine.fine, h1.dp⟩
    · rw [List.mem_singleton.mp hx]; exact ⟨h2.fine.flat, h2.fine.fine, h2.dp⟩) (by show 2 ≤ 1000; decide)
theorem given_post {ps : List Rat} {d : Dt} (h : fdGiven.post [.lst (ps.map .rat)] d) (hz : ∀ p ∈ ps, Sz 10 p) (h8 : ps.length ≤ 8) : GivenOk d ps := by
  obtain ⟨ps', l, e, hs, hn, hv⟩ := h
  injection e with e _
  injection e with e
  rw [← rats_inj e] at hv
  exact given_of hs hn hv hz h8
theorem given_rats {ps : List Rat} (hz : ∀ p ∈ ps, Sz 10 p) (h8 : ps.length ≤ 8) : GivenOk (.lst (ps.map .rat)) ps :=
  given_of (.inl rfl) (List.all_eq_true.mpr fun x hx => by obtain ⟨q, _, rfl⟩ := List.mem_map.mp hx; rfl) (nums_rats ps) hz h8
theorem mean_post {ps qs : List Rat} {d : Dt} (h : fdMeanL.post [.lst (ps.map .rat), .lst (qs.map .rat)] d) : d = .rat (dotR ps qs) := by
  obtain ⟨ps', qs', e, rfl⟩ := h
  injection e with e1 e2
  injection e2 with e2 _
  injection e1 with e1
  injection e2 with e2
  rw [rats_inj e1, rats_inj e2]
theorem means_post {ps qs : List Rat} {n : Nat} {d : Dt} (h : fdMeansL.post [.lst (qs.map .rat), .lst (ps.map .rat), .int (n : Int)] d) : d = .lst ((List.range n).map fun k => .rat (meanK ps qs (k + 1))) := by
  obtain ⟨qs', ps', n', e, rfl⟩ := h
  injection e with e1 e2
  injection e2 with e2 e3
  injection e3 with e3 _
  injection e1 with e1
  injection e2 with e2
  injection e3 with e3
  have e4 : n' = n := by omega
  rw [rats_inj e1, rats_inj e2, e4]
theorem filter_none (l : List Dt) : l.filter (fun _ => false) = [] := List.filter_eq_nil_iff.mpr fun _ _ => Bool.false_ne_true
/-- a frame that starts with one tape -/
theorem St.tapeStart {G : Gs} {σ : L2.St} {H : Hp} {ρ : Fm.Env} {p : Addr} {n : Nat} (hl : σ.length = ρ.length) (hn : n < ρ.length) (hρ : ∀ i s, ρ[i]? = some s → (i = n ∧ s = .tape p ∧ σ[i]? = some (some (.ref p))) ∨ (i ≠ n ∧ s = .un) ∨ (i ≠ n ∧ ∃ a, s = .ref a ∧ σ[i]? = some (some (.ref a))) ∨ (i ≠ n ∧ ∃ k, s = .val (.int k) ∧ σ[i]? = some (some (.int k)))) (ht : TapeAt H p) : St G ⟨H, fun a => a = p, fun _ => False⟩ σ H ρ where
  len := hl
  fr := fun _ _ _ h => h
  sl := fun i s h => by
    rcases hρ i s h with ⟨rfl, rfl, h2⟩ | ⟨_, rfl⟩ | ⟨_, a, rfl, h2⟩ | ⟨_, k, rfl, h2⟩
    · rw [h2]; exact .tape ht
    · exact .un
    · rw [h2]; exact .ref
    · rw [h2]; exact .val (.int k)
  uq := fun i j s t q h1 h2 h3 h4 h5 h6 => by
    rcases hρ i s h1 with ⟨rfl, rfl, _⟩ | ⟨_, rfl⟩ | ⟨_, a, rfl, _⟩ | ⟨_, k, rfl, _⟩
    · rcases hρ j t h4 with ⟨rfl, rfl, _⟩ | ⟨_, rfl⟩ | ⟨_, a, rfl, _⟩ | ⟨_, k, rfl, _⟩
      · rfl
      · cases h5
      · cases h5
      · cases h5
    · cases h2
    · cases h2
    · cases h2
  nw := fun q h => by
    obtain ⟨j, t, h1, h2, h3⟩ := h
    rcases hρ j t h1 with ⟨rfl, rfl, h4⟩ | ⟨_, rfl⟩ | ⟨_, a, rfl, _⟩ | ⟨_, k, rfl, _⟩
    · rw [h4] at h3
      injection h3 with h3; injection h3 with h3; injection h3 with h3
      exact .inl h3.symm
    · cases h2
    · cases h2
    · cases h2
  x0 := fun _ h => h.elim
  pd := fun q h => by
    obtain ⟨_, _, _, _, _, e⟩ := ht
    rw [show q = p from h, e]
    exact fun z => nomatch z
end Fm

set_option maxHeartbeats 4000000
namespace Kx
open PySem PySem.Spec PyProof.Rows L2 Fm
section
variable {P : Program} {w : World} {K : PySem.W.Frag} {mg : Str → Option Value} {base : Heap} {a : Ad}
def fdRight : FD where
  pre := fun ds => ∃ qs ps hs : List Rat, ds = [.scl qs, .lst (qs.map .rat), .lst (ps.map .rat), .lst (hs.map .rat)] ∧ 1 ≤ qs.length ∧ qs.length ≤ 8 ∧ (∀ q ∈ qs, Sz 30 q) ∧ LotR qs.length ps ∧ CurveR qs.length hs
  post := fun _ d => d = .bl true
theorem ok_Lright (T : Tx K mg a) : FnOk P w K mg base (L2N.CX P w) 11 a.f_Lright a.d_Lright P_Lright (spT a.G fdRight) := by
  refine T.F_Lright.ok sc_Lright (fun vs H Q E h => ?_) (fun cdv A outer s H vs Q E hr h => ?_)
  · obtain ⟨p, us, ds, X, rfl, _, _, hv, _, ⟨qs, ps, hs, rfl, _⟩, _⟩ := h
    exact congrArg Nat.succ hv.length
  · refine ⟨_, (pss_cons (ps_set (i := 5) sc_Lright.nd rfl (Or.inl rfl) (pe_callB call_lenQ (by rfl) T.b_len (by decide +kernel) (pa_cons (pv 2) pa_nil))) (pss_cons (ps_par (i := 6) (j := 7) (by rfl) sc_Lright.nd rfl rfl (by decide) rfl rfl (pa_cons (pe_call (ok_Lgiven T) (hr.mono (by decide)) (by rfl) T.g_Lgiven T.F_Lgiven.kp (bd_Lgiven T) .nil pass0 (pa_cons (pv 0) (pa_cons (pv 3) pa_nil))) (pa_cons (pe_call (ok_Lgiven T) (hr.mono (by decide)) (by rfl) T.g_Lgiven T.F_Lgiven.kp (bd_Lgiven T) .nil pass0 (pa_cons (pv 0) (pa_cons (pv 4) pa_nil))) pa_nil)) (by rfl)) (pss_cons (ps_set (i := 8) sc_Lright.nd rfl (Or.inl rfl) (pe_call (ok_LshownD T) (hr.mono (by decide)) (by rfl) T.g_Lshown T.F_Lshown.kp (bd_Lshown T) .nil pass0 (pa_cons (pe_lst (pa_cons (pv 6) (pa_cons (pv 7) pa_nil))) pa_nil))) (pss_cons (ps_set (i := 9) sc_Lright.nd rfl (Or.inl rfl) (pe_call (ok_Lasked T) (hr.mono (by decide)) (by rfl) T.g_Lasked T.F_Lasked.kp (bd_Lasked T) .nil pass0 (pa_cons pe_int (pa_cons (pv 1) (pa_cons (pv 6) (pa_cons (pv 7) pa_nil)))))) (pss_cons (ps_if (PW.pt (pw_or (pt_not (pt_val (pe_callB call_isi (by rfl) T.b_isinstance (by decide +kernel) (pa_cons (pv 9) (pa_cons (pe_glob (v := .ref a.C_Ratio) rfl T.g_Ratio rfl) pa_nil))))) (pw_or1 (pt_cmpR (op_neOwn T.p_ne (ok_Ratio_eq T) (hr.mono (by decide)) (bd_Ratio_eq T) pass0) (pv 9) (pe_call (ok_Lmean T) (hr.mono (by decide)) (by rfl) T.g_Lmean T.F_Lmean.kp (bd_Lmean T) .nil pass0 (pa_cons (pv 3) (pa_cons (pv 4) pa_nil))) (nomark _))))) (pss_one (ps_ret pe_bl)) pss_nil) (pss_cons (ps_set (i := 10) sc_Lright.nd rfl (Or.inl rfl) (pe_call (ok_Lpick T) (hr.mono (by decide)) (by rfl) T.g_Lpick T.F_Lpick.kp (bd_Lpick T) .nil pass0 (pa_cons (pv 0) (pa_cons pe_int pa_nil)))) (pss_cons (ps_set (i := 11) sc_Lright.nd rfl (Or.inl rfl) (pe_call (ok_Lasked T) (hr.mono (by decide)) (by rfl) T.g_Lasked T.F_Lasked.kp (bd_Lasked T) .nil pass0 (pa_cons pe_int (pa_cons (pv 1) (pa_cons (pv 6) (pa_cons (pv 10) pa_nil)))))) (pss_cons (ps_if (PW.pt (pw_or (pt_cmpR (op_lsRN hr.units0 T.R (op_cmp (fun _ _ => rfl) T.p_eq (ok_Ratio_eq T) (hr.mono (by decide) : Room 5 _).in1 (bd_Ratio_eq T) pass0)) (pv 11) (pe_call (ok_Lmeans T) (hr.mono (by decide)) (by rfl) T.g_Lmeans T.F_Lmeans.kp (bd_Lmeans T) .nil pass0 (pa_cons (pv 2) (pa_cons (pv 3) (pa_cons (pv 10) pa_nil)))) (nomark _)) (pw_or1 (pt_cmpR (op_neD hr.units) (pe_lc (own := [("_law_number", 12)]) (g := (gName 12)) rfl sc_Lright.nd (pi_list (pv 11)) (blkOk_by (N := N_Lright) (sc := defScope s_Lright) (by decide +kernel)) (fun _ _ _ _ _ => pg_name (i := 12) sc_Lright.nd rfl (Or.inl rfl)) (fun _ _ _ _ _ => pts_one (pt_not (pt_val (pe_callB (call_isiV (K := K) rfl) (by rfl) T.b_isinstance (by decide +kernel) (pa_cons (pv 12) (pa_cons (pe_glob (v := .ref a.C_Ratio) rfl T.g_Ratio rfl) pa_nil)))))) (fun _ _ _ _ _ => pe_int)) (pe_lst pa_nil) (nomark _))))) (pss_one (ps_ret pe_bl)) pss_nil) (pss_cons (ps_setLc (i := 13) (own := [("_law_k", 14)]) (g := (gName 14)) rfl sc_Lright.nd rfl rfl (sw_true rfl rfl rfl (by decide +kernel)) (pi_range1 (by rfl) T.b_range (pa_cons (pv 5) pa_nil)) (blkOk_by (N := N_Lright) (sc := defScope s_Lright) (by decide +kernel)) (fun _ _ _ _ _ => pg_name (i := 14) sc_Lright.nd rfl (Or.inl rfl)) (fun _ _ _ _ _ => pts_one (pt_cmpR (op_neOwnV (K := K) rfl T.p_ne (ok_Ratio_eq T) (hr.mono (by decide)) (bd_Ratio_eq T) pass0) (pe_ix (ix_listV (K := K) rfl) (pv 3) (pv 14) (fun _ _ => rfl)) pe_int (nomark _))) (fun _ _ _ _ _ => (pv 14))) (pss_cons (ps_par (i := 15) (j := 16) (by rfl) sc_Lright.nd rfl rfl (by decide) rfl rfl (pa_cons (pe_callS (ok_uses T) (hr.mono (by decide)) (by rfl) T.g_uses T.F_uses.kp (bd_uses T) (fun σ => L2N.passAt (L2N.takes_of rfl rfl rfl rfl) σ) (pa_cons (pv 1) (pa_cons (pv 6) pa_nil))) (pa_cons (pe_callS (ok_means_of T) (hr.mono (by decide)) (by rfl) T.g_means_of T.F_means_of.kp (bd_means_of T) (fun σ => L2N.passAt (L2N.takes_of rfl rfl rfl rfl) σ) (pa_cons (pv 1) (pa_cons (pv 6) (pa_cons pe_int pa_nil)))) pa_nil)) (by rfl)) (pss_cons (ps_if (PW.pt (pw_or (pt_cmpR (op_neD hr.units) (pv 15) (pv 13) (nomark _)) (pw_or1 (pt_cmpR (op_neD hr.units) (pe_call (ok_Lasked T) (hr.mono (by decide)) (by rfl) T.g_Lasked T.F_Lasked.kp (bd_Lasked T) .nil pass0 (pa_cons pe_int (pa_cons (pv 1) (pa_cons (pv 6) (pa_cons pe_non pa_nil))))) (pv 13) (nomark _))))) (pss_one (ps_ret pe_bl)) pss_nil) (pss_cons (ps_expr (pe_bm0 PySem.F.plainAttrs_list PySem.F.slot_list_clear PySem.F.type_list_clear mt_clear (pv 15))) (pss_cons (ps_expr (pe_bm0 PySem.F.plainAttrs_list PySem.F.slot_list_clear PySem.F.type_list_clear mt_clear (pv 16))) (pss_cons (ps_if (PW.pt (pw_or (pt_cmpR (op_neD hr.units) (pe_call (ok_Lasked T) (hr.mono (by decide)) (by rfl) T.g_Lasked T.F_Lasked.kp (bd_Lasked T) .nil pass0 (pa_cons pe_int (pa_cons (pv 1) (pa_cons (pv 3) (pa_cons pe_non pa_nil))))) (pv 13) (nomark _)) (pw_or1 (pt_cmpR op_ne (pe_callB call_lenQ (by rfl) T.b_len (by decide +kernel) (pa_cons (pe_call (ok_Lasked T) (hr.mono (by decide)) (by rfl) T.g_Lasked T.F_Lasked.kp (bd_Lasked T) .nil pass0 (pa_cons pe_int (pa_cons (pv 1) (pa_cons (pv 6) (pa_cons pe_int pa_nil))))) pa_nil)) pe_int (nomark _))))) (pss_one (ps_ret pe_bl)) pss_nil) (pss_one (ps_ret (pe_and (pe_cmpR (op_eqD hr.units) (pe_call (ok_LshownD T) (hr.mono (by decide)) (by rfl) T.g_Lshown T.F_Lshown.kp (bd_Lshown T) .nil pass0 (pa_cons (pe_lst (pa_cons (pv 6) (pa_cons (pv 7) pa_nil))) pa_nil)) (pv 8) (nomark _)) (pe_and (pe_cmpR op_is_bl (pe_call (ok_is_lot T) (hr.mono (by decide)) (by rfl) T.g_is_lot T.F_is_lot.kp (bd_is_lot T) .nil pass0 (pa_cons (pv 1) (pa_cons (pv 6) pa_nil))) pe_bl (nomark _)) (pe_one (pe_cmpR op_is_bl (pe_callP0 (ok_is_curve T) (hr.mono (by decide)) (by rfl) T.g_is_curve T.F_is_curve.kp (kbN T.F_is_curve 1 ["value"] (fun us ws => us ++ ws) (fun r q => Fm.vals_app r q) fun kV doc pm an cdv ct us ws h1 h2 => match us, ws, h1, h2 with | [_], [_], _, _ => rfl) (pa_cons (pv 1) pa_nil) (pk_cons (pv 7) pk_nil)) pe_bl (nomark _))))))))))))))))))))), ?_⟩
    refine spT.def (G := a.G) (E := E) (PUS.seq (PUS.set (i := 5) (PU.cbn CD.len (PUA.cons (PU.var (i := 2)) PUA.nil))) (PUS.seq (PUS.par (i := 6) (j := 7) (PU.callT (i := 0) (PUA.cons (PU.var (i := 3)) PUA.nil)) (PU.callT (i := 0) (PUA.cons (PU.var (i := 4)) PUA.nil))) (PUS.seq (PUS.set (i := 8) (PU.call (PUA.cons (PUF.toV (PUF.lst (PUA.cons (PU.var (i := 6)) (PUA.cons (PU.var (i := 7)) PUA.nil)))) PUA.nil))) (PUS.seq (PUS.set (i := 9) (PU.call (PUA.cons PU.ci (PUA.cons (PU.var (i := 1)) (PUA.cons (PU.var (i := 6)) (PUA.cons (PU.var (i := 7)) PUA.nil)))))) (PUS.seq (PUS.ifS (PUT.or (PUT.not (PUT.b (PU.isRat T.R (PU.var (i := 9))))) (PUT.test (PU.op (RD.neR T.R) (PU.var (i := 9)) (PU.call (PUA.cons (PU.var (i := 3)) (PUA.cons (PU.var (i := 4)) PUA.nil)))))) (PUS.ret PU.cb) PUS.next) (PUS.seq (PUS.set (i := 10) (PU.pick (i := 0) (PUA.cons PU.ci PUA.nil))) (PUS.seq (PUS.set (i := 11) (PU.call (PUA.cons PU.ci (PUA.cons (PU.var (i := 1)) (PUA.cons (PU.var (i := 6)) (PUA.cons (PU.var (i := 10)) PUA.nil)))))) (PUS.seq (PUS.ifS (PUT.or (PUT.test (PU.op RD.lsR (PU.var (i := 11)) (PUF.toV (PUF.call (PUA.cons (PU.var (i := 2)) (PUA.cons (PU.var (i := 3)) (PUA.cons (PU.var (i := 10)) PUA.nil))))))) (PUT.test (PU.op RD.neD (PUF.toV (PUF.lc (i := 12) (E1 := E0) (E2 := E0) (PUI.list (PU.var (i := 11))) (PUT.not (PUT.b (PU.isRat T.R (PU.var (i := 12))))) PU.ci)) (PUF.toV (PUF.lst PUA.nil))))) (PUS.ret PU.cb) PUS.next) (PUS.seq (PUS.set (i := 13) (PUF.toV (PUF.lc (i := 14) (E1 := E0) (E2 := E0) (PUI.rng1 (PUA.cons (PU.var (i := 5)) PUA.nil)) (PUT.test (PU.op (RD.neR T.R) (PU.op RD.ixL (PU.var (i := 3)) (PU.var (i := 14))) PU.ci)) (PU.var (i := 14))))) (PUS.seq (PUS.parOO (i := 15) (j := 16) (by decide) (PUF.callX (PUA.cons (PU.var (i := 1)) (PUA.cons (PU.var (i := 6)) PUA.nil))) (PUF.callX (PUA.cons (PU.var (i := 1)) (PUA.cons (PU.var (i := 6)) (PUA.cons PU.ci PUA.nil))))) (PUS.seq (PUS.ifS (PUT.or (PUT.test (PU.neO (i := 15) (PU.var (i := 13)))) (PUT.test (PU.op RD.neD (PU.call (PUA.cons PU.ci (PUA.cons (PU.var (i := 1)) (PUA.cons (PU.var (i := 6)) (PUA.cons PU.cn PUA.nil))))) (PU.var (i := 13))))) (PUS.ret PU.cb) PUS.next) (PUS.seq (PUS.clr (i := 15)) (PUS.seq (PUS.clr (i := 16)) (PUS.seq (PUS.ifS (PUT.or (PUT.test (PU.op RD.neD (PU.call (PUA.cons PU.ci (PUA.cons (PU.var (i := 1)) (PUA.cons (PU.var (i := 3)) (PUA.cons PU.cn PUA.nil))))) (PU.var (i := 13)))) (PUT.test (PU.op RD.ne (PU.cbn CD.len (PUA.cons (PU.call (PUA.cons PU.ci (PUA.cons (PU.var (i := 1)) (PUA.cons (PU.var (i := 6)) (PUA.cons PU.ci PUA.nil))))) PUA.nil)) PU.ci))) (PUS.ret PU.cb) PUS.next) (PUS.ret (PU.andV (PU.op RD.eqD (PU.call (PUA.cons (PUF.toV (PUF.lst (PUA.cons (PU.var (i := 6)) (PUA.cons (PU.var (i := 7)) PUA.nil)))) PUA.nil)) (PU.var (i := 8))) (PU.andV (PU.op RD.isB (PU.call (PUA.cons (PU.var (i := 1)) (PUA.cons (PU.var (i := 6)) PUA.nil))) PU.cb) (PU.op RD.isB (PU.call (PUA.kw (PUA.cons (PU.var (i := 1)) PUA.nil) (PUA.cons (PU.var (i := 7)) PUA.nil))) PU.cb)))))))))))))))))) (by decide) (fun p ds hp => ?_) h
    obtain ⟨qs, ps, hs, rfl, h1, h8, hz, lot, cur⟩ := hp
    have lp : ps.length = qs.length := lot.1
    have lh : hs.length = qs.length := cur.1
    have zp := lot.2.2.2
    have zh := cur.2
    have p8 : ps.length ≤ 8 := by omega
    refine ⟨_, rfl, _, .inl rfl, p, rfl, _, rfl, rfl, ⟨ps, rfl, by omega⟩, fun one g1 => ⟨p, rfl, _, rfl, rfl, ⟨hs, rfl, by omega⟩, fun other g2 => ?_⟩⟩
    have g1 := given_post g1 zp p8
    have g2 := given_post g2 zh (by omega)
    have hlot := g1.lot lot
    have hcur := g2.curve
    rw [lh] at hcur
    have r0 : askedR 0 qs one other = .rat (dotR ps hs) := by
      unfold askedR
      rw [if_neg (by rw [hlot]; decide), if_pos rfl, if_neg (by rw [hcur]; decide), g1.nu, g2.nu]
    have r1 : ∀ t : Nat, t ≤ 8 → askedR 1 qs one (.int (t : Int)) = .lst ((List.range t).map fun k => .rat (meanK ps qs (k + 1))) := fun t ht => by
      unfold askedR
      have hc : countB (.int (t : Int)) = true := decide_eq_true ⟨by omega, by omega⟩
      rw [if_neg (by rw [hlot]; decide), if_neg (by decide), if_pos rfl, if_neg (by rw [hc]; decide), g1.nu]
      rfl
    have r2 : ∀ d e, GivenOk d ps → askedR 2 qs d e = .lst (intsL (usesL ps)) := fun d e g => by
      unfold askedR
      rw [if_neg (by rw [g.lot lot]; decide), if_neg (by decide), if_neg (by decide), g.nu]
      rfl
    have fi : ∀ t : Nat, t ≤ 8 → (Dt.int (t : Int)).Fine := fun t ht => ⟨rfl, decide_eq_true (lt200 (k := 10) (by omega) (by decide)), by show 0 < 6; decide⟩
    have fpair := g1.pair g2
    refine ⟨_, rfl, _, rfl, by show 2 ≤ 1000; decide, ⟨_, rfl, fpair⟩, fun kept h => ?_⟩
    obtain ⟨_, e, rfl⟩ := h
    cases e
    refine ⟨_, rfl, _, rfl, _, rfl, ⟨0, qs, one, other, rfl, h8, hz, g1.ok, g1.fine, fun _ => g2.ok, fun _ => ⟨g2.fine, g2.ok.kd⟩⟩, fun told h => ?_⟩
    obtain ⟨_, _, _, _, e, rfl⟩ := h
    cases e
    rw [r0]
    refine ⟨_, rfl, true, rfl, true, rfl, ite_f ⟨_, rfl, _, rfl, _, rfl, ⟨ps, hs, 10, 10, rfl, by omega, zp, zh, by omega⟩, fun r h => ?_⟩⟩
    have h := mean_post h
    subst h
    refine ⟨_, rfl, rfl, dotR_sz zp zh p8, _, rfl, ite_no rfl ?_⟩
    refine ⟨p, rfl, rfl, 9, rfl, by decide, by decide, fun t ht => ?_⟩
    refine ⟨_, rfl, _, rfl, _, rfl, ⟨1, qs, one, .int (t : Int), rfl, h8, hz, g1.ok, g1.fine, fun h => absurd h (by decide), fun _ => ⟨fi t (by omega), rfl⟩⟩, fun rows h => ?_⟩
    obtain ⟨_, _, _, _, e, rfl⟩ := h
    cases e
    rw [r1 t (by omega)]
    refine ⟨_, rfl, _, rfl, _, rfl, _, rfl, ⟨qs, ps, t, rfl, lp, p8, by omega, fun q hq => sz_le' (zp q hq) (by decide), hz⟩, fun l h => ?_⟩
    have h := means_post h
    injection h with h
    subst h
    refine ⟨(List.range t).map fun k => meanK ps qs (k + 1), _, by rw [List.map_map]; rfl, rfl, List.all_eq_true.mpr fun x hx => ?_, fun x hx => ?_, _, rfl, ?_⟩
    · obtain ⟨k, _, rfl⟩ := List.mem_map.mp hx
      rfl
    · obtain ⟨k, hk, rfl⟩ := List.mem_map.mp hx
      have hk := List.mem_range.mp hk
      exact meanK_sz zp hz p8 (by omega)
    rw [if_pos rfl]
    refine ite_no (by rw [List.map_map]; rfl) ?_
    refine ⟨_, rfl, _, rfl, ?_⟩
    refine lcP_fm (p := fun _ => false) (g := fun _ => .int 1) _ _ rfl (by simp; omega) (fun x hx K hK => ?_) (fun x hx h _ _ => nomatch h) ?_
    · obtain ⟨k, _, rfl⟩ := List.mem_map.mp hx
      exact ⟨_, rfl, true, rfl, true, rfl, hK⟩
    rw [filter_none, List.map_nil, List.append_nil]
    refine ⟨by decide, .list [], .list [], rfl, rfl, by decide +kernel, by decide +kernel, _, rfl, ite_f ?_⟩
    refine ⟨_, rfl, _, rfl, ⟨by omega, by rw [List.length_map]; omega⟩, ?_⟩
    refine lcP_fm (p := fun x => !decide (ps.getD x.nat 0 = 0)) (g := fun x => x) _ _ rfl (by rw [rngL_len]; simp; omega) (fun x hx K hK => ?_) (fun x hx _ K hK => ⟨_, rfl, hK⟩) ?_
    · obtain ⟨k, hk, rfl⟩ := List.mem_map.mp hx
      have hk := List.mem_range.mp hk
      have hkp : k < ps.length := by rw [List.length_map] at hk; omega
      have e5 : (!decide (ps.getD (Dt.int (0 + (k : Int))).nat 0 = 0)) = (!decide (ps[k] = ((0 : Int) : Rat))) := by
        show (!decide (ps.getD (0 + (k : Int)).toNat 0 = 0)) = _
        rw [Int.zero_add, Int.toNat_natCast, List.getD_eq_getElem?_getD, List.getElem?_eq_getElem hkp]
        rfl
      have hK : K (!decide (ps.getD (Dt.int (0 + (k : Int))).nat 0 = 0)) _ := hK
      rw [e5] at hK
      exact ⟨_, rfl, _, rfl, _, 0 + (k : Int), _, rfl, rfl, by rw [Int.zero_add]; exact at_rats ps hkp, _, rfl, rfl, sz_int (w := 0) (by decide) (by decide), _, rfl, hK⟩
    have e6 : [] ++ ((rngL 0 (((List.map Dt.rat qs).length : Nat) : Int).toNat).filter fun x => !decide (ps.getD x.nat 0 = 0)).map (fun x => x) = intsL (usesL ps) := by
      rw [List.nil_append, List.map_id', Int.toNat_natCast, List.length_map, ← lp, ← usesL_range ps]
      unfold rngL intsL
      rw [List.filter_map]
      have e7 : ((fun x : Dt => !decide (ps.getD x.nat 0 = 0)) ∘ fun (k : Nat) => Dt.int (0 + (k : Int))) = fun (k : Nat) => !decide (ps.getD k 0 = 0) := by
        funext k
        show (!decide (ps.getD (0 + (k : Int)).toNat 0 = 0)) = _
        rw [Int.zero_add, Int.toNat_natCast]
      rw [e7]
      exact List.map_congr_left fun k _ => by rw [Int.zero_add]
    rw [e6]
    refine ⟨_, rfl, _, rfl, ⟨qs, one, rfl, h8, g1.ok⟩, fun l h => ?_, fun er h => ?_⟩
    · obtain ⟨_, _, e, _, h⟩ := h
      cases e
      rw [g1.nu] at h
      injection h with h
      subst h
      refine ⟨_, rfl, _, rfl, ⟨qs, one, .int 3, rfl, h8, hz, g1.ok, rfl⟩, fun m h2 => ⟨by simp only [List.length_set]; show 15 < 17; decide, by simp only [List.length_set]; show 16 < 17; decide, ?_⟩, fun er h => ?_⟩
      · refine ⟨⟨_, rfl⟩, _, rfl, _, _, _, rfl, py_ints (usesL ps), ints_py (usesL ps), ints_shaped _, ints_shaped _, _, rfl, ?_⟩
        rw [if_pos (show true = true from rfl), SeqAt.eqv_refl _ (ints_lay (usesL ps))]
        refine ite_f ⟨_, rfl, _, rfl, ⟨2, qs, one, .non, rfl, h8, hz, g1.ok, g1.fine, fun h => absurd h (by decide), fun h => absurd h (by decide)⟩, fun r h => ?_⟩
        obtain ⟨_, _, _, _, e, rfl⟩ := h
        cases e
        rw [r2 one .non g1]
        refine ⟨_, rfl, ints_ne ⟨_, rfl, ite_f ⟨_, rfl, _, rfl, ?_⟩⟩⟩
        have gs := given_rats zp p8
        have r13 : askedR 1 qs one (.int 3) = .lst ((List.range 3).map fun k => .rat (meanK ps qs (k + 1))) := r1 3 (by decide)
        refine ⟨_, rfl, _, rfl, ⟨2, qs, _, .non, rfl, h8, hz, gs.ok, gs.fine, fun h => absurd h (by decide), fun h => absurd h (by decide)⟩, fun r h => ?_⟩
        obtain ⟨_, _, _, _, e, rfl⟩ := h
        cases e
        rw [r2 _ .non gs]
        refine ⟨_, rfl, ints_ne ⟨_, rfl, ite_f ⟨_, rfl, _, rfl, ⟨1, qs, one, .int 3, rfl, h8, hz, g1.ok, g1.fine, fun h => absurd h (by decide), fun _ => ⟨fi 3 (by decide), rfl⟩⟩, fun r h => ?_⟩⟩⟩
        obtain ⟨_, _, _, _, e, rfl⟩ := h
        cases e
        rw [r13]
        refine ⟨_, .inl rfl, _, rfl, _, rfl, ite_no (by rw [List.length_map, List.length_range]; rfl) ?_⟩
        refine ⟨_, rfl, _, rfl, by show 2 ≤ 1000; decide, ⟨_, rfl, fpair⟩, fun r h => ?_⟩
        obtain ⟨_, e, rfl⟩ := h
        cases e
        refine ⟨_, rfl, tell_ne fpair ⟨true, rfl, ite_t ?_⟩⟩
        refine ⟨_, rfl, _, rfl, ⟨qs, one, rfl, h8, g1.ok⟩, fun r h => ?_⟩
        obtain ⟨_, _, e, rfl⟩ := h
        cases e
        rw [hlot]
        refine ⟨true, true, rfl, rfl, true, rfl, ite_t ?_⟩
        refine ⟨_, rfl, _, rfl, rfl, rfl, ⟨qs, other, rfl, h8, g2.ok⟩, fun r h => ?_⟩
        obtain ⟨_, _, e, rfl⟩ := h
        cases e
        rw [hcur]
        exact ⟨true, true, rfl, rfl, rfl, rfl⟩
      · obtain ⟨_, _, _, e, h⟩ := h
        cases e
        rcases h with ⟨h, _⟩ | ⟨_, h, _⟩
        · rw [hlot] at h; cases h
        · cases h
    · obtain ⟨_, _, e, h, _⟩ := h
      cases e
      rw [hlot] at h
      cases h
end
end Kx


set_option maxHeartbeats 2000000
namespace Fm
open PySem PySem.Spec PyProof.Rows L2
theorem PUS.go {G : Gs} {E : XK} {t : TS} {F : FS} {f : Fr} {σ : L2.St} {H : Hp} {ρ : Fm.Env} {Dd : Ends} {D : DE} (U : PUS G E t F) (S : St G f σ H ρ) (le : D.Le (kD G E f σ H ρ Dd)) (h : F ρ D) : t Dd σ H := U.run S (U.mono le h)
end Fm
namespace Fm
open PySem PySem.Spec PyProof.Rows L2
theorem isLot_post {d r : Dt} {n : Nat} (h : fdIsLot.post [d, .int (n : Int)] r) : r = .bl (lotB d n) := by
  obtain ⟨d', n', e, rfl⟩ := h
  injection e with e1 e2
  injection e2 with e2 _
  injection e2 with e2
  have e3 : n' = n := by omega
  rw [e1, e3]
theorem isNums_post {d r : Dt} {n : Nat} (h : fdIsNums.post [d, .int (n : Int)] r) : r = .bl (curveB d n) := by
  obtain ⟨d', n', e, rfl⟩ := h
  injection e with e1 e2
  injection e2 with e2 _
  injection e2 with e2
  have e3 : n' = n := by omega
  rw [e1, e3]
theorem lotL_post {d : Dt} {n : Nat} (h : fdLotL.post [.int (n : Int)] d) : ∃ ps, LotR n ps ∧ d = .lst (ps.map .rat) := by
  obtain ⟨n', ps, e, h1, h2⟩ := h
  injection e with e1 _
  injection e1 with e1
  have e3 : n' = n := by omega
  exact ⟨ps, e3 ▸ h1, h2⟩
theorem curveL_post {d : Dt} {n : Nat} (h : fdCurveL.post [.int (n : Int)] d) : ∃ ps, CurveR n ps ∧ d = .lst (ps.map .rat) := by
  obtain ⟨n', ps, e, h1, h2⟩ := h
  injection e with e1 _
  injection e1 with e1
  have e3 : n' = n := by omega
  exact ⟨ps, e3 ▸ h1, h2⟩
theorem made_post {qs : List Rat} {d : Dt} (h : fdMade.post [.lst (qs.map .rat)] d) : d = .scl qs := by
  obtain ⟨qs', e, rfl⟩ := h
  injection e with e1 _
  injection e1 with e1
  rw [rats_inj e1]
theorem values_post {n : Nat} {l : List Dt} (h : fdValues.post [.int (n : Int)] (.lst l)) : ∃ qs, Climb qs ∧ 1 ≤ qs.length ∧ qs.length ≤ n ∧ (∀ q ∈ qs, Sz 30 q) ∧ l = qs.map .rat := by
  obtain ⟨n', qs, e, h1, h2, h3, h4, h5⟩ := h
  injection e with e1 _
  injection e1 with e1
  injection h5 with h5
  exact ⟨qs, h1, h2, by omega, h4, h5⟩
theorem str_x : (Dt.str (Str.ofString "x")).Ok 45 ∧ (Dt.str (Str.ofString "x")).Fine := okFine_bare ⟨rfl, Sz.zero (by decide), rfl, by decide +kernel, by decide⟩ rfl
theorem odd_counts : ∀ x ∈ [Dt.non, .int (-1), .int 9, .bl true, .str (Str.ofString "2"), .rat ((2 : Int) : Rat), .lst [.int 1]], countB x = false ∧ x.Fine ∧ x.kind = true := by
  intro x hx
  simp only [List.mem_cons, List.not_mem_nil, or_false] at hx
  rcases hx with rfl | rfl | rfl | rfl | rfl | rfl | rfl
  · exact ⟨rfl, ⟨rfl, rfl, by decide⟩, rfl⟩
  · exact ⟨rfl, ⟨rfl, by decide +kernel, by decide⟩, rfl⟩
  · exact ⟨rfl, ⟨rfl, by decide +kernel, by decide⟩, rfl⟩
  · exact ⟨rfl, ⟨rfl, rfl, by decide⟩, rfl⟩
  · exact ⟨rfl, ⟨rfl, by decide +kernel, by decide⟩, rfl⟩
  · exact ⟨rfl, ⟨rfl, (ItOk.rat (sz_int (w := 2) (k := 10) (by decide) (by decide)) (by decide)).fi, by show 0 < 6; decide⟩, rfl⟩
  · exact ⟨rfl, ⟨rfl, by decide +kernel, by decide⟩, rfl⟩
end Fm

set_option maxHeartbeats 4000000
namespace Kx
open PySem PySem.Spec PyProof.Rows L2 Fm
local macro_rules | `(tactic| walk_at "gv") => `(tactic| ((with_reducible refine' g_var ?gh ?_); (case gh => exact rfl)))
local macro_rules | `(tactic| walk_at "g1") => `(tactic| first
  | walk_at "gv"
  | with_reducible refine g_c ?_ | with_reducible refine g_op ?_ | with_reducible refine g_un ?_ | with_reducible refine g_I0 ?_ | with_reducible refine g_U ?_
  | with_reducible refine g_eqI ?_ | with_reducible refine g_neI ?_ | with_reducible refine g_eqS ?_ | with_reducible refine g_neS ?_
  | with_reducible refine g_test ?_ | with_reducible refine g_B ?_ | with_reducible refine g_bl ?_ | with_reducible refine g_not ?_ | with_reducible refine g_and ?_ | with_reducible refine g_or ?_
  | with_reducible refine g_andV ?_ | with_reducible refine g_orV ?_ | with_reducible refine g_notV ?_ | with_reducible refine g_chain ?_ | with_reducible refine g_if ?_ | with_reducible refine g_ifS ?_
  | with_reducible refine g_seq ?_ | with_reducible refine g_next ?_ | with_reducible refine g_break ?_ | with_reducible refine g_cont ?_ | with_reducible refine g_drop ?_ | with_reducible refine g_ret ?_ | with_reducible refine g_retN ?_
  | with_reducible refine g_asg ?_ | with_reducible refine g_name ?_ | with_reducible refine g_par ?_ | with_reducible refine g_par2 ?_ | with_reducible refine g_fld ?_ | with_reducible refine g_sfld ?_
  | with_reducible refine g_nil ?_ | with_reducible refine g_cons ?_ | with_reducible refine g_tup ?_ | with_reducible refine g_lst ?_ | with_reducible refine g_call ?_ | with_reducible refine g_meth ?_ | with_reducible refine g_make1 ?_ | with_reducible refine g_make ?_ | with_reducible refine g_cb ?_ | with_reducible refine g_sub ?_ | with_reducible refine g_m0 ?_ | with_reducible refine g_gcons ?_ | with_reducible refine g_gnil ?_ | with_reducible refine g_for ?_ | with_reducible refine g_lc ?_ | with_reducible refine g_ilist ?_ | with_reducible refine g_itup ?_ | with_reducible refine g_rng1 ?_ | with_reducible refine g_rng3 ?_ | with_reducible refine g_yes ?_ | with_reducible refine g_sl ?_ | with_reducible refine g_nopart ?_ | with_reducible refine g_part ?_ | with_reducible refine g_exI ?_ | with_reducible refine g_m1 ?_ | with_reducible refine g_isS ?_ | with_reducible refine g_bm ?_ | with_reducible refine g_revL ?_ | with_reducible refine g_istr ?_ | with_reducible refine g_notInS ?_ | with_reducible refine g_absI ?_ | with_reducible refine g_intI ?_ | with_reducible refine g_izip ?_ | with_reducible refine g_ienum ?_ | with_reducible refine g_bm0 ?_ | with_reducible refine g_mko ?_ | with_reducible refine g_methW ?_ | with_reducible refine g_callW ?_
  | with_reducible refine iteT ?_ | with_reducible refine iteF ?_ | with_reducible refine g_gcd ?_)
local macro_rules | `(tactic| walk_at "g") => `(tactic| (repeat (first | walk_at "g1" | dsimp only [cx_K, cx_Kn, b_nt, b_nf])))
local macro_rules | `(tactic| walk_at "mul") => `(tactic| exact mulA (a := 200) (b := 200) (by omega) (by omega) (by decide))
local macro_rules | `(tactic| walk_at "pow") => `(tactic| exact ⟨by omega, by omega, by omega⟩)

def spLaw (K : PySem.W.Frag) : Sp := fun vs H Q _ => ∃ (p : Addr) (ns : List Int), vs = [.ref p] ∧ SqL K H p (ns.map V.int) ∧ ns.length ≤ 1000 ∧ ∀ H', Ex H H' → Q (.bl true) H'
section
variable {P : Program} {w : World} {K : PySem.W.Frag} {mg : Str → Option Value} {base : Heap} {a : Ad}
theorem ok_law (T : Tx K mg a) : FnOk P w K mg base CX0 13 a.f_law a.d_law P_law (spLaw K) := by
  refine def_ok0 T.F_law sc_law (fun vs H Q E h => ?_) (fun cdv A outer s H vs Q E hr h => ?_)
  · obtain ⟨p, ns, rfl, _⟩ := h
    rfl
  · obtain ⟨p, ns, rfl, hp, hns, z⟩ := h
    refine ⟨_, (pss_cons (ps_for PassesOwn.never rfl (pi_range1 (by rfl) T.b_range (pa_cons (pe_callB (cr_max2 rfl) (by rfl) T.b_max (by decide +kernel) (pa_cons pe_int (pa_cons (pe_callB (cr_min2 rfl) (by rfl) T.b_min (by decide +kernel) (pa_cons pe_int (pa_cons (pe_callB call_lenQ (by rfl) T.b_len (by decide +kernel) (pa_cons (pv 0) pa_nil)) pa_nil))) pa_nil))) pa_nil)) (pg_name (i := 1) sc_law.nd rfl (Or.inl rfl)) (pss_cons (ps_set (i := 2) sc_law.nd rfl (Or.inl rfl) (pe_call (ok_Ltape T) (hr.mono (by decide)) (by rfl) T.g_Ltape T.F_Ltape.kp (bd_Ltape T) .nil pass0 (pa_cons (pv 0) (pa_cons (pv 1) pa_nil)))) (pss_cons (ps_set (i := 3) sc_law.nd rfl (Or.inl rfl) (pe_call (ok_Lvalues T) (hr.mono (by decide)) (by rfl) T.g_Lvalues T.F_Lvalues.kp (bd_Lvalues T) .nil pass0 (pa_cons (pv 2) (pa_cons pe_int pa_nil)))) (pss_cons (ps_set (i := 4) sc_law.nd rfl (Or.inl rfl) (pe_call (ok_Lmade T) (hr.mono (by decide)) (by rfl) T.g_Lmade T.F_Lmade.kp (bd_Lmade T) .nil passN (pa_cons (pv 2) (pa_cons (pv 3) pa_nil)))) (pss_cons (ps_set (i := 5) sc_law.nd rfl (Or.inl rfl) (pe_callB call_lenQ (by rfl) T.b_len (by decide +kernel) (pa_cons (pv 3) pa_nil))) (pss_cons (ps_par (i := 6) (j := 7) (by rfl) sc_law.nd rfl rfl (by decide) rfl rfl (pa_cons (pe_call (ok_Llot T) (hr.mono (by decide)) (by rfl) T.g_Llot T.F_Llot.kp (bd_Llot T) .nil pass0 (pa_cons (pv 2) (pa_cons (pv 5) pa_nil))) (pa_cons (pe_call (ok_Lcurve T) (hr.mono (by decide)) (by rfl) T.g_Lcurve T.F_Lcurve.kp (bd_Lcurve T) .nil pass0 (pa_cons (pv 2) (pa_cons (pv 5) pa_nil))) pa_nil)) (by rfl)) (pss_cons (ps_if (pt_not (pt_val (pe_call (ok_Lright T) (hr.mono (by decide)) (by rfl) T.g_Lright T.F_Lright.kp (bd_Lright T) .nil passN (pa_cons (pv 2) (pa_cons (pv 4) (pa_cons (pv 3) (pa_cons (pv 6) (pa_cons (pv 7) pa_nil)))))))) (pss_one (ps_ret pe_bl)) pss_nil) (pss_cons (ps_for PassesOwn.never rfl (pi_range1 (by rfl) T.b_range (pa_cons pe_int pa_nil)) (pg_name (i := 8) sc_law.nd rfl (Or.inl rfl)) (pss_cons (ps_set (i := 9) sc_law.nd rfl (Or.inl rfl) (pe_call (ok_Lnear T) (hr.mono (by decide)) (by rfl) T.g_Lnear T.F_Lnear.kp (bd_Lnear T) .nil pass0 (pa_cons (pv 2) (pa_cons (pv 6) pa_nil)))) (pss_cons (ps_par (i := 10) (j := 11) (by rfl) sc_law.nd rfl rfl (by decide) rfl rfl (pa_cons (pe_call (ok_Lis_lot T) (hr.mono (by decide)) (by rfl) T.g_Lis_lot T.F_Lis_lot.kp (bd_Lis_lot T) .nil pass0 (pa_cons (pv 9) (pa_cons (pv 5) pa_nil))) (pa_cons (pe_call (ok_Lis_numbers T) (hr.mono (by decide)) (by rfl) T.g_Lis_numbers T.F_Lis_numbers.kp (bd_Lis_numbers T) .nil pass0 (pa_cons (pv 9) (pa_cons (pv 5) pa_nil))) pa_nil)) (by rfl)) (pss_cons (ps_if (PW.pt (pw_or (pt_cmpR op_ne (pe_callB cr_reprF (by rfl) T.b_repr (by decide +kernel) (pa_cons (pe_callP0 (ok_is_lot T) (hr.mono (by decide)) (by rfl) T.g_is_lot T.F_is_lot.kp (kbN T.F_is_lot 1 ["value"] (fun us ws => us ++ ws) (fun r q => Fm.vals_app r q) fun kV doc pm an cdv ct us ws h1 h2 => match us, ws, h1, h2 with | [_], [_], _, _ => rfl) (pa_cons (pv 4) pa_nil) (pk_cons (pv 9) pk_nil)) pa_nil)) (pe_callB cr_reprF (by rfl) T.b_repr (by decide +kernel) (pa_cons (pv 10) pa_nil)) (nomark _)) (pw_or1 (pt_cmpR op_ne (pe_callB cr_reprF (by rfl) T.b_repr (by decide +kernel) (pa_cons (pe_call (ok_is_curve T) (hr.mono (by decide)) (by rfl) T.g_is_curve T.F_is_curve.kp (bd_is_curve T) .nil pass0 (pa_cons (pv 4) (pa_cons (pv 9) pa_nil))) pa_nil)) (pe_callB cr_reprF (by rfl) T.b_repr (by decide +kernel) (pa_cons (pv 11) pa_nil)) (nomark _))))) (pss_one (ps_ret pe_bl)) pss_nil) (pss_cons (ps_for PassesOwn.never rfl (pi_range1 (by rfl) T.b_range (pa_cons pe_int pa_nil)) (pg_name (i := 12) sc_law.nd rfl (Or.inl rfl)) (pss_cons (ps_set (i := 13) sc_law.nd rfl (Or.inl rfl) (pe_call (ok_Lasked T) (hr.mono (by decide)) (by rfl) T.g_Lasked T.F_Lasked.kp (bd_Lasked T) .nil pass0 (pa_cons (pv 12) (pa_cons (pv 4) (pa_cons (pv 9) (pa_cons pe_str pa_nil)))))) (pss_one (ps_if (PW.pt (pw_and (pt_not (pt_val (pv 10))) (pw_and1 (pt_cmpR (op_neD hr.units) (pv 13) (pe_lst (pa_cons pe_str (pa_cons (pe_call (ok_LshownD T) (hr.mono (by decide)) (by rfl) T.g_Lshown T.F_Lshown.kp (bd_Lshown T) .nil pass0 (pa_cons (pv 9) pa_nil)) pa_nil))) (nomark _))))) (pss_one (ps_ret pe_bl)) pss_nil)))) (pss_cons (ps_set (i := 13) sc_law.nd rfl (Or.inl rfl) (pe_call (ok_Lasked T) (hr.mono (by decide)) (by rfl) T.g_Lasked T.F_Lasked.kp (bd_Lasked T) .nil pass0 (pa_cons pe_int (pa_cons (pv 4) (pa_cons (pv 6) (pa_cons (pv 9) pa_nil)))))) (pss_one (ps_if (PW.pt (pw_and (pt_not (pt_val (pv 11))) (pw_and1 (pt_cmpR (op_neD hr.units) (pv 13) (pe_lst (pa_cons pe_str (pa_cons (pe_call (ok_LshownD T) (hr.mono (by decide)) (by rfl) T.g_Lshown T.F_Lshown.kp (bd_Lshown T) .nil pass0 (pa_cons (pv 9) pa_nil)) pa_nil))) (nomark _))))) (pss_one (ps_ret pe_bl)) pss_nil)))))))) (pss_cons (ps_set (i := 14) sc_law.nd rfl (Or.inl rfl) (pe_ix ix_list (pe_lst (pa_cons pe_non (pa_cons (pe_un un_neg pe_int) (pa_cons pe_int (pa_cons pe_bl (pa_cons pe_str (pa_cons (pe_make T.mk_Ratio (ok_Ratio_init T) (hr.mono (by decide)) (by rfl) T.g_Ratio (bd1_Ratio_init T).choose_spec.2 (bd1_Ratio_init T).choose_spec.1 pass0 (pa_cons pe_int pa_nil)) (pa_cons (pe_lst (pa_cons pe_int pa_nil)) pa_nil)))))))) (pe_call (ok_Lpick T) (hr.mono (by decide)) (by rfl) T.g_Lpick T.F_Lpick.kp (bd_Lpick T) .nil pass0 (pa_cons (pv 2) (pa_cons pe_int pa_nil))) (fun _ _ => rfl))) (pss_one (ps_if (pt_cmpR (op_neD hr.units) (pe_call (ok_Lasked T) (hr.mono (by decide)) (by rfl) T.g_Lasked T.F_Lasked.kp (bd_Lasked T) .nil pass0 (pa_cons pe_int (pa_cons (pv 4) (pa_cons (pv 6) (pa_cons (pv 14) pa_nil))))) (pe_lst (pa_cons pe_str (pa_cons (pe_call (ok_LshownD T) (hr.mono (by decide)) (by rfl) T.g_Lshown T.F_Lshown.kp (bd_Lshown T) .nil pass0 (pa_cons (pv 14) pa_nil)) pa_nil))) (nomark _)) (pss_one (ps_ret pe_bl)) pss_nil))))))))))) (pss_one (ps_ret pe_bl))), ?_⟩
    walk_at "g"
    refine g_lenQ hp ?_
    walk_at "g"
    refine ⟨_, _, rfl, ?_⟩
    walk_at "g"
    refine ⟨_, _, rfl, ?_⟩
    walk_at "g"
    refine ⟨_, rfl, by split <;> split <;> omega, by split <;> split <;> omega, ?_⟩
    have hlap : (if (if (((ns.map V.int).length : Nat) : Int) < 2 then (((ns.map V.int).length : Nat) : Int) else 2) > 1 then (if (((ns.map V.int).length : Nat) : Int) < 2 then (((ns.map V.int).length : Nat) : Int) else 2) else 1).toNat ≤ 100 := by split <;> split <;> omega
    generalize (if (if (((ns.map V.int).length : Nat) : Int) < 2 then (((ns.map V.int).length : Nat) : Int) else 2) > 1 then (if (((ns.map V.int).length : Nat) : Int) < 2 then (((ns.map V.int).length : Nat) : Int) else 2) else 1).toNat = laps at hlap ⊢
    refine lp_R (fun i σ' H' => σ'.length = N_law.length ∧ σ'[0]? = some (some (.ref p)) ∧ Ex H H') ⟨rfl, rfl, Ex.refl _⟩ ?_ ?_
    · rintro i σ' H0 hi ⟨hlen, h0, ex0⟩
      walk_at "g"
      have hl0 : σ'.length = 15 := hlen
      refine ⟨_, by rw [List.getElem?_set_ne (by decide)]; exact h0, _, by rw [List.getElem?_set_self (by rw [hl0]; decide)], p, ns, i, by rw [Int.zero_add], ex0.sql hp, by omega, fun t H1 hT e1 t1 => ?_⟩
      have S0 : St a.G ⟨H1, fun a => a = t, fun _ => False⟩ ((σ'.set 1 (some (.int (0 + (i : Int))))).set 2 (some (.ref t))) H1 ([.ref p, .val (.int (0 + (i : Int))), .tape t, .un, .un, .un, .un, .un, .un, .un, .un, .un, .un, .un, .un]) := by
        refine St.tapeStart (n := 2) (by rw [List.length_set, List.length_set, hl0]; rfl) (by show 2 < 15; decide) (fun j s hj => ?_) t1
        match j, hj with
        | 0, hj => cases hj; exact .inr (.inr (.inl ⟨by decide, _, rfl, by rw [List.getElem?_set_ne (by decide), List.getElem?_set_ne (by decide)]; exact h0⟩))
        | 1, hj => cases hj; exact .inr (.inr (.inr ⟨by decide, _, rfl, by rw [List.getElem?_set_ne (by decide), List.getElem?_set_self (by rw [hl0]; decide)]⟩))
        | 2, hj => cases hj; exact .inl ⟨rfl, rfl, by rw [List.getElem?_set_self (by rw [List.length_set, hl0]; decide)]⟩
        | j + 3, hj =>
          refine .inr (.inl ⟨by omega, ?_⟩)
          have hj : (List.replicate 12 (Fm.Slot.un))[j]? = some s := hj
          rw [List.getElem?_replicate] at hj
          split at hj
          · cases hj; rfl
          · cases hj
      refine PUS.go (G := a.G) (E := E0) (PUS.seq (PUS.set (i := 3) (PUF.toV (PUF.callT (i := 2) (PUA.cons PU.ci PUA.nil)))) (PUS.seq (PUS.set (i := 4) (PU.callT (i := 2) (PUA.cons (PU.var (i := 3)) PUA.nil))) (PUS.seq (PUS.set (i := 5) (PU.cbn CD.len (PUA.cons (PU.var (i := 3)) PUA.nil))) (PUS.seq (PUS.par (i := 6) (j := 7) (PUF.toV (PUF.callT (i := 2) (PUA.cons (PU.var (i := 5)) PUA.nil))) (PUF.toV (PUF.callT (i := 2) (PUA.cons (PU.var (i := 5)) PUA.nil)))) (PUS.seq (PUS.ifS (PUT.not (PUT.b (PU.callT (i := 2) (PUA.cons (PU.var (i := 4)) (PUA.cons (PU.var (i := 3)) (PUA.cons (PU.var (i := 6)) (PUA.cons (PU.var (i := 7)) PUA.nil))))))) (PUS.ret PU.cb) PUS.next) (PUS.seq (PUS.for (PUI.rng1 (PUA.cons PU.ci PUA.nil)) (PUG.name (i := 8)) (PUS.seq (PUS.set (i := 9) (PU.callT (i := 2) (PUA.cons (PU.var (i := 6)) PUA.nil))) (PUS.seq (PUS.par (i := 10) (j := 11) (PU.call (PUA.cons (PU.var (i := 9)) (PUA.cons (PU.var (i := 5)) PUA.nil))) (PU.call (PUA.cons (PU.var (i := 9)) (PUA.cons (PU.var (i := 5)) PUA.nil)))) (PUS.seq (PUS.ifS (PUT.or (PUT.test (PU.op RD.ne (PU.cbn CD.repr (PUA.cons (PU.call (PUA.kw (PUA.cons (PU.var (i := 4)) PUA.nil) (PUA.cons (PU.var (i := 9)) PUA.nil))) PUA.nil)) (PU.cbn CD.repr (PUA.cons (PU.var (i := 10)) PUA.nil)))) (PUT.test (PU.op RD.ne (PU.cbn CD.repr (PUA.cons (PU.call (PUA.cons (PU.var (i := 4)) (PUA.cons (PU.var (i := 9)) PUA.nil))) PUA.nil)) (PU.cbn CD.repr (PUA.cons (PU.var (i := 11)) PUA.nil))))) (PUS.ret PU.cb) PUS.next) (PUS.seq (PUS.for (PUI.rng1 (PUA.cons PU.ci PUA.nil)) (PUG.name (i := 12)) (PUS.seq (PUS.set (i := 13) (PU.call (PUA.cons (PU.var (i := 12)) (PUA.cons (PU.var (i := 4)) (PUA.cons (PU.var (i := 9)) (PUA.cons PU.cs PUA.nil)))))) (PUS.ifS (PUT.and (PUT.not (PUT.b (PU.var (i := 10)))) (PUT.test (PU.op RD.neD (PU.var (i := 13)) (PUF.toV (PUF.lst (PUA.cons PU.cs (PUA.cons (PU.call (PUA.cons (PU.var (i := 9)) PUA.nil)) PUA.nil))))))) (PUS.ret PU.cb) PUS.next))) (PUS.seq (PUS.set (i := 13) (PU.call (PUA.cons PU.ci (PUA.cons (PU.var (i := 4)) (PUA.cons (PU.var (i := 6)) (PUA.cons (PU.var (i := 9)) PUA.nil)))))) (PUS.ifS (PUT.and (PUT.not (PUT.b (PU.var (i := 11)))) (PUT.test (PU.op RD.neD (PU.var (i := 13)) (PUF.toV (PUF.lst (PUA.cons PU.cs (PUA.cons (PU.call (PUA.cons (PU.var (i := 9)) PUA.nil)) PUA.nil))))))) (PUS.ret PU.cb) PUS.next))))))) (PUS.seq (PUS.set (i := 14) (PU.op RD.ixL (PUF.toV (PUF.lst (PUA.cons PU.cn (PUA.cons (PU.un UD.neg PU.ci) (PUA.cons PU.ci (PUA.cons PU.cb (PUA.cons PU.cs (PUA.cons (PU.mkR1 (PUA.cons PU.ci PUA.nil)) (PUA.cons (PUF.toV (PUF.lst (PUA.cons PU.ci PUA.nil))) PUA.nil))))))))) (PU.pick (i := 2) (PUA.cons PU.ci PUA.nil)))) (PUS.ifS (PUT.test (PU.op RD.neD (PU.call (PUA.cons PU.ci (PUA.cons (PU.var (i := 4)) (PUA.cons (PU.var (i := 6)) (PUA.cons (PU.var (i := 14)) PUA.nil))))) (PUF.toV (PUF.lst (PUA.cons PU.cs (PUA.cons (PU.call (PUA.cons (PU.var (i := 14)) PUA.nil)) PUA.nil)))))) (PUS.ret PU.cb) PUS.next)))))))) S0 (D := { nx := fun ρ => ρ.length = 15 ∧ ρ[0]? = some (.ref p), rt := fun _ _ => False, rl := fun _ _ => False, bk := fun _ => False, ct := fun _ => False, ex := fun _ => False }) ⟨fun ρ' k σ2 H2 S2 _ => ⟨S2.len.trans k.1, ?_, fun b o hb => ?_⟩, fun _ _ k => k.elim, fun _ _ k => k.elim, fun _ k => k.elim, fun _ k => k.elim, fun _ k => k.elim⟩ ?_
      · have h3 := S2.sl 0 _ k.2
        generalize hz : σ2[0]? = y at h3
        cases y with
        | none => cases h3
        | some y =>
          have h3 : SlR a.G _ H2 y (.ref p) := h3
          cases h3
          rfl
      · have hb0 := ex0 _ _ hb
        exact S2.fr b o (ne_of_none hb0 hT) (e1 _ _ hb0)
      · refine ⟨t, rfl, rfl, ⟨8, rfl, by decide, by decide⟩, fun l h => ?_⟩
        obtain ⟨qs, climb, l1, l8, hz, rfl⟩ := values_post (n := 8) h
        refine ⟨t, rfl, _, rfl, rfl, ⟨qs, rfl, climb, l1, l8, fun q hq => sz_le' (hz q hq) (by decide)⟩, fun sc h => ?_⟩
        have h := made_post h
        subst h
        refine ⟨_, rfl, _, .inl rfl, ?_⟩
        rw [List.length_map]
        refine ⟨t, rfl, _, rfl, rfl, ⟨qs.length, rfl, l1, l8⟩, fun l2 h => ⟨t, rfl, _, rfl, rfl, ⟨qs.length, rfl, l8⟩, fun l3 h2 => ?_⟩⟩
        obtain ⟨ps, lot, e⟩ := lotL_post h
        injection e with e
        subst e
        obtain ⟨hs, cur, e⟩ := curveL_post h2
        injection e with e
        subst e
        have zp := lot.2.2.2
        have p8 : ps.length ≤ 8 := by rw [lot.1]; exact l8
        have gs := given_rats zp p8
        have glot := gs.lot lot
        refine ⟨t, rfl, _, rfl, _, rfl, _, rfl, _, rfl, rfl, ⟨qs, ps, hs, rfl, l1, l8, hz, lot, cur⟩, fun r h => ?_⟩
        have h : r = .bl true := h
        subst h
        refine ⟨true, rfl, ite_f ?_⟩
        refine ⟨4, rfl, ⟨by decide, by decide⟩, ?_⟩
        refine forP_rng (n := 4) (fun c ρ => ∃ u8 u9 u10 u11 u12 u13 u14, ρ = [.ref p, .val (.int (0 + (i : Int))), .tape t, .val (.lst (qs.map .rat)), .val (.scl qs), .val (.int (qs.length : Int)), .val (.lst (ps.map .rat)), .val (.lst (hs.map .rat)), u8, u9, u10, u11, u12, u13, u14]) rfl ⟨.un, .un, .un, .un, .un, .un, .un, rfl⟩ (fun c ρ Kc hc hI hK => ?_) (fun ρ hI => ?_)
        · obtain ⟨u8, u9, u10, u11, u12, u13, u14, rfl⟩ := hI
          refine ⟨t, rfl, _, rfl, rfl, ⟨ps, rfl, by rw [lot.1]; exact l1, p8, zp⟩, fun nr h => ?_⟩
          obtain ⟨_, _, ok, fine⟩ := h
          refine ⟨_, rfl, _, rfl, ⟨nr, qs.length, rfl, l8, ok⟩, fun g h => ⟨_, rfl, _, rfl, ⟨nr, qs.length, rfl, l8, ok⟩, fun fn h2 => ?_⟩⟩
          have h := isLot_post h
          subst h
          have h2 := isNums_post h2
          subst h2
          refine ⟨_, rfl, _, rfl, rfl, rfl, ⟨qs, nr, rfl, l8, ok⟩, fun r h => ?_⟩
          obtain ⟨_, _, e, rfl⟩ := h
          cases e
          refine ⟨_, rfl, _, rfl, _, rfl, _, rfl, _, rfl, ite_no rfl ?_⟩
          refine ⟨_, rfl, _, rfl, ⟨qs, nr, rfl, l8, ok⟩, fun r h => ?_⟩
          obtain ⟨_, _, e, rfl⟩ := h
          cases e
          refine ⟨_, rfl, _, rfl, _, rfl, _, rfl, _, rfl, ite_no rfl ?_⟩
          refine ⟨3, rfl, ⟨by decide, by decide⟩, ?_⟩
          refine forP_rng (n := 3) (fun c2 ρ => ∃ u12 u13, ρ = [.ref p, .val (.int (0 + (i : Int))), .tape t, .val (.lst (qs.map .rat)), .val (.scl qs), .val (.int (qs.length : Int)), .val (.lst (ps.map .rat)), .val (.lst (hs.map .rat)), .val (.int (c : Int)), .val nr, .val (.bl (lotB nr qs.length)), .val (.bl (curveB nr qs.length)), u12, u13, u14]) rfl ⟨_, _, rfl⟩ (fun c2 ρ Kd hc2 hI hK2 => ?_) (fun ρ hI => ?_)
          · obtain ⟨u12, u13, rfl⟩ := hI
            refine ⟨_, rfl, _, rfl, _, rfl, ⟨(c2 : Int), qs, nr, _, rfl, l8, hz, ok, fine, fun _ => str_x.1, fun _ => ⟨str_x.2, rfl⟩⟩, fun told h => ?_⟩
            obtain ⟨_, _, _, _, e, rfl⟩ := h
            cases e
            refine ⟨_, rfl, _, rfl, ite_bn (fun hb => ?_) (fun hb => ite_f (hK2 _ ⟨_, _, rfl⟩))⟩
            refine ⟨_, rfl, _, rfl, ⟨nr, rfl, fine⟩, fun r h => ?_⟩
            obtain ⟨_, e, rfl⟩ := h
            cases e
            rw [show askedR (c2 : Int) qs nr (.str (Str.ofString "x")) = .lst [.str (Str.ofString "lot"), nr.tell] from by unfold askedR; rw [if_pos hb]]
            exact ⟨by show 2 ≤ 1000; decide, told_ne fine (ofString_ok _) ⟨_, rfl, ite_f (hK2 _ ⟨_, _, rfl⟩)⟩⟩
          · obtain ⟨u12, u13, rfl⟩ := hI
            refine ⟨_, rfl, _, rfl, _, rfl, ⟨0, qs, _, nr, rfl, l8, hz, gs.ok, gs.fine, fun _ => ok, fun _ => ⟨fine, ok.kd⟩⟩, fun told h => ?_⟩
            obtain ⟨_, _, _, _, e, rfl⟩ := h
            cases e
            refine ⟨_, rfl, _, rfl, ite_bn (fun hb => ?_) (fun hb => ite_f (hK _ ⟨_, _, _, _, _, _, _, rfl⟩))⟩
            refine ⟨_, rfl, _, rfl, ⟨nr, rfl, fine⟩, fun r h => ?_⟩
            obtain ⟨_, e, rfl⟩ := h
            cases e
            rw [show askedR 0 qs (.lst (ps.map .rat)) nr = .lst [.str (Str.ofString "curve"), nr.tell] from by unfold askedR; rw [if_neg (by rw [glot]; decide), if_pos rfl, if_pos hb]]
            exact ⟨by show 2 ≤ 1000; decide, told_ne fine (ofString_ok _) ⟨_, rfl, ite_f (hK _ ⟨_, _, _, _, _, _, _, rfl⟩)⟩⟩
        · obtain ⟨u8, u9, u10, u11, u12, u13, u14, rfl⟩ := hI
          refine ⟨1, rfl, 2, rfl, lt8 (k := 10) (by decide) (by decide), by decide, by decide, t, rfl, rfl, 7, rfl, by decide, by decide, fun c hc => ?_⟩
          obtain ⟨y, e, hy⟩ := at_all odd_counts (k := c) hc
          refine ⟨_, _, _, rfl, rfl, e, ?_⟩
          refine ⟨_, rfl, _, rfl, _, rfl, ⟨1, qs, _, y, rfl, l8, hz, gs.ok, gs.fine, fun h => absurd h (by decide), fun _ => ⟨hy.2.1, hy.2.2⟩⟩, fun told h => ?_⟩
          obtain ⟨_, _, _, _, e, rfl⟩ := h
          cases e
          refine ⟨_, rfl, ⟨y, rfl, hy.2.1⟩, fun r h => ?_⟩
          obtain ⟨_, e, rfl⟩ := h
          cases e
          rw [show askedR 1 qs (.lst (ps.map .rat)) y = .lst [.str (Str.ofString "count"), y.tell] from by unfold askedR; rw [if_neg (by rw [glot]; decide), if_neg (by decide), if_pos rfl, if_pos hy.1]]
          exact ⟨by show 2 ≤ 1000; decide, told_ne hy.2.1 (ofString_ok _) ⟨_, rfl, ite_f ⟨rfl, rfl⟩⟩⟩
    · rintro σ2 H2 ⟨_, _, ex⟩
      exact z _ ex
end
end Kx


set_option maxHeartbeats 4000000
namespace Kx
open PySem PySem.Spec PyProof.Rows L2 Fm
/-- whether an error of the class at A is what a clause of the class at B names -/
theorem exm_sub {K : PySem.W.Frag} {A B : Addr} {b : Bool} (h1 : PySem.W.subIn K (.ref B) (.type "BaseException") = some true) (h2 : PySem.W.isClsIn K B = true) (h3 : PySem.W.typeIn K (.ref B) = some (.type "type")) (h4 : PySem.W.subIn K (.ref A) (.ref B) = some b) : PySem.W.exmOne K (.ref A) (.ref B) = some b := by
  have c : (PySem.W.clsIn K B).isSome = true := h2
  unfold PySem.W.exmOne
  rw [h1]
  show PySem.W.kitCls K (.ref A) (.ref B) = some b
  show (if ((PySem.W.clsIn K B).isSome && PySem.W.typeIn K (.ref B) == some (.type "type")) = true then PySem.W.subIn K (.ref A) (.ref B) else none) = some b
  rw [c, h3, if_pos (by simp), h4]
theorem all_mk {l : PySem.W.OpenLaw} {w : World} {K : PySem.W.Frag} {h : Heap} {mg : Str → Option Value} {fa : Addr} (X : K.In h) (G : h.Ns mainGlobals mg) (hfa : mg "law" = some (.ref fa))
    {C_MeansError : Addr} {C_ByZero : Addr} {C_BadText : Addr} {C_BadNumber : Addr} {C_BadValues : Addr} {C_NoValue : Addr} {C_BadLot : Addr} {C_BadCurve : Addr} {C_BadCount : Addr} {C_Ratio : Addr} {C_Scale : Addr} {f_BadNumber_init : Addr}
    {kV_BadNumber_init : Value} {dc_BadNumber_init : Value} {pm_BadNumber_init : Value} {cd_BadNumber_init : Value} {ct_BadNumber_init : Value} {oc_BadNumber_init : Value} {od_BadNumber_init : Option Addr} {an_BadNumber_init : Option Addr} {sl_BadNumber_init : Array (Option Value)} {f_BadValues_init : Addr} {kV_BadValues_init : Value} {dc_BadValues_init : Value}
    {pm_BadValues_init : Value} {cd_BadValues_init : Value} {ct_BadValues_init : Value} {oc_BadValues_init : Value} {od_BadValues_init : Option Addr} {an_BadValues_init : Option Addr} {sl_BadValues_init : Array (Option Value)} {f_NoValue_init : Addr} {kV_NoValue_init : Value} {dc_NoValue_init : Value} {pm_NoValue_init : Value} {cd_NoValue_init : Value}
    {ct_NoValue_init : Value} {oc_NoValue_init : Value} {od_NoValue_init : Option Addr} {an_NoValue_init : Option Addr} {sl_NoValue_init : Array (Option Value)} {f_BadLot_init : Addr} {kV_BadLot_init : Value} {dc_BadLot_init : Value} {pm_BadLot_init : Value} {cd_BadLot_init : Value} {ct_BadLot_init : Value} {oc_BadLot_init : Value}
    {od_BadLot_init : Option Addr} {an_BadLot_init : Option Addr} {sl_BadLot_init : Array (Option Value)} {f_BadCurve_init : Addr} {kV_BadCurve_init : Value} {dc_BadCurve_init : Value} {pm_BadCurve_init : Value} {cd_BadCurve_init : Value} {ct_BadCurve_init : Value} {oc_BadCurve_init : Value} {od_BadCurve_init : Option Addr} {an_BadCurve_init : Option Addr}
    {sl_BadCurve_init : Array (Option Value)} {f_BadCount_init : Addr} {kV_BadCount_init : Value} {dc_BadCount_init : Value} {pm_BadCount_init : Value} {cd_BadCount_init : Value} {ct_BadCount_init : Value} {oc_BadCount_init : Value} {od_BadCount_init : Option Addr} {an_BadCount_init : Option Addr} {sl_BadCount_init : Array (Option Value)} {f_Ratio_init : Addr}
    {kV_Ratio_init : Value} {dc_Ratio_init : Value} {pm_Ratio_init : Value} {cd_Ratio_init : Value} {ct_Ratio_init : Value} {oc_Ratio_init : Value} {od_Ratio_init : Option Addr} {an_Ratio_init : Option Addr} {sl_Ratio_init : Array (Option Value)} {T_Ratio_init : Addr} {ocT_Ratio_init : Value} {odT_Ratio_init : Option Addr}
    {nT_Ratio_init : Nat} {slT_Ratio_init : Array (Option Value)} {tk0_Ratio_init : Tok} {f_Ratio_add : Addr} {kV_Ratio_add : Value} {dc_Ratio_add : Value} {pm_Ratio_add : Value} {cd_Ratio_add : Value} {ct_Ratio_add : Value} {oc_Ratio_add : Value} {od_Ratio_add : Option Addr} {an_Ratio_add : Option Addr}
    {sl_Ratio_add : Array (Option Value)} {f_Ratio_sub : Addr} {kV_Ratio_sub : Value} {dc_Ratio_sub : Value} {pm_Ratio_sub : Value} {cd_Ratio_sub : Value} {ct_Ratio_sub : Value} {oc_Ratio_sub : Value} {od_Ratio_sub : Option Addr} {an_Ratio_sub : Option Addr} {sl_Ratio_sub : Array (Option Value)} {f_Ratio_mul : Addr}
    {kV_Ratio_mul : Value} {dc_Ratio_mul : Value} {pm_Ratio_mul : Value} {cd_Ratio_mul : Value} {ct_Ratio_mul : Value} {oc_Ratio_mul : Value} {od_Ratio_mul : Option Addr} {an_Ratio_mul : Option Addr} {sl_Ratio_mul : Array (Option Value)} {f_Ratio_neg : Addr} {kV_Ratio_neg : Value} {dc_Ratio_neg : Value}
    {pm_Ratio_neg : Value} {cd_Ratio_neg : Value} {ct_Ratio_neg : Value} {oc_Ratio_neg : Value} {od_Ratio_neg : Option Addr} {an_Ratio_neg : Option Addr} {sl_Ratio_neg : Array (Option Value)} {f_Ratio_eq : Addr} {kV_Ratio_eq : Value} {dc_Ratio_eq : Value} {pm_Ratio_eq : Value} {cd_Ratio_eq : Value}
    {ct_Ratio_eq : Value} {oc_Ratio_eq : Value} {od_Ratio_eq : Option Addr} {an_Ratio_eq : Option Addr} {sl_Ratio_eq : Array (Option Value)} {f_Ratio_lt : Addr} {kV_Ratio_lt : Value} {dc_Ratio_lt : Value} {pm_Ratio_lt : Value} {cd_Ratio_lt : Value} {ct_Ratio_lt : Value} {oc_Ratio_lt : Value}
    {od_Ratio_lt : Option Addr} {an_Ratio_lt : Option Addr} {sl_Ratio_lt : Array (Option Value)} {f_Ratio_le : Addr} {kV_Ratio_le : Value} {dc_Ratio_le : Value} {pm_Ratio_le : Value} {cd_Ratio_le : Value} {ct_Ratio_le : Value} {oc_Ratio_le : Value} {od_Ratio_le : Option Addr} {an_Ratio_le : Option Addr}
    {sl_Ratio_le : Array (Option Value)} {f_Ratio_text : Addr} {kV_Ratio_text : Value} {dc_Ratio_text : Value} {pm_Ratio_text : Value} {cd_Ratio_text : Value} {ct_Ratio_text : Value} {oc_Ratio_text : Value} {od_Ratio_text : Option Addr} {an_Ratio_text : Option Addr} {sl_Ratio_text : Array (Option Value)} {f_is_whole : Addr}
    {kV_is_whole : Value} {dc_is_whole : Value} {pm_is_whole : Value} {cd_is_whole : Value} {ct_is_whole : Value} {oc_is_whole : Value} {od_is_whole : Option Addr} {an_is_whole : Option Addr} {sl_is_whole : Array (Option Value)} {f_is_number : Addr} {kV_is_number : Value} {dc_is_number : Value}
    {pm_is_number : Value} {cd_is_number : Value} {ct_is_number : Value} {oc_is_number : Value} {od_is_number : Option Addr} {an_is_number : Option Addr} {sl_is_number : Array (Option Value)} {f_are_numbers : Addr} {kV_are_numbers : Value} {dc_are_numbers : Value} {pm_are_numbers : Value} {cd_are_numbers : Value}
    {ct_are_numbers : Value} {oc_are_numbers : Value} {od_are_numbers : Option Addr} {an_are_numbers : Option Addr} {sl_are_numbers : Array (Option Value)} {f_as_ratio : Addr} {kV_as_ratio : Value} {dc_as_ratio : Value} {pm_as_ratio : Value} {cd_as_ratio : Value} {ct_as_ratio : Value} {oc_as_ratio : Value}
    {od_as_ratio : Option Addr} {an_as_ratio : Option Addr} {sl_as_ratio : Array (Option Value)} {f_total : Addr} {kV_total : Value} {dc_total : Value} {pm_total : Value} {cd_total : Value} {ct_total : Value} {oc_total : Value} {od_total : Option Addr} {an_total : Option Addr}
    {sl_total : Array (Option Value)} {f_weighed : Addr} {kV_weighed : Value} {dc_weighed : Value} {pm_weighed : Value} {cd_weighed : Value} {ct_weighed : Value} {oc_weighed : Value} {od_weighed : Option Addr} {an_weighed : Option Addr} {sl_weighed : Array (Option Value)} {f_read_ratio : Addr}
    {kV_read_ratio : Value} {dc_read_ratio : Value} {pm_read_ratio : Value} {cd_read_ratio : Value} {ct_read_ratio : Value} {oc_read_ratio : Value} {od_read_ratio : Option Addr} {an_read_ratio : Option Addr} {sl_read_ratio : Array (Option Value)} {f_has_digits_only : Addr} {kV_has_digits_only : Value} {dc_has_digits_only : Value}
    {pm_has_digits_only : Value} {cd_has_digits_only : Value} {ct_has_digits_only : Value} {oc_has_digits_only : Value} {od_has_digits_only : Option Addr} {an_has_digits_only : Option Addr} {sl_has_digits_only : Array (Option Value)} {f_numeral : Addr} {kV_numeral : Value} {dc_numeral : Value} {pm_numeral : Value} {cd_numeral : Value}
    {ct_numeral : Value} {oc_numeral : Value} {od_numeral : Option Addr} {an_numeral : Option Addr} {sl_numeral : Array (Option Value)} {f_from_numeral : Addr} {kV_from_numeral : Value} {dc_from_numeral : Value} {pm_from_numeral : Value} {cd_from_numeral : Value} {ct_from_numeral : Value} {oc_from_numeral : Value}
    {od_from_numeral : Option Addr} {an_from_numeral : Option Addr} {sl_from_numeral : Array (Option Value)} {f_Scale_init : Addr} {kV_Scale_init : Value} {dc_Scale_init : Value} {pm_Scale_init : Value} {cd_Scale_init : Value} {ct_Scale_init : Value} {oc_Scale_init : Value} {od_Scale_init : Option Addr} {an_Scale_init : Option Addr}
    {sl_Scale_init : Array (Option Value)} {f_Scale_len : Addr} {kV_Scale_len : Value} {dc_Scale_len : Value} {pm_Scale_len : Value} {cd_Scale_len : Value} {ct_Scale_len : Value} {oc_Scale_len : Value} {od_Scale_len : Option Addr} {an_Scale_len : Option Addr} {sl_Scale_len : Array (Option Value)} {f_Scale_eq : Addr}
    {kV_Scale_eq : Value} {dc_Scale_eq : Value} {pm_Scale_eq : Value} {cd_Scale_eq : Value} {ct_Scale_eq : Value} {oc_Scale_eq : Value} {od_Scale_eq : Option Addr} {an_Scale_eq : Option Addr} {sl_Scale_eq : Array (Option Value)} {f_Scale_marks : Addr} {kV_Scale_marks : Value} {dc_Scale_marks : Value}
    {pm_Scale_marks : Value} {cd_Scale_marks : Value} {ct_Scale_marks : Value} {oc_Scale_marks : Value} {od_Scale_marks : Option Addr} {an_Scale_marks : Option Addr} {sl_Scale_marks : Array (Option Value)} {f_Scale_place : Addr} {kV_Scale_place : Value} {dc_Scale_place : Value} {pm_Scale_place : Value} {cd_Scale_place : Value}
    {ct_Scale_place : Value} {oc_Scale_place : Value} {od_Scale_place : Option Addr} {an_Scale_place : Option Addr} {sl_Scale_place : Array (Option Value)} {f_Scale_text : Addr} {kV_Scale_text : Value} {dc_Scale_text : Value} {pm_Scale_text : Value} {cd_Scale_text : Value} {ct_Scale_text : Value} {oc_Scale_text : Value}
    {od_Scale_text : Option Addr} {an_Scale_text : Option Addr} {sl_Scale_text : Array (Option Value)} {f_insert_new : Addr} {kV_insert_new : Value} {dc_insert_new : Value} {pm_insert_new : Value} {cd_insert_new : Value} {ct_insert_new : Value} {oc_insert_new : Value} {od_insert_new : Option Addr} {an_insert_new : Option Addr}
    {sl_insert_new : Array (Option Value)} {f_distinct : Addr} {kV_distinct : Value} {dc_distinct : Value} {pm_distinct : Value} {cd_distinct : Value} {ct_distinct : Value} {oc_distinct : Value} {od_distinct : Option Addr} {an_distinct : Option Addr} {sl_distinct : Array (Option Value)} {f_climbs : Addr}
    {kV_climbs : Value} {dc_climbs : Value} {pm_climbs : Value} {cd_climbs : Value} {ct_climbs : Value} {oc_climbs : Value} {od_climbs : Option Addr} {an_climbs : Option Addr} {sl_climbs : Array (Option Value)} {f_is_curve : Addr} {kV_is_curve : Value} {dc_is_curve : Value}
    {pm_is_curve : Value} {cd_is_curve : Value} {ct_is_curve : Value} {oc_is_curve : Value} {od_is_curve : Option Addr} {an_is_curve : Option Addr} {sl_is_curve : Array (Option Value)} {f_are_shares : Addr} {kV_are_shares : Value} {dc_are_shares : Value} {pm_are_shares : Value} {cd_are_shares : Value}
    {ct_are_shares : Value} {oc_are_shares : Value} {od_are_shares : Option Addr} {an_are_shares : Option Addr} {sl_are_shares : Array (Option Value)} {f_is_lot : Addr} {kV_is_lot : Value} {dc_is_lot : Value} {pm_is_lot : Value} {cd_is_lot : Value} {ct_is_lot : Value} {oc_is_lot : Value}
    {od_is_lot : Option Addr} {an_is_lot : Option Addr} {sl_is_lot : Array (Option Value)} {f_check_lot : Addr} {kV_check_lot : Value} {dc_check_lot : Value} {pm_check_lot : Value} {cd_check_lot : Value} {ct_check_lot : Value} {oc_check_lot : Value} {od_check_lot : Option Addr} {an_check_lot : Option Addr}
    {sl_check_lot : Array (Option Value)} {f_check_curve : Addr} {kV_check_curve : Value} {dc_check_curve : Value} {pm_check_curve : Value} {cd_check_curve : Value} {ct_check_curve : Value} {oc_check_curve : Value} {od_check_curve : Option Addr} {an_check_curve : Option Addr} {sl_check_curve : Array (Option Value)} {f_mean : Addr}
    {kV_mean : Value} {dc_mean : Value} {pm_mean : Value} {cd_mean : Value} {ct_mean : Value} {oc_mean : Value} {od_mean : Option Addr} {an_mean : Option Addr} {sl_mean : Array (Option Value)} {f_means_of : Addr} {kV_means_of : Value} {dc_means_of : Value}
    {pm_means_of : Value} {cd_means_of : Value} {ct_means_of : Value} {oc_means_of : Value} {od_means_of : Option Addr} {an_means_of : Option Addr} {sl_means_of : Array (Option Value)} {f_uses : Addr} {kV_uses : Value} {dc_uses : Value} {pm_uses : Value} {cd_uses : Value}
    {ct_uses : Value} {oc_uses : Value} {od_uses : Option Addr} {an_uses : Option Addr} {sl_uses : Array (Option Value)} {f_Ltape : Addr} {kV_Ltape : Value} {dc_Ltape : Value} {pm_Ltape : Value} {cd_Ltape : Value} {ct_Ltape : Value} {oc_Ltape : Value}
    {od_Ltape : Option Addr} {an_Ltape : Option Addr} {sl_Ltape : Array (Option Value)} {f_Lpick : Addr} {kV_Lpick : Value} {dc_Lpick : Value} {pm_Lpick : Value} {cd_Lpick : Value} {ct_Lpick : Value} {oc_Lpick : Value} {od_Lpick : Option Addr} {an_Lpick : Option Addr}
    {sl_Lpick : Array (Option Value)} {f_Lmixed : Addr} {kV_Lmixed : Value} {dc_Lmixed : Value} {pm_Lmixed : Value} {cd_Lmixed : Value} {ct_Lmixed : Value} {oc_Lmixed : Value} {od_Lmixed : Option Addr} {an_Lmixed : Option Addr} {sl_Lmixed : Array (Option Value)} {f_Lshown : Addr}
    {kV_Lshown : Value} {dc_Lshown : Value} {pm_Lshown : Value} {cd_Lshown : Value} {ct_Lshown : Value} {oc_Lshown : Value} {od_Lshown : Option Addr} {an_Lshown : Option Addr} {sl_Lshown : Array (Option Value)} {f_Lvalues : Addr} {kV_Lvalues : Value} {dc_Lvalues : Value}
    {pm_Lvalues : Value} {cd_Lvalues : Value} {ct_Lvalues : Value} {oc_Lvalues : Value} {od_Lvalues : Option Addr} {an_Lvalues : Option Addr} {sl_Lvalues : Array (Option Value)} {f_Lmade : Addr} {kV_Lmade : Value} {dc_Lmade : Value} {pm_Lmade : Value} {cd_Lmade : Value}
    {ct_Lmade : Value} {oc_Lmade : Value} {od_Lmade : Option Addr} {an_Lmade : Option Addr} {sl_Lmade : Array (Option Value)} {f_Llot : Addr} {kV_Llot : Value} {dc_Llot : Value} {pm_Llot : Value} {cd_Llot : Value} {ct_Llot : Value} {oc_Llot : Value}
    {od_Llot : Option Addr} {an_Llot : Option Addr} {sl_Llot : Array (Option Value)} {f_Lcurve : Addr} {kV_Lcurve : Value} {dc_Lcurve : Value} {pm_Lcurve : Value} {cd_Lcurve : Value} {ct_Lcurve : Value} {oc_Lcurve : Value} {od_Lcurve : Option Addr} {an_Lcurve : Option Addr}
    {sl_Lcurve : Array (Option Value)} {f_Lpower : Addr} {kV_Lpower : Value} {dc_Lpower : Value} {pm_Lpower : Value} {cd_Lpower : Value} {ct_Lpower : Value} {oc_Lpower : Value} {od_Lpower : Option Addr} {an_Lpower : Option Addr} {sl_Lpower : Array (Option Value)} {f_Lmean : Addr}
    {kV_Lmean : Value} {dc_Lmean : Value} {pm_Lmean : Value} {cd_Lmean : Value} {ct_Lmean : Value} {oc_Lmean : Value} {od_Lmean : Option Addr} {an_Lmean : Option Addr} {sl_Lmean : Array (Option Value)} {f_Lmeans : Addr} {kV_Lmeans : Value} {dc_Lmeans : Value}
    {pm_Lmeans : Value} {cd_Lmeans : Value} {ct_Lmeans : Value} {oc_Lmeans : Value} {od_Lmeans : Option Addr} {an_Lmeans : Option Addr} {sl_Lmeans : Array (Option Value)} {f_Lgiven : Addr} {kV_Lgiven : Value} {dc_Lgiven : Value} {pm_Lgiven : Value} {cd_Lgiven : Value}
    {ct_Lgiven : Value} {oc_Lgiven : Value} {od_Lgiven : Option Addr} {an_Lgiven : Option Addr} {sl_Lgiven : Array (Option Value)} {f_Lis_numbers : Addr} {kV_Lis_numbers : Value} {dc_Lis_numbers : Value} {pm_Lis_numbers : Value} {cd_Lis_numbers : Value} {ct_Lis_numbers : Value} {oc_Lis_numbers : Value}
    {od_Lis_numbers : Option Addr} {an_Lis_numbers : Option Addr} {sl_Lis_numbers : Array (Option Value)} {f_Lis_lot : Addr} {kV_Lis_lot : Value} {dc_Lis_lot : Value} {pm_Lis_lot : Value} {cd_Lis_lot : Value} {ct_Lis_lot : Value} {oc_Lis_lot : Value} {od_Lis_lot : Option Addr} {an_Lis_lot : Option Addr}
    {sl_Lis_lot : Array (Option Value)} {f_Lnear : Addr} {kV_Lnear : Value} {dc_Lnear : Value} {pm_Lnear : Value} {cd_Lnear : Value} {ct_Lnear : Value} {oc_Lnear : Value} {od_Lnear : Option Addr} {an_Lnear : Option Addr} {sl_Lnear : Array (Option Value)} {f_Lasked : Addr}
    {kV_Lasked : Value} {dc_Lasked : Value} {pm_Lasked : Value} {cd_Lasked : Value} {ct_Lasked : Value} {oc_Lasked : Value} {od_Lasked : Option Addr} {an_Lasked : Option Addr} {sl_Lasked : Array (Option Value)} {f_Lright : Addr} {kV_Lright : Value} {dc_Lright : Value}
    {pm_Lright : Value} {cd_Lright : Value} {ct_Lright : Value} {oc_Lright : Value} {od_Lright : Option Addr} {an_Lright : Option Addr} {sl_Lright : Array (Option Value)} {f_law : Addr} {kV_law : Value} {dc_law : Value} {pm_law : Value} {cd_law : Value}
    {ct_law : Value} {oc_law : Value} {od_law : Option Addr} {an_law : Option Addr} {sl_law : Array (Option Value)} {onm_BadNumber : Str} {oq_BadNumber : Str} {oN_BadNumber : Addr} {obs_BadNumber : List Value} {obm_BadNumber : List Value} {osn_BadNumber : List Str} {osub_BadNumber : List Value}
    {oab_BadNumber : Bool} {ocol_BadNumber : Option Bool} {odd_BadNumber : Option Addr} {om0_BadNumber : Option Value} {om1_BadNumber : Option Value} {om2_BadNumber : Option Value} {om3_BadNumber : Option Value} {om5_BadNumber : Option Value} {onm_BadValues : Str} {oq_BadValues : Str} {oN_BadValues : Addr} {obs_BadValues : List Value}
    {obm_BadValues : List Value} {osn_BadValues : List Str} {osub_BadValues : List Value} {oab_BadValues : Bool} {ocol_BadValues : Option Bool} {odd_BadValues : Option Addr} {om0_BadValues : Option Value} {om1_BadValues : Option Value} {om2_BadValues : Option Value} {om3_BadValues : Option Value} {om5_BadValues : Option Value} {onm_NoValue : Str}
    {oq_NoValue : Str} {oN_NoValue : Addr} {obs_NoValue : List Value} {obm_NoValue : List Value} {osn_NoValue : List Str} {osub_NoValue : List Value} {oab_NoValue : Bool} {ocol_NoValue : Option Bool} {odd_NoValue : Option Addr} {om0_NoValue : Option Value} {om1_NoValue : Option Value} {om2_NoValue : Option Value}
    {om3_NoValue : Option Value} {om5_NoValue : Option Value} {onm_BadLot : Str} {oq_BadLot : Str} {oN_BadLot : Addr} {obs_BadLot : List Value} {obm_BadLot : List Value} {osn_BadLot : List Str} {osub_BadLot : List Value} {oab_BadLot : Bool} {ocol_BadLot : Option Bool} {odd_BadLot : Option Addr}
    {om0_BadLot : Option Value} {om1_BadLot : Option Value} {om2_BadLot : Option Value} {om3_BadLot : Option Value} {om5_BadLot : Option Value} {onm_BadCurve : Str} {oq_BadCurve : Str} {oN_BadCurve : Addr} {obs_BadCurve : List Value} {obm_BadCurve : List Value} {osn_BadCurve : List Str} {osub_BadCurve : List Value}
    {oab_BadCurve : Bool} {ocol_BadCurve : Option Bool} {odd_BadCurve : Option Addr} {om0_BadCurve : Option Value} {om1_BadCurve : Option Value} {om2_BadCurve : Option Value} {om3_BadCurve : Option Value} {om5_BadCurve : Option Value} {onm_BadCount : Str} {oq_BadCount : Str} {oN_BadCount : Addr} {obs_BadCount : List Value}
    {obm_BadCount : List Value} {osn_BadCount : List Str} {osub_BadCount : List Value} {oab_BadCount : Bool} {ocol_BadCount : Option Bool} {odd_BadCount : Option Addr} {om0_BadCount : Option Value} {om1_BadCount : Option Value} {om2_BadCount : Option Value} {om3_BadCount : Option Value} {om5_BadCount : Option Value} {tkc_MOST_VALUES : Tok}
    {tkc_MOST_POWERS : Tok} {vo_add : Option Value} {vr_add : Option Value} {vo_sub : Option Value} {vr_sub : Option Value} {vo_mul : Option Value} {vr_mul : Option Value}
    (aC_MeansError : PySem.W.nsIn K mainGlobals "MeansError" = some (some (.ref C_MeansError)))
    (aC_ByZero : PySem.W.nsIn K mainGlobals "ByZero" = some (some (.ref C_ByZero)))
    (aC_BadText : PySem.W.nsIn K mainGlobals "BadText" = some (some (.ref C_BadText)))
    (aC_BadNumber : PySem.W.nsIn K mainGlobals "BadNumber" = some (some (.ref C_BadNumber)))
    (aC_BadValues : PySem.W.nsIn K mainGlobals "BadValues" = some (some (.ref C_BadValues)))
    (aC_NoValue : PySem.W.nsIn K mainGlobals "NoValue" = some (some (.ref C_NoValue)))
    (aC_BadLot : PySem.W.nsIn K mainGlobals "BadLot" = some (some (.ref C_BadLot)))
    (aC_BadCurve : PySem.W.nsIn K mainGlobals "BadCurve" = some (some (.ref C_BadCurve)))
    (aC_BadCount : PySem.W.nsIn K mainGlobals "BadCount" = some (some (.ref C_BadCount)))
    (aC_Ratio : PySem.W.nsIn K mainGlobals "Ratio" = some (some (.ref C_Ratio)))
    (aC_Scale : PySem.W.nsIn K mainGlobals "Scale" = some (some (.ref C_Scale)))
    (a_BadNumber_init : PySem.W.findIn K (.ref C_BadNumber) "__init__" = some (some (.ref f_BadNumber_init)))
    (i_BadNumber_init : PySem.W.isFn K (.ref f_BadNumber_init) = true)
    (l_BadNumber_init : K.lookup f_BadNumber_init = some ⟨oc_BadNumber_init, od_BadNumber_init, .func (PySem.W.fnOf "__init__" "BadNumber.__init__" (defArgs s_BadNumber_init) (defBody s_BadNumber_init) (defScope s_BadNumber_init) .none kV_BadNumber_init dc_BadNumber_init pm_BadNumber_init an_BadNumber_init cd_BadNumber_init ct_BadNumber_init), sl_BadNumber_init⟩)
    (c_BadNumber_init : PySem.W.codeIn K cd_BadNumber_init "BadNumber.__init__" = true)
    (k_BadNumber_init : PySem.W.keepIn K (.ref f_BadNumber_init) = true)
    (a_BadValues_init : PySem.W.findIn K (.ref C_BadValues) "__init__" = some (some (.ref f_BadValues_init)))
    (i_BadValues_init : PySem.W.isFn K (.ref f_BadValues_init) = true)
    (l_BadValues_init : K.lookup f_BadValues_init = some ⟨oc_BadValues_init, od_BadValues_init, .func (PySem.W.fnOf "__init__" "BadValues.__init__" (defArgs s_BadValues_init) (defBody s_BadValues_init) (defScope s_BadValues_init) .none kV_BadValues_init dc_BadValues_init pm_BadValues_init an_BadValues_init cd_BadValues_init ct_BadValues_init), sl_BadValues_init⟩)
    (c_BadValues_init : PySem.W.codeIn K cd_BadValues_init "BadValues.__init__" = true)
    (k_BadValues_init : PySem.W.keepIn K (.ref f_BadValues_init) = true)
    (a_NoValue_init : PySem.W.findIn K (.ref C_NoValue) "__init__" = some (some (.ref f_NoValue_init)))
    (i_NoValue_init : PySem.W.isFn K (.ref f_NoValue_init) = true)
    (l_NoValue_init : K.lookup f_NoValue_init = some ⟨oc_NoValue_init, od_NoValue_init, .func (PySem.W.fnOf "__init__" "NoValue.__init__" (defArgs s_NoValue_init) (defBody s_NoValue_init) (defScope s_NoValue_init) .none kV_NoValue_init dc_NoValue_init pm_NoValue_init an_NoValue_init cd_NoValue_init ct_NoValue_init), sl_NoValue_init⟩)
    (c_NoValue_init : PySem.W.codeIn K cd_NoValue_init "NoValue.__init__" = true)
    (k_NoValue_init : PySem.W.keepIn K (.ref f_NoValue_init) = true)
    (a_BadLot_init : PySem.W.findIn K (.ref C_BadLot) "__init__" = some (some (.ref f_BadLot_init)))
    (i_BadLot_init : PySem.W.isFn K (.ref f_BadLot_init) = true)
    (l_BadLot_init : K.lookup f_BadLot_init = some ⟨oc_BadLot_init, od_BadLot_init, .func (PySem.W.fnOf "__init__" "BadLot.__init__" (defArgs s_BadLot_init) (defBody s_BadLot_init) (defScope s_BadLot_init) .none kV_BadLot_init dc_BadLot_init pm_BadLot_init an_BadLot_init cd_BadLot_init ct_BadLot_init), sl_BadLot_init⟩)
    (c_BadLot_init : PySem.W.codeIn K cd_BadLot_init "BadLot.__init__" = true)
    (k_BadLot_init : PySem.W.keepIn K (.ref f_BadLot_init) = true)
    (a_BadCurve_init : PySem.W.findIn K (.ref C_BadCurve) "__init__" = some (some (.ref f_BadCurve_init)))
    (i_BadCurve_init : PySem.W.isFn K (.ref f_BadCurve_init) = true)
    (l_BadCurve_init : K.lookup f_BadCurve_init = some ⟨oc_BadCurve_init, od_BadCurve_init, .func (PySem.W.fnOf "__init__" "BadCurve.__init__" (defArgs s_BadCurve_init) (defBody s_BadCurve_init) (defScope s_BadCurve_init) .none kV_BadCurve_init dc_BadCurve_init pm_BadCurve_init an_BadCurve_init cd_BadCurve_init ct_BadCurve_init), sl_BadCurve_init⟩)
    (c_BadCurve_init : PySem.W.codeIn K cd_BadCurve_init "BadCurve.__init__" = true)
    (k_BadCurve_init : PySem.W.keepIn K (.ref f_BadCurve_init) = true)
    (a_BadCount_init : PySem.W.findIn K (.ref C_BadCount) "__init__" = some (some (.ref f_BadCount_init)))
    (i_BadCount_init : PySem.W.isFn K (.ref f_BadCount_init) = true)
    (l_BadCount_init : K.lookup f_BadCount_init = some ⟨oc_BadCount_init, od_BadCount_init, .func (PySem.W.fnOf "__init__" "BadCount.__init__" (defArgs s_BadCount_init) (defBody s_BadCount_init) (defScope s_BadCount_init) .none kV_BadCount_init dc_BadCount_init pm_BadCount_init an_BadCount_init cd_BadCount_init ct_BadCount_init), sl_BadCount_init⟩)
    (c_BadCount_init : PySem.W.codeIn K cd_BadCount_init "BadCount.__init__" = true)
    (k_BadCount_init : PySem.W.keepIn K (.ref f_BadCount_init) = true)
    (a_Ratio_init : PySem.W.findIn K (.ref C_Ratio) "__init__" = some (some (.ref f_Ratio_init)))
    (i_Ratio_init : PySem.W.isFn K (.ref f_Ratio_init) = true)
    (l_Ratio_init : K.lookup f_Ratio_init = some ⟨oc_Ratio_init, od_Ratio_init, .func (PySem.W.fnOf "__init__" "Ratio.__init__" (defArgs s_Ratio_init) (defBody s_Ratio_init) (defScope s_Ratio_init) (.ref T_Ratio_init) kV_Ratio_init dc_Ratio_init pm_Ratio_init an_Ratio_init cd_Ratio_init ct_Ratio_init), sl_Ratio_init⟩)
    (lT_Ratio_init : K.lookup T_Ratio_init = some ⟨ocT_Ratio_init, odT_Ratio_init, .seq [Value.int 1 tk0_Ratio_init].toArray nT_Ratio_init, slT_Ratio_init⟩)
    (c_Ratio_init : PySem.W.codeIn K cd_Ratio_init "Ratio.__init__" = true)
    (k_Ratio_init : PySem.W.keepIn K (.ref f_Ratio_init) = true)
    (a_Ratio_add : PySem.W.findIn K (.ref C_Ratio) "__add__" = some (some (.ref f_Ratio_add)))
    (i_Ratio_add : PySem.W.isFn K (.ref f_Ratio_add) = true)
    (l_Ratio_add : K.lookup f_Ratio_add = some ⟨oc_Ratio_add, od_Ratio_add, .func (PySem.W.fnOf "__add__" "Ratio.__add__" (defArgs s_Ratio_add) (defBody s_Ratio_add) (defScope s_Ratio_add) .none kV_Ratio_add dc_Ratio_add pm_Ratio_add an_Ratio_add cd_Ratio_add ct_Ratio_add), sl_Ratio_add⟩)
    (c_Ratio_add : PySem.W.codeIn K cd_Ratio_add "Ratio.__add__" = true)
    (k_Ratio_add : PySem.W.keepIn K (.ref f_Ratio_add) = true)
    (a_Ratio_sub : PySem.W.findIn K (.ref C_Ratio) "__sub__" = some (some (.ref f_Ratio_sub)))
    (i_Ratio_sub : PySem.W.isFn K (.ref f_Ratio_sub) = true)
    (l_Ratio_sub : K.lookup f_Ratio_sub = some ⟨oc_Ratio_sub, od_Ratio_sub, .func (PySem.W.fnOf "__sub__" "Ratio.__sub__" (defArgs s_Ratio_sub) (defBody s_Ratio_sub) (defScope s_Ratio_sub) .none kV_Ratio_sub dc_Ratio_sub pm_Ratio_sub an_Ratio_sub cd_Ratio_sub ct_Ratio_sub), sl_Ratio_sub⟩)
    (c_Ratio_sub : PySem.W.codeIn K cd_Ratio_sub "Ratio.__sub__" = true)
    (k_Ratio_sub : PySem.W.keepIn K (.ref f_Ratio_sub) = true)
    (a_Ratio_mul : PySem.W.findIn K (.ref C_Ratio) "__mul__" = some (some (.ref f_Ratio_mul)))
    (i_Ratio_mul : PySem.W.isFn K (.ref f_Ratio_mul) = true)
    (l_Ratio_mul : K.lookup f_Ratio_mul = some ⟨oc_Ratio_mul, od_Ratio_mul, .func (PySem.W.fnOf "__mul__" "Ratio.__mul__" (defArgs s_Ratio_mul) (defBody s_Ratio_mul) (defScope s_Ratio_mul) .none kV_Ratio_mul dc_Ratio_mul pm_Ratio_mul an_Ratio_mul cd_Ratio_mul ct_Ratio_mul), sl_Ratio_mul⟩)
    (c_Ratio_mul : PySem.W.codeIn K cd_Ratio_mul "Ratio.__mul__" = true)
    (k_Ratio_mul : PySem.W.keepIn K (.ref f_Ratio_mul) = true)
    (a_Ratio_neg : PySem.W.findIn K (.ref C_Ratio) "__neg__" = some (some (.ref f_Ratio_neg)))
    (i_Ratio_neg : PySem.W.isFn K (.ref f_Ratio_neg) = true)
    (l_Ratio_neg : K.lookup f_Ratio_neg = some ⟨oc_Ratio_neg, od_Ratio_neg, .func (PySem.W.fnOf "__neg__" "Ratio.__neg__" (defArgs s_Ratio_neg) (defBody s_Ratio_neg) (defScope s_Ratio_neg) .none kV_Ratio_neg dc_Ratio_neg pm_Ratio_neg an_Ratio_neg cd_Ratio_neg ct_Ratio_neg), sl_Ratio_neg⟩)
    (c_Ratio_neg : PySem.W.codeIn K cd_Ratio_neg "Ratio.__neg__" = true)
    (k_Ratio_neg : PySem.W.keepIn K (.ref f_Ratio_neg) = true)
    (a_Ratio_eq : PySem.W.findIn K (.ref C_Ratio) "__eq__" = some (some (.ref f_Ratio_eq)))
    (i_Ratio_eq : PySem.W.isFn K (.ref f_Ratio_eq) = true)
    (l_Ratio_eq : K.lookup f_Ratio_eq = some ⟨oc_Ratio_eq, od_Ratio_eq, .func (PySem.W.fnOf "__eq__" "Ratio.__eq__" (defArgs s_Ratio_eq) (defBody s_Ratio_eq) (defScope s_Ratio_eq) .none kV_Ratio_eq dc_Ratio_eq pm_Ratio_eq an_Ratio_eq cd_Ratio_eq ct_Ratio_eq), sl_Ratio_eq⟩)
    (c_Ratio_eq : PySem.W.codeIn K cd_Ratio_eq "Ratio.__eq__" = true)
    (k_Ratio_eq : PySem.W.keepIn K (.ref f_Ratio_eq) = true)
    (a_Ratio_lt : PySem.W.findIn K (.ref C_Ratio) "__lt__" = some (some (.ref f_Ratio_lt)))
    (i_Ratio_lt : PySem.W.isFn K (.ref f_Ratio_lt) = true)
    (l_Ratio_lt : K.lookup f_Ratio_lt = some ⟨oc_Ratio_lt, od_Ratio_lt, .func (PySem.W.fnOf "__lt__" "Ratio.__lt__" (defArgs s_Ratio_lt) (defBody s_Ratio_lt) (defScope s_Ratio_lt) .none kV_Ratio_lt dc_Ratio_lt pm_Ratio_lt an_Ratio_lt cd_Ratio_lt ct_Ratio_lt), sl_Ratio_lt⟩)
    (c_Ratio_lt : PySem.W.codeIn K cd_Ratio_lt "Ratio.__lt__" = true)
    (k_Ratio_lt : PySem.W.keepIn K (.ref f_Ratio_lt) = true)
    (a_Ratio_le : PySem.W.findIn K (.ref C_Ratio) "__le__" = some (some (.ref f_Ratio_le)))
    (i_Ratio_le : PySem.W.isFn K (.ref f_Ratio_le) = true)
    (l_Ratio_le : K.lookup f_Ratio_le = some ⟨oc_Ratio_le, od_Ratio_le, .func (PySem.W.fnOf "__le__" "Ratio.__le__" (defArgs s_Ratio_le) (defBody s_Ratio_le) (defScope s_Ratio_le) .none kV_Ratio_le dc_Ratio_le pm_Ratio_le an_Ratio_le cd_Ratio_le ct_Ratio_le), sl_Ratio_le⟩)
    (c_Ratio_le : PySem.W.codeIn K cd_Ratio_le "Ratio.__le__" = true)
    (k_Ratio_le : PySem.W.keepIn K (.ref f_Ratio_le) = true)
    (a_Ratio_text : PySem.W.findIn K (.ref C_Ratio) "text" = some (some (.ref f_Ratio_text)))
    (i_Ratio_text : PySem.W.isFn K (.ref f_Ratio_text) = true)
    (l_Ratio_text : K.lookup f_Ratio_text = some ⟨oc_Ratio_text, od_Ratio_text, .func (PySem.W.fnOf "text" "Ratio.text" (defArgs s_Ratio_text) (defBody s_Ratio_text) (defScope s_Ratio_text) .none kV_Ratio_text dc_Ratio_text pm_Ratio_text an_Ratio_text cd_Ratio_text ct_Ratio_text), sl_Ratio_text⟩)
    (c_Ratio_text : PySem.W.codeIn K cd_Ratio_text "Ratio.text" = true)
    (k_Ratio_text : PySem.W.keepIn K (.ref f_Ratio_text) = true)
    (a_is_whole : PySem.W.nsIn K mainGlobals "is_whole" = some (some (.ref f_is_whole)))
    (l_is_whole : K.lookup f_is_whole = some ⟨oc_is_whole, od_is_whole, .func (PySem.W.fnOf "is_whole" "is_whole" (defArgs s_is_whole) (defBody s_is_whole) (defScope s_is_whole) .none kV_is_whole dc_is_whole pm_is_whole an_is_whole cd_is_whole ct_is_whole), sl_is_whole⟩)
    (c_is_whole : PySem.W.codeIn K cd_is_whole "is_whole" = true)
    (k_is_whole : PySem.W.keepIn K (.ref f_is_whole) = true)
    (a_is_number : PySem.W.nsIn K mainGlobals "is_number" = some (some (.ref f_is_number)))
    (l_is_number : K.lookup f_is_number = some ⟨oc_is_number, od_is_number, .func (PySem.W.fnOf "is_number" "is_number" (defArgs s_is_number) (defBody s_is_number) (defScope s_is_number) .none kV_is_number dc_is_number pm_is_number an_is_number cd_is_number ct_is_number), sl_is_number⟩)
    (c_is_number : PySem.W.codeIn K cd_is_number "is_number" = true)
    (k_is_number : PySem.W.keepIn K (.ref f_is_number) = true)
    (a_are_numbers : PySem.W.nsIn K mainGlobals "are_numbers" = some (some (.ref f_are_numbers)))
    (l_are_numbers : K.lookup f_are_numbers = some ⟨oc_are_numbers, od_are_numbers, .func (PySem.W.fnOf "are_numbers" "are_numbers" (defArgs s_are_numbers) (defBody s_are_numbers) (defScope s_are_numbers) .none kV_are_numbers dc_are_numbers pm_are_numbers an_are_numbers cd_are_numbers ct_are_numbers), sl_are_numbers⟩)
    (c_are_numbers : PySem.W.codeIn K cd_are_numbers "are_numbers" = true)
    (k_are_numbers : PySem.W.keepIn K (.ref f_are_numbers) = true)
    (a_as_ratio : PySem.W.nsIn K mainGlobals "as_ratio" = some (some (.ref f_as_ratio)))
    (l_as_ratio : K.lookup f_as_ratio = some ⟨oc_as_ratio, od_as_ratio, .func (PySem.W.fnOf "as_ratio" "as_ratio" (defArgs s_as_ratio) (defBody s_as_ratio) (defScope s_as_ratio) .none kV_as_ratio dc_as_ratio pm_as_ratio an_as_ratio cd_as_ratio ct_as_ratio), sl_as_ratio⟩)
    (c_as_ratio : PySem.W.codeIn K cd_as_ratio "as_ratio" = true)
    (k_as_ratio : PySem.W.keepIn K (.ref f_as_ratio) = true)
    (a_total : PySem.W.nsIn K mainGlobals "total" = some (some (.ref f_total)))
    (l_total : K.lookup f_total = some ⟨oc_total, od_total, .func (PySem.W.fnOf "total" "total" (defArgs s_total) (defBody s_total) (defScope s_total) .none kV_total dc_total pm_total an_total cd_total ct_total), sl_total⟩)
    (c_total : PySem.W.codeIn K cd_total "total" = true)
    (k_total : PySem.W.keepIn K (.ref f_total) = true)
    (a_weighed : PySem.W.nsIn K mainGlobals "weighed" = some (some (.ref f_weighed)))
    (l_weighed : K.lookup f_weighed = some ⟨oc_weighed, od_weighed, .func (PySem.W.fnOf "weighed" "weighed" (defArgs s_weighed) (defBody s_weighed) (defScope s_weighed) .none kV_weighed dc_weighed pm_weighed an_weighed cd_weighed ct_weighed), sl_weighed⟩)
    (c_weighed : PySem.W.codeIn K cd_weighed "weighed" = true)
    (k_weighed : PySem.W.keepIn K (.ref f_weighed) = true)
    (a_read_ratio : PySem.W.nsIn K mainGlobals "read_ratio" = some (some (.ref f_read_ratio)))
    (l_read_ratio : K.lookup f_read_ratio = some ⟨oc_read_ratio, od_read_ratio, .func (PySem.W.fnOf "read_ratio" "read_ratio" (defArgs s_read_ratio) (defBody s_read_ratio) (defScope s_read_ratio) .none kV_read_ratio dc_read_ratio pm_read_ratio an_read_ratio cd_read_ratio ct_read_ratio), sl_read_ratio⟩)
    (c_read_ratio : PySem.W.codeIn K cd_read_ratio "read_ratio" = true)
    (k_read_ratio : PySem.W.keepIn K (.ref f_read_ratio) = true)
    (a_has_digits_only : PySem.W.nsIn K mainGlobals "has_digits_only" = some (some (.ref f_has_digits_only)))
    (l_has_digits_only : K.lookup f_has_digits_only = some ⟨oc_has_digits_only, od_has_digits_only, .func (PySem.W.fnOf "has_digits_only" "has_digits_only" (defArgs s_has_digits_only) (defBody s_has_digits_only) (defScope s_has_digits_only) .none kV_has_digits_only dc_has_digits_only pm_has_digits_only an_has_digits_only cd_has_digits_only ct_has_digits_only), sl_has_digits_only⟩)
    (c_has_digits_only : PySem.W.codeIn K cd_has_digits_only "has_digits_only" = true)
    (k_has_digits_only : PySem.W.keepIn K (.ref f_has_digits_only) = true)
    (a_numeral : PySem.W.nsIn K mainGlobals "numeral" = some (some (.ref f_numeral)))
    (l_numeral : K.lookup f_numeral = some ⟨oc_numeral, od_numeral, .func (PySem.W.fnOf "numeral" "numeral" (defArgs s_numeral) (defBody s_numeral) (defScope s_numeral) .none kV_numeral dc_numeral pm_numeral an_numeral cd_numeral ct_numeral), sl_numeral⟩)
    (c_numeral : PySem.W.codeIn K cd_numeral "numeral" = true)
    (k_numeral : PySem.W.keepIn K (.ref f_numeral) = true)
    (a_from_numeral : PySem.W.nsIn K mainGlobals "from_numeral" = some (some (.ref f_from_numeral)))
    (l_from_numeral : K.lookup f_from_numeral = some ⟨oc_from_numeral, od_from_numeral, .func (PySem.W.fnOf "from_numeral" "from_numeral" (defArgs s_from_numeral) (defBody s_from_numeral) (defScope s_from_numeral) .none kV_from_numeral dc_from_numeral pm_from_numeral an_from_numeral cd_from_numeral ct_from_numeral), sl_from_numeral⟩)
    (c_from_numeral : PySem.W.codeIn K cd_from_numeral "from_numeral" = true)
    (k_from_numeral : PySem.W.keepIn K (.ref f_from_numeral) = true)
    (a_Scale_init : PySem.W.findIn K (.ref C_Scale) "__init__" = some (some (.ref f_Scale_init)))
    (i_Scale_init : PySem.W.isFn K (.ref f_Scale_init) = true)
    (l_Scale_init : K.lookup f_Scale_init = some ⟨oc_Scale_init, od_Scale_init, .func (PySem.W.fnOf "__init__" "Scale.__init__" (defArgs s_Scale_init) (defBody s_Scale_init) (defScope s_Scale_init) .none kV_Scale_init dc_Scale_init pm_Scale_init an_Scale_init cd_Scale_init ct_Scale_init), sl_Scale_init⟩)
    (c_Scale_init : PySem.W.codeIn K cd_Scale_init "Scale.__init__" = true)
    (k_Scale_init : PySem.W.keepIn K (.ref f_Scale_init) = true)
    (a_Scale_len : PySem.W.findIn K (.ref C_Scale) "__len__" = some (some (.ref f_Scale_len)))
    (i_Scale_len : PySem.W.isFn K (.ref f_Scale_len) = true)
    (l_Scale_len : K.lookup f_Scale_len = some ⟨oc_Scale_len, od_Scale_len, .func (PySem.W.fnOf "__len__" "Scale.__len__" (defArgs s_Scale_len) (defBody s_Scale_len) (defScope s_Scale_len) .none kV_Scale_len dc_Scale_len pm_Scale_len an_Scale_len cd_Scale_len ct_Scale_len), sl_Scale_len⟩)
    (c_Scale_len : PySem.W.codeIn K cd_Scale_len "Scale.__len__" = true)
    (k_Scale_len : PySem.W.keepIn K (.ref f_Scale_len) = true)
    (a_Scale_eq : PySem.W.findIn K (.ref C_Scale) "__eq__" = some (some (.ref f_Scale_eq)))
    (i_Scale_eq : PySem.W.isFn K (.ref f_Scale_eq) = true)
    (l_Scale_eq : K.lookup f_Scale_eq = some ⟨oc_Scale_eq, od_Scale_eq, .func (PySem.W.fnOf "__eq__" "Scale.__eq__" (defArgs s_Scale_eq) (defBody s_Scale_eq) (defScope s_Scale_eq) .none kV_Scale_eq dc_Scale_eq pm_Scale_eq an_Scale_eq cd_Scale_eq ct_Scale_eq), sl_Scale_eq⟩)
    (c_Scale_eq : PySem.W.codeIn K cd_Scale_eq "Scale.__eq__" = true)
    (k_Scale_eq : PySem.W.keepIn K (.ref f_Scale_eq) = true)
    (a_Scale_marks : PySem.W.findIn K (.ref C_Scale) "marks" = some (some (.ref f_Scale_marks)))
    (i_Scale_marks : PySem.W.isFn K (.ref f_Scale_marks) = true)
    (l_Scale_marks : K.lookup f_Scale_marks = some ⟨oc_Scale_marks, od_Scale_marks, .func (PySem.W.fnOf "marks" "Scale.marks" (defArgs s_Scale_marks) (defBody s_Scale_marks) (defScope s_Scale_marks) .none kV_Scale_marks dc_Scale_marks pm_Scale_marks an_Scale_marks cd_Scale_marks ct_Scale_marks), sl_Scale_marks⟩)
    (c_Scale_marks : PySem.W.codeIn K cd_Scale_marks "Scale.marks" = true)
    (k_Scale_marks : PySem.W.keepIn K (.ref f_Scale_marks) = true)
    (a_Scale_place : PySem.W.findIn K (.ref C_Scale) "place" = some (some (.ref f_Scale_place)))
    (i_Scale_place : PySem.W.isFn K (.ref f_Scale_place) = true)
    (l_Scale_place : K.lookup f_Scale_place = some ⟨oc_Scale_place, od_Scale_place, .func (PySem.W.fnOf "place" "Scale.place" (defArgs s_Scale_place) (defBody s_Scale_place) (defScope s_Scale_place) .none kV_Scale_place dc_Scale_place pm_Scale_place an_Scale_place cd_Scale_place ct_Scale_place), sl_Scale_place⟩)
    (c_Scale_place : PySem.W.codeIn K cd_Scale_place "Scale.place" = true)
    (k_Scale_place : PySem.W.keepIn K (.ref f_Scale_place) = true)
    (a_Scale_text : PySem.W.findIn K (.ref C_Scale) "text" = some (some (.ref f_Scale_text)))
    (i_Scale_text : PySem.W.isFn K (.ref f_Scale_text) = true)
    (l_Scale_text : K.lookup f_Scale_text = some ⟨oc_Scale_text, od_Scale_text, .func (PySem.W.fnOf "text" "Scale.text" (defArgs s_Scale_text) (defBody s_Scale_text) (defScope s_Scale_text) .none kV_Scale_text dc_Scale_text pm_Scale_text an_Scale_text cd_Scale_text ct_Scale_text), sl_Scale_text⟩)
    (c_Scale_text : PySem.W.codeIn K cd_Scale_text "Scale.text" = true)
    (k_Scale_text : PySem.W.keepIn K (.ref f_Scale_text) = true)
    (a_insert_new : PySem.W.nsIn K mainGlobals "insert_new" = some (some (.ref f_insert_new)))
    (l_insert_new : K.lookup f_insert_new = some ⟨oc_insert_new, od_insert_new, .func (PySem.W.fnOf "insert_new" "insert_new" (defArgs s_insert_new) (defBody s_insert_new) (defScope s_insert_new) .none kV_insert_new dc_insert_new pm_insert_new an_insert_new cd_insert_new ct_insert_new), sl_insert_new⟩)
    (c_insert_new : PySem.W.codeIn K cd_insert_new "insert_new" = true)
    (k_insert_new : PySem.W.keepIn K (.ref f_insert_new) = true)
    (a_distinct : PySem.W.nsIn K mainGlobals "distinct" = some (some (.ref f_distinct)))
    (l_distinct : K.lookup f_distinct = some ⟨oc_distinct, od_distinct, .func (PySem.W.fnOf "distinct" "distinct" (defArgs s_distinct) (defBody s_distinct) (defScope s_distinct) .none kV_distinct dc_distinct pm_distinct an_distinct cd_distinct ct_distinct), sl_distinct⟩)
    (c_distinct : PySem.W.codeIn K cd_distinct "distinct" = true)
    (k_distinct : PySem.W.keepIn K (.ref f_distinct) = true)
    (a_climbs : PySem.W.nsIn K mainGlobals "climbs" = some (some (.ref f_climbs)))
    (l_climbs : K.lookup f_climbs = some ⟨oc_climbs, od_climbs, .func (PySem.W.fnOf "climbs" "climbs" (defArgs s_climbs) (defBody s_climbs) (defScope s_climbs) .none kV_climbs dc_climbs pm_climbs an_climbs cd_climbs ct_climbs), sl_climbs⟩)
    (c_climbs : PySem.W.codeIn K cd_climbs "climbs" = true)
    (k_climbs : PySem.W.keepIn K (.ref f_climbs) = true)
    (a_is_curve : PySem.W.nsIn K mainGlobals "is_curve" = some (some (.ref f_is_curve)))
    (l_is_curve : K.lookup f_is_curve = some ⟨oc_is_curve, od_is_curve, .func (PySem.W.fnOf "is_curve" "is_curve" (defArgs s_is_curve) (defBody s_is_curve) (defScope s_is_curve) .none kV_is_curve dc_is_curve pm_is_curve an_is_curve cd_is_curve ct_is_curve), sl_is_curve⟩)
    (c_is_curve : PySem.W.codeIn K cd_is_curve "is_curve" = true)
    (k_is_curve : PySem.W.keepIn K (.ref f_is_curve) = true)
    (a_are_shares : PySem.W.nsIn K mainGlobals "are_shares" = some (some (.ref f_are_shares)))
    (l_are_shares : K.lookup f_are_shares = some ⟨oc_are_shares, od_are_shares, .func (PySem.W.fnOf "are_shares" "are_shares" (defArgs s_are_shares) (defBody s_are_shares) (defScope s_are_shares) .none kV_are_shares dc_are_shares pm_are_shares an_are_shares cd_are_shares ct_are_shares), sl_are_shares⟩)
    (c_are_shares : PySem.W.codeIn K cd_are_shares "are_shares" = true)
    (k_are_shares : PySem.W.keepIn K (.ref f_are_shares) = true)
    (a_is_lot : PySem.W.nsIn K mainGlobals "is_lot" = some (some (.ref f_is_lot)))
    (l_is_lot : K.lookup f_is_lot = some ⟨oc_is_lot, od_is_lot, .func (PySem.W.fnOf "is_lot" "is_lot" (defArgs s_is_lot) (defBody s_is_lot) (defScope s_is_lot) .none kV_is_lot dc_is_lot pm_is_lot an_is_lot cd_is_lot ct_is_lot), sl_is_lot⟩)
    (c_is_lot : PySem.W.codeIn K cd_is_lot "is_lot" = true)
    (k_is_lot : PySem.W.keepIn K (.ref f_is_lot) = true)
    (a_check_lot : PySem.W.nsIn K mainGlobals "check_lot" = some (some (.ref f_check_lot)))
    (l_check_lot : K.lookup f_check_lot = some ⟨oc_check_lot, od_check_lot, .func (PySem.W.fnOf "check_lot" "check_lot" (defArgs s_check_lot) (defBody s_check_lot) (defScope s_check_lot) .none kV_check_lot dc_check_lot pm_check_lot an_check_lot cd_check_lot ct_check_lot), sl_check_lot⟩)
    (c_check_lot : PySem.W.codeIn K cd_check_lot "check_lot" = true)
    (k_check_lot : PySem.W.keepIn K (.ref f_check_lot) = true)
    (a_check_curve : PySem.W.nsIn K mainGlobals "check_curve" = some (some (.ref f_check_curve)))
    (l_check_curve : K.lookup f_check_curve = some ⟨oc_check_curve, od_check_curve, .func (PySem.W.fnOf "check_curve" "check_curve" (defArgs s_check_curve) (defBody s_check_curve) (defScope s_check_curve) .none kV_check_curve dc_check_curve pm_check_curve an_check_curve cd_check_curve ct_check_curve), sl_check_curve⟩)
    (c_check_curve : PySem.W.codeIn K cd_check_curve "check_curve" = true)
    (k_check_curve : PySem.W.keepIn K (.ref f_check_curve) = true)
    (a_mean : PySem.W.nsIn K mainGlobals "mean" = some (some (.ref f_mean)))
    (l_mean : K.lookup f_mean = some ⟨oc_mean, od_mean, .func (PySem.W.fnOf "mean" "mean" (defArgs s_mean) (defBody s_mean) (defScope s_mean) .none kV_mean dc_mean pm_mean an_mean cd_mean ct_mean), sl_mean⟩)
    (c_mean : PySem.W.codeIn K cd_mean "mean" = true)
    (k_mean : PySem.W.keepIn K (.ref f_mean) = true)
    (a_means_of : PySem.W.nsIn K mainGlobals "means_of" = some (some (.ref f_means_of)))
    (l_means_of : K.lookup f_means_of = some ⟨oc_means_of, od_means_of, .func (PySem.W.fnOf "means_of" "means_of" (defArgs s_means_of) (defBody s_means_of) (defScope s_means_of) .none kV_means_of dc_means_of pm_means_of an_means_of cd_means_of ct_means_of), sl_means_of⟩)
    (c_means_of : PySem.W.codeIn K cd_means_of "means_of" = true)
    (k_means_of : PySem.W.keepIn K (.ref f_means_of) = true)
    (a_uses : PySem.W.nsIn K mainGlobals "uses" = some (some (.ref f_uses)))
    (l_uses : K.lookup f_uses = some ⟨oc_uses, od_uses, .func (PySem.W.fnOf "uses" "uses" (defArgs s_uses) (defBody s_uses) (defScope s_uses) .none kV_uses dc_uses pm_uses an_uses cd_uses ct_uses), sl_uses⟩)
    (c_uses : PySem.W.codeIn K cd_uses "uses" = true)
    (k_uses : PySem.W.keepIn K (.ref f_uses) = true)
    (a_Ltape : PySem.W.nsIn K mainGlobals "_law_tape" = some (some (.ref f_Ltape)))
    (l_Ltape : K.lookup f_Ltape = some ⟨oc_Ltape, od_Ltape, .func (PySem.W.fnOf "_law_tape" "_law_tape" (defArgs s_Ltape) (defBody s_Ltape) (defScope s_Ltape) .none kV_Ltape dc_Ltape pm_Ltape an_Ltape cd_Ltape ct_Ltape), sl_Ltape⟩)
    (c_Ltape : PySem.W.codeIn K cd_Ltape "_law_tape" = true)
    (k_Ltape : PySem.W.keepIn K (.ref f_Ltape) = true)
    (a_Lpick : PySem.W.nsIn K mainGlobals "_law_pick" = some (some (.ref f_Lpick)))
    (l_Lpick : K.lookup f_Lpick = some ⟨oc_Lpick, od_Lpick, .func (PySem.W.fnOf "_law_pick" "_law_pick" (defArgs s_Lpick) (defBody s_Lpick) (defScope s_Lpick) .none kV_Lpick dc_Lpick pm_Lpick an_Lpick cd_Lpick ct_Lpick), sl_Lpick⟩)
    (c_Lpick : PySem.W.codeIn K cd_Lpick "_law_pick" = true)
    (k_Lpick : PySem.W.keepIn K (.ref f_Lpick) = true)
    (a_Lmixed : PySem.W.nsIn K mainGlobals "_law_mixed" = some (some (.ref f_Lmixed)))
    (l_Lmixed : K.lookup f_Lmixed = some ⟨oc_Lmixed, od_Lmixed, .func (PySem.W.fnOf "_law_mixed" "_law_mixed" (defArgs s_Lmixed) (defBody s_Lmixed) (defScope s_Lmixed) .none kV_Lmixed dc_Lmixed pm_Lmixed an_Lmixed cd_Lmixed ct_Lmixed), sl_Lmixed⟩)
    (c_Lmixed : PySem.W.codeIn K cd_Lmixed "_law_mixed" = true)
    (k_Lmixed : PySem.W.keepIn K (.ref f_Lmixed) = true)
    (a_Lshown : PySem.W.nsIn K mainGlobals "_law_shown" = some (some (.ref f_Lshown)))
    (l_Lshown : K.lookup f_Lshown = some ⟨oc_Lshown, od_Lshown, .func (PySem.W.fnOf "_law_shown" "_law_shown" (defArgs s_Lshown) (defBody s_Lshown) (defScope s_Lshown) .none kV_Lshown dc_Lshown pm_Lshown an_Lshown cd_Lshown ct_Lshown), sl_Lshown⟩)
    (c_Lshown : PySem.W.codeIn K cd_Lshown "_law_shown" = true)
    (k_Lshown : PySem.W.keepIn K (.ref f_Lshown) = true)
    (a_Lvalues : PySem.W.nsIn K mainGlobals "_law_values" = some (some (.ref f_Lvalues)))
    (l_Lvalues : K.lookup f_Lvalues = some ⟨oc_Lvalues, od_Lvalues, .func (PySem.W.fnOf "_law_values" "_law_values" (defArgs s_Lvalues) (defBody s_Lvalues) (defScope s_Lvalues) .none kV_Lvalues dc_Lvalues pm_Lvalues an_Lvalues cd_Lvalues ct_Lvalues), sl_Lvalues⟩)
    (c_Lvalues : PySem.W.codeIn K cd_Lvalues "_law_values" = true)
    (k_Lvalues : PySem.W.keepIn K (.ref f_Lvalues) = true)
    (a_Lmade : PySem.W.nsIn K mainGlobals "_law_made" = some (some (.ref f_Lmade)))
    (l_Lmade : K.lookup f_Lmade = some ⟨oc_Lmade, od_Lmade, .func (PySem.W.fnOf "_law_made" "_law_made" (defArgs s_Lmade) (defBody s_Lmade) (defScope s_Lmade) .none kV_Lmade dc_Lmade pm_Lmade an_Lmade cd_Lmade ct_Lmade), sl_Lmade⟩)
    (c_Lmade : PySem.W.codeIn K cd_Lmade "_law_made" = true)
    (k_Lmade : PySem.W.keepIn K (.ref f_Lmade) = true)
    (a_Llot : PySem.W.nsIn K mainGlobals "_law_lot" = some (some (.ref f_Llot)))
    (l_Llot : K.lookup f_Llot = some ⟨oc_Llot, od_Llot, .func (PySem.W.fnOf "_law_lot" "_law_lot" (defArgs s_Llot) (defBody s_Llot) (defScope s_Llot) .none kV_Llot dc_Llot pm_Llot an_Llot cd_Llot ct_Llot), sl_Llot⟩)
    (c_Llot : PySem.W.codeIn K cd_Llot "_law_lot" = true)
    (k_Llot : PySem.W.keepIn K (.ref f_Llot) = true)
    (a_Lcurve : PySem.W.nsIn K mainGlobals "_law_curve" = some (some (.ref f_Lcurve)))
    (l_Lcurve : K.lookup f_Lcurve = some ⟨oc_Lcurve, od_Lcurve, .func (PySem.W.fnOf "_law_curve" "_law_curve" (defArgs s_Lcurve) (defBody s_Lcurve) (defScope s_Lcurve) .none kV_Lcurve dc_Lcurve pm_Lcurve an_Lcurve cd_Lcurve ct_Lcurve), sl_Lcurve⟩)
    (c_Lcurve : PySem.W.codeIn K cd_Lcurve "_law_curve" = true)
    (k_Lcurve : PySem.W.keepIn K (.ref f_Lcurve) = true)
    (a_Lpower : PySem.W.nsIn K mainGlobals "_law_power" = some (some (.ref f_Lpower)))
    (l_Lpower : K.lookup f_Lpower = some ⟨oc_Lpower, od_Lpower, .func (PySem.W.fnOf "_law_power" "_law_power" (defArgs s_Lpower) (defBody s_Lpower) (defScope s_Lpower) .none kV_Lpower dc_Lpower pm_Lpower an_Lpower cd_Lpower ct_Lpower), sl_Lpower⟩)
    (c_Lpower : PySem.W.codeIn K cd_Lpower "_law_power" = true)
    (k_Lpower : PySem.W.keepIn K (.ref f_Lpower) = true)
    (a_Lmean : PySem.W.nsIn K mainGlobals "_law_mean" = some (some (.ref f_Lmean)))
    (l_Lmean : K.lookup f_Lmean = some ⟨oc_Lmean, od_Lmean, .func (PySem.W.fnOf "_law_mean" "_law_mean" (defArgs s_Lmean) (defBody s_Lmean) (defScope s_Lmean) .none kV_Lmean dc_Lmean pm_Lmean an_Lmean cd_Lmean ct_Lmean), sl_Lmean⟩)
    (c_Lmean : PySem.W.codeIn K cd_Lmean "_law_mean" = true)
    (k_Lmean : PySem.W.keepIn K (.ref f_Lmean) = true)
    (a_Lmeans : PySem.W.nsIn K mainGlobals "_law_means" = some (some (.ref f_Lmeans)))
    (l_Lmeans : K.lookup f_Lmeans = some ⟨oc_Lmeans, od_Lmeans, .func (PySem.W.fnOf "_law_means" "_law_means" (defArgs s_Lmeans) (defBody s_Lmeans) (defScope s_Lmeans) .none kV_Lmeans dc_Lmeans pm_Lmeans an_Lmeans cd_Lmeans ct_Lmeans), sl_Lmeans⟩)
    (c_Lmeans : PySem.W.codeIn K cd_Lmeans "_law_means" = true)
    (k_Lmeans : PySem.W.keepIn K (.ref f_Lmeans) = true)
    (a_Lgiven : PySem.W.nsIn K mainGlobals "_law_given" = some (some (.ref f_Lgiven)))
    (l_Lgiven : K.lookup f_Lgiven = some ⟨oc_Lgiven, od_Lgiven, .func (PySem.W.fnOf "_law_given" "_law_given" (defArgs s_Lgiven) (defBody s_Lgiven) (defScope s_Lgiven) .none kV_Lgiven dc_Lgiven pm_Lgiven an_Lgiven cd_Lgiven ct_Lgiven), sl_Lgiven⟩)
    (c_Lgiven : PySem.W.codeIn K cd_Lgiven "_law_given" = true)
    (k_Lgiven : PySem.W.keepIn K (.ref f_Lgiven) = true)
    (a_Lis_numbers : PySem.W.nsIn K mainGlobals "_law_is_numbers" = some (some (.ref f_Lis_numbers)))
    (l_Lis_numbers : K.lookup f_Lis_numbers = some ⟨oc_Lis_numbers, od_Lis_numbers, .func (PySem.W.fnOf "_law_is_numbers" "_law_is_numbers" (defArgs s_Lis_numbers) (defBody s_Lis_numbers) (defScope s_Lis_numbers) .none kV_Lis_numbers dc_Lis_numbers pm_Lis_numbers an_Lis_numbers cd_Lis_numbers ct_Lis_numbers), sl_Lis_numbers⟩)
    (c_Lis_numbers : PySem.W.codeIn K cd_Lis_numbers "_law_is_numbers" = true)
    (k_Lis_numbers : PySem.W.keepIn K (.ref f_Lis_numbers) = true)
    (a_Lis_lot : PySem.W.nsIn K mainGlobals "_law_is_lot" = some (some (.ref f_Lis_lot)))
    (l_Lis_lot : K.lookup f_Lis_lot = some ⟨oc_Lis_lot, od_Lis_lot, .func (PySem.W.fnOf "_law_is_lot" "_law_is_lot" (defArgs s_Lis_lot) (defBody s_Lis_lot) (defScope s_Lis_lot) .none kV_Lis_lot dc_Lis_lot pm_Lis_lot an_Lis_lot cd_Lis_lot ct_Lis_lot), sl_Lis_lot⟩)
    (c_Lis_lot : PySem.W.codeIn K cd_Lis_lot "_law_is_lot" = true)
    (k_Lis_lot : PySem.W.keepIn K (.ref f_Lis_lot) = true)
    (a_Lnear : PySem.W.nsIn K mainGlobals "_law_near" = some (some (.ref f_Lnear)))
    (l_Lnear : K.lookup f_Lnear = some ⟨oc_Lnear, od_Lnear, .func (PySem.W.fnOf "_law_near" "_law_near" (defArgs s_Lnear) (defBody s_Lnear) (defScope s_Lnear) .none kV_Lnear dc_Lnear pm_Lnear an_Lnear cd_Lnear ct_Lnear), sl_Lnear⟩)
    (c_Lnear : PySem.W.codeIn K cd_Lnear "_law_near" = true)
    (k_Lnear : PySem.W.keepIn K (.ref f_Lnear) = true)
    (a_Lasked : PySem.W.nsIn K mainGlobals "_law_asked" = some (some (.ref f_Lasked)))
    (l_Lasked : K.lookup f_Lasked = some ⟨oc_Lasked, od_Lasked, .func (PySem.W.fnOf "_law_asked" "_law_asked" (defArgs s_Lasked) (defBody s_Lasked) (defScope s_Lasked) .none kV_Lasked dc_Lasked pm_Lasked an_Lasked cd_Lasked ct_Lasked), sl_Lasked⟩)
    (c_Lasked : PySem.W.codeIn K cd_Lasked "_law_asked" = true)
    (k_Lasked : PySem.W.keepIn K (.ref f_Lasked) = true)
    (a_Lright : PySem.W.nsIn K mainGlobals "_law_right" = some (some (.ref f_Lright)))
    (l_Lright : K.lookup f_Lright = some ⟨oc_Lright, od_Lright, .func (PySem.W.fnOf "_law_right" "_law_right" (defArgs s_Lright) (defBody s_Lright) (defScope s_Lright) .none kV_Lright dc_Lright pm_Lright an_Lright cd_Lright ct_Lright), sl_Lright⟩)
    (c_Lright : PySem.W.codeIn K cd_Lright "_law_right" = true)
    (k_Lright : PySem.W.keepIn K (.ref f_Lright) = true)
    (a_law : PySem.W.nsIn K mainGlobals "law" = some (some (.ref f_law)))
    (l_law : K.lookup f_law = some ⟨oc_law, od_law, .func (PySem.W.fnOf "law" "law" (defArgs s_law) (defBody s_law) (defScope s_law) .none kV_law dc_law pm_law an_law cd_law ct_law), sl_law⟩)
    (c_law : PySem.W.codeIn K cd_law "law" = true)
    (k_law : PySem.W.keepIn K (.ref f_law) = true)
    (xex_ByZero : PySem.W.excIn K C_ByZero [.type "ValueError", .type "Exception", .type "BaseException", .type "object"] "ValueError.__new__" = true)
    (xkp_ByZero : PySem.W.keepIn K (.ref C_ByZero) = true)
    (xbx_ByZero : PySem.W.subIn K (.ref C_ByZero) (.type "BaseException") = some true)
    (xty_ByZero : PySem.W.typeIn K (.ref C_ByZero) = some (.type "type"))
    (xcls_ByZero : PySem.W.isClsIn K C_ByZero = true)
    (xsub_ByZero : PySem.W.subIn K (.ref C_ByZero) (.ref C_ByZero) = some true)
    (xex_BadText : PySem.W.excIn K C_BadText [.type "ValueError", .type "Exception", .type "BaseException", .type "object"] "ValueError.__new__" = true)
    (xkp_BadText : PySem.W.keepIn K (.ref C_BadText) = true)
    (xbx_BadText : PySem.W.subIn K (.ref C_BadText) (.type "BaseException") = some true)
    (xty_BadText : PySem.W.typeIn K (.ref C_BadText) = some (.type "type"))
    (xcls_BadText : PySem.W.isClsIn K C_BadText = true)
    (xsub_BadText : PySem.W.subIn K (.ref C_BadText) (.ref C_BadText) = some true)
    (olk_BadNumber : K.lookup C_BadNumber = some (excClassObj onm_BadNumber oq_BadNumber C_BadNumber oN_BadNumber obs_BadNumber obm_BadNumber true osn_BadNumber osub_BadNumber oab_BadNumber ocol_BadNumber odd_BadNumber om0_BadNumber om1_BadNumber om2_BadNumber om3_BadNumber om5_BadNumber "ValueError.__new__"))
    (orv_BadNumber : PySem.HandSPX.refsVE obm_BadNumber = true)
    (osa_BadNumber : PySem.W.findIn K (.ref C_BadNumber) "__setattr__" = some (some (.builtin "object.__setattr__")))
    (oex_BadNumber : PySem.W.subIn K (.ref C_BadNumber) (.type "BaseException") = some true)
    (oty_BadNumber : PySem.W.typeIn K (.ref C_BadNumber) = some (.type "type"))
    (okp_BadNumber : PySem.W.keepIn K (.ref C_BadNumber) = true)
    (oti_BadNumber : PySem.W.typeIn K (.ref f_BadNumber_init) = some (.type "function"))
    (oga_BadNumber : PySem.W.findIn K (.ref C_BadNumber) "__getattribute__" = some (some (.builtin "BaseException.__getattribute__")))
    (ogg_BadNumber : PySem.W.findIn K (.ref C_BadNumber) "__getattr__" = some none)
    (ohd_BadNumber : PySem.W.hasDictIn K C_BadNumber = true)
    (ois_BadNumber : PySem.W.isClsIn K C_BadNumber = true)
    (oss_BadNumber : PySem.W.subIn K (.ref C_BadNumber) (.ref C_BadNumber) = some true)
    (oxa_BadNumber_given : PySem.W.findIn K (.ref C_BadNumber) "given" = some none)
    (oso_BadNumber_ByZero : PySem.W.subIn K (.ref C_BadNumber) (.ref C_ByZero) = some false)
    (oso_BadNumber_BadText : PySem.W.subIn K (.ref C_BadNumber) (.ref C_BadText) = some false)
    (oso_BadNumber_BadValues : PySem.W.subIn K (.ref C_BadNumber) (.ref C_BadValues) = some false)
    (oso_BadNumber_NoValue : PySem.W.subIn K (.ref C_BadNumber) (.ref C_NoValue) = some false)
    (oso_BadNumber_BadLot : PySem.W.subIn K (.ref C_BadNumber) (.ref C_BadLot) = some false)
    (oso_BadNumber_BadCurve : PySem.W.subIn K (.ref C_BadNumber) (.ref C_BadCurve) = some false)
    (oso_BadNumber_BadCount : PySem.W.subIn K (.ref C_BadNumber) (.ref C_BadCount) = some false)
    (olk_BadValues : K.lookup C_BadValues = some (excClassObj onm_BadValues oq_BadValues C_BadValues oN_BadValues obs_BadValues obm_BadValues true osn_BadValues osub_BadValues oab_BadValues ocol_BadValues odd_BadValues om0_BadValues om1_BadValues om2_BadValues om3_BadValues om5_BadValues "ValueError.__new__"))
    (orv_BadValues : PySem.HandSPX.refsVE obm_BadValues = true)
    (osa_BadValues : PySem.W.findIn K (.ref C_BadValues) "__setattr__" = some (some (.builtin "object.__setattr__")))
    (oex_BadValues : PySem.W.subIn K (.ref C_BadValues) (.type "BaseException") = some true)
    (oty_BadValues : PySem.W.typeIn K (.ref C_BadValues) = some (.type "type"))
    (okp_BadValues : PySem.W.keepIn K (.ref C_BadValues) = true)
    (oti_BadValues : PySem.W.typeIn K (.ref f_BadValues_init) = some (.type "function"))
    (oga_BadValues : PySem.W.findIn K (.ref C_BadValues) "__getattribute__" = some (some (.builtin "BaseException.__getattribute__")))
    (ogg_BadValues : PySem.W.findIn K (.ref C_BadValues) "__getattr__" = some none)
    (ohd_BadValues : PySem.W.hasDictIn K C_BadValues = true)
    (ois_BadValues : PySem.W.isClsIn K C_BadValues = true)
    (oss_BadValues : PySem.W.subIn K (.ref C_BadValues) (.ref C_BadValues) = some true)
    (oxa_BadValues_given : PySem.W.findIn K (.ref C_BadValues) "given" = some none)
    (oso_BadValues_ByZero : PySem.W.subIn K (.ref C_BadValues) (.ref C_ByZero) = some false)
    (oso_BadValues_BadText : PySem.W.subIn K (.ref C_BadValues) (.ref C_BadText) = some false)
    (oso_BadValues_BadNumber : PySem.W.subIn K (.ref C_BadValues) (.ref C_BadNumber) = some false)
    (oso_BadValues_NoValue : PySem.W.subIn K (.ref C_BadValues) (.ref C_NoValue) = some false)
    (oso_BadValues_BadLot : PySem.W.subIn K (.ref C_BadValues) (.ref C_BadLot) = some false)
    (oso_BadValues_BadCurve : PySem.W.subIn K (.ref C_BadValues) (.ref C_BadCurve) = some false)
    (oso_BadValues_BadCount : PySem.W.subIn K (.ref C_BadValues) (.ref C_BadCount) = some false)
    (olk_NoValue : K.lookup C_NoValue = some (excClassObj onm_NoValue oq_NoValue C_NoValue oN_NoValue obs_NoValue obm_NoValue true osn_NoValue osub_NoValue oab_NoValue ocol_NoValue odd_NoValue om0_NoValue om1_NoValue om2_NoValue om3_NoValue om5_NoValue "ValueError.__new__"))
    (orv_NoValue : PySem.HandSPX.refsVE obm_NoValue = true)
    (osa_NoValue : PySem.W.findIn K (.ref C_NoValue) "__setattr__" = some (some (.builtin "object.__setattr__")))
    (oex_NoValue : PySem.W.subIn K (.ref C_NoValue) (.type "BaseException") = some true)
    (oty_NoValue : PySem.W.typeIn K (.ref C_NoValue) = some (.type "type"))
    (okp_NoValue : PySem.W.keepIn K (.ref C_NoValue) = true)
    (oti_NoValue : PySem.W.typeIn K (.ref f_NoValue_init) = some (.type "function"))
    (oga_NoValue : PySem.W.findIn K (.ref C_NoValue) "__getattribute__" = some (some (.builtin "BaseException.__getattribute__")))
    (ogg_NoValue : PySem.W.findIn K (.ref C_NoValue) "__getattr__" = some none)
    (ohd_NoValue : PySem.W.hasDictIn K C_NoValue = true)
    (ois_NoValue : PySem.W.isClsIn K C_NoValue = true)
    (oss_NoValue : PySem.W.subIn K (.ref C_NoValue) (.ref C_NoValue) = some true)
    (oxa_NoValue_given : PySem.W.findIn K (.ref C_NoValue) "given" = some none)
    (oso_NoValue_ByZero : PySem.W.subIn K (.ref C_NoValue) (.ref C_ByZero) = some false)
    (oso_NoValue_BadText : PySem.W.subIn K (.ref C_NoValue) (.ref C_BadText) = some false)
    (oso_NoValue_BadNumber : PySem.W.subIn K (.ref C_NoValue) (.ref C_BadNumber) = some false)
    (oso_NoValue_BadValues : PySem.W.subIn K (.ref C_NoValue) (.ref C_BadValues) = some false)
    (oso_NoValue_BadLot : PySem.W.subIn K (.ref C_NoValue) (.ref C_BadLot) = some false)
    (oso_NoValue_BadCurve : PySem.W.subIn K (.ref C_NoValue) (.ref C_BadCurve) = some false)
    (oso_NoValue_BadCount : PySem.W.subIn K (.ref C_NoValue) (.ref C_BadCount) = some false)
    (olk_BadLot : K.lookup C_BadLot = some (excClassObj onm_BadLot oq_BadLot C_BadLot oN_BadLot obs_BadLot obm_BadLot true osn_BadLot osub_BadLot oab_BadLot ocol_BadLot odd_BadLot om0_BadLot om1_BadLot om2_BadLot om3_BadLot om5_BadLot "ValueError.__new__"))
    (orv_BadLot : PySem.HandSPX.refsVE obm_BadLot = true)
    (osa_BadLot : PySem.W.findIn K (.ref C_BadLot) "__setattr__" = some (some (.builtin "object.__setattr__")))
    (oex_BadLot : PySem.W.subIn K (.ref C_BadLot) (.type "BaseException") = some true)
    (oty_BadLot : PySem.W.typeIn K (.ref C_BadLot) = some (.type "type"))
    (okp_BadLot : PySem.W.keepIn K (.ref C_BadLot) = true)
    (oti_BadLot : PySem.W.typeIn K (.ref f_BadLot_init) = some (.type "function"))
    (oga_BadLot : PySem.W.findIn K (.ref C_BadLot) "__getattribute__" = some (some (.builtin "BaseException.__getattribute__")))
    (ogg_BadLot : PySem.W.findIn K (.ref C_BadLot) "__getattr__" = some none)
    (ohd_BadLot : PySem.W.hasDictIn K C_BadLot = true)
    (ois_BadLot : PySem.W.isClsIn K C_BadLot = true)
    (oss_BadLot : PySem.W.subIn K (.ref C_BadLot) (.ref C_BadLot) = some true)
    (oxa_BadLot_given : PySem.W.findIn K (.ref C_BadLot) "given" = some none)
    (oso_BadLot_ByZero : PySem.W.subIn K (.ref C_BadLot) (.ref C_ByZero) = some false)
    (oso_BadLot_BadText : PySem.W.subIn K (.ref C_BadLot) (.ref C_BadText) = some false)
    (oso_BadLot_BadNumber : PySem.W.subIn K (.ref C_BadLot) (.ref C_BadNumber) = some false)
    (oso_BadLot_BadValues : PySem.W.subIn K (.ref C_BadLot) (.ref C_BadValues) = some false)
    (oso_BadLot_NoValue : PySem.W.subIn K (.ref C_BadLot) (.ref C_NoValue) = some false)
    (oso_BadLot_BadCurve : PySem.W.subIn K (.ref C_BadLot) (.ref C_BadCurve) = some false)
    (oso_BadLot_BadCount : PySem.W.subIn K (.ref C_BadLot) (.ref C_BadCount) = some false)
    (olk_BadCurve : K.lookup C_BadCurve = some (excClassObj onm_BadCurve oq_BadCurve C_BadCurve oN_BadCurve obs_BadCurve obm_BadCurve true osn_BadCurve osub_BadCurve oab_BadCurve ocol_BadCurve odd_BadCurve om0_BadCurve om1_BadCurve om2_BadCurve om3_BadCurve om5_BadCurve "ValueError.__new__"))
    (orv_BadCurve : PySem.HandSPX.refsVE obm_BadCurve = true)
    (osa_BadCurve : PySem.W.findIn K (.ref C_BadCurve) "__setattr__" = some (some (.builtin "object.__setattr__")))
    (oex_BadCurve : PySem.W.subIn K (.ref C_BadCurve) (.type "BaseException") = some true)
    (oty_BadCurve : PySem.W.typeIn K (.ref C_BadCurve) = some (.type "type"))
    (okp_BadCurve : PySem.W.keepIn K (.ref C_BadCurve) = true)
    (oti_BadCurve : PySem.W.typeIn K (.ref f_BadCurve_init) = some (.type "function"))
    (oga_BadCurve : PySem.W.findIn K (.ref C_BadCurve) "__getattribute__" = some (some (.builtin "BaseException.__getattribute__")))
    (ogg_BadCurve : PySem.W.findIn K (.ref C_BadCurve) "__getattr__" = some none)
    (ohd_BadCurve : PySem.W.hasDictIn K C_BadCurve = true)
    (ois_BadCurve : PySem.W.isClsIn K C_BadCurve = true)
    (oss_BadCurve : PySem.W.subIn K (.ref C_BadCurve) (.ref C_BadCurve) = some true)
    (oxa_BadCurve_given : PySem.W.findIn K (.ref C_BadCurve) "given" = some none)
    (oso_BadCurve_ByZero : PySem.W.subIn K (.ref C_BadCurve) (.ref C_ByZero) = some false)
    (oso_BadCurve_BadText : PySem.W.subIn K (.ref C_BadCurve) (.ref C_BadText) = some false)
    (oso_BadCurve_BadNumber : PySem.W.subIn K (.ref C_BadCurve) (.ref C_BadNumber) = some false)
    (oso_BadCurve_BadValues : PySem.W.subIn K (.ref C_BadCurve) (.ref C_BadValues) = some false)
    (oso_BadCurve_NoValue : PySem.W.subIn K (.ref C_BadCurve) (.ref C_NoValue) = some false)
    (oso_BadCurve_BadLot : PySem.W.subIn K (.ref C_BadCurve) (.ref C_BadLot) = some false)
    (oso_BadCurve_BadCount : PySem.W.subIn K (.ref C_BadCurve) (.ref C_BadCount) = some false)
    (olk_BadCount : K.lookup C_BadCount = some (excClassObj onm_BadCount oq_BadCount C_BadCount oN_BadCount obs_BadCount obm_BadCount true osn_BadCount osub_BadCount oab_BadCount ocol_BadCount odd_BadCount om0_BadCount om1_BadCount om2_BadCount om3_BadCount om5_BadCount "ValueError.__new__"))
    (orv_BadCount : PySem.HandSPX.refsVE obm_BadCount = true)
    (osa_BadCount : PySem.W.findIn K (.ref C_BadCount) "__setattr__" = some (some (.builtin "object.__setattr__")))
    (oex_BadCount : PySem.W.subIn K (.ref C_BadCount) (.type "BaseException") = some true)
    (oty_BadCount : PySem.W.typeIn K (.ref C_BadCount) = some (.type "type"))
    (okp_BadCount : PySem.W.keepIn K (.ref C_BadCount) = true)
    (oti_BadCount : PySem.W.typeIn K (.ref f_BadCount_init) = some (.type "function"))
    (oga_BadCount : PySem.W.findIn K (.ref C_BadCount) "__getattribute__" = some (some (.builtin "BaseException.__getattribute__")))
    (ogg_BadCount : PySem.W.findIn K (.ref C_BadCount) "__getattr__" = some none)
    (ohd_BadCount : PySem.W.hasDictIn K C_BadCount = true)
    (ois_BadCount : PySem.W.isClsIn K C_BadCount = true)
    (oss_BadCount : PySem.W.subIn K (.ref C_BadCount) (.ref C_BadCount) = some true)
    (oxa_BadCount_given : PySem.W.findIn K (.ref C_BadCount) "given" = some none)
    (oso_BadCount_ByZero : PySem.W.subIn K (.ref C_BadCount) (.ref C_ByZero) = some false)
    (oso_BadCount_BadText : PySem.W.subIn K (.ref C_BadCount) (.ref C_BadText) = some false)
    (oso_BadCount_BadNumber : PySem.W.subIn K (.ref C_BadCount) (.ref C_BadNumber) = some false)
    (oso_BadCount_BadValues : PySem.W.subIn K (.ref C_BadCount) (.ref C_BadValues) = some false)
    (oso_BadCount_NoValue : PySem.W.subIn K (.ref C_BadCount) (.ref C_NoValue) = some false)
    (oso_BadCount_BadLot : PySem.W.subIn K (.ref C_BadCount) (.ref C_BadLot) = some false)
    (oso_BadCount_BadCurve : PySem.W.subIn K (.ref C_BadCount) (.ref C_BadCurve) = some false)
    (z_abs : PySem.W.nsIn K mainGlobals "abs" = some none)
    (z_all : PySem.W.nsIn K mainGlobals "all" = some none)
    (z_bool : PySem.W.nsIn K mainGlobals "bool" = some none)
    (z_dict : PySem.W.nsIn K mainGlobals "dict" = some none)
    (z_divmod : PySem.W.nsIn K mainGlobals "divmod" = some none)
    (z_enumerate : PySem.W.nsIn K mainGlobals "enumerate" = some none)
    (z_int : PySem.W.nsIn K mainGlobals "int" = some none)
    (z_isinstance : PySem.W.nsIn K mainGlobals "isinstance" = some none)
    (z_len : PySem.W.nsIn K mainGlobals "len" = some none)
    (z_list : PySem.W.nsIn K mainGlobals "list" = some none)
    (z_max : PySem.W.nsIn K mainGlobals "max" = some none)
    (z_min : PySem.W.nsIn K mainGlobals "min" = some none)
    (z_range : PySem.W.nsIn K mainGlobals "range" = some none)
    (z_repr : PySem.W.nsIn K mainGlobals "repr" = some none)
    (z_str : PySem.W.nsIn K mainGlobals "str" = some none)
    (z_sum : PySem.W.nsIn K mainGlobals "sum" = some none)
    (z_tuple : PySem.W.nsIn K mainGlobals "tuple" = some none)
    (z_zip : PySem.W.nsIn K mainGlobals "zip" = some none)
    (ac_MOST_VALUES : PySem.W.nsIn K mainGlobals "MOST_VALUES" = some (some (.int 8 tkc_MOST_VALUES)))
    (ac_MOST_POWERS : PySem.W.nsIn K mainGlobals "MOST_POWERS" = some (some (.int 8 tkc_MOST_POWERS)))
    (r_gcd : PySem.W.nsIn K mainGlobals "gcd" = some (some (.builtin "math.gcd")))
    (r_pg : PySem.W.plainGet K C_Ratio Str.empty = true)
    (r_hd : PySem.W.hasDictIn K C_Ratio = true)
    (r_po : PySem.W.plainOver K C_Ratio = true)
    (r_sa : PySem.W.findIn K (.ref C_Ratio) "__setattr__" = some (some (.builtin "object.__setattr__")))
    (r_nT : PySem.W.findIn K (.ref C_Ratio) "top" = some none)
    (r_nB : PySem.W.findIn K (.ref C_Ratio) "bottom" = some none)
    (r_ha : PySem.W.findIn K (.ref C_Ratio) "__class__" = some (some (.builtin "object.__class__")))
    (r_hn : PySem.W.specialIn K (.builtin "object.__class__") "__get__" = some (some (.builtin "getset_descriptor.__get__")))
    (r_htk : PySem.W.takesIn K (.builtin "object.__class__") = some true)
    (r_hm : PySem.W.mroIn K C_Ratio (.type "object") = some true)
    (r_si : PySem.W.subIn K (.ref C_Ratio) (.type "int") = some false)
    (r_own : PySem.W.isClsIn K C_Ratio = true)
    (r_ty : PySem.W.typeIn K (.ref C_Ratio) = some (.type "type"))
    (r_mk : PySem.W.makesIn K C_Ratio = true)
    (r_kp : PySem.W.keepIn K (.ref C_Ratio) = true)
    (r_sf : PySem.W.selfFirst K C_Ratio = true)
    (r_sub : PySem.W.subIn K (.type "int") (.ref C_Ratio) = some false)
    (r_ne : PySem.W.findIn K (.ref C_Ratio) "__ne__" = some (some (.builtin "object.__ne__")))
    (r_ob : PySem.W.subIn K (.ref C_Ratio) (.type "object") = some true)
    (r_nbool : PySem.W.subIn K (.type "bool") (.ref C_Ratio) = some false)
    (r_nNoneType : PySem.W.subIn K (.type "NoneType") (.ref C_Ratio) = some false)
    (r_nstr : PySem.W.subIn K (.type "str") (.ref C_Ratio) = some false)
    (r_nlist : PySem.W.subIn K (.type "list") (.ref C_Ratio) = some false)
    (r_ntuple : PySem.W.subIn K (.type "tuple") (.ref C_Ratio) = some false)
    (r_ndict : PySem.W.subIn K (.type "dict") (.ref C_Ratio) = some false)
    (r_radd : PySem.W.findIn K (.ref C_Ratio) "__radd__" = some none)
    (r_iadd : PySem.W.findIn K (.type "int") "__add__" = some vo_add)
    (r_jadd : PySem.W.findIn K (.type "int") "__radd__" = some vr_add)
    (r_rsub : PySem.W.findIn K (.ref C_Ratio) "__rsub__" = some none)
    (r_isub : PySem.W.findIn K (.type "int") "__sub__" = some vo_sub)
    (r_jsub : PySem.W.findIn K (.type "int") "__rsub__" = some vr_sub)
    (r_rmul : PySem.W.findIn K (.ref C_Ratio) "__rmul__" = some none)
    (r_imul : PySem.W.findIn K (.type "int") "__mul__" = some vo_mul)
    (r_jmul : PySem.W.findIn K (.type "int") "__rmul__" = some vr_mul)
    (s_pg : PySem.W.plainGet K C_Scale Str.empty = true)
    (s_hd : PySem.W.hasDictIn K C_Scale = true)
    (s_po : PySem.W.plainOver K C_Scale = true)
    (s_sa : PySem.W.findIn K (.ref C_Scale) "__setattr__" = some (some (.builtin "object.__setattr__")))
    (s_nM : PySem.W.findIn K (.ref C_Scale) "_marks" = some none)
    (s_ha : PySem.W.findIn K (.ref C_Scale) "__class__" = some (some (.builtin "object.__class__")))
    (s_hm : PySem.W.mroIn K C_Scale (.type "object") = some true)
    (s_own : PySem.W.isClsIn K C_Scale = true)
    (s_ty : PySem.W.typeIn K (.ref C_Scale) = some (.type "type"))
    (s_rat : PySem.W.subIn K (.ref C_Ratio) (.ref C_Scale) = some false)
    (s_mk : PySem.W.makesIn K C_Scale = true)
    (s_kp : PySem.W.keepIn K (.ref C_Scale) = true)
    (s_ne : PySem.W.findIn K (.ref C_Scale) "__ne__" = some (some (.builtin "object.__ne__")))
    (s_ob : PySem.W.subIn K (.ref C_Scale) (.type "object") = some true)
    (s_nm : PySem.W.findIn K (.ref C_Ratio) "marks" = some none)
    (s_rl : PySem.W.subIn K (.ref C_Ratio) (.type "list") = some false)
    (s_rt : PySem.W.subIn K (.ref C_Ratio) (.type "tuple") = some false)
    (s_rd : PySem.W.subIn K (.ref C_Ratio) (.type "dict") = some false)
    (s_nint : PySem.W.subIn K (.type "int") (.ref C_Scale) = some false)
    (s_nbool : PySem.W.subIn K (.type "bool") (.ref C_Scale) = some false)
    (s_nNoneType : PySem.W.subIn K (.type "NoneType") (.ref C_Scale) = some false)
    (s_nstr : PySem.W.subIn K (.type "str") (.ref C_Scale) = some false)
    (s_nlist : PySem.W.subIn K (.type "list") (.ref C_Scale) = some false)
    (s_ntuple : PySem.W.subIn K (.type "tuple") (.ref C_Scale) = some false)
    (s_ndict : PySem.W.subIn K (.type "dict") (.ref C_Scale) = some false)
    (s_rb : PySem.W.subIn K (.ref C_Ratio) (.type "bool") = some false)
    : ∃ fd : FuncData, (∀ (s : Shared) (v : Value), BindsTo s fd ⟨[v], []⟩ [("_law_script", v)]) ∧ ∀ base : Heap, K.In base → base.Ns mainGlobals mg → FnOk l.prog w K mg base CX0 13 fa fd ["_law_script"] (spLaw K) := by
  have e := hfa.symm.trans (PySem.W.mg_of X G a_law)
  cases e
  have T : Tx K mg { C_MeansError := C_MeansError, C_ByZero := C_ByZero, C_BadText := C_BadText, C_BadNumber := C_BadNumber, C_BadValues := C_BadValues, C_NoValue := C_NoValue, C_BadLot := C_BadLot, C_BadCurve := C_BadCurve, C_BadCount := C_BadCount, C_Ratio := C_Ratio, C_Scale := C_Scale, f_BadNumber_init := f_BadNumber_init, d_BadNumber_init := (PySem.W.fnOf "__init__" "BadNumber.__init__" (defArgs s_BadNumber_init) (defBody s_BadNumber_init) (defScope s_BadNumber_init) .none kV_BadNumber_init dc_BadNumber_init pm_BadNumber_init an_BadNumber_init cd_BadNumber_init ct_BadNumber_init), f_BadValues_init := f_BadValues_init, d_BadValues_init := (PySem.W.fnOf "__init__" "BadValues.__init__" (defArgs s_BadValues_init) (defBody s_BadValues_init) (defScope s_BadValues_init) .none kV_BadValues_init dc_BadValues_init pm_BadValues_init an_BadValues_init cd_BadValues_init ct_BadValues_init), f_NoValue_init := f_NoValue_init, d_NoValue_init := (PySem.W.fnOf "__init__" "NoValue.__init__" (defArgs s_NoValue_init) (defBody s_NoValue_init) (defScope s_NoValue_init) .none kV_NoValue_init dc_NoValue_init pm_NoValue_init an_NoValue_init cd_NoValue_init ct_NoValue_init), f_BadLot_init := f_BadLot_init, d_BadLot_init := (PySem.W.fnOf "__init__" "BadLot.__init__" (defArgs s_BadLot_init) (defBody s_BadLot_init) (defScope s_BadLot_init) .none kV_BadLot_init dc_BadLot_init pm_BadLot_init an_BadLot_init cd_BadLot_init ct_BadLot_init), f_BadCurve_init := f_BadCurve_init, d_BadCurve_init := (PySem.W.fnOf "__init__" "BadCurve.__init__" (defArgs s_BadCurve_init) (defBody s_BadCurve_init) (defScope s_BadCurve_init) .none kV_BadCurve_init dc_BadCurve_init pm_BadCurve_init an_BadCurve_init cd_BadCurve_init ct_BadCurve_init), f_BadCount_init := f_BadCount_init, d_BadCount_init := (PySem.W.fnOf "__init__" "BadCount.__init__" (defArgs s_BadCount_init) (defBody s_BadCount_init) (defScope s_BadCount_init) .none kV_BadCount_init dc_BadCount_init pm_BadCount_init an_BadCount_init cd_BadCount_init ct_BadCount_init), f_Ratio_init := f_Ratio_init, d_Ratio_init := (PySem.W.fnOf "__init__" "Ratio.__init__" (defArgs s_Ratio_init) (defBody s_Ratio_init) (defScope s_Ratio_init) (.ref T_Ratio_init) kV_Ratio_init dc_Ratio_init pm_Ratio_init an_Ratio_init cd_Ratio_init ct_Ratio_init), f_Ratio_add := f_Ratio_add, d_Ratio_add := (PySem.W.fnOf "__add__" "Ratio.__add__" (defArgs s_Ratio_add) (defBody s_Ratio_add) (defScope s_Ratio_add) .none kV_Ratio_add dc_Ratio_add pm_Ratio_add an_Ratio_add cd_Ratio_add ct_Ratio_add), f_Ratio_sub := f_Ratio_sub, d_Ratio_sub := (PySem.W.fnOf "__sub__" "Ratio.__sub__" (defArgs s_Ratio_sub) (defBody s_Ratio_sub) (defScope s_Ratio_sub) .none kV_Ratio_sub dc_Ratio_sub pm_Ratio_sub an_Ratio_sub cd_Ratio_sub ct_Ratio_sub), f_Ratio_mul := f_Ratio_mul, d_Ratio_mul := (PySem.W.fnOf "__mul__" "Ratio.__mul__" (defArgs s_Ratio_mul) (defBody s_Ratio_mul) (defScope s_Ratio_mul) .none kV_Ratio_mul dc_Ratio_mul pm_Ratio_mul an_Ratio_mul cd_Ratio_mul ct_Ratio_mul), f_Ratio_neg := f_Ratio_neg, d_Ratio_neg := (PySem.W.fnOf "__neg__" "Ratio.__neg__" (defArgs s_Ratio_neg) (defBody s_Ratio_neg) (defScope s_Ratio_neg) .none kV_Ratio_neg dc_Ratio_neg pm_Ratio_neg an_Ratio_neg cd_Ratio_neg ct_Ratio_neg), f_Ratio_eq := f_Ratio_eq, d_Ratio_eq := (PySem.W.fnOf "__eq__" "Ratio.__eq__" (defArgs s_Ratio_eq) (defBody s_Ratio_eq) (defScope s_Ratio_eq) .none kV_Ratio_eq dc_Ratio_eq pm_Ratio_eq an_Ratio_eq cd_Ratio_eq ct_Ratio_eq), f_Ratio_lt := f_Ratio_lt, d_Ratio_lt := (PySem.W.fnOf "__lt__" "Ratio.__lt__" (defArgs s_Ratio_lt) (defBody s_Ratio_lt) (defScope s_Ratio_lt) .none kV_Ratio_lt dc_Ratio_lt pm_Ratio_lt an_Ratio_lt cd_Ratio_lt ct_Ratio_lt), f_Ratio_le := f_Ratio_le, d_Ratio_le := (PySem.W.fnOf "__le__" "Ratio.__le__" (defArgs s_Ratio_le) (defBody s_Ratio_le) (defScope s_Ratio_le) .none kV_Ratio_le dc_Ratio_le pm_Ratio_le an_Ratio_le cd_Ratio_le ct_Ratio_le), f_Ratio_text := f_Ratio_text, d_Ratio_text := (PySem.W.fnOf "text" "Ratio.text" (defArgs s_Ratio_text) (defBody s_Ratio_text) (defScope s_Ratio_text) .none kV_Ratio_text dc_Ratio_text pm_Ratio_text an_Ratio_text cd_Ratio_text ct_Ratio_text), f_is_whole := f_is_whole, d_is_whole := (PySem.W.fnOf "is_whole" "is_whole" (defArgs s_is_whole) (defBody s_is_whole) (defScope s_is_whole) .none kV_is_whole dc_is_whole pm_is_whole an_is_whole cd_is_whole ct_is_whole), f_is_number := f_is_number, d_is_number := (PySem.W.fnOf "is_number" "is_number" (defArgs s_is_number) (defBody s_is_number) (defScope s_is_number) .none kV_is_number dc_is_number pm_is_number an_is_number cd_is_number ct_is_number), f_are_numbers := f_are_numbers, d_are_numbers := (PySem.W.fnOf "are_numbers" "are_numbers" (defArgs s_are_numbers) (defBody s_are_numbers) (defScope s_are_numbers) .none kV_are_numbers dc_are_numbers pm_are_numbers an_are_numbers cd_are_numbers ct_are_numbers), f_as_ratio := f_as_ratio, d_as_ratio := (PySem.W.fnOf "as_ratio" "as_ratio" (defArgs s_as_ratio) (defBody s_as_ratio) (defScope s_as_ratio) .none kV_as_ratio dc_as_ratio pm_as_ratio an_as_ratio cd_as_ratio ct_as_ratio), f_total := f_total, d_total := (PySem.W.fnOf "total" "total" (defArgs s_total) (defBody s_total) (defScope s_total) .none kV_total dc_total pm_total an_total cd_total ct_total), f_weighed := f_weighed, d_weighed := (PySem.W.fnOf "weighed" "weighed" (defArgs s_weighed) (defBody s_weighed) (defScope s_weighed) .none kV_weighed dc_weighed pm_weighed an_weighed cd_weighed ct_weighed), f_read_ratio := f_read_ratio, d_read_ratio := (PySem.W.fnOf "read_ratio" "read_ratio" (defArgs s_read_ratio) (defBody s_read_ratio) (defScope s_read_ratio) .none kV_read_ratio dc_read_ratio pm_read_ratio an_read_ratio cd_read_ratio ct_read_ratio), f_has_digits_only := f_has_digits_only, d_has_digits_only := (PySem.W.fnOf "has_digits_only" "has_digits_only" (defArgs s_has_digits_only) (defBody s_has_digits_only) (defScope s_has_digits_only) .none kV_has_digits_only dc_has_digits_only pm_has_digits_only an_has_digits_only cd_has_digits_only ct_has_digits_only), f_numeral := f_numeral, d_numeral := (PySem.W.fnOf "numeral" "numeral" (defArgs s_numeral) (defBody s_numeral) (defScope s_numeral) .none kV_numeral dc_numeral pm_numeral an_numeral cd_numeral ct_numeral), f_from_numeral := f_from_numeral, d_from_numeral := (PySem.W.fnOf "from_numeral" "from_numeral" (defArgs s_from_numeral) (defBody s_from_numeral) (defScope s_from_numeral) .none kV_from_numeral dc_from_numeral pm_from_numeral an_from_numeral cd_from_numeral ct_from_numeral), f_Scale_init := f_Scale_init, d_Scale_init := (PySem.W.fnOf "__init__" "Scale.__init__" (defArgs s_Scale_init) (defBody s_Scale_init) (defScope s_Scale_init) .none kV_Scale_init dc_Scale_init pm_Scale_init an_Scale_init cd_Scale_init ct_Scale_init), f_Scale_len := f_Scale_len, d_Scale_len := (PySem.W.fnOf "__len__" "Scale.__len__" (defArgs s_Scale_len) (defBody s_Scale_len) (defScope s_Scale_len) .none kV_Scale_len dc_Scale_len pm_Scale_len an_Scale_len cd_Scale_len ct_Scale_len), f_Scale_eq := f_Scale_eq, d_Scale_eq := (PySem.W.fnOf "__eq__" "Scale.__eq__" (defArgs s_Scale_eq) (defBody s_Scale_eq) (defScope s_Scale_eq) .none kV_Scale_eq dc_Scale_eq pm_Scale_eq an_Scale_eq cd_Scale_eq ct_Scale_eq), f_Scale_marks := f_Scale_marks, d_Scale_marks := (PySem.W.fnOf "marks" "Scale.marks" (defArgs s_Scale_marks) (defBody s_Scale_marks) (defScope s_Scale_marks) .none kV_Scale_marks dc_Scale_marks pm_Scale_marks an_Scale_marks cd_Scale_marks ct_Scale_marks), f_Scale_place := f_Scale_place, d_Scale_place := (PySem.W.fnOf "place" "Scale.place" (defArgs s_Scale_place) (defBody s_Scale_place) (defScope s_Scale_place) .none kV_Scale_place dc_Scale_place pm_Scale_place an_Scale_place cd_Scale_place ct_Scale_place), f_Scale_text := f_Scale_text, d_Scale_text := (PySem.W.fnOf "text" "Scale.text" (defArgs s_Scale_text) (defBody s_Scale_text) (defScope s_Scale_text) .none kV_Scale_text dc_Scale_text pm_Scale_text an_Scale_text cd_Scale_text ct_Scale_text), f_insert_new := f_insert_new, d_insert_new := (PySem.W.fnOf "insert_new" "insert_new" (defArgs s_insert_new) (defBody s_insert_new) (defScope s_insert_new) .none kV_insert_new dc_insert_new pm_insert_new an_insert_new cd_insert_new ct_insert_new), f_distinct := f_distinct, d_distinct := (PySem.W.fnOf "distinct" "distinct" (defArgs s_distinct) (defBody s_distinct) (defScope s_distinct) .none kV_distinct dc_distinct pm_distinct an_distinct cd_distinct ct_distinct), f_climbs := f_climbs, d_climbs := (PySem.W.fnOf "climbs" "climbs" (defArgs s_climbs) (defBody s_climbs) (defScope s_climbs) .none kV_climbs dc_climbs pm_climbs an_climbs cd_climbs ct_climbs), f_is_curve := f_is_curve, d_is_curve := (PySem.W.fnOf "is_curve" "is_curve" (defArgs s_is_curve) (defBody s_is_curve) (defScope s_is_curve) .none kV_is_curve dc_is_curve pm_is_curve an_is_curve cd_is_curve ct_is_curve), f_are_shares := f_are_shares, d_are_shares := (PySem.W.fnOf "are_shares" "are_shares" (defArgs s_are_shares) (defBody s_are_shares) (defScope s_are_shares) .none kV_are_shares dc_are_shares pm_are_shares an_are_shares cd_are_shares ct_are_shares), f_is_lot := f_is_lot, d_is_lot := (PySem.W.fnOf "is_lot" "is_lot" (defArgs s_is_lot) (defBody s_is_lot) (defScope s_is_lot) .none kV_is_lot dc_is_lot pm_is_lot an_is_lot cd_is_lot ct_is_lot), f_check_lot := f_check_lot, d_check_lot := (PySem.W.fnOf "check_lot" "check_lot" (defArgs s_check_lot) (defBody s_check_lot) (defScope s_check_lot) .none kV_check_lot dc_check_lot pm_check_lot an_check_lot cd_check_lot ct_check_lot), f_check_curve := f_check_curve, d_check_curve := (PySem.W.fnOf "check_curve" "check_curve" (defArgs s_check_curve) (defBody s_check_curve) (defScope s_check_curve) .none kV_check_curve dc_check_curve pm_check_curve an_check_curve cd_check_curve ct_check_curve), f_mean := f_mean, d_mean := (PySem.W.fnOf "mean" "mean" (defArgs s_mean) (defBody s_mean) (defScope s_mean) .none kV_mean dc_mean pm_mean an_mean cd_mean ct_mean), f_means_of := f_means_of, d_means_of := (PySem.W.fnOf "means_of" "means_of" (defArgs s_means_of) (defBody s_means_of) (defScope s_means_of) .none kV_means_of dc_means_of pm_means_of an_means_of cd_means_of ct_means_of), f_uses := f_uses, d_uses := (PySem.W.fnOf "uses" "uses" (defArgs s_uses) (defBody s_uses) (defScope s_uses) .none kV_uses dc_uses pm_uses an_uses cd_uses ct_uses), f_Ltape := f_Ltape, d_Ltape := (PySem.W.fnOf "_law_tape" "_law_tape" (defArgs s_Ltape) (defBody s_Ltape) (defScope s_Ltape) .none kV_Ltape dc_Ltape pm_Ltape an_Ltape cd_Ltape ct_Ltape), f_Lpick := f_Lpick, d_Lpick := (PySem.W.fnOf "_law_pick" "_law_pick" (defArgs s_Lpick) (defBody s_Lpick) (defScope s_Lpick) .none kV_Lpick dc_Lpick pm_Lpick an_Lpick cd_Lpick ct_Lpick), f_Lmixed := f_Lmixed, d_Lmixed := (PySem.W.fnOf "_law_mixed" "_law_mixed" (defArgs s_Lmixed) (defBody s_Lmixed) (defScope s_Lmixed) .none kV_Lmixed dc_Lmixed pm_Lmixed an_Lmixed cd_Lmixed ct_Lmixed), f_Lshown := f_Lshown, d_Lshown := (PySem.W.fnOf "_law_shown" "_law_shown" (defArgs s_Lshown) (defBody s_Lshown) (defScope s_Lshown) .none kV_Lshown dc_Lshown pm_Lshown an_Lshown cd_Lshown ct_Lshown), f_Lvalues := f_Lvalues, d_Lvalues := (PySem.W.fnOf "_law_values" "_law_values" (defArgs s_Lvalues) (defBody s_Lvalues) (defScope s_Lvalues) .none kV_Lvalues dc_Lvalues pm_Lvalues an_Lvalues cd_Lvalues ct_Lvalues), f_Lmade := f_Lmade, d_Lmade := (PySem.W.fnOf "_law_made" "_law_made" (defArgs s_Lmade) (defBody s_Lmade) (defScope s_Lmade) .none kV_Lmade dc_Lmade pm_Lmade an_Lmade cd_Lmade ct_Lmade), f_Llot := f_Llot, d_Llot := (PySem.W.fnOf "_law_lot" "_law_lot" (defArgs s_Llot) (defBody s_Llot) (defScope s_Llot) .none kV_Llot dc_Llot pm_Llot an_Llot cd_Llot ct_Llot), f_Lcurve := f_Lcurve, d_Lcurve := (PySem.W.fnOf "_law_curve" "_law_curve" (defArgs s_Lcurve) (defBody s_Lcurve) (defScope s_Lcurve) .none kV_Lcurve dc_Lcurve pm_Lcurve an_Lcurve cd_Lcurve ct_Lcurve), f_Lpower := f_Lpower, d_Lpower := (PySem.W.fnOf "_law_power" "_law_power" (defArgs s_Lpower) (defBody s_Lpower) (defScope s_Lpower) .none kV_Lpower dc_Lpower pm_Lpower an_Lpower cd_Lpower ct_Lpower), f_Lmean := f_Lmean, d_Lmean := (PySem.W.fnOf "_law_mean" "_law_mean" (defArgs s_Lmean) (defBody s_Lmean) (defScope s_Lmean) .none kV_Lmean dc_Lmean pm_Lmean an_Lmean cd_Lmean ct_Lmean), f_Lmeans := f_Lmeans, d_Lmeans := (PySem.W.fnOf "_law_means" "_law_means" (defArgs s_Lmeans) (defBody s_Lmeans) (defScope s_Lmeans) .none kV_Lmeans dc_Lmeans pm_Lmeans an_Lmeans cd_Lmeans ct_Lmeans), f_Lgiven := f_Lgiven, d_Lgiven := (PySem.W.fnOf "_law_given" "_law_given" (defArgs s_Lgiven) (defBody s_Lgiven) (defScope s_Lgiven) .none kV_Lgiven dc_Lgiven pm_Lgiven an_Lgiven cd_Lgiven ct_Lgiven), f_Lis_numbers := f_Lis_numbers, d_Lis_numbers := (PySem.W.fnOf "_law_is_numbers" "_law_is_numbers" (defArgs s_Lis_numbers) (defBody s_Lis_numbers) (defScope s_Lis_numbers) .none kV_Lis_numbers dc_Lis_numbers pm_Lis_numbers an_Lis_numbers cd_Lis_numbers ct_Lis_numbers), f_Lis_lot := f_Lis_lot, d_Lis_lot := (PySem.W.fnOf "_law_is_lot" "_law_is_lot" (defArgs s_Lis_lot) (defBody s_Lis_lot) (defScope s_Lis_lot) .none kV_Lis_lot dc_Lis_lot pm_Lis_lot an_Lis_lot cd_Lis_lot ct_Lis_lot), f_Lnear := f_Lnear, d_Lnear := (PySem.W.fnOf "_law_near" "_law_near" (defArgs s_Lnear) (defBody s_Lnear) (defScope s_Lnear) .none kV_Lnear dc_Lnear pm_Lnear an_Lnear cd_Lnear ct_Lnear), f_Lasked := f_Lasked, d_Lasked := (PySem.W.fnOf "_law_asked" "_law_asked" (defArgs s_Lasked) (defBody s_Lasked) (defScope s_Lasked) .none kV_Lasked dc_Lasked pm_Lasked an_Lasked cd_Lasked ct_Lasked), f_Lright := f_Lright, d_Lright := (PySem.W.fnOf "_law_right" "_law_right" (defArgs s_Lright) (defBody s_Lright) (defScope s_Lright) .none kV_Lright dc_Lright pm_Lright an_Lright cd_Lright ct_Lright), f_law := fa, d_law := (PySem.W.fnOf "law" "law" (defArgs s_law) (defBody s_law) (defScope s_law) .none kV_law dc_law pm_law an_law cd_law ct_law) } := {
    g_MeansError := PySem.W.mg_of X G aC_MeansError,
    g_ByZero := PySem.W.mg_of X G aC_ByZero,
    g_BadText := PySem.W.mg_of X G aC_BadText,
    g_BadNumber := PySem.W.mg_of X G aC_BadNumber,
    g_BadValues := PySem.W.mg_of X G aC_BadValues,
    g_NoValue := PySem.W.mg_of X G aC_NoValue,
    g_BadLot := PySem.W.mg_of X G aC_BadLot,
    g_BadCurve := PySem.W.mg_of X G aC_BadCurve,
    g_BadCount := PySem.W.mg_of X G aC_BadCount,
    g_Ratio := PySem.W.mg_of X G aC_Ratio,
    g_Scale := PySem.W.mg_of X G aC_Scale,
    F_BadNumber_init := ⟨⟨_, _, _, _, _, _, _, _, _, _, rfl, l_BadNumber_init, c_BadNumber_init, .inl ⟨rfl, rfl⟩, .inl rfl⟩, k_BadNumber_init⟩,
    F_BadValues_init := ⟨⟨_, _, _, _, _, _, _, _, _, _, rfl, l_BadValues_init, c_BadValues_init, .inl ⟨rfl, rfl⟩, .inl rfl⟩, k_BadValues_init⟩,
    F_NoValue_init := ⟨⟨_, _, _, _, _, _, _, _, _, _, rfl, l_NoValue_init, c_NoValue_init, .inl ⟨rfl, rfl⟩, .inl rfl⟩, k_NoValue_init⟩,
    F_BadLot_init := ⟨⟨_, _, _, _, _, _, _, _, _, _, rfl, l_BadLot_init, c_BadLot_init, .inl ⟨rfl, rfl⟩, .inl rfl⟩, k_BadLot_init⟩,
    F_BadCurve_init := ⟨⟨_, _, _, _, _, _, _, _, _, _, rfl, l_BadCurve_init, c_BadCurve_init, .inl ⟨rfl, rfl⟩, .inl rfl⟩, k_BadCurve_init⟩,
    F_BadCount_init := ⟨⟨_, _, _, _, _, _, _, _, _, _, rfl, l_BadCount_init, c_BadCount_init, .inl ⟨rfl, rfl⟩, .inl rfl⟩, k_BadCount_init⟩,
    F_Ratio_init := ⟨⟨_, _, _, _, _, _, _, _, _, _, rfl, l_Ratio_init, c_Ratio_init, .inr ⟨by simp, T_Ratio_init, _, _, _, rfl, lT_Ratio_init, rfl, (.cons ⟨_, rfl⟩ .nil)⟩, .inl rfl⟩, k_Ratio_init⟩,
    m_Ratio_init := ⟨a_Ratio_init, i_Ratio_init, k_Ratio_init⟩,
    F_Ratio_add := ⟨⟨_, _, _, _, _, _, _, _, _, _, rfl, l_Ratio_add, c_Ratio_add, .inl ⟨rfl, rfl⟩, .inl rfl⟩, k_Ratio_add⟩,
    m_Ratio_add := ⟨a_Ratio_add, i_Ratio_add, k_Ratio_add⟩,
    F_Ratio_sub := ⟨⟨_, _, _, _, _, _, _, _, _, _, rfl, l_Ratio_sub, c_Ratio_sub, .inl ⟨rfl, rfl⟩, .inl rfl⟩, k_Ratio_sub⟩,
    m_Ratio_sub := ⟨a_Ratio_sub, i_Ratio_sub, k_Ratio_sub⟩,
    F_Ratio_mul := ⟨⟨_, _, _, _, _, _, _, _, _, _, rfl, l_Ratio_mul, c_Ratio_mul, .inl ⟨rfl, rfl⟩, .inl rfl⟩, k_Ratio_mul⟩,
    m_Ratio_mul := ⟨a_Ratio_mul, i_Ratio_mul, k_Ratio_mul⟩,
    F_Ratio_neg := ⟨⟨_, _, _, _, _, _, _, _, _, _, rfl, l_Ratio_neg, c_Ratio_neg, .inl ⟨rfl, rfl⟩, .inl rfl⟩, k_Ratio_neg⟩,
    m_Ratio_neg := ⟨a_Ratio_neg, i_Ratio_neg, k_Ratio_neg⟩,
    F_Ratio_eq := ⟨⟨_, _, _, _, _, _, _, _, _, _, rfl, l_Ratio_eq, c_Ratio_eq, .inl ⟨rfl, rfl⟩, .inl rfl⟩, k_Ratio_eq⟩,
    m_Ratio_eq := ⟨a_Ratio_eq, i_Ratio_eq, k_Ratio_eq⟩,
    F_Ratio_lt := ⟨⟨_, _, _, _, _, _, _, _, _, _, rfl, l_Ratio_lt, c_Ratio_lt, .inl ⟨rfl, rfl⟩, .inl rfl⟩, k_Ratio_lt⟩,
    m_Ratio_lt := ⟨a_Ratio_lt, i_Ratio_lt, k_Ratio_lt⟩,
    F_Ratio_le := ⟨⟨_, _, _, _, _, _, _, _, _, _, rfl, l_Ratio_le, c_Ratio_le, .inl ⟨rfl, rfl⟩, .inl rfl⟩, k_Ratio_le⟩,
    m_Ratio_le := ⟨a_Ratio_le, i_Ratio_le, k_Ratio_le⟩,
    F_Ratio_text := ⟨⟨_, _, _, _, _, _, _, _, _, _, rfl, l_Ratio_text, c_Ratio_text, .inl ⟨rfl, rfl⟩, .inl rfl⟩, k_Ratio_text⟩,
    m_Ratio_text := ⟨a_Ratio_text, i_Ratio_text, k_Ratio_text⟩,
    g_is_whole := PySem.W.mg_of X G a_is_whole,
    F_is_whole := ⟨⟨_, _, _, _, _, _, _, _, _, _, rfl, l_is_whole, c_is_whole, .inl ⟨rfl, rfl⟩, .inl rfl⟩, k_is_whole⟩,
    g_is_number := PySem.W.mg_of X G a_is_number,
    F_is_number := ⟨⟨_, _, _, _, _, _, _, _, _, _, rfl, l_is_number, c_is_number, .inl ⟨rfl, rfl⟩, .inl rfl⟩, k_is_number⟩,
    g_are_numbers := PySem.W.mg_of X G a_are_numbers,
    F_are_numbers := ⟨⟨_, _, _, _, _, _, _, _, _, _, rfl, l_are_numbers, c_are_numbers, .inl ⟨rfl, rfl⟩, .inl rfl⟩, k_are_numbers⟩,
    g_as_ratio := PySem.W.mg_of X G a_as_ratio,
    F_as_ratio := ⟨⟨_, _, _, _, _, _, _, _, _, _, rfl, l_as_ratio, c_as_ratio, .inl ⟨rfl, rfl⟩, .inl rfl⟩, k_as_ratio⟩,
    g_total := PySem.W.mg_of X G a_total,
    F_total := ⟨⟨_, _, _, _, _, _, _, _, _, _, rfl, l_total, c_total, .inl ⟨rfl, rfl⟩, .inl rfl⟩, k_total⟩,
    g_weighed := PySem.W.mg_of X G a_weighed,
    F_weighed := ⟨⟨_, _, _, _, _, _, _, _, _, _, rfl, l_weighed, c_weighed, .inl ⟨rfl, rfl⟩, .inl rfl⟩, k_weighed⟩,
    g_read_ratio := PySem.W.mg_of X G a_read_ratio,
    F_read_ratio := ⟨⟨_, _, _, _, _, _, _, _, _, _, rfl, l_read_ratio, c_read_ratio, .inl ⟨rfl, rfl⟩, .inl rfl⟩, k_read_ratio⟩,
    g_has_digits_only := PySem.W.mg_of X G a_has_digits_only,
    F_has_digits_only := ⟨⟨_, _, _, _, _, _, _, _, _, _, rfl, l_has_digits_only, c_has_digits_only, .inl ⟨rfl, rfl⟩, .inl rfl⟩, k_has_digits_only⟩,
    g_numeral := PySem.W.mg_of X G a_numeral,
    F_numeral := ⟨⟨_, _, _, _, _, _, _, _, _, _, rfl, l_numeral, c_numeral, .inl ⟨rfl, rfl⟩, .inl rfl⟩, k_numeral⟩,
    g_from_numeral := PySem.W.mg_of X G a_from_numeral,
    F_from_numeral := ⟨⟨_, _, _, _, _, _, _, _, _, _, rfl, l_from_numeral, c_from_numeral, .inl ⟨rfl, rfl⟩, .inl rfl⟩, k_from_numeral⟩,
    F_Scale_init := ⟨⟨_, _, _, _, _, _, _, _, _, _, rfl, l_Scale_init, c_Scale_init, .inl ⟨rfl, rfl⟩, .inl rfl⟩, k_Scale_init⟩,
    m_Scale_init := ⟨a_Scale_init, i_Scale_init, k_Scale_init⟩,
    F_Scale_len := ⟨⟨_, _, _, _, _, _, _, _, _, _, rfl, l_Scale_len, c_Scale_len, .inl ⟨rfl, rfl⟩, .inl rfl⟩, k_Scale_len⟩,
    m_Scale_len := ⟨a_Scale_len, i_Scale_len, k_Scale_len⟩,
    F_Scale_eq := ⟨⟨_, _, _, _, _, _, _, _, _, _, rfl, l_Scale_eq, c_Scale_eq, .inl ⟨rfl, rfl⟩, .inl rfl⟩, k_Scale_eq⟩,
    m_Scale_eq := ⟨a_Scale_eq, i_Scale_eq, k_Scale_eq⟩,
    F_Scale_marks := ⟨⟨_, _, _, _, _, _, _, _, _, _, rfl, l_Scale_marks, c_Scale_marks, .inl ⟨rfl, rfl⟩, .inl rfl⟩, k_Scale_marks⟩,
    m_Scale_marks := ⟨a_Scale_marks, i_Scale_marks, k_Scale_marks⟩,
    F_Scale_place := ⟨⟨_, _, _, _, _, _, _, _, _, _, rfl, l_Scale_place, c_Scale_place, .inl ⟨rfl, rfl⟩, .inl rfl⟩, k_Scale_place⟩,
    m_Scale_place := ⟨a_Scale_place, i_Scale_place, k_Scale_place⟩,
    F_Scale_text := ⟨⟨_, _, _, _, _, _, _, _, _, _, rfl, l_Scale_text, c_Scale_text, .inl ⟨rfl, rfl⟩, .inl rfl⟩, k_Scale_text⟩,
    m_Scale_text := ⟨a_Scale_text, i_Scale_text, k_Scale_text⟩,
    g_insert_new := PySem.W.mg_of X G a_insert_new,
    F_insert_new := ⟨⟨_, _, _, _, _, _, _, _, _, _, rfl, l_insert_new, c_insert_new, .inl ⟨rfl, rfl⟩, .inl rfl⟩, k_insert_new⟩,
    g_distinct := PySem.W.mg_of X G a_distinct,
    F_distinct := ⟨⟨_, _, _, _, _, _, _, _, _, _, rfl, l_distinct, c_distinct, .inl ⟨rfl, rfl⟩, .inl rfl⟩, k_distinct⟩,
    g_climbs := PySem.W.mg_of X G a_climbs,
    F_climbs := ⟨⟨_, _, _, _, _, _, _, _, _, _, rfl, l_climbs, c_climbs, .inl ⟨rfl, rfl⟩, .inl rfl⟩, k_climbs⟩,
    g_is_curve := PySem.W.mg_of X G a_is_curve,
    F_is_curve := ⟨⟨_, _, _, _, _, _, _, _, _, _, rfl, l_is_curve, c_is_curve, .inl ⟨rfl, rfl⟩, .inl rfl⟩, k_is_curve⟩,
    g_are_shares := PySem.W.mg_of X G a_are_shares,
    F_are_shares := ⟨⟨_, _, _, _, _, _, _, _, _, _, rfl, l_are_shares, c_are_shares, .inl ⟨rfl, rfl⟩, .inl rfl⟩, k_are_shares⟩,
    g_is_lot := PySem.W.mg_of X G a_is_lot,
    F_is_lot := ⟨⟨_, _, _, _, _, _, _, _, _, _, rfl, l_is_lot, c_is_lot, .inl ⟨rfl, rfl⟩, .inl rfl⟩, k_is_lot⟩,
    g_check_lot := PySem.W.mg_of X G a_check_lot,
    F_check_lot := ⟨⟨_, _, _, _, _, _, _, _, _, _, rfl, l_check_lot, c_check_lot, .inl ⟨rfl, rfl⟩, .inl rfl⟩, k_check_lot⟩,
    g_check_curve := PySem.W.mg_of X G a_check_curve,
    F_check_curve := ⟨⟨_, _, _, _, _, _, _, _, _, _, rfl, l_check_curve, c_check_curve, .inl ⟨rfl, rfl⟩, .inl rfl⟩, k_check_curve⟩,
    g_mean := PySem.W.mg_of X G a_mean,
    F_mean := ⟨⟨_, _, _, _, _, _, _, _, _, _, rfl, l_mean, c_mean, .inl ⟨rfl, rfl⟩, .inl rfl⟩, k_mean⟩,
    g_means_of := PySem.W.mg_of X G a_means_of,
    F_means_of := ⟨⟨_, _, _, _, _, _, _, _, _, _, rfl, l_means_of, c_means_of, .inl ⟨rfl, rfl⟩, .inl rfl⟩, k_means_of⟩,
    g_uses := PySem.W.mg_of X G a_uses,
    F_uses := ⟨⟨_, _, _, _, _, _, _, _, _, _, rfl, l_uses, c_uses, .inl ⟨rfl, rfl⟩, .inl rfl⟩, k_uses⟩,
    g_Ltape := PySem.W.mg_of X G a_Ltape,
    F_Ltape := ⟨⟨_, _, _, _, _, _, _, _, _, _, rfl, l_Ltape, c_Ltape, .inl ⟨rfl, rfl⟩, .inl rfl⟩, k_Ltape⟩,
    g_Lpick := PySem.W.mg_of X G a_Lpick,
    F_Lpick := ⟨⟨_, _, _, _, _, _, _, _, _, _, rfl, l_Lpick, c_Lpick, .inl ⟨rfl, rfl⟩, .inl rfl⟩, k_Lpick⟩,
    g_Lmixed := PySem.W.mg_of X G a_Lmixed,
    F_Lmixed := ⟨⟨_, _, _, _, _, _, _, _, _, _, rfl, l_Lmixed, c_Lmixed, .inl ⟨rfl, rfl⟩, .inl rfl⟩, k_Lmixed⟩,
    g_Lshown := PySem.W.mg_of X G a_Lshown,
    F_Lshown := ⟨⟨_, _, _, _, _, _, _, _, _, _, rfl, l_Lshown, c_Lshown, .inl ⟨rfl, rfl⟩, .inl rfl⟩, k_Lshown⟩,
    g_Lvalues := PySem.W.mg_of X G a_Lvalues,
    F_Lvalues := ⟨⟨_, _, _, _, _, _, _, _, _, _, rfl, l_Lvalues, c_Lvalues, .inl ⟨rfl, rfl⟩, .inl rfl⟩, k_Lvalues⟩,
    g_Lmade := PySem.W.mg_of X G a_Lmade,
    F_Lmade := ⟨⟨_, _, _, _, _, _, _, _, _, _, rfl, l_Lmade, c_Lmade, .inl ⟨rfl, rfl⟩, .inl rfl⟩, k_Lmade⟩,
    g_Llot := PySem.W.mg_of X G a_Llot,
    F_Llot := ⟨⟨_, _, _, _, _, _, _, _, _, _, rfl, l_Llot, c_Llot, .inl ⟨rfl, rfl⟩, .inl rfl⟩, k_Llot⟩,
    g_Lcurve := PySem.W.mg_of X G a_Lcurve,
    F_Lcurve := ⟨⟨_, _, _, _, _, _, _, _, _, _, rfl, l_Lcurve, c_Lcurve, .inl ⟨rfl, rfl⟩, .inl rfl⟩, k_Lcurve⟩,
    g_Lpower := PySem.W.mg_of X G a_Lpower,
    F_Lpower := ⟨⟨_, _, _, _, _, _, _, _, _, _, rfl, l_Lpower, c_Lpower, .inl ⟨rfl, rfl⟩, .inl rfl⟩, k_Lpower⟩,
    g_Lmean := PySem.W.mg_of X G a_Lmean,
    F_Lmean := ⟨⟨_, _, _, _, _, _, _, _, _, _, rfl, l_Lmean, c_Lmean, .inl ⟨rfl, rfl⟩, .inl rfl⟩, k_Lmean⟩,
    g_Lmeans := PySem.W.mg_of X G a_Lmeans,
    F_Lmeans := ⟨⟨_, _, _, _, _, _, _, _, _, _, rfl, l_Lmeans, c_Lmeans, .inl ⟨rfl, rfl⟩, .inl rfl⟩, k_Lmeans⟩,
    g_Lgiven := PySem.W.mg_of X G a_Lgiven,
    F_Lgiven := ⟨⟨_, _, _, _, _, _, _, _, _, _, rfl, l_Lgiven, c_Lgiven, .inl ⟨rfl, rfl⟩, .inl rfl⟩, k_Lgiven⟩,
    g_Lis_numbers := PySem.W.mg_of X G a_Lis_numbers,
    F_Lis_numbers := ⟨⟨_, _, _, _, _, _, _, _, _, _, rfl, l_Lis_numbers, c_Lis_numbers, .inl ⟨rfl, rfl⟩, .inl rfl⟩, k_Lis_numbers⟩,
    g_Lis_lot := PySem.W.mg_of X G a_Lis_lot,
    F_Lis_lot := ⟨⟨_, _, _, _, _, _, _, _, _, _, rfl, l_Lis_lot, c_Lis_lot, .inl ⟨rfl, rfl⟩, .inl rfl⟩, k_Lis_lot⟩,
    g_Lnear := PySem.W.mg_of X G a_Lnear,
    F_Lnear := ⟨⟨_, _, _, _, _, _, _, _, _, _, rfl, l_Lnear, c_Lnear, .inl ⟨rfl, rfl⟩, .inl rfl⟩, k_Lnear⟩,
    g_Lasked := PySem.W.mg_of X G a_Lasked,
    F_Lasked := ⟨⟨_, _, _, _, _, _, _, _, _, _, rfl, l_Lasked, c_Lasked, .inl ⟨rfl, rfl⟩, .inl rfl⟩, k_Lasked⟩,
    g_Lright := PySem.W.mg_of X G a_Lright,
    F_Lright := ⟨⟨_, _, _, _, _, _, _, _, _, _, rfl, l_Lright, c_Lright, .inl ⟨rfl, rfl⟩, .inl rfl⟩, k_Lright⟩,
    g_law := PySem.W.mg_of X G a_law,
    F_law := ⟨⟨_, _, _, _, _, _, _, _, _, _, rfl, l_law, c_law, .inl ⟨rfl, rfl⟩, .inl rfl⟩, k_law⟩,
    x_ByZero := ⟨xex_ByZero, xkp_ByZero, xbx_ByZero, xty_ByZero, xcls_ByZero, xsub_ByZero⟩,
    x_BadText := ⟨xex_BadText, xkp_BadText, xbx_BadText, xty_BadText, xcls_BadText, xsub_BadText⟩,
    oc_BadNumber := ⟨⟨_, _, _, _, _, _, _, _, _, _, _, _, _, _, _, olk_BadNumber, orv_BadNumber⟩, osa_BadNumber, oex_BadNumber, oty_BadNumber, okp_BadNumber⟩,
    ti_BadNumber := oti_BadNumber,
    fi_BadNumber := a_BadNumber_init,
    xf_BadNumber := ⟨oga_BadNumber, ogg_BadNumber, oex_BadNumber, ohd_BadNumber⟩,
    xs_BadNumber := exm_sub oex_BadNumber ois_BadNumber oty_BadNumber oss_BadNumber,
    xa_BadNumber_given := oxa_BadNumber_given,
    xo_BadNumber_ByZero := exm_sub xbx_ByZero xcls_ByZero xty_ByZero oso_BadNumber_ByZero,
    xo_BadNumber_BadText := exm_sub xbx_BadText xcls_BadText xty_BadText oso_BadNumber_BadText,
    xo_BadNumber_BadValues := exm_sub oex_BadValues ois_BadValues oty_BadValues oso_BadNumber_BadValues,
    xo_BadNumber_NoValue := exm_sub oex_NoValue ois_NoValue oty_NoValue oso_BadNumber_NoValue,
    xo_BadNumber_BadLot := exm_sub oex_BadLot ois_BadLot oty_BadLot oso_BadNumber_BadLot,
    xo_BadNumber_BadCurve := exm_sub oex_BadCurve ois_BadCurve oty_BadCurve oso_BadNumber_BadCurve,
    xo_BadNumber_BadCount := exm_sub oex_BadCount ois_BadCount oty_BadCount oso_BadNumber_BadCount,
    oc_BadValues := ⟨⟨_, _, _, _, _, _, _, _, _, _, _, _, _, _, _, olk_BadValues, orv_BadValues⟩, osa_BadValues, oex_BadValues, oty_BadValues, okp_BadValues⟩,
    ti_BadValues := oti_BadValues,
    fi_BadValues := a_BadValues_init,
    xf_BadValues := ⟨oga_BadValues, ogg_BadValues, oex_BadValues, ohd_BadValues⟩,
    xs_BadValues := exm_sub oex_BadValues ois_BadValues oty_BadValues oss_BadValues,
    xa_BadValues_given := oxa_BadValues_given,
    xo_BadValues_ByZero := exm_sub xbx_ByZero xcls_ByZero xty_ByZero oso_BadValues_ByZero,
    xo_BadValues_BadText := exm_sub xbx_BadText xcls_BadText xty_BadText oso_BadValues_BadText,
    xo_BadValues_BadNumber := exm_sub oex_BadNumber ois_BadNumber oty_BadNumber oso_BadValues_BadNumber,
    xo_BadValues_NoValue := exm_sub oex_NoValue ois_NoValue oty_NoValue oso_BadValues_NoValue,
    xo_BadValues_BadLot := exm_sub oex_BadLot ois_BadLot oty_BadLot oso_BadValues_BadLot,
    xo_BadValues_BadCurve := exm_sub oex_BadCurve ois_BadCurve oty_BadCurve oso_BadValues_BadCurve,
    xo_BadValues_BadCount := exm_sub oex_BadCount ois_BadCount oty_BadCount oso_BadValues_BadCount,
    oc_NoValue := ⟨⟨_, _, _, _, _, _, _, _, _, _, _, _, _, _, _, olk_NoValue, orv_NoValue⟩, osa_NoValue, oex_NoValue, oty_NoValue, okp_NoValue⟩,
    ti_NoValue := oti_NoValue,
    fi_NoValue := a_NoValue_init,
    xf_NoValue := ⟨oga_NoValue, ogg_NoValue, oex_NoValue, ohd_NoValue⟩,
    xs_NoValue := exm_sub oex_NoValue ois_NoValue oty_NoValue oss_NoValue,
    xa_NoValue_given := oxa_NoValue_given,
    xo_NoValue_ByZero := exm_sub xbx_ByZero xcls_ByZero xty_ByZero oso_NoValue_ByZero,
    xo_NoValue_BadText := exm_sub xbx_BadText xcls_BadText xty_BadText oso_NoValue_BadText,
    xo_NoValue_BadNumber := exm_sub oex_BadNumber ois_BadNumber oty_BadNumber oso_NoValue_BadNumber,
    xo_NoValue_BadValues := exm_sub oex_BadValues ois_BadValues oty_BadValues oso_NoValue_BadValues,
    xo_NoValue_BadLot := exm_sub oex_BadLot ois_BadLot oty_BadLot oso_NoValue_BadLot,
    xo_NoValue_BadCurve := exm_sub oex_BadCurve ois_BadCurve oty_BadCurve oso_NoValue_BadCurve,
    xo_NoValue_BadCount := exm_sub oex_BadCount ois_BadCount oty_BadCount oso_NoValue_BadCount,
    oc_BadLot := ⟨⟨_, _, _, _, _, _, _, _, _, _, _, _, _, _, _, olk_BadLot, orv_BadLot⟩, osa_BadLot, oex_BadLot, oty_BadLot, okp_BadLot⟩,
    ti_BadLot := oti_BadLot,
    fi_BadLot := a_BadLot_init,
    xf_BadLot := ⟨oga_BadLot, ogg_BadLot, oex_BadLot, ohd_BadLot⟩,
    xs_BadLot := exm_sub oex_BadLot ois_BadLot oty_BadLot oss_BadLot,
    xa_BadLot_given := oxa_BadLot_given,
    xo_BadLot_ByZero := exm_sub xbx_ByZero xcls_ByZero xty_ByZero oso_BadLot_ByZero,
    xo_BadLot_BadText := exm_sub xbx_BadText xcls_BadText xty_BadText oso_BadLot_BadText,
    xo_BadLot_BadNumber := exm_sub oex_BadNumber ois_BadNumber oty_BadNumber oso_BadLot_BadNumber,
    xo_BadLot_BadValues := exm_sub oex_BadValues ois_BadValues oty_BadValues oso_BadLot_BadValues,
    xo_BadLot_NoValue := exm_sub oex_NoValue ois_NoValue oty_NoValue oso_BadLot_NoValue,
    xo_BadLot_BadCurve := exm_sub oex_BadCurve ois_BadCurve oty_BadCurve oso_BadLot_BadCurve,
    xo_BadLot_BadCount := exm_sub oex_BadCount ois_BadCount oty_BadCount oso_BadLot_BadCount,
    oc_BadCurve := ⟨⟨_, _, _, _, _, _, _, _, _, _, _, _, _, _, _, olk_BadCurve, orv_BadCurve⟩, osa_BadCurve, oex_BadCurve, oty_BadCurve, okp_BadCurve⟩,
    ti_BadCurve := oti_BadCurve,
    fi_BadCurve := a_BadCurve_init,
    xf_BadCurve := ⟨oga_BadCurve, ogg_BadCurve, oex_BadCurve, ohd_BadCurve⟩,
    xs_BadCurve := exm_sub oex_BadCurve ois_BadCurve oty_BadCurve oss_BadCurve,
    xa_BadCurve_given := oxa_BadCurve_given,
    xo_BadCurve_ByZero := exm_sub xbx_ByZero xcls_ByZero xty_ByZero oso_BadCurve_ByZero,
    xo_BadCurve_BadText := exm_sub xbx_BadText xcls_BadText xty_BadText oso_BadCurve_BadText,
    xo_BadCurve_BadNumber := exm_sub oex_BadNumber ois_BadNumber oty_BadNumber oso_BadCurve_BadNumber,
    xo_BadCurve_BadValues := exm_sub oex_BadValues ois_BadValues oty_BadValues oso_BadCurve_BadValues,
    xo_BadCurve_NoValue := exm_sub oex_NoValue ois_NoValue oty_NoValue oso_BadCurve_NoValue,
    xo_BadCurve_BadLot := exm_sub oex_BadLot ois_BadLot oty_BadLot oso_BadCurve_BadLot,
    xo_BadCurve_BadCount := exm_sub oex_BadCount ois_BadCount oty_BadCount oso_BadCurve_BadCount,
    oc_BadCount := ⟨⟨_, _, _, _, _, _, _, _, _, _, _, _, _, _, _, olk_BadCount, orv_BadCount⟩, osa_BadCount, oex_BadCount, oty_BadCount, okp_BadCount⟩,
    ti_BadCount := oti_BadCount,
    fi_BadCount := a_BadCount_init,
    xf_BadCount := ⟨oga_BadCount, ogg_BadCount, oex_BadCount, ohd_BadCount⟩,
    xs_BadCount := exm_sub oex_BadCount ois_BadCount oty_BadCount oss_BadCount,
    xa_BadCount_given := oxa_BadCount_given,
    xo_BadCount_ByZero := exm_sub xbx_ByZero xcls_ByZero xty_ByZero oso_BadCount_ByZero,
    xo_BadCount_BadText := exm_sub xbx_BadText xcls_BadText xty_BadText oso_BadCount_BadText,
    xo_BadCount_BadNumber := exm_sub oex_BadNumber ois_BadNumber oty_BadNumber oso_BadCount_BadNumber,
    xo_BadCount_BadValues := exm_sub oex_BadValues ois_BadValues oty_BadValues oso_BadCount_BadValues,
    xo_BadCount_NoValue := exm_sub oex_NoValue ois_NoValue oty_NoValue oso_BadCount_NoValue,
    xo_BadCount_BadLot := exm_sub oex_BadLot ois_BadLot oty_BadLot oso_BadCount_BadLot,
    xo_BadCount_BadCurve := exm_sub oex_BadCurve ois_BadCurve oty_BadCurve oso_BadCount_BadCurve,
    b_abs := PySem.W.mg_none_of X G z_abs,
    b_all := PySem.W.mg_none_of X G z_all,
    b_bool := PySem.W.mg_none_of X G z_bool,
    b_dict := PySem.W.mg_none_of X G z_dict,
    b_divmod := PySem.W.mg_none_of X G z_divmod,
    b_enumerate := PySem.W.mg_none_of X G z_enumerate,
    b_int := PySem.W.mg_none_of X G z_int,
    b_isinstance := PySem.W.mg_none_of X G z_isinstance,
    b_len := PySem.W.mg_none_of X G z_len,
    b_list := PySem.W.mg_none_of X G z_list,
    b_max := PySem.W.mg_none_of X G z_max,
    b_min := PySem.W.mg_none_of X G z_min,
    b_range := PySem.W.mg_none_of X G z_range,
    b_repr := PySem.W.mg_none_of X G z_repr,
    b_str := PySem.W.mg_none_of X G z_str,
    b_sum := PySem.W.mg_none_of X G z_sum,
    b_tuple := PySem.W.mg_none_of X G z_tuple,
    b_zip := PySem.W.mg_none_of X G z_zip,
    c_MOST_VALUES := ⟨_, PySem.W.mg_of X G ac_MOST_VALUES⟩,
    c_MOST_POWERS := ⟨_, PySem.W.mg_of X G ac_MOST_POWERS⟩,
    g_gcd := PySem.W.mg_of X G r_gcd,
    R := ⟨⟨r_pg, r_hd, r_po, r_sa⟩, r_nT, r_nB, r_ha, r_hn, r_htk, r_hm, r_si, r_own, r_ty, List.forall_mem_cons.mpr ⟨r_sub, List.forall_mem_cons.mpr ⟨r_nbool, List.forall_mem_cons.mpr ⟨r_nNoneType, List.forall_mem_cons.mpr ⟨r_nstr, List.forall_mem_cons.mpr ⟨r_nlist, List.forall_mem_cons.mpr ⟨r_ntuple, List.forall_mem_cons.mpr ⟨r_ndict, List.forall_mem_nil _⟩⟩⟩⟩⟩⟩⟩⟩,
    mk_Ratio := ⟨r_mk, a_Ratio_init, i_Ratio_init, r_kp⟩,
    o_add := ⟨r_sf, a_Ratio_add, i_Ratio_add, r_radd, ⟨_, r_iadd⟩, ⟨_, r_jadd⟩, r_sub⟩,
    o_sub := ⟨r_sf, a_Ratio_sub, i_Ratio_sub, r_rsub, ⟨_, r_isub⟩, ⟨_, r_jsub⟩, r_sub⟩,
    o_mul := ⟨r_sf, a_Ratio_mul, i_Ratio_mul, r_rmul, ⟨_, r_imul⟩, ⟨_, r_jmul⟩, r_sub⟩,
    p_lt := ⟨a_Ratio_lt, i_Ratio_lt⟩,
    p_le := ⟨a_Ratio_le, i_Ratio_le⟩,
    p_eq := ⟨a_Ratio_eq, i_Ratio_eq⟩,
    p_ne := ⟨r_ne, a_Ratio_eq, i_Ratio_eq, r_ob⟩,
    RS := ⟨⟨s_pg, s_hd, s_po, s_sa⟩, s_nM, s_ha, s_hm, s_own, s_ty, List.forall_mem_cons.mpr ⟨s_nint, List.forall_mem_cons.mpr ⟨s_nbool, List.forall_mem_cons.mpr ⟨s_nNoneType, List.forall_mem_cons.mpr ⟨s_nstr, List.forall_mem_cons.mpr ⟨s_nlist, List.forall_mem_cons.mpr ⟨s_ntuple, List.forall_mem_cons.mpr ⟨s_ndict, List.forall_mem_nil _⟩⟩⟩⟩⟩⟩⟩, s_rat⟩,
    R2 := ⟨s_rl, s_rt, s_rd⟩,
    R4 := s_rb,
    mk_Scale := ⟨s_mk, a_Scale_init, i_Scale_init, s_kp⟩,
    ps_eq := ⟨a_Scale_eq, i_Scale_eq⟩,
    ps_ne := ⟨s_ne, a_Scale_eq, i_Scale_eq, s_ob⟩,
    ln_Scale := a_Scale_len,
    lf_Scale := i_Scale_len,
    neS := (fun e => by have e2 : C_Ratio = C_Scale := e; rw [← e2, s_nm] at a_Scale_marks; cases a_Scale_marks) }
  exact ⟨_, fun s v => .of_eq rfl, fun base _ _ => ok_law T⟩
theorem walk {l : PySem.W.OpenLaw} {q : Program} {loose : List Str} {XP : (Str → Option Value) → Heap → Prop} {YP : World → Heap → Prop} {d : DefRec} {KF : Params → PySem.W.Frag} (hn : l.most = some 63) (hdf : d.params.defaults = []) (hY : ∀ (w : World) (h : Heap), YP w h → (KF w.params).In h)
    (F : ∀ (w : World) (mg : Str → Option Value) (fa : Addr) (h : Heap), (KF w.params).In h → h.Ns mainGlobals mg → mg d.name = some (.ref fa) → ∃ fd : FuncData, (∀ (s : Shared) (u : Value), BindsTo s fd ⟨[u], []⟩ [("_law_script", u)]) ∧ ∀ base : Heap, (KF w.params).In base → base.Ns mainGlobals mg → FnOk l.prog w (KF w.params) mg base CX0 13 fa fd ["_law_script"] (spLaw (KF w.params))) :
    PySem.W.WalkO q loose XP YP l.row.toRowW d [] (fun f vs => PySem.call f vs) :=
  L2.walk_of (n := 63) (k := 13) (x := "_law_script") (CX := fun _ => CX0) (sp := fun w => spLaw (KF w.params)) hn (by decide) hdf ⟨rfl, by decide, by decide⟩ hY F (fun _ _ a ns hl _ hS => ⟨a, ns, rfl, hS, by omega, fun _ _ => rfl⟩) fun _ _ _ _ _ z => z
end Kx
open PySem PySem.W PyProof.Rows
set_option maxRecDepth 100000 in
set_option maxHeartbeats 0 in
theorem PySem.Challenge.cw_firstmeans_k04_lots_and_means_holds : PySem.Challenge.rw_firstmeans_k04_lots_and_means.Holds := by
  w_on; o_law; k_head; (case hw => w_witness2)
  k_fill
  refine Kx.walk (l := PySem.Challenge.rw_firstmeans_k04_lots_and_means) rfl rfl (fun w h Y => PySem.W.kIn_of Y) ?F
  case F =>
    intro w mg fa h KX G hmg
    refine' Kx.all_mk KX G hmg ?aC_MeansError ?aC_ByZero ?aC_BadText ?aC_BadNumber ?aC_BadValues ?aC_NoValue ?aC_BadLot ?aC_BadCurve ?aC_BadCount ?aC_Ratio ?aC_Scale ?a_BadNumber_init ?i_BadNumber_init ?l_BadNumber_init ?c_BadNumber_init ?k_BadNumber_init ?a_BadValues_init ?i_BadValues_init ?l_BadValues_init ?c_BadValues_init ?k_BadValues_init ?a_NoValue_init ?i_NoValue_init ?l_NoValue_init ?c_NoValue_init ?k_NoValue_init ?a_BadLot_init ?i_BadLot_init ?l_BadLot_init ?c_BadLot_init ?k_BadLot_init ?a_BadCurve_init ?i_BadCurve_init ?l_BadCurve_init ?c_BadCurve_init ?k_BadCurve_init ?a_BadCount_init ?i_BadCount_init ?l_BadCount_init ?c_BadCount_init ?k_BadCount_init ?a_Ratio_init ?i_Ratio_init ?l_Ratio_init ?lT_Ratio_init ?c_Ratio_init ?k_Ratio_init ?a_Ratio_add ?i_Ratio_add ?l_Ratio_add ?c_Ratio_add ?k_Ratio_add ?a_Ratio_sub ?i_Ratio_sub ?l_Ratio_sub ?c_Ratio_sub ?k_Ratio_sub ?a_Ratio_mul ?i_Ratio_mul ?l_Ratio_mul ?c_Ratio_mul ?k_Ratio_mul ?a_Ratio_neg ?i_Ratio_neg ?l_Ratio_neg ?c_Ratio_neg ?k_Ratio_neg ?a_Ratio_eq ?i_Ratio_eq ?l_Ratio_eq ?c_Ratio_eq ?k_Ratio_eq ?a_Ratio_lt ?i_Ratio_lt ?l_Ratio_lt ?c_Ratio_lt ?k_Ratio_lt ?a_Ratio_le ?i_Ratio_le ?l_Ratio_le ?c_Ratio_le ?k_Ratio_le ?a_Ratio_text ?i_Ratio_text ?l_Ratio_text ?c_Ratio_text ?k_Ratio_text ?a_is_whole ?l_is_whole ?c_is_whole ?k_is_whole ?a_is_number ?l_is_number ?c_is_number ?k_is_number ?a_are_numbers ?l_are_numbers ?c_are_numbers ?k_are_numbers ?a_as_ratio ?l_as_ratio ?c_as_ratio ?k_as_ratio ?a_total ?l_total ?c_total ?k_total ?a_weighed ?l_weighed ?c_weighed ?k_weighed ?a_read_ratio ?l_read_ratio ?c_read_ratio ?k_read_ratio ?a_has_digits_only ?l_has_digits_only ?c_has_digits_only ?k_has_digits_only ?a_numeral ?l_numeral ?c_numeral ?k_numeral ?a_from_numeral ?l_from_numeral ?c_from_numeral ?k_from_numeral ?a_Scale_init ?i_Scale_init ?l_Scale_init ?c_Scale_init ?k_Scale_init ?a_Scale_len ?i_Scale_len ?l_Scale_len ?c_Scale_len ?k_Scale_len ?a_Scale_eq ?i_Scale_eq ?l_Scale_eq ?c_Scale_eq ?k_Scale_eq ?a_Scale_marks ?i_Scale_marks ?l_Scale_marks ?c_Scale_marks ?k_Scale_marks ?a_Scale_place ?i_Scale_place ?l_Scale_place ?c_Scale_place ?k_Scale_place ?a_Scale_text ?i_Scale_text ?l_Scale_text ?c_Scale_text ?k_Scale_text ?a_insert_new ?l_insert_new ?c_insert_new ?k_insert_new ?a_distinct ?l_distinct ?c_distinct ?k_distinct ?a_climbs ?l_climbs ?c_climbs ?k_climbs ?a_is_curve ?l_is_curve ?c_is_curve ?k_is_curve ?a_are_shares ?l_are_shares ?c_are_shares ?k_are_shares ?a_is_lot ?l_is_lot ?c_is_lot ?k_is_lot ?a_check_lot ?l_check_lot ?c_check_lot ?k_check_lot ?a_check_curve ?l_check_curve ?c_check_curve ?k_check_curve ?a_mean ?l_mean ?c_mean ?k_mean ?a_means_of ?l_means_of ?c_means_of ?k_means_of ?a_uses ?l_uses ?c_uses ?k_uses ?a_Ltape ?l_Ltape ?c_Ltape ?k_Ltape ?a_Lpick ?l_Lpick ?c_Lpick ?k_Lpick ?a_Lmixed ?l_Lmixed ?c_Lmixed ?k_Lmixed ?a_Lshown ?l_Lshown ?c_Lshown ?k_Lshown ?a_Lvalues ?l_Lvalues ?c_Lvalues ?k_Lvalues ?a_Lmade ?l_Lmade ?c_Lmade ?k_Lmade ?a_Llot ?l_Llot ?c_Llot ?k_Llot ?a_Lcurve ?l_Lcurve ?c_Lcurve ?k_Lcurve ?a_Lpower ?l_Lpower ?c_Lpower ?k_Lpower ?a_Lmean ?l_Lmean ?c_Lmean ?k_Lmean ?a_Lmeans ?l_Lmeans ?c_Lmeans ?k_Lmeans ?a_Lgiven ?l_Lgiven ?c_Lgiven ?k_Lgiven ?a_Lis_numbers ?l_Lis_numbers ?c_Lis_numbers ?k_Lis_numbers ?a_Lis_lot ?l_Lis_lot ?c_Lis_lot ?k_Lis_lot ?a_Lnear ?l_Lnear ?c_Lnear ?k_Lnear ?a_Lasked ?l_Lasked ?c_Lasked ?k_Lasked ?a_Lright ?l_Lright ?c_Lright ?k_Lright ?a_law ?l_law ?c_law ?k_law ?xex_ByZero ?xkp_ByZero ?xbx_ByZero ?xty_ByZero ?xcls_ByZero ?xsub_ByZero ?xex_BadText ?xkp_BadText ?xbx_BadText ?xty_BadText ?xcls_BadText ?xsub_BadText ?olk_BadNumber ?orv_BadNumber ?osa_BadNumber ?oex_BadNumber ?oty_BadNumber ?okp_BadNumber ?oti_BadNumber ?oga_BadNumber ?ogg_BadNumber ?ohd_BadNumber ?ois_BadNumber ?oss_BadNumber ?oxa_BadNumber_given ?oso_BadNumber_ByZero ?oso_BadNumber_BadText ?oso_BadNumber_BadValues ?oso_BadNumber_NoValue ?oso_BadNumber_BadLot ?oso_BadNumber_BadCurve ?oso_BadNumber_BadCount ?olk_BadValues ?orv_BadValues ?osa_BadValues ?oex_BadValues ?oty_BadValues ?okp_BadValues ?oti_BadValues ?oga_BadValues ?ogg_BadValues ?ohd_BadValues ?ois_BadValues ?oss_BadValues ?oxa_BadValues_given ?oso_BadValues_ByZero ?oso_BadValues_BadText ?oso_BadValues_BadNumber ?oso_BadValues_NoValue ?oso_BadValues_BadLot ?oso_BadValues_BadCurve ?oso_BadValues_BadCount ?olk_NoValue ?orv_NoValue ?osa_NoValue ?oex_NoValue ?oty_NoValue ?okp_NoValue ?oti_NoValue ?oga_NoValue ?ogg_NoValue ?ohd_NoValue ?ois_NoValue ?oss_NoValue ?oxa_NoValue_given ?oso_NoValue_ByZero ?oso_NoValue_BadText ?oso_NoValue_BadNumber ?oso_NoValue_BadValues ?oso_NoValue_BadLot ?oso_NoValue_BadCurve ?oso_NoValue_BadCount ?olk_BadLot ?orv_BadLot ?osa_BadLot ?oex_BadLot ?oty_BadLot ?okp_BadLot ?oti_BadLot ?oga_BadLot ?ogg_BadLot ?ohd_BadLot ?ois_BadLot ?oss_BadLot ?oxa_BadLot_given ?oso_BadLot_ByZero ?oso_BadLot_BadText ?oso_BadLot_BadNumber ?oso_BadLot_BadValues ?oso_BadLot_NoValue ?oso_BadLot_BadCurve ?oso_BadLot_BadCount ?olk_BadCurve ?orv_BadCurve ?osa_BadCurve ?oex_BadCurve ?oty_BadCurve ?okp_BadCurve ?oti_BadCurve ?oga_BadCurve ?ogg_BadCurve ?ohd_BadCurve ?ois_BadCurve ?oss_BadCurve ?oxa_BadCurve_given ?oso_BadCurve_ByZero ?oso_BadCurve_BadText ?oso_BadCurve_BadNumber ?oso_BadCurve_BadValues ?oso_BadCurve_NoValue ?oso_BadCurve_BadLot ?oso_BadCurve_BadCount ?olk_BadCount ?orv_BadCount ?osa_BadCount ?oex_BadCount ?oty_BadCount ?okp_BadCount ?oti_BadCount ?oga_BadCount ?ogg_BadCount ?ohd_BadCount ?ois_BadCount ?oss_BadCount ?oxa_BadCount_given ?oso_BadCount_ByZero ?oso_BadCount_BadText ?oso_BadCount_BadNumber ?oso_BadCount_BadValues ?oso_BadCount_NoValue ?oso_BadCount_BadLot ?oso_BadCount_BadCurve ?z_abs ?z_all ?z_bool ?z_dict ?z_divmod ?z_enumerate ?z_int ?z_isinstance ?z_len ?z_list ?z_max ?z_min ?z_range ?z_repr ?z_str ?z_sum ?z_tuple ?z_zip ?ac_MOST_VALUES ?ac_MOST_POWERS ?r_gcd ?r_pg ?r_hd ?r_po ?r_sa ?r_nT ?r_nB ?r_ha ?r_hn ?r_htk ?r_hm ?r_si ?r_own ?r_ty ?r_mk ?r_kp ?r_sf ?r_sub ?r_ne ?r_ob ?r_nbool ?r_nNoneType ?r_nstr ?r_nlist ?r_ntuple ?r_ndict ?r_radd ?r_iadd ?r_jadd ?r_rsub ?r_isub ?r_jsub ?r_rmul ?r_imul ?r_jmul ?s_pg ?s_hd ?s_po ?s_sa ?s_nM ?s_ha ?s_hm ?s_own ?s_ty ?s_rat ?s_mk ?s_kp ?s_ne ?s_ob ?s_nm ?s_rl ?s_rt ?s_rd ?s_nint ?s_nbool ?s_nNoneType ?s_nstr ?s_nlist ?s_ntuple ?s_ndict ?s_rb
    (case aC_MeansError => k_is)
    (case aC_ByZero => k_is)
    (case aC_BadText => k_is)
    (case aC_BadNumber => k_is)
    (case aC_BadValues => k_is)
    (case aC_NoValue => k_is)
    (case aC_BadLot => k_is)
    (case aC_BadCurve => k_is)
    (case aC_BadCount => k_is)
    (case aC_Ratio => k_is)
    (case aC_Scale => k_is)
    (case a_BadNumber_init => k_is)
    (case i_BadNumber_init => k_is)
    (case l_BadNumber_init => k_is)
    (case c_BadNumber_init => k_is)
    (case k_BadNumber_init => k_is)
    (case a_BadValues_init => k_is)
    (case i_BadValues_init => k_is)
    (case l_BadValues_init => k_is)
    (case c_BadValues_init => k_is)
    (case k_BadValues_init => k_is)
    (case a_NoValue_init => k_is)
    (case i_NoValue_init => k_is)
    (case l_NoValue_init => k_is)
    (case c_NoValue_init => k_is)
    (case k_NoValue_init => k_is)
    (case a_BadLot_init => k_is)
    (case i_BadLot_init => k_is)
    (case l_BadLot_init => k_is)
    (case c_BadLot_init => k_is)
    (case k_BadLot_init => k_is)
    (case a_BadCurve_init => k_is)
    (case i_BadCurve_init => k_is)
    (case l_BadCurve_init => k_is)
    (case c_BadCurve_init => k_is)
    (case k_BadCurve_init => k_is)
    (case a_BadCount_init => k_is)
    (case i_BadCount_init => k_is)
    (case l_BadCount_init => k_is)
    (case c_BadCount_init => k_is)
    (case k_BadCount_init => k_is)
    (case a_Ratio_init => k_is)
    (case i_Ratio_init => k_is)
    (case l_Ratio_init => k_is)
    (case lT_Ratio_init => k_is)
    (case c_Ratio_init => k_is)
    (case k_Ratio_init => k_is)
    (case a_Ratio_add => k_is)
    (case i_Ratio_add => k_is)
    (case l_Ratio_add => k_is)
    (case c_Ratio_add => k_is)
    (case k_Ratio_add => k_is)
    (case a_Ratio_sub => k_is)
    (case i_Ratio_sub => k_is)
    (case l_Ratio_sub => k_is)
    (case c_Ratio_sub => k_is)
    (case k_Ratio_sub => k_is)
    (case a_Ratio_mul => k_is)
    (case i_Ratio_mul => k_is)
    (case l_Ratio_mul => k_is)
    (case c_Ratio_mul => k_is)
    (case k_Ratio_mul => k_is)
    (case a_Ratio_neg => k_is)
    (case i_Ratio_neg => k_is)
    (case l_Ratio_neg => k_is)
    (case c_Ratio_neg => k_is)
    (case k_Ratio_neg => k_is)
    (case a_Ratio_eq => k_is)
    (case i_Ratio_eq => k_is)
    (case l_Ratio_eq => k_is)
    (case c_Ratio_eq => k_is)
    (case k_Ratio_eq => k_is)
    (case a_Ratio_lt => k_is)
    (case i_Ratio_lt => k_is)
    (case l_Ratio_lt => k_is)
    (case c_Ratio_lt => k_is)
    (case k_Ratio_lt => k_is)
    (case a_Ratio_le => k_is)
    (case i_Ratio_le => k_is)
    (case l_Ratio_le => k_is)
    (case c_Ratio_le => k_is)
    (case k_Ratio_le => k_is)
    (case a_Ratio_text => k_is)
    (case i_Ratio_text => k_is)
    (case l_Ratio_text => k_is)
    (case c_Ratio_text => k_is)
    (case k_Ratio_text => k_is)
    (case a_is_whole => k_is)
    (case l_is_whole => k_is)
    (case c_is_whole => k_is)
    (case k_is_whole => k_is)
    (case a_is_number => k_is)
    (case l_is_number => k_is)
    (case c_is_number => k_is)
    (case k_is_number => k_is)
    (case a_are_numbers => k_is)
    (case l_are_numbers => k_is)
    (case c_are_numbers => k_is)
    (case k_are_numbers => k_is)
    (case a_as_ratio => k_is)
    (case l_as_ratio => k_is)
    (case c_as_ratio => k_is)
    (case k_as_ratio => k_is)
    (case a_total => k_is)
    (case l_total => k_is)
    (case c_total => k_is)
    (case k_total => k_is)
    (case a_weighed => k_is)
    (case l_weighed => k_is)
    (case c_weighed => k_is)
    (case k_weighed => k_is)
    (case a_read_ratio => k_is)
    (case l_read_ratio => k_is)
    (case c_read_ratio => k_is)
    (case k_read_ratio => k_is)
    (case a_has_digits_only => k_is)
    (case l_has_digits_only => k_is)
    (case c_has_digits_only => k_is)
    (case k_has_digits_only => k_is)
    (case a_numeral => k_is)
    (case l_numeral => k_is)
    (case c_numeral => k_is)
    (case k_numeral => k_is)
    (case a_from_numeral => k_is)
    (case l_from_numeral => k_is)
    (case c_from_numeral => k_is)
    (case k_from_numeral => k_is)
    (case a_Scale_init => k_is)
    (case i_Scale_init => k_is)
    (case l_Scale_init => k_is)
    (case c_Scale_init => k_is)
    (case k_Scale_init => k_is)
    (case a_Scale_len => k_is)
    (case i_Scale_len => k_is)
    (case l_Scale_len => k_is)
    (case c_Scale_len => k_is)
    (case k_Scale_len => k_is)
    (case a_Scale_eq => k_is)
    (case i_Scale_eq => k_is)
    (case l_Scale_eq => k_is)
    (case c_Scale_eq => k_is)
    (case k_Scale_eq => k_is)
    (case a_Scale_marks => k_is)
    (case i_Scale_marks => k_is)
    (case l_Scale_marks => k_is)
    (case c_Scale_marks => k_is)
    (case k_Scale_marks => k_is)
    (case a_Scale_place => k_is)
    (case i_Scale_place => k_is)
    (case l_Scale_place => k_is)
    (case c_Scale_place => k_is)
    (case k_Scale_place => k_is)
    (case a_Scale_text => k_is)
    (case i_Scale_text => k_is)
    (case l_Scale_text => k_is)
    (case c_Scale_text => k_is)
    (case k_Scale_text => k_is)
    (case a_insert_new => k_is)
    (case l_insert_new => k_is)
    (case c_insert_new => k_is)
    (case k_insert_new => k_is)
    (case a_distinct => k_is)
    (case l_distinct => k_is)
    (case c_distinct => k_is)
    (case k_distinct => k_is)
    (case a_climbs => k_is)
    (case l_climbs => k_is)
    (case c_climbs => k_is)
    (case k_climbs => k_is)
    (case a_is_curve => k_is)
    (case l_is_curve => k_is)
    (case c_is_curve => k_is)
    (case k_is_curve => k_is)
    (case a_are_shares => k_is)
    (case l_are_shares => k_is)
    (case c_are_shares => k_is)
    (case k_are_shares => k_is)
    (case a_is_lot => k_is)
    (case l_is_lot => k_is)
    (case c_is_lot => k_is)
    (case k_is_lot => k_is)
    (case a_check_lot => k_is)
    (case l_check_lot => k_is)
    (case c_check_lot => k_is)
    (case k_check_lot => k_is)
    (case a_check_curve => k_is)
    (case l_check_curve => k_is)
    (case c_check_curve => k_is)
    (case k_check_curve => k_is)
    (case a_mean => k_is)
    (case l_mean => k_is)
    (case c_mean => k_is)
    (case k_mean => k_is)
    (case a_means_of => k_is)
    (case l_means_of => k_is)
    (case c_means_of => k_is)
    (case k_means_of => k_is)
    (case a_uses => k_is)
    (case l_uses => k_is)
    (case c_uses => k_is)
    (case k_uses => k_is)
    (case a_Ltape => k_is)
    (case l_Ltape => k_is)
    (case c_Ltape => k_is)
    (case k_Ltape => k_is)
    (case a_Lpick => k_is)
    (case l_Lpick => k_is)
    (case c_Lpick => k_is)
    (case k_Lpick => k_is)
    (case a_Lmixed => k_is)
    (case l_Lmixed => k_is)
    (case c_Lmixed => k_is)
    (case k_Lmixed => k_is)
    (case a_Lshown => k_is)
    (case l_Lshown => k_is)
    (case c_Lshown => k_is)
    (case k_Lshown => k_is)
    (case a_Lvalues => k_is)
    (case l_Lvalues => k_is)
    (case c_Lvalues => k_is)
    (case k_Lvalues => k_is)
    (case a_Lmade => k_is)
    (case l_Lmade => k_is)
    (case c_Lmade => k_is)
    (case k_Lmade => k_is)
    (case a_Llot => k_is)
    (case l_Llot => k_is)
    (case c_Llot => k_is)
    (case k_Llot => k_is)
    (case a_Lcurve => k_is)
    (case l_Lcurve => k_is)
    (case c_Lcurve => k_is)
    (case k_Lcurve => k_is)
    (case a_Lpower => k_is)
    (case l_Lpower => k_is)
    (case c_Lpower => k_is)
    (case k_Lpower => k_is)
    (case a_Lmean => k_is)
    (case l_Lmean => k_is)
    (case c_Lmean => k_is)
    (case k_Lmean => k_is)
    (case a_Lmeans => k_is)
    (case l_Lmeans => k_is)
    (case c_Lmeans => k_is)
    (case k_Lmeans => k_is)
    (case a_Lgiven => k_is)
    (case l_Lgiven => k_is)
    (case c_Lgiven => k_is)
    (case k_Lgiven => k_is)
    (case a_Lis_numbers => k_is)
    (case l_Lis_numbers => k_is)
    (case c_Lis_numbers => k_is)
    (case k_Lis_numbers => k_is)
    (case a_Lis_lot => k_is)
    (case l_Lis_lot => k_is)
    (case c_Lis_lot => k_is)
    (case k_Lis_lot => k_is)
    (case a_Lnear => k_is)
    (case l_Lnear => k_is)
    (case c_Lnear => k_is)
    (case k_Lnear => k_is)
    (case a_Lasked => k_is)
    (case l_Lasked => k_is)
    (case c_Lasked => k_is)
    (case k_Lasked => k_is)
    (case a_Lright => k_is)
    (case l_Lright => k_is)
    (case c_Lright => k_is)
    (case k_Lright => k_is)
    (case a_law => k_is)
    (case l_law => k_is)
    (case c_law => k_is)
    (case k_law => k_is)
    (case xex_ByZero => k_exc)
    (case xkp_ByZero => k_is)
    (case xbx_ByZero => k_is)
    (case xty_ByZero => k_is)
    (case xcls_ByZero => k_is)
    (case xsub_ByZero => first | rfl | k_is)
    (case xex_BadText => k_exc)
    (case xkp_BadText => k_is)
    (case xbx_BadText => k_is)
    (case xty_BadText => k_is)
    (case xcls_BadText => k_is)
    (case xsub_BadText => first | rfl | k_is)
    (case olk_BadNumber => k_is)
    (case orv_BadNumber => first | rfl | decide +kernel)
    (case osa_BadNumber => k_is)
    (case oex_BadNumber => k_is)
    (case oty_BadNumber => k_is)
    (case okp_BadNumber => k_is)
    (case oti_BadNumber => k_is)
    (case oga_BadNumber => k_is)
    (case ogg_BadNumber => k_is)
    (case ohd_BadNumber => k_is)
    (case ois_BadNumber => k_is)
    (case oss_BadNumber => first | rfl | k_is)
    (case oxa_BadNumber_given => k_is)
    (case oso_BadNumber_ByZero => k_is)
    (case oso_BadNumber_BadText => k_is)
    (case oso_BadNumber_BadValues => k_is)
    (case oso_BadNumber_NoValue => k_is)
    (case oso_BadNumber_BadLot => k_is)
    (case oso_BadNumber_BadCurve => k_is)
    (case oso_BadNumber_BadCount => k_is)
    (case olk_BadValues => k_is)
    (case orv_BadValues => first | rfl | decide +kernel)
    (case osa_BadValues => k_is)
    (case oex_BadValues => k_is)
    (case oty_BadValues => k_is)
    (case okp_BadValues => k_is)
    (case oti_BadValues => k_is)
    (case oga_BadValues => k_is)
    (case ogg_BadValues => k_is)
    (case ohd_BadValues => k_is)
    (case ois_BadValues => k_is)
    (case oss_BadValues => first | rfl | k_is)
    (case oxa_BadValues_given => k_is)
    (case oso_BadValues_ByZero => k_is)
    (case oso_BadValues_BadText => k_is)
    (case oso_BadValues_BadNumber => k_is)
    (case oso_BadValues_NoValue => k_is)
    (case oso_BadValues_BadLot => k_is)
    (case oso_BadValues_BadCurve => k_is)
    (case oso_BadValues_BadCount => k_is)
    (case olk_NoValue => k_is)
    (case orv_NoValue => first | rfl | decide +kernel)
    (case osa_NoValue => k_is)
    (case oex_NoValue => k_is)
    (case oty_NoValue => k_is)
    (case okp_NoValue => k_is)
    (case oti_NoValue => k_is)
    (case oga_NoValue => k_is)
    (case ogg_NoValue => k_is)
    (case ohd_NoValue => k_is)
    (case ois_NoValue => k_is)
    (case oss_NoValue => first | rfl | k_is)
    (case oxa_NoValue_given => k_is)
    (case oso_NoValue_ByZero => k_is)
    (case oso_NoValue_BadText => k_is)
    (case oso_NoValue_BadNumber => k_is)
    (case oso_NoValue_BadValues => k_is)
    (case oso_NoValue_BadLot => k_is)
    (case oso_NoValue_BadCurve => k_is)
    (case oso_NoValue_BadCount => k_is)
    (case olk_BadLot => k_is)
    (case orv_BadLot => first | rfl | decide +kernel)
    (case osa_BadLot => k_is)
    (case oex_BadLot => k_is)
    (case oty_BadLot => k_is)
    (case okp_BadLot => k_is)
    (case oti_BadLot => k_is)
    (case oga_BadLot => k_is)
    (case ogg_BadLot => k_is)
    (case ohd_BadLot => k_is)
    (case ois_BadLot => k_is)
    (case oss_BadLot => first | rfl | k_is)
    (case oxa_BadLot_given => k_is)
    (case oso_BadLot_ByZero => k_is)
    (case oso_BadLot_BadText => k_is)
    (case oso_BadLot_BadNumber => k_is)
    (case oso_BadLot_BadValues => k_is)
    (case oso_BadLot_NoValue => k_is)
    (case oso_BadLot_BadCurve => k_is)
    (case oso_BadLot_BadCount => k_is)
    (case olk_BadCurve => k_is)
    (case orv_BadCurve => first | rfl | decide +kernel)
    (case osa_BadCurve => k_is)
    (case oex_BadCurve => k_is)
    (case oty_BadCurve => k_is)
    (case okp_BadCurve => k_is)
    (case oti_BadCurve => k_is)
    (case oga_BadCurve => k_is)
    (case ogg_BadCurve => k_is)
    (case ohd_BadCurve => k_is)
    (case ois_BadCurve => k_is)
    (case oss_BadCurve => first | rfl | k_is)
    (case oxa_BadCurve_given => k_is)
    (case oso_BadCurve_ByZero => k_is)
    (case oso_BadCurve_BadText => k_is)
    (case oso_BadCurve_BadNumber => k_is)
    (case oso_BadCurve_BadValues => k_is)
    (case oso_BadCurve_NoValue => k_is)
    (case oso_BadCurve_BadLot => k_is)
    (case oso_BadCurve_BadCount => k_is)
    (case olk_BadCount => k_is)
    (case orv_BadCount => first | rfl | decide +kernel)
    (case osa_BadCount => k_is)
    (case oex_BadCount => k_is)
    (case oty_BadCount => k_is)
    (case okp_BadCount => k_is)
    (case oti_BadCount => k_is)
    (case oga_BadCount => k_is)
    (case ogg_BadCount => k_is)
    (case ohd_BadCount => k_is)
    (case ois_BadCount => k_is)
    (case oss_BadCount => first | rfl | k_is)
    (case oxa_BadCount_given => k_is)
    (case oso_BadCount_ByZero => k_is)
    (case oso_BadCount_BadText => k_is)
    (case oso_BadCount_BadNumber => k_is)
    (case oso_BadCount_BadValues => k_is)
    (case oso_BadCount_NoValue => k_is)
    (case oso_BadCount_BadLot => k_is)
    (case oso_BadCount_BadCurve => k_is)
    (case z_abs => k_is)
    (case z_all => k_is)
    (case z_bool => k_is)
    (case z_dict => k_is)
    (case z_divmod => k_is)
    (case z_enumerate => k_is)
    (case z_int => k_is)
    (case z_isinstance => k_is)
    (case z_len => k_is)
    (case z_list => k_is)
    (case z_max => k_is)
    (case z_min => k_is)
    (case z_range => k_is)
    (case z_repr => k_is)
    (case z_str => k_is)
    (case z_sum => k_is)
    (case z_tuple => k_is)
    (case z_zip => k_is)
    (case ac_MOST_VALUES => k_is)
    (case ac_MOST_POWERS => k_is)
    (case r_gcd => k_is)
    (case r_pg => k_is)
    (case r_hd => k_is)
    (case r_po => k_is)
    (case r_sa => k_is)
    (case r_nT => k_is)
    (case r_nB => k_is)
    (case r_ha => k_is)
    (case r_hn => k_is)
    (case r_htk => k_is)
    (case r_hm => k_is)
    (case r_si => k_is)
    (case r_own => k_is)
    (case r_ty => k_is)
    (case r_mk => k_is)
    (case r_kp => k_is)
    (case r_sf => k_is)
    (case r_sub => k_is)
    (case r_ne => k_is)
    (case r_ob => k_is)
    (case r_nbool => k_is)
    (case r_nNoneType => k_is)
    (case r_nstr => k_is)
    (case r_nlist => k_is)
    (case r_ntuple => k_is)
    (case r_ndict => k_is)
    (case r_radd => k_is)
    (case r_iadd => k_is)
    (case r_jadd => k_is)
    (case r_rsub => k_is)
    (case r_isub => k_is)
    (case r_jsub => k_is)
    (case r_rmul => k_is)
    (case r_imul => k_is)
    (case r_jmul => k_is)
    (case s_pg => k_is)
    (case s_hd => k_is)
    (case s_po => k_is)
    (case s_sa => k_is)
    (case s_nM => k_is)
    (case s_ha => k_is)
    (case s_hm => k_is)
    (case s_own => k_is)
    (case s_ty => k_is)
    (case s_rat => k_is)
    (case s_mk => k_is)
    (case s_kp => k_is)
    (case s_ne => k_is)
    (case s_ob => k_is)
    (case s_nm => k_is)
    (case s_rl => k_is)
    (case s_rt => k_is)
    (case s_rd => k_is)
    (case s_nint => k_is)
    (case s_nbool => k_is)
    (case s_nNoneType => k_is)
    (case s_nstr => k_is)
    (case s_nlist => k_is)
    (case s_ntuple => k_is)
    (case s_ndict => k_is)
    (case s_rb => k_is)


