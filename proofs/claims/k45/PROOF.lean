import PyProof.Rows.All
import Wide.All
import OpenK.AllK
import Wide.FinOn
import KE.KStateDown
import Lean
import HandS.Base
import HandS.Call
import HandS.Ends
import HandS.Exc
import HandS.Defaults
import HandS.Head3
import HandS.HeadHook2
import HandS.HeadEnd
import HandS.ExcInit
import HandS.ExcField
import PySem.Challenge.RW_firstmeans_k45_covers_told_back
import KE.KOpsOwn
import HandS.ForMost
import HandS.ForExc
import HandS.IsInst
import HandS.Gcd
import HandS.Wide
import HandS.MakeKw
import HandS.OwnEq
import HandS.Codes
import HandS.Style
import HandS.StrMore
import PyProof.NeKinds
import HandS.MakeKwOnly
import HandS.TryMany
import HandS.Steps
import PyProof.P3Eq
import HandS.More
import HandS.RaiseMore
import PyProof.CallFns
import HandS.Conv
import HandS.ExcCtx
import HandS.HotCalls
import HandS.Iter
import HandS.Zip
import HandS.ExcOwn
import HandS.TupLe
import HandS.Star
import HandS.TryOnly
import PyProof.ReprRoads
import KE.KUnpackStar
import HandS.Rev
import PyProof.EqAt
import KE.KEqDict
import PyProof.EqKinds
import PyProof.FactsAll.subtypes
set_option Elab.async false
set_option linter.all false
set_option maxRecDepth 100000
set_option maxHeartbeats 2000000
namespace Fm
open PySem PySem.Spec PyProof.Rows L2
def frA {β : Type} : List Addr → (List Addr → β) → β
  | [], k => k []
  | a :: as, k => HandSHeadRun.frNat a fun b => frA as fun bs => k (b :: bs)
def frO {β : Type} (o : Obj) (k : Obj → β) : β := match o with
  | ⟨c, d, t, s⟩ => k ⟨c, d, t, s⟩
theorem frO_eq {β : Type} (o : Obj) (k : Obj → β) : frO o k = k o := rfl
def frK {β : Type} (g : Addr → Option Obj) : List Addr → (PySem.W.Frag → β) → β
  | [], k => k []
  | a :: as, k => match g a with
    | none => frK g as k
    | some o => frO o fun o => frK g as fun r => k ((a, o) :: r)
theorem frK_eq {β : Type} (g : Addr → Option Obj) : ∀ (as : List Addr) (k : PySem.W.Frag → β), frK g as k = k (He.frG g as)
  | [], k => rfl
  | a :: as, k => by
    unfold frK
    cases h : g a with
    | none =>
      show frK g as k = _
      rw [frK_eq g as]
      congr 1
      unfold He.frG
      rw [List.filterMap_cons, h]
      rfl
    | some o =>
      show frO o _ = _
      rw [frO_eq, frK_eq g as]
      congr 1
      unfold He.frG
      rw [List.filterMap_cons, h]
      rfl
def expA (g : Addr → Option Obj) (p : Obj → Bool) (as : List Addr) : List Addr := as.flatMap fun a => match g a with
  | some o => if p o = true then He.refsD o else []
  | none => []
def isDicO (o : Obj) : Bool := match o.data with
  | .dict _ _ => true
  | _ => false
def isFncO (o : Obj) : Bool := match o.data with
  | .func _ => true
  | _ => false
def asM (g : Addr → Option Obj) (xs : List Str) : List Addr :=
  frK g [mainGlobals] fun K0 => frA (xs.map (He.ga K0)) fun a1 => frA (expA g (fun _ => true) a1) fun a2 => frA (expA g isDicO a2) fun a3 => frA (expA g isFncO a3) fun a4 => mainGlobals :: (a1 ++ (a2 ++ (a3 ++ a4)))
abbrev Fx : Type := PySem.W.Frag → Bool
def allM (ex : List Fx) (K : PySem.W.Frag) : Bool := ex.all fun f => f K
def sayM (ex : List Fx) (fn : List He.DefD) (K : PySem.W.Frag) : He.AlD := (allM ex K && fn.all fun d => d.ok K, fn.map fun d => He.fnW K d.at_)
def SaysM (ex : List Fx) (fn : List He.DefD) (K : PySem.W.Frag) : Prop := sayM ex fn K = He.valD fn
def obsM (xs : List Str) (ex : List Fx) (fn : List He.DefD) (g : Addr → Option Obj) : He.AlD := frK g (asM g xs) fun K => sayM ex fn K
def hookM (xs : List Str) (ex : List Fx) (fn : List He.DefD) : PySem.W.Hook where
  α := He.AlD
  obs := fun s => obsM xs ex fn s.heap.get?
  val := fun _ => He.valD fn
  says := fun _ h => ∃ K : PySem.W.Frag, K.In h ∧ SaysM ex fn K
  of := fun _ s e => ⟨_, He.frG_in (as := asM s.heap.get? xs), by
    have e2 : obsM xs ex fn s.heap.get? = He.valD fn := e
    unfold obsM at e2
    rw [frK_eq] at e2
    exact e2⟩
  keeps := fun _ _ _ ⟨K, hK, c⟩ k => ⟨K, PySem.W.Frag.In.keeps hK k, c⟩
theorem obsM_eq {xs : List Str} {ex : List Fx} {fn : List He.DefD} {g : Addr → Option Obj} {s : Shared} (h : ∀ a, g a = s.heap.get? a) : obsM xs ex fn g = (hookM xs ex fn).obs s := by
  have e : g = s.heap.get? := funext h
  rw [e] <;> rfl
section
variable {ex : List Fx} {fn : List He.DefD} {K : PySem.W.Frag}
theorem SaysM.fact (c : SaysM ex fn K) (i : Nat) {f : Fx} (h : ex[i]? = some f := by rfl) : f K = true := by
  have c1 := (He.ba (show (allM ex K && fn.all fun d => d.ok K) = true from congrArg (fun z : He.AlD => z.1) c)).1
  exact List.all_eq_true.mp c1 f (List.mem_of_getElem? h)
theorem SaysM.def_ (c : SaysM ex fn K) (i : Nat) {d : He.DefD} (h : fn[i]? = some d := by rfl) : ∃ fd, FunD K d.name d.qual d.params d.body d.scope (d.dvs K) (d.kws K) (He.fAd K d.at_) fd := by
  have c2 := (He.ba (show (allM ex K && fn.all fun d => d.ok K) = true from congrArg (fun z : He.AlD => z.1) c)).2
  have e : fn.map (fun d => He.fnW K d.at_) = fn.map He.DefD.val := congrArg (fun z : He.AlD => z.2) c
  have e2 : (fn.map fun d => He.fnW K d.at_)[i]? = (fn.map He.DefD.val)[i]? := by rw [e]
  rw [List.getElem?_map, List.getElem?_map, h] at e2
  exact He.DefD.funD (Option.some.inj e2) (List.all_eq_true.mp c2 d (List.mem_of_getElem? h))
end
def oclsB (K : PySem.W.Frag) (C : Addr) : Bool := match K.lookup C with
  | some ⟨.type c, _, .cls ⟨_, _, .ref D :: bm, _, _, true, _, _, _, _, false⟩, ⟨[_, _, _, _, some (.builtin id), _]⟩⟩ => decide (c = "type") && (decide (D = C) && (PySem.HandSPX.refsVE bm && decide (id = "ValueError.__new__")))
  | _ => false
theorem oclsB_ok {K : PySem.W.Frag} {C : Addr} (h : oclsB K C = true) : ∃ nm q N bs bm sn sub ab col dd k0 k1 k2 k3 k5, K.lookup C = some (excClassObj nm q C N bs bm true sn sub ab col dd k0 k1 k2 k3 k5 "ValueError.__new__") ∧ PySem.HandSPX.refsVE bm = true := by
  unfold oclsB at h
  split at h
  · rename_i e
    obtain ⟨h1, h⟩ := He.ba h
    obtain ⟨h2, h⟩ := He.ba h
    obtain ⟨h3, h4⟩ := He.ba h
    have h1 := of_decide_eq_true h1
    have h2 := of_decide_eq_true h2
    have h4 := of_decide_eq_true h4
    subst h1 h2 h4
    exact ⟨_, _, _, _, _, _, _, _, _, _, _, _, _, _, _, e, h3⟩
  · cases h
def intB (K : PySem.W.Frag) (x : Str) (i : Int) : Bool := match PySem.W.nsIn K mainGlobals x with
  | some (some (.int j _)) => decide (j = i)
  | _ => false
theorem intB_ok {K : PySem.W.Frag} {h : Heap} {mg : Str → Option Value} (X : K.In h) (G : h.Ns mainGlobals mg) {x : Str} {i : Int} (c : intB K x i = true) : ∃ t, mg x = some (.int i t) := He.int_ok X G (x := x) (i := i) c
theorem isSomeB {α : Type} {o : Option α} (h : o.isSome = true) : ∃ v, o = some v := Option.isSome_iff_exists.mp h
end Fm

set_option maxHeartbeats 4000000
namespace Kx
open PySem PySem.Spec PyProof.Rows L2 Fm
def top (i : Nat) : Stmt := PySem.Challenge.pw_firstmeans_k45_covers_told_back.main.body.getD i (.Pass ⟨0, 0, 0, 0⟩)
abbrev s_BadNumber_init : Stmt := inClass (top 6) 0
abbrev s_BadValues_init : Stmt := inClass (top 7) 0
abbrev s_BadLot_init : Stmt := inClass (top 9) 0
abbrev s_BadNumbers_init : Stmt := inClass (top 10) 0
abbrev s_Ratio_init : Stmt := inClass (top 12) 0
abbrev s_Ratio_add : Stmt := inClass (top 12) 1
abbrev s_Ratio_sub : Stmt := inClass (top 12) 2
abbrev s_Ratio_mul : Stmt := inClass (top 12) 3
abbrev s_Ratio_neg : Stmt := inClass (top 12) 4
abbrev s_Ratio_eq : Stmt := inClass (top 12) 5
abbrev s_Ratio_lt : Stmt := inClass (top 12) 6
abbrev s_Ratio_over : Stmt := inClass (top 12) 8
abbrev s_Ratio_text : Stmt := inClass (top 12) 9
abbrev s_is_whole : Stmt := top 13
abbrev s_is_number : Stmt := top 14
abbrev s_are_numbers : Stmt := top 15
abbrev s_as_ratio : Stmt := top 16
abbrev s_total : Stmt := top 17
abbrev s_weighed : Stmt := top 18
abbrev s_opposites : Stmt := top 19
abbrev s_numeral : Stmt := top 22
abbrev s_cover : Stmt := top 25
abbrev s_steeper : Stmt := top 27
abbrev s_slopes_of : Stmt := top 28
abbrev s_Scale_init : Stmt := inClass (top 31) 0
abbrev s_Scale_len : Stmt := inClass (top 31) 1
abbrev s_Scale_marks : Stmt := inClass (top 31) 3
abbrev s_insert_new : Stmt := top 32
abbrev s_distinct : Stmt := top 33
abbrev s_is_curve : Stmt := top 35
abbrev s_are_shares : Stmt := top 36
abbrev s_is_lot : Stmt := top 37
abbrev s_check_lot : Stmt := top 38
abbrev s_covers : Stmt := top 40
abbrev s_check_prices : Stmt := top 41
abbrev s_shares_told : Stmt := top 42
abbrev s_fault : Stmt := top 43
abbrev s_lot_of_covers : Stmt := top 44
abbrev s_Lshown : Stmt := top 46
abbrev s_Lcell : Stmt := top 47
abbrev s_Lbox : Stmt := top 48
abbrev s_Ltake : Stmt := top 49
abbrev s_Lmarks : Stmt := top 50
abbrev s_Llot : Stmt := top 51
abbrev s_Lcurve : Stmt := top 52
abbrev s_Lmean : Stmt := top 53
abbrev s_Lcovers : Stmt := top 54
abbrev s_Lfault : Stmt := top 55
abbrev s_Lasked : Stmt := top 56
abbrev s_Lgiven : Stmt := top 57
abbrev s_law : Stmt := top 58
def hNames0 : List PySem.Str := ["_wall", "__name__", "MeansError", "ByZero", "BadText", "BadNumber", "BadValues", "NoValue", "BadLot", "BadNumbers", "Ratio", "is_whole", "is_number", "are_numbers", "as_ratio", "total", "weighed", "opposites", "read_ratio", "has_digits_only", "numeral", "from_numeral", "cover", "steeper", "slopes_of", "MOST_VALUES", "Scale", "insert_new", "distinct", "climbs"]
def hNames1 : List PySem.Str := ["is_curve", "are_shares", "is_lot", "check_lot", "covers", "check_prices", "shares_told", "fault", "lot_of_covers", "_law_shown", "_law_cell", "_law_box", "_law_take", "_law_marks", "_law_lot", "_law_curve", "_law_mean", "_law_covers", "_law_fault", "_law_asked", "_law_given"]
def hNames : List PySem.Str := hNames0 ++ (hNames1)
def hAt0 : List PySem.Str := ["MeansError", "ByZero", "BadText", "BadNumber", "BadValues", "NoValue", "BadLot", "BadNumbers", "Ratio", "Scale", "is_whole", "is_number", "are_numbers", "as_ratio", "total", "weighed", "opposites", "numeral", "cover", "steeper", "slopes_of", "insert_new", "distinct", "is_curve", "are_shares", "is_lot", "check_lot", "covers", "check_prices", "shares_told"]
def hAt1 : List PySem.Str := ["fault", "lot_of_covers", "_law_shown", "_law_cell", "_law_box", "_law_take", "_law_marks", "_law_lot", "_law_curve", "_law_mean", "_law_covers", "_law_fault", "_law_asked", "_law_given", "law"]
def hAt : List PySem.Str := hAt0 ++ (hAt1)
def hFacts0 : List Fx := [fun K => decide (PySem.W.nsIn K mainGlobals "BadNumber" = some (some (.ref (He.ga K "BadNumber")))),
  fun K => decide (PySem.W.nsIn K mainGlobals "BadValues" = some (some (.ref (He.ga K "BadValues")))),
  fun K => decide (PySem.W.nsIn K mainGlobals "BadLot" = some (some (.ref (He.ga K "BadLot")))),
  fun K => decide (PySem.W.nsIn K mainGlobals "BadNumbers" = some (some (.ref (He.ga K "BadNumbers")))),
  fun K => decide (PySem.W.nsIn K mainGlobals "Ratio" = some (some (.ref (He.ga K "Ratio")))),
  fun K => decide (PySem.W.nsIn K mainGlobals "Scale" = some (some (.ref (He.ga K "Scale")))),
  fun K => decide (PySem.W.findIn K (.ref (He.ga K "BadNumber")) "__init__" = some (some (.ref (He.ma K (He.ga K "BadNumber") "__init__")))),
  fun K => decide (PySem.W.findIn K (.ref (He.ga K "BadValues")) "__init__" = some (some (.ref (He.ma K (He.ga K "BadValues") "__init__")))),
  fun K => decide (PySem.W.findIn K (.ref (He.ga K "BadLot")) "__init__" = some (some (.ref (He.ma K (He.ga K "BadLot") "__init__")))),
  fun K => decide (PySem.W.findIn K (.ref (He.ga K "BadNumbers")) "__init__" = some (some (.ref (He.ma K (He.ga K "BadNumbers") "__init__")))),
  fun K => decide (PySem.W.findIn K (.ref (He.ga K "Ratio")) "__init__" = some (some (.ref (He.ma K (He.ga K "Ratio") "__init__")))),
  fun K => PySem.W.isFn K (.ref (He.ma K (He.ga K "Ratio") "__init__")),
  fun K => decide (PySem.W.findIn K (.ref (He.ga K "Ratio")) "__add__" = some (some (.ref (He.ma K (He.ga K "Ratio") "__add__")))),
  fun K => PySem.W.isFn K (.ref (He.ma K (He.ga K "Ratio") "__add__")),
  fun K => decide (PySem.W.findIn K (.ref (He.ga K "Ratio")) "__sub__" = some (some (.ref (He.ma K (He.ga K "Ratio") "__sub__")))),
  fun K => PySem.W.isFn K (.ref (He.ma K (He.ga K "Ratio") "__sub__")),
  fun K => decide (PySem.W.findIn K (.ref (He.ga K "Ratio")) "__mul__" = some (some (.ref (He.ma K (He.ga K "Ratio") "__mul__")))),
  fun K => PySem.W.isFn K (.ref (He.ma K (He.ga K "Ratio") "__mul__")),
  fun K => decide (PySem.W.findIn K (.ref (He.ga K "Ratio")) "__neg__" = some (some (.ref (He.ma K (He.ga K "Ratio") "__neg__")))),
  fun K => PySem.W.isFn K (.ref (He.ma K (He.ga K "Ratio") "__neg__")),
  fun K => decide (PySem.W.findIn K (.ref (He.ga K "Ratio")) "__eq__" = some (some (.ref (He.ma K (He.ga K "Ratio") "__eq__")))),
  fun K => PySem.W.isFn K (.ref (He.ma K (He.ga K "Ratio") "__eq__")),
  fun K => decide (PySem.W.findIn K (.ref (He.ga K "Ratio")) "__lt__" = some (some (.ref (He.ma K (He.ga K "Ratio") "__lt__")))),
  fun K => PySem.W.isFn K (.ref (He.ma K (He.ga K "Ratio") "__lt__")),
  fun K => decide (PySem.W.findIn K (.ref (He.ga K "Ratio")) "over" = some (some (.ref (He.ma K (He.ga K "Ratio") "over")))),
  fun K => PySem.W.isFn K (.ref (He.ma K (He.ga K "Ratio") "over")),
  fun K => decide (PySem.W.findIn K (.ref (He.ga K "Ratio")) "text" = some (some (.ref (He.ma K (He.ga K "Ratio") "text")))),
  fun K => PySem.W.isFn K (.ref (He.ma K (He.ga K "Ratio") "text")),
  fun K => decide (PySem.W.nsIn K mainGlobals "is_whole" = some (some (.ref (He.ga K "is_whole")))),
  fun K => decide (PySem.W.nsIn K mainGlobals "is_number" = some (some (.ref (He.ga K "is_number"))))]
def hFacts1 : List Fx := [fun K => decide (PySem.W.nsIn K mainGlobals "are_numbers" = some (some (.ref (He.ga K "are_numbers")))),
  fun K => decide (PySem.W.nsIn K mainGlobals "as_ratio" = some (some (.ref (He.ga K "as_ratio")))),
  fun K => decide (PySem.W.nsIn K mainGlobals "total" = some (some (.ref (He.ga K "total")))),
  fun K => decide (PySem.W.nsIn K mainGlobals "weighed" = some (some (.ref (He.ga K "weighed")))),
  fun K => decide (PySem.W.nsIn K mainGlobals "opposites" = some (some (.ref (He.ga K "opposites")))),
  fun K => decide (PySem.W.nsIn K mainGlobals "numeral" = some (some (.ref (He.ga K "numeral")))),
  fun K => decide (PySem.W.nsIn K mainGlobals "cover" = some (some (.ref (He.ga K "cover")))),
  fun K => decide (PySem.W.nsIn K mainGlobals "steeper" = some (some (.ref (He.ga K "steeper")))),
  fun K => decide (PySem.W.nsIn K mainGlobals "slopes_of" = some (some (.ref (He.ga K "slopes_of")))),
  fun K => decide (PySem.W.findIn K (.ref (He.ga K "Scale")) "__init__" = some (some (.ref (He.ma K (He.ga K "Scale") "__init__")))),
  fun K => PySem.W.isFn K (.ref (He.ma K (He.ga K "Scale") "__init__")),
  fun K => decide (PySem.W.findIn K (.ref (He.ga K "Scale")) "__len__" = some (some (.ref (He.ma K (He.ga K "Scale") "__len__")))),
  fun K => PySem.W.isFn K (.ref (He.ma K (He.ga K "Scale") "__len__")),
  fun K => decide (PySem.W.findIn K (.ref (He.ga K "Scale")) "marks" = some (some (.ref (He.ma K (He.ga K "Scale") "marks")))),
  fun K => PySem.W.isFn K (.ref (He.ma K (He.ga K "Scale") "marks")),
  fun K => decide (PySem.W.nsIn K mainGlobals "insert_new" = some (some (.ref (He.ga K "insert_new")))),
  fun K => decide (PySem.W.nsIn K mainGlobals "distinct" = some (some (.ref (He.ga K "distinct")))),
  fun K => decide (PySem.W.nsIn K mainGlobals "is_curve" = some (some (.ref (He.ga K "is_curve")))),
  fun K => decide (PySem.W.nsIn K mainGlobals "are_shares" = some (some (.ref (He.ga K "are_shares")))),
  fun K => decide (PySem.W.nsIn K mainGlobals "is_lot" = some (some (.ref (He.ga K "is_lot")))),
  fun K => decide (PySem.W.nsIn K mainGlobals "check_lot" = some (some (.ref (He.ga K "check_lot")))),
  fun K => decide (PySem.W.nsIn K mainGlobals "covers" = some (some (.ref (He.ga K "covers")))),
  fun K => decide (PySem.W.nsIn K mainGlobals "check_prices" = some (some (.ref (He.ga K "check_prices")))),
  fun K => decide (PySem.W.nsIn K mainGlobals "shares_told" = some (some (.ref (He.ga K "shares_told")))),
  fun K => decide (PySem.W.nsIn K mainGlobals "fault" = some (some (.ref (He.ga K "fault")))),
  fun K => decide (PySem.W.nsIn K mainGlobals "lot_of_covers" = some (some (.ref (He.ga K "lot_of_covers")))),
  fun K => decide (PySem.W.nsIn K mainGlobals "_law_shown" = some (some (.ref (He.ga K "_law_shown")))),
  fun K => decide (PySem.W.nsIn K mainGlobals "_law_cell" = some (some (.ref (He.ga K "_law_cell")))),
  fun K => decide (PySem.W.nsIn K mainGlobals "_law_box" = some (some (.ref (He.ga K "_law_box")))),
  fun K => decide (PySem.W.nsIn K mainGlobals "_law_take" = some (some (.ref (He.ga K "_law_take"))))]
def hFacts2 : List Fx := [fun K => decide (PySem.W.nsIn K mainGlobals "_law_marks" = some (some (.ref (He.ga K "_law_marks")))),
  fun K => decide (PySem.W.nsIn K mainGlobals "_law_lot" = some (some (.ref (He.ga K "_law_lot")))),
  fun K => decide (PySem.W.nsIn K mainGlobals "_law_curve" = some (some (.ref (He.ga K "_law_curve")))),
  fun K => decide (PySem.W.nsIn K mainGlobals "_law_mean" = some (some (.ref (He.ga K "_law_mean")))),
  fun K => decide (PySem.W.nsIn K mainGlobals "_law_covers" = some (some (.ref (He.ga K "_law_covers")))),
  fun K => decide (PySem.W.nsIn K mainGlobals "_law_fault" = some (some (.ref (He.ga K "_law_fault")))),
  fun K => decide (PySem.W.nsIn K mainGlobals "_law_asked" = some (some (.ref (He.ga K "_law_asked")))),
  fun K => decide (PySem.W.nsIn K mainGlobals "_law_given" = some (some (.ref (He.ga K "_law_given")))),
  fun K => decide (PySem.W.nsIn K mainGlobals "law" = some (some (.ref (He.ga K "law")))),
  fun K => oclsB K (He.ga K "BadNumber"),
  fun K => decide (PySem.W.findIn K (.ref (He.ga K "BadNumber")) "__setattr__" = some (some (.builtin "object.__setattr__"))),
  fun K => decide (PySem.W.subIn K (.ref (He.ga K "BadNumber")) (.type "BaseException") = some true),
  fun K => decide (PySem.W.typeIn K (.ref (He.ga K "BadNumber")) = some (.type "type")),
  fun K => PySem.W.keepIn K (.ref (He.ga K "BadNumber")),
  fun K => decide (PySem.W.typeIn K (.ref (He.ma K (He.ga K "BadNumber") "__init__")) = some (.type "function")),
  fun K => decide (PySem.W.findIn K (.ref (He.ga K "BadNumber")) "given" = some none),
  fun K => oclsB K (He.ga K "BadValues"),
  fun K => decide (PySem.W.findIn K (.ref (He.ga K "BadValues")) "__setattr__" = some (some (.builtin "object.__setattr__"))),
  fun K => decide (PySem.W.subIn K (.ref (He.ga K "BadValues")) (.type "BaseException") = some true),
  fun K => decide (PySem.W.typeIn K (.ref (He.ga K "BadValues")) = some (.type "type")),
  fun K => PySem.W.keepIn K (.ref (He.ga K "BadValues")),
  fun K => decide (PySem.W.typeIn K (.ref (He.ma K (He.ga K "BadValues") "__init__")) = some (.type "function")),
  fun K => decide (PySem.W.findIn K (.ref (He.ga K "BadValues")) "given" = some none),
  fun K => oclsB K (He.ga K "BadLot"),
  fun K => decide (PySem.W.findIn K (.ref (He.ga K "BadLot")) "__setattr__" = some (some (.builtin "object.__setattr__"))),
  fun K => decide (PySem.W.subIn K (.ref (He.ga K "BadLot")) (.type "BaseException") = some true),
  fun K => decide (PySem.W.typeIn K (.ref (He.ga K "BadLot")) = some (.type "type")),
  fun K => PySem.W.keepIn K (.ref (He.ga K "BadLot")),
  fun K => decide (PySem.W.typeIn K (.ref (He.ma K (He.ga K "BadLot") "__init__")) = some (.type "function")),
  fun K => decide (PySem.W.findIn K (.ref (He.ga K "BadLot")) "__getattribute__" = some (some (.builtin "BaseException.__getattribute__")))]
def hFacts3 : List Fx := [fun K => decide (PySem.W.findIn K (.ref (He.ga K "BadLot")) "__getattr__" = some none),
  fun K => PySem.W.hasDictIn K (He.ga K "BadLot"),
  fun K => PySem.W.isClsIn K (He.ga K "BadLot"),
  fun K => decide (PySem.W.subIn K (.ref (He.ga K "BadLot")) (.ref (He.ga K "BadLot")) = some true),
  fun K => decide (PySem.W.findIn K (.ref (He.ga K "BadLot")) "given" = some none),
  fun K => oclsB K (He.ga K "BadNumbers"),
  fun K => decide (PySem.W.findIn K (.ref (He.ga K "BadNumbers")) "__setattr__" = some (some (.builtin "object.__setattr__"))),
  fun K => decide (PySem.W.subIn K (.ref (He.ga K "BadNumbers")) (.type "BaseException") = some true),
  fun K => decide (PySem.W.typeIn K (.ref (He.ga K "BadNumbers")) = some (.type "type")),
  fun K => PySem.W.keepIn K (.ref (He.ga K "BadNumbers")),
  fun K => decide (PySem.W.typeIn K (.ref (He.ma K (He.ga K "BadNumbers") "__init__")) = some (.type "function")),
  fun K => decide (PySem.W.findIn K (.ref (He.ga K "BadNumbers")) "__getattribute__" = some (some (.builtin "BaseException.__getattribute__"))),
  fun K => decide (PySem.W.findIn K (.ref (He.ga K "BadNumbers")) "__getattr__" = some none),
  fun K => PySem.W.hasDictIn K (He.ga K "BadNumbers"),
  fun K => PySem.W.isClsIn K (He.ga K "BadNumbers"),
  fun K => decide (PySem.W.subIn K (.ref (He.ga K "BadNumbers")) (.ref (He.ga K "BadNumbers")) = some true),
  fun K => decide (PySem.W.findIn K (.ref (He.ga K "BadNumbers")) "given" = some none),
  fun K => decide (PySem.W.subIn K (.ref (He.ga K "BadNumbers")) (.ref (He.ga K "BadLot")) = some false),
  fun K => decide (PySem.W.nsIn K mainGlobals "abs" = some none),
  fun K => decide (PySem.W.nsIn K mainGlobals "all" = some none),
  fun K => decide (PySem.W.nsIn K mainGlobals "bool" = some none),
  fun K => decide (PySem.W.nsIn K mainGlobals "dict" = some none),
  fun K => decide (PySem.W.nsIn K mainGlobals "enumerate" = some none),
  fun K => decide (PySem.W.nsIn K mainGlobals "int" = some none),
  fun K => decide (PySem.W.nsIn K mainGlobals "isinstance" = some none),
  fun K => decide (PySem.W.nsIn K mainGlobals "len" = some none),
  fun K => decide (PySem.W.nsIn K mainGlobals "list" = some none),
  fun K => decide (PySem.W.nsIn K mainGlobals "max" = some none),
  fun K => decide (PySem.W.nsIn K mainGlobals "min" = some none),
  fun K => decide (PySem.W.nsIn K mainGlobals "range" = some none)]
def hFacts4 : List Fx := [fun K => decide (PySem.W.nsIn K mainGlobals "repr" = some none),
  fun K => decide (PySem.W.nsIn K mainGlobals "str" = some none),
  fun K => decide (PySem.W.nsIn K mainGlobals "sum" = some none),
  fun K => decide (PySem.W.nsIn K mainGlobals "tuple" = some none),
  fun K => decide (PySem.W.nsIn K mainGlobals "zip" = some none),
  fun K => intB K "MOST_VALUES" 8,
  fun K => decide (PySem.W.nsIn K mainGlobals "gcd" = some (some (.builtin "math.gcd"))),
  fun K => PySem.W.plainGet K (He.ga K "Ratio") Str.empty,
  fun K => PySem.W.hasDictIn K (He.ga K "Ratio"),
  fun K => PySem.W.plainOver K (He.ga K "Ratio"),
  fun K => decide (PySem.W.findIn K (.ref (He.ga K "Ratio")) "__setattr__" = some (some (.builtin "object.__setattr__"))),
  fun K => decide (PySem.W.findIn K (.ref (He.ga K "Ratio")) "top" = some none),
  fun K => decide (PySem.W.findIn K (.ref (He.ga K "Ratio")) "bottom" = some none),
  fun K => decide (PySem.W.findIn K (.ref (He.ga K "Ratio")) "__class__" = some (some (.builtin "object.__class__"))),
  fun K => decide (PySem.W.specialIn K (.builtin "object.__class__") "__get__" = some (some (.builtin "getset_descriptor.__get__"))),
  fun K => decide (PySem.W.takesIn K (.builtin "object.__class__") = some true),
  fun K => decide (PySem.W.mroIn K (He.ga K "Ratio") (.type "object") = some true),
  fun K => decide (PySem.W.subIn K (.ref (He.ga K "Ratio")) (.type "int") = some false),
  fun K => PySem.W.isClsIn K (He.ga K "Ratio"),
  fun K => decide (PySem.W.typeIn K (.ref (He.ga K "Ratio")) = some (.type "type")),
  fun K => PySem.W.makesIn K (He.ga K "Ratio"),
  fun K => PySem.W.keepIn K (.ref (He.ga K "Ratio")),
  fun K => PySem.W.selfFirst K (He.ga K "Ratio"),
  fun K => decide (PySem.W.subIn K (.type "int") (.ref (He.ga K "Ratio")) = some false),
  fun K => decide (PySem.W.findIn K (.ref (He.ga K "Ratio")) "__ne__" = some (some (.builtin "object.__ne__"))),
  fun K => decide (PySem.W.subIn K (.ref (He.ga K "Ratio")) (.type "object") = some true),
  fun K => decide (PySem.W.subIn K (.type "bool") (.ref (He.ga K "Ratio")) = some false),
  fun K => decide (PySem.W.subIn K (.type "NoneType") (.ref (He.ga K "Ratio")) = some false),
  fun K => decide (PySem.W.subIn K (.type "str") (.ref (He.ga K "Ratio")) = some false),
  fun K => decide (PySem.W.subIn K (.type "list") (.ref (He.ga K "Ratio")) = some false)]
def hFacts5 : List Fx := [fun K => decide (PySem.W.subIn K (.type "tuple") (.ref (He.ga K "Ratio")) = some false),
  fun K => decide (PySem.W.subIn K (.type "dict") (.ref (He.ga K "Ratio")) = some false),
  fun K => decide (PySem.W.findIn K (.ref (He.ga K "Ratio")) "__radd__" = some none),
  fun K => (PySem.W.findIn K (.type "int") "__add__").isSome,
  fun K => (PySem.W.findIn K (.type "int") "__radd__").isSome,
  fun K => decide (PySem.W.findIn K (.ref (He.ga K "Ratio")) "__rsub__" = some none),
  fun K => (PySem.W.findIn K (.type "int") "__sub__").isSome,
  fun K => (PySem.W.findIn K (.type "int") "__rsub__").isSome,
  fun K => decide (PySem.W.findIn K (.ref (He.ga K "Ratio")) "__rmul__" = some none),
  fun K => (PySem.W.findIn K (.type "int") "__mul__").isSome,
  fun K => (PySem.W.findIn K (.type "int") "__rmul__").isSome,
  fun K => PySem.W.plainGet K (He.ga K "Scale") Str.empty,
  fun K => PySem.W.hasDictIn K (He.ga K "Scale"),
  fun K => PySem.W.plainOver K (He.ga K "Scale"),
  fun K => decide (PySem.W.findIn K (.ref (He.ga K "Scale")) "__setattr__" = some (some (.builtin "object.__setattr__"))),
  fun K => decide (PySem.W.findIn K (.ref (He.ga K "Scale")) "_marks" = some none),
  fun K => decide (PySem.W.findIn K (.ref (He.ga K "Scale")) "__class__" = some (some (.builtin "object.__class__"))),
  fun K => decide (PySem.W.mroIn K (He.ga K "Scale") (.type "object") = some true),
  fun K => PySem.W.isClsIn K (He.ga K "Scale"),
  fun K => decide (PySem.W.typeIn K (.ref (He.ga K "Scale")) = some (.type "type")),
  fun K => decide (PySem.W.subIn K (.ref (He.ga K "Ratio")) (.ref (He.ga K "Scale")) = some false),
  fun K => PySem.W.makesIn K (He.ga K "Scale"),
  fun K => PySem.W.keepIn K (.ref (He.ga K "Scale")),
  fun K => decide (PySem.W.findIn K (.ref (He.ga K "Ratio")) "marks" = some none),
  fun K => decide (PySem.W.subIn K (.ref (He.ga K "Ratio")) (.type "list") = some false),
  fun K => decide (PySem.W.subIn K (.ref (He.ga K "Ratio")) (.type "tuple") = some false),
  fun K => decide (PySem.W.subIn K (.ref (He.ga K "Ratio")) (.type "dict") = some false),
  fun K => decide (PySem.W.subIn K (.type "int") (.ref (He.ga K "Scale")) = some false),
  fun K => decide (PySem.W.subIn K (.type "bool") (.ref (He.ga K "Scale")) = some false),
  fun K => decide (PySem.W.subIn K (.type "NoneType") (.ref (He.ga K "Scale")) = some false)]
def hFacts6 : List Fx := [fun K => decide (PySem.W.subIn K (.type "str") (.ref (He.ga K "Scale")) = some false),
  fun K => decide (PySem.W.subIn K (.type "list") (.ref (He.ga K "Scale")) = some false),
  fun K => decide (PySem.W.subIn K (.type "tuple") (.ref (He.ga K "Scale")) = some false),
  fun K => decide (PySem.W.subIn K (.type "dict") (.ref (He.ga K "Scale")) = some false)]
def hFacts : List Fx := hFacts0 ++ (hFacts1 ++ (hFacts2 ++ (hFacts3 ++ (hFacts4 ++ (hFacts5 ++ (hFacts6))))))
def hD_BadNumber_init : He.DefD := ⟨("BadNumber", some "__init__"), "__init__", "BadNumber.__init__", defArgs s_BadNumber_init, defBody s_BadNumber_init, defScope s_BadNumber_init, [], []⟩
def hD_BadValues_init : He.DefD := ⟨("BadValues", some "__init__"), "__init__", "BadValues.__init__", defArgs s_BadValues_init, defBody s_BadValues_init, defScope s_BadValues_init, [], []⟩
def hD_BadLot_init : He.DefD := ⟨("BadLot", some "__init__"), "__init__", "BadLot.__init__", defArgs s_BadLot_init, defBody s_BadLot_init, defScope s_BadLot_init, [], []⟩
def hD_BadNumbers_init : He.DefD := ⟨("BadNumbers", some "__init__"), "__init__", "BadNumbers.__init__", defArgs s_BadNumbers_init, defBody s_BadNumbers_init, defScope s_BadNumbers_init, [], []⟩
def hD_Ratio_init : He.DefD := ⟨("Ratio", some "__init__"), "__init__", "Ratio.__init__", defArgs s_Ratio_init, defBody s_Ratio_init, defScope s_Ratio_init, [.int 1], []⟩
def hD_Ratio_add : He.DefD := ⟨("Ratio", some "__add__"), "__add__", "Ratio.__add__", defArgs s_Ratio_add, defBody s_Ratio_add, defScope s_Ratio_add, [], []⟩
def hD_Ratio_sub : He.DefD := ⟨("Ratio", some "__sub__"), "__sub__", "Ratio.__sub__", defArgs s_Ratio_sub, defBody s_Ratio_sub, defScope s_Ratio_sub, [], []⟩
def hD_Ratio_mul : He.DefD := ⟨("Ratio", some "__mul__"), "__mul__", "Ratio.__mul__", defArgs s_Ratio_mul, defBody s_Ratio_mul, defScope s_Ratio_mul, [], []⟩
def hD_Ratio_neg : He.DefD := ⟨("Ratio", some "__neg__"), "__neg__", "Ratio.__neg__", defArgs s_Ratio_neg, defBody s_Ratio_neg, defScope s_Ratio_neg, [], []⟩
def hD_Ratio_eq : He.DefD := ⟨("Ratio", some "__eq__"), "__eq__", "Ratio.__eq__", defArgs s_Ratio_eq, defBody s_Ratio_eq, defScope s_Ratio_eq, [], []⟩
def hD_Ratio_lt : He.DefD := ⟨("Ratio", some "__lt__"), "__lt__", "Ratio.__lt__", defArgs s_Ratio_lt, defBody s_Ratio_lt, defScope s_Ratio_lt, [], []⟩
def hD_Ratio_over : He.DefD := ⟨("Ratio", some "over"), "over", "Ratio.over", defArgs s_Ratio_over, defBody s_Ratio_over, defScope s_Ratio_over, [], []⟩
def hD_Ratio_text : He.DefD := ⟨("Ratio", some "text"), "text", "Ratio.text", defArgs s_Ratio_text, defBody s_Ratio_text, defScope s_Ratio_text, [], []⟩
def hD_is_whole : He.DefD := ⟨("is_whole", none), "is_whole", "is_whole", defArgs s_is_whole, defBody s_is_whole, defScope s_is_whole, [], []⟩
def hD_is_number : He.DefD := ⟨("is_number", none), "is_number", "is_number", defArgs s_is_number, defBody s_is_number, defScope s_is_number, [], []⟩
def hD_are_numbers : He.DefD := ⟨("are_numbers", none), "are_numbers", "are_numbers", defArgs s_are_numbers, defBody s_are_numbers, defScope s_are_numbers, [], []⟩
def hD_as_ratio : He.DefD := ⟨("as_ratio", none), "as_ratio", "as_ratio", defArgs s_as_ratio, defBody s_as_ratio, defScope s_as_ratio, [], []⟩
def hD_total : He.DefD := ⟨("total", none), "total", "total", defArgs s_total, defBody s_total, defScope s_total, [], []⟩
def hD_weighed : He.DefD := ⟨("weighed", none), "weighed", "weighed", defArgs s_weighed, defBody s_weighed, defScope s_weighed, [], []⟩
def hD_opposites : He.DefD := ⟨("opposites", none), "opposites", "opposites", defArgs s_opposites, defBody s_opposites, defScope s_opposites, [], []⟩
def hD_numeral : He.DefD := ⟨("numeral", none), "numeral", "numeral", defArgs s_numeral, defBody s_numeral, defScope s_numeral, [], []⟩
def hD_cover : He.DefD := ⟨("cover", none), "cover", "cover", defArgs s_cover, defBody s_cover, defScope s_cover, [], []⟩
def hD_steeper : He.DefD := ⟨("steeper", none), "steeper", "steeper", defArgs s_steeper, defBody s_steeper, defScope s_steeper, [], []⟩
def hD_slopes_of : He.DefD := ⟨("slopes_of", none), "slopes_of", "slopes_of", defArgs s_slopes_of, defBody s_slopes_of, defScope s_slopes_of, [], []⟩
def hD_Scale_init : He.DefD := ⟨("Scale", some "__init__"), "__init__", "Scale.__init__", defArgs s_Scale_init, defBody s_Scale_init, defScope s_Scale_init, [], []⟩
def hD_Scale_len : He.DefD := ⟨("Scale", some "__len__"), "__len__", "Scale.__len__", defArgs s_Scale_len, defBody s_Scale_len, defScope s_Scale_len, [], []⟩
def hD_Scale_marks : He.DefD := ⟨("Scale", some "marks"), "marks", "Scale.marks", defArgs s_Scale_marks, defBody s_Scale_marks, defScope s_Scale_marks, [], []⟩
def hD_insert_new : He.DefD := ⟨("insert_new", none), "insert_new", "insert_new", defArgs s_insert_new, defBody s_insert_new, defScope s_insert_new, [], []⟩
def hD_distinct : He.DefD := ⟨("distinct", none), "distinct", "distinct", defArgs s_distinct, defBody s_distinct, defScope s_distinct, [], []⟩
def hD_is_curve : He.DefD := ⟨("is_curve", none), "is_curve", "is_curve", defArgs s_is_curve, defBody s_is_curve, defScope s_is_curve, [], []⟩
def hD_are_shares : He.DefD := ⟨("are_shares", none), "are_shares", "are_shares", defArgs s_are_shares, defBody s_are_shares, defScope s_are_shares, [], []⟩
def hD_is_lot : He.DefD := ⟨("is_lot", none), "is_lot", "is_lot", defArgs s_is_lot, defBody s_is_lot, defScope s_is_lot, [], []⟩
def hD_check_lot : He.DefD := ⟨("check_lot", none), "check_lot", "check_lot", defArgs s_check_lot, defBody s_check_lot, defScope s_check_lot, [], []⟩
def hD_covers : He.DefD := ⟨("covers", none), "covers", "covers", defArgs s_covers, defBody s_covers, defScope s_covers, [], []⟩
def hD_check_prices : He.DefD := ⟨("check_prices", none), "check_prices", "check_prices", defArgs s_check_prices, defBody s_check_prices, defScope s_check_prices, [], []⟩
def hD_shares_told : He.DefD := ⟨("shares_told", none), "shares_told", "shares_told", defArgs s_shares_told, defBody s_shares_told, defScope s_shares_told, [], []⟩
def hD_fault : He.DefD := ⟨("fault", none), "fault", "fault", defArgs s_fault, defBody s_fault, defScope s_fault, [], []⟩
def hD_lot_of_covers : He.DefD := ⟨("lot_of_covers", none), "lot_of_covers", "lot_of_covers", defArgs s_lot_of_covers, defBody s_lot_of_covers, defScope s_lot_of_covers, [], []⟩
def hD_Lshown : He.DefD := ⟨("_law_shown", none), "_law_shown", "_law_shown", defArgs s_Lshown, defBody s_Lshown, defScope s_Lshown, [], []⟩
def hD_Lcell : He.DefD := ⟨("_law_cell", none), "_law_cell", "_law_cell", defArgs s_Lcell, defBody s_Lcell, defScope s_Lcell, [], []⟩
def hD_Lbox : He.DefD := ⟨("_law_box", none), "_law_box", "_law_box", defArgs s_Lbox, defBody s_Lbox, defScope s_Lbox, [], []⟩
def hD_Ltake : He.DefD := ⟨("_law_take", none), "_law_take", "_law_take", defArgs s_Ltake, defBody s_Ltake, defScope s_Ltake, [], []⟩
def hD_Lmarks : He.DefD := ⟨("_law_marks", none), "_law_marks", "_law_marks", defArgs s_Lmarks, defBody s_Lmarks, defScope s_Lmarks, [], []⟩
def hD_Llot : He.DefD := ⟨("_law_lot", none), "_law_lot", "_law_lot", defArgs s_Llot, defBody s_Llot, defScope s_Llot, [], []⟩
def hD_Lcurve : He.DefD := ⟨("_law_curve", none), "_law_curve", "_law_curve", defArgs s_Lcurve, defBody s_Lcurve, defScope s_Lcurve, [], []⟩
def hD_Lmean : He.DefD := ⟨("_law_mean", none), "_law_mean", "_law_mean", defArgs s_Lmean, defBody s_Lmean, defScope s_Lmean, [], []⟩
def hD_Lcovers : He.DefD := ⟨("_law_covers", none), "_law_covers", "_law_covers", defArgs s_Lcovers, defBody s_Lcovers, defScope s_Lcovers, [], []⟩
def hD_Lfault : He.DefD := ⟨("_law_fault", none), "_law_fault", "_law_fault", defArgs s_Lfault, defBody s_Lfault, defScope s_Lfault, [], []⟩
def hD_Lasked : He.DefD := ⟨("_law_asked", none), "_law_asked", "_law_asked", defArgs s_Lasked, defBody s_Lasked, defScope s_Lasked, [], []⟩
def hD_Lgiven : He.DefD := ⟨("_law_given", none), "_law_given", "_law_given", defArgs s_Lgiven, defBody s_Lgiven, defScope s_Lgiven, [], []⟩
def hD_law : He.DefD := ⟨("law", none), "law", "law", defArgs s_law, defBody s_law, defScope s_law, [], []⟩
def hDefs0 : List He.DefD := [hD_BadNumber_init, hD_BadValues_init, hD_BadLot_init, hD_BadNumbers_init, hD_Ratio_init, hD_Ratio_add, hD_Ratio_sub, hD_Ratio_mul, hD_Ratio_neg, hD_Ratio_eq, hD_Ratio_lt, hD_Ratio_over, hD_Ratio_text, hD_is_whole, hD_is_number, hD_are_numbers, hD_as_ratio, hD_total, hD_weighed, hD_opposites, hD_numeral, hD_cover, hD_steeper, hD_slopes_of, hD_Scale_init, hD_Scale_len, hD_Scale_marks, hD_insert_new, hD_distinct, hD_is_curve]
def hDefs1 : List He.DefD := [hD_are_shares, hD_is_lot, hD_check_lot, hD_covers, hD_check_prices, hD_shares_told, hD_fault, hD_lot_of_covers, hD_Lshown, hD_Lcell, hD_Lbox, hD_Ltake, hD_Lmarks, hD_Llot, hD_Lcurve, hD_Lmean, hD_Lcovers, hD_Lfault, hD_Lasked, hD_Lgiven, hD_law]
def hDefs : List He.DefD := hDefs0 ++ (hDefs1)
abbrev hR : PySem.W.OpenRow := PySem.W.OpenLaw.row PySem.Challenge.rw_firstmeans_k45_covers_told_back
abbrev hQ : Program := PySem.W.view hR.prog [0, 58]
abbrev hk : PySem.W.Hook := hookM hAt hFacts hDefs
def hOb (s : PySem.W.SharedT) : He.AlD := obsM hAt hFacts hDefs (HandSHeadRun.getT s)
theorem hOb_eq (s : PySem.W.SharedT) : hOb s = hk.obs s.abs := obsM_eq (HandSHeadRun.getT_eq s)
set_option maxHeartbeats 0 in
theorem hRun (w : World) : HandSHeadRun.RunEqI hR hQ hk hOb 60000 hNames w := by
  unfold HandSHeadRun.RunEqI
  kernel_rfl
end Kx


set_option maxHeartbeats 2000000
namespace Fm
open PySem PySem.Spec PyProof.Rows L2
section
variable {X : Cx} {CX : CXT} {k : Nat} {f C : Addr} {fd : FuncData} {ps : List Str} {sp : Sp} {E : XK}

theorem back_of {pins : List (Addr × Obj)} {σ : L2.St} {Q : VK} {v : Value} {s : Shared} (h : EP X pins σ Q v s) : PySem.W.CmpBack (EP X pins σ Q) v s := by
  cases v with
  | notImplemented =>
    obtain ⟨x, H, _, r, _⟩ := h
    cases x <;> first | exact nomatch r | (obtain ⟨t, e⟩ := r; exact nomatch e)
  | _ => exact h
theorem run_back {pins : List (Addr × Obj)} {σ : L2.St} {H : Hp} {s : Shared} {Q : VK} {us : List Value} {vs : List V} (F : FnOk X.prog X.w X.K X.mg X.base CX k f fd ps sp) (hr : Room k X.A) (hb : Binds X.K fd ps []) (hx : Passes CX X E)
    (I : Inv X pins σ H s) (r : Vals vs us) (h : sp vs H Q E) : wpAny (model X.prog X.w) X.A (call (.ref f) us) (PySem.W.CmpBack (EP X pins σ Q)) X.xe s :=
  thn (run_fn F hr hb .nil hx I r (by rw [List.append_nil]; exact h)) fun _ _ q => back_of q

def NumLike (C : Addr) (y : V) (H : Hp) : Prop := (∃ j, y = .int j) ∨ ∃ b db gs, y = .ref b ∧ H b = some (.ins C db gs)
def rOwn (C : Addr) (sp : Sp) (E : XK) : R2 := fun x y H Q => (∃ a dx fs, x = .ref a ∧ H a = some (.ins C dx fs)) ∧ NumLike C y H ∧ sp [x, y] H Q E
theorem inst_of {pins : List (Addr × Obj)} {σ : L2.St} {H : Hp} {s : Shared} {a dx : Addr} {fs : List (Str × V)} (I : Inv X pins σ H s) (h : H a = some (.ins C dx fs)) : ∃ ox od, PySem.W.InstAt s.heap a ox C od := by
  obtain ⟨mA, J, _⟩ := ins_get I.hok h
  obtain ⟨od, J, _⟩ := J.look
  exact ⟨_, _, J⟩
structure OpFn (K : PySem.W.Frag) (C f : Addr) (op : Operator) : Prop where
  sf : PySem.W.selfFirst K C = true
  hs : PySem.W.findIn K (.ref C) (PySem.dunder op.info.2) = some (some (.ref f))
  fn : PySem.W.isFn K (.ref f) = true
  hr : PySem.W.findIn K (.ref C) (dunderR op.info.2) = some none
  h1 : ∃ fo, PySem.W.findIn K (.type "int") (PySem.dunder op.info.2) = some fo
  h2 : ∃ ro, PySem.W.findIn K (.type "int") (dunderR op.info.2) = some ro
  sub : PySem.W.subIn K (.type "int") (.ref C) = some false
theorem op_own {op : Operator} (T : OpFn X.K C f op) (F : FnOk X.prog X.w X.K X.mg X.base CX k f fd ps sp) (hr : Room k X.A) (hb : Binds X.K fd ps []) (hx : Passes CX X E) : OpR X (binaryOp op) (rOwn C sp E) := by
  intro pins s σ H x y v u Q I rx ry h
  obtain ⟨⟨a, dx, fs, rfl, ha⟩, hy, q⟩ := h
  cases rx
  obtain ⟨ox, od, J⟩ := inst_of I ha
  obtain ⟨m, hF⟩ := I.fr
  rcases hy with ⟨j, rfl⟩ | ⟨b, db, gs, rfl, hb'⟩
  · obtain ⟨t, rfl⟩ := ry
    obtain ⟨fo, e1⟩ := T.h1
    obtain ⟨ro, e2⟩ := T.h2
    exact PySem.W.ksp_binT (T := "int") hF I.ok.mod.kin J rfl T.sf T.hs T.fn T.hr (.inl rfl) e1 e2 T.sub (run_back (vs := [.ref a, .int j]) F hr hb hx I (.cons rfl (.cons ⟨t, rfl⟩ .nil)) q)
  · cases ry
    obtain ⟨oy, oyd, J'⟩ := inst_of I hb'
    exact PySem.W.binop_K hF I.ok.mod.kin J J'.type T.sf T.hs T.fn (run_back (vs := [.ref a, .ref b]) F hr hb hx I (.cons rfl (.cons rfl .nil)) q)
def rOwnU (C : Addr) (sp : Sp) (E : XK) : V → Hp → VK → Prop := fun x H Q => (∃ a dx fs, x = .ref a ∧ H a = some (.ins C dx fs)) ∧ sp [x] H Q E
theorem un_own (hs : PySem.W.findIn X.K (.ref C) "__neg__" = some (some (.ref f))) (hf : PySem.W.isFn X.K (.ref f) = true) (F : FnOk X.prog X.w X.K X.mg X.base CX k f fd ps sp) (hr : Room k X.A) (hb : Binds X.K fd ps []) (hx : Passes CX X E) :
    UnR X (unaryOp .USub) (rOwnU C sp E) := by
  intro pins s σ H x v Q I rx h
  obtain ⟨⟨a, dx, fs, rfl, ha⟩, q⟩ := h
  cases rx
  obtain ⟨ox, od, J⟩ := inst_of I ha
  obtain ⟨m, hF⟩ := I.fr
  exact PySem.W.ksp_neg hF I.ok.mod.kin J hs hf (run_fn (us := [.ref a]) (vs := [.ref a]) (dvs := []) (ds := []) F hr hb .nil hx I (.cons rfl .nil) q)
structure CmpFn (K : PySem.W.Frag) (C f : Addr) (op : CmpOp) : Prop where
  hs : PySem.W.findIn K (.ref C) (cmpInfo op).2.1 = some (some (.ref f))
  fn : PySem.W.isFn K (.ref f) = true
def rCmpOwn (K : PySem.W.Frag) (C : Addr) (sp : Sp) (E : XK) : R2 := fun x y H Q => (∃ a dx fs, x = .ref a ∧ H a = some (.ins C dx fs)) ∧ (∃ t, TyX K H y t ∧ PySem.W.notFirst K C t = true) ∧ sp [x, y] H Q E
theorem rel_kit {pins : List (Addr × Obj)} {σ : L2.St} {H : Hp} {s : Shared} {y : V} {u t : Value} (I : Inv X pins σ H s) (ry : RelV y u) (ty : TyX X.K H y t) : PySem.W.Looks (model X.prog X.w) s.heap (typeOf u) t := by
  obtain ⟨P, Z, p, _⟩ := kit_of I ry ty
  exact Z.ty _ _ I.kIn p
theorem op_cmp {op : CmpOp} (hop : ∀ v u : Value, compareOp op v u = richCompare op v u) (T : CmpFn X.K C f op) (F : FnOk X.prog X.w X.K X.mg X.base CX k f fd ps sp) (hr : Room k X.A) (hb : Binds X.K fd ps []) (hx : Passes CX X E) :
    OpR X (compareOp op) (rCmpOwn X.K C sp E) := by
  intro pins s σ H x y v u Q I rx ry h
  obtain ⟨⟨a, dx, fs, rfl, ha⟩, ⟨t, ty, hn⟩, q⟩ := h
  cases rx
  obtain ⟨ox, od, J⟩ := inst_of I ha
  obtain ⟨m, hF⟩ := I.fr
  rw [hop]
  exact PySem.W.cmp_K hr.units0 hF I.ok.mod.kin J (rel_kit I ry ty) hn T.hs T.fn (run_back (vs := [.ref a, y]) F hr hb hx I (.cons rfl (.cons ry .nil)) q)
structure NeFn (K : PySem.W.Frag) (C f : Addr) : Prop where
  hn : PySem.W.findIn K (.ref C) "__ne__" = some (some (.builtin "object.__ne__"))
  hs : PySem.W.findIn K (.ref C) "__eq__" = some (some (.ref f))
  fn : PySem.W.isFn K (.ref f) = true
  ob : PySem.W.subIn K (.ref C) (.type "object") = some true
theorem ne_bind (self : Value) : bindSpecial (.builtin "object.__ne__") self = pure (.builtin "object.__ne__", [self]) := F.cmp_object.ne.bind self
theorem ne_entry {M : Model} {A : Around} {E : Value → Shared → Prop} {s : Shared} {K : PySem.W.Frag} {x C f : Addr} {ox : Obj} {od : Option Obj} {b : Value} (X : K.In s.heap) (I : PySem.W.InstAt s.heap x ox C od)
    (hs : PySem.W.findIn K (.ref C) "__eq__" = some (some (.ref f))) (hf : PySem.W.isFn K (.ref f) = true) (hu : A.units < cLine) {Q : Fin → Shared → Prop}
    (hcall : wpAny M A (call (.ref f) [.ref x, b]) (fun v s' => ∃ c, v = .bool c ∧ Q (.done (.ret (.bool (!c)))) s') E s) :
    wpAny M A (Builtin.«object.__ne__» ⟨[.ref x, b], []⟩) Q E s := by
  obtain ⟨h, g, d, t, os⟩ := s
  unfold Builtin.«object.__ne__»
  repeat (first
    | with_reducible refine wpAny_cRoomFor hu ?_
    | (refine wpAny_bind (m := callSpecialIfBound? (.ref x) (Str.ofString "__eq__") [b])
        (PySem.W.ifBound_K X I hs hf (wpAny_mono hcall (fun r s' hr => by
          obtain ⟨c, rfl, hq⟩ := hr
          repeat (first | exact hq | exact wpAny_pure hq | exact wpAny_truthy_bool hq | (refine wpAny_bind (m := truthy (.bool _)) (wpAny_truthy_bool ?_)) | wp_step)) fun _ _ e => e)))
    | wp_step)
theorem ne_own {prog : Program} {w : World} {A : Around} {E : Value → Shared → Prop} {s : Shared} {K : PySem.W.Frag} {x C f L : Addr} {h₀ : Heap} {m : Str → Option Value} {ox : Obj} {od : Option Obj} {b tb : Value} {Q : Value → Shared → Prop}
    (hu : A.units + 1 < cLine) (hF : Fr h₀ L s.heap m) (X₀ : K.In h₀) (I : PySem.W.InstAt s.heap x ox C od) (hb : PySem.W.Looks (model prog w) s.heap (typeOf b) tb) (hn : PySem.W.notFirst K C tb = true) (T : NeFn K C f)
    (h : wpAny (model prog w) A.in1 (call (.ref f) [.ref x, b]) (fun v s' => ∃ c, v = .bool c ∧ Q (.bool (!c)) s') E s) : wpAny (model prog w) A (compareOp .NotEq (.ref x) b) Q E s := by
  have X := X₀.keeps hF.keep
  have one : wpAny (model prog w) A (tryCompare (.ref x) "__ne__" b) (fun r s' => ∃ v, r = some v ∧ Q v s') E s := by
    unfold tryCompare
    have hc : wpAny (model prog w) A (call (.builtin "object.__ne__") [.ref x, b]) (fun v s' => ∃ c, v = .bool c ∧ Q (.bool c) s') E s := by
      refine wpAny_call (codeAny_call_builtin PySem.F.cmp_object.ne.plain PySem.F.cmpEntry_ne ?_)
      refine @PySem.W.check_slot (model prog w) _ _ s "object.__ne__" "object" "__ne__" (.ref x) [b] [] _ PySem.F.cmpKind_ne PySem.F.cmpSplit_ne (I.type.andThen (PySem.W.looks_subIn X T.ob)) (PySem.F.cmpArgs_ne _ _) ?_
      refine ne_entry (A := A.in1) X I T.hs T.fn hu (wpAny_mono h (fun v s' hv => ?_) fun _ _ e => e)
      obtain ⟨c, rfl, hq⟩ := hv
      exact ⟨c, rfl, _, rfl, hq⟩
    have fin : wpAny (model prog w) A (call (.builtin "object.__ne__") ([.ref x] ++ [b]) >>= fun v => pure (some v)) (fun r s' => ∃ c, r = some (Value.bool c) ∧ Q (.bool c) s') E s :=
      wpAny_bind (wpAny_mono hc (fun v s' h' => by
        obtain ⟨c, rfl, hq⟩ := h'
        exact wpAny_pure ⟨c, rfl, hq⟩) fun _ _ h' => h')
    have sp : wpAny (model prog w) A (callSpecialIfBound? (.ref x) "__ne__" [b]) (fun r s' => ∃ c, r = some (Value.bool c) ∧ Q (.bool c) s') E s := by
      simp only [callSpecialIfBound?, bindSpecialIfBound?]
      refine wpAny_holding (wpAny_bind (wpAny_bind (wpAny_bind (I.type.here ((PySem.W.looks_findIn X T.hn).here ?_)))))
      refine wpAny_bind (wpAny_askSetting (wpAny_ite ?_))
      simp only [ne_bind]
      split
      · exact wpAny_bind (wpAny_pure (wpAny_pure fin))
      · exact wpAny_tryCatch (wpAny_bind (wpAny_pure (wpAny_pure fin)))
    refine wpAny_bind (wpAny_mono sp (fun r s' z => ?_) fun _ _ e => e)
    obtain ⟨c, rfl, hq⟩ := z
    exact wpAny_pure ⟨_, rfl, hq⟩
  show wpAny (model prog w) A (richCompare .NotEq (.ref x) b) Q E s
  unfold richCompare
  simp only [oneThing_ref]
  refine wpAny_holding (wpAny_bind (wpAny_cRoomFor (Nat.lt_of_succ_lt hu) ?_))
  rw [cmpInfo_NotEq]
  dsimp only
  refine wpAny_bind (I.type.here (wpAny_bind (hb.here ?_)))
  split
  · rename_i q
    have e : PySem.W.subIn K tb (.ref C) = some false := by
      rcases Bool.or_eq_true_iff.mp hn with e | e
      · rw [beq_iff_eq.mp e] at q; simp at q
      · exact beq_iff_eq.mp e
    refine wpAny_bind ((PySem.W.looks_subIn X e).here ?_)
    simp only [Bool.false_eq_true, if_false]
    refine wpAny_bind (wpAny_mono one (fun r s' z => ?_) fun _ _ e => e)
    obtain ⟨v, rfl, hq⟩ := z
    exact wpAny_pure hq
  · refine wpAny_bind (wpAny_pure ?_)
    simp only [Bool.false_eq_true, if_false]
    refine wpAny_bind (wpAny_mono one (fun r s' z => ?_) fun _ _ e => e)
    obtain ⟨v, rfl, hq⟩ := z
    exact wpAny_pure hq
def rNeOwn (K : PySem.W.Frag) (C : Addr) (sp : Sp) (E : XK) : R2 := fun x y H Q => (∃ a dx fs, x = .ref a ∧ H a = some (.ins C dx fs)) ∧ (∃ t, TyX K H y t ∧ PySem.W.notFirst K C t = true) ∧
  sp [x, y] H (fun v H' => ∃ b, v = .bl b ∧ Q (.bl (!b)) H') E
theorem op_neOwn (T : NeFn X.K C f) (hF' : FnOk X.prog X.w X.K X.mg X.base CX k f fd ps sp) (hr : Room (k + 1) X.A) (hb : Binds X.K fd ps []) (hx : Passes CX X E) : OpR X (compareOp .NotEq) (rNeOwn X.K C sp E) := by
  intro pins s σ H x y v u Q I rx ry h
  obtain ⟨⟨a, dx, fs, rfl, ha⟩, ⟨t, ty, hn⟩, q⟩ := h
  cases rx
  obtain ⟨ox, od, J⟩ := inst_of I ha
  obtain ⟨m, hF⟩ := I.fr
  refine ne_own (by have := hr.units0; have := hr.units; omega) hF I.ok.mod.kin J (rel_kit I ry ty) hn T ?_
  have e0 : Env0 X.prog X.w X.K X.mg X.base X.A.in1 X.stack s H := I.env0.in1
  have r : Vals [V.ref a, y] [Value.ref a, u] := .cons rfl (.cons ry .nil)
  have hl : ([Value.ref a, u] ++ []).length = ps.length := by
    rw [List.append_nil, ← r.length]; exact hF'.len _ _ _ _ q
  have hbb := hb s [Value.ref a, u] I.kIn hl
  rw [List.append_nil] at hbb
  refine wpAny_call (codeAny_mono (hF'.run X.A.in1 X.stack s H ⟨[.ref a, u], []⟩ [.ref a, u] [.ref a, y] _ E hr.in1 e0 hbb r q) fun r s' hq => ?_)
  cases r with
  | error e => exact hx pins σ H s e s' I hq
  | ok fl =>
    cases fl with
    | ret w =>
      obtain ⟨z, H', I', rz, b, ez, q'⟩ := I.after hq
      subst ez
      cases rz
      exact ⟨b, rfl, .bl (!b), H', I', rfl, q'⟩
    | next => exact False.elim hq
    | brk => exact False.elim hq
    | cont => exact False.elim hq
end
end Fm

set_option maxHeartbeats 2000000
namespace Fm
open PySem PySem.Spec PyProof.Rows L2

def sg (t b : Int) : Int := if b < 0 then -((Nat.gcd t.natAbs b.natAbs : Nat) : Int) else ((Nat.gcd t.natAbs b.natAbs : Nat) : Int)
theorem gcd_pos {t b : Int} (hb : b ≠ 0) : 0 < Nat.gcd t.natAbs b.natAbs := Nat.gcd_pos_of_pos_right _ (Int.natAbs_pos.mpr hb)
theorem sg_ne {t b : Int} (hb : b ≠ 0) : sg t b ≠ 0 := by
  have := gcd_pos (t := t) hb
  unfold sg; split <;> omega
theorem sg_abs (t b : Int) : (sg t b).natAbs = Nat.gcd t.natAbs b.natAbs := by
  unfold sg; split <;> omega
theorem sg_sz {t b : Int} {k : Nat} (hb : b ≠ 0) (h : b.natAbs < 2 ^ k) : (sg t b).natAbs < 2 ^ k := by
  rw [sg_abs]
  exact Nat.lt_of_le_of_lt (Nat.gcd_le_right _ (Int.natAbs_pos.mpr hb)) h
theorem top_eq {t b : Int} (hb : b ≠ 0) : t.fdiv (sg t b) = (Rat.divInt t b).num := by
  rw [Rat.num_divInt]
  have g0 := gcd_pos (t := t) hb
  have hg : ((b.gcd t : Nat) : Int) = ((Nat.gcd t.natAbs b.natAbs : Nat) : Int) := by rw [Int.gcd_eq_natAbs_gcd_natAbs, Nat.gcd_comm]
  have hd : (((Nat.gcd t.natAbs b.natAbs : Nat)) : Int) ∣ t := Int.ofNat_dvd_left.mpr (Nat.gcd_dvd_left _ _)
  rw [hg]
  generalize hG : ((Nat.gcd t.natAbs b.natAbs : Nat) : Int) = G at hd
  have hG0 : 0 < G := by omega
  have hs : sg t b = if b < 0 then -G else G := by unfold sg; rw [hG]
  obtain ⟨c, rfl⟩ := hd
  rw [hs]
  split
  · rename_i h
    rw [Int.sign_eq_neg_one_of_neg h, show (-1 * (G * c)) = G * (-c) by rw [Int.mul_neg, Int.neg_one_mul] , Int.mul_ediv_cancel_left _ (by omega), show G * c = (-G) * (-c) by rw [Int.neg_mul_neg]]
    exact Int.mul_fdiv_cancel_left _ (by omega)
  · rename_i h
    rw [Int.sign_eq_one_of_pos (by omega), Int.one_mul, Int.mul_ediv_cancel_left _ (by omega)]
    exact Int.mul_fdiv_cancel_left _ (by omega)
theorem bot_eq {t b : Int} (hb : b ≠ 0) : b.fdiv (sg t b) = ((Rat.divInt t b).den : Int) := by
  rw [Rat.den_divInt, if_neg hb]
  have g0 := gcd_pos (t := t) hb
  have hg : b.gcd t = Nat.gcd t.natAbs b.natAbs := by rw [Int.gcd_eq_natAbs_gcd_natAbs, Nat.gcd_comm]
  have hd : (((Nat.gcd t.natAbs b.natAbs : Nat)) : Int) ∣ b := Int.ofNat_dvd_left.mpr (Nat.gcd_dvd_right _ _)
  rw [hg, Int.natCast_ediv]
  generalize hG : ((Nat.gcd t.natAbs b.natAbs : Nat) : Int) = G at hd
  have hG0 : 0 < G := by omega
  have hs : sg t b = if b < 0 then -G else G := by unfold sg; rw [hG]
  obtain ⟨c, hc⟩ := hd
  rw [hs]
  split
  · rename_i h
    have e : ((b.natAbs : Nat) : Int) = G * (-c) := by rw [Int.mul_neg, ← hc]; omega
    rw [e, Int.mul_ediv_cancel_left _ (by omega), hc, show G * c = (-G) * (-c) by rw [Int.neg_mul_neg]]
    exact Int.mul_fdiv_cancel_left _ (by omega)
  · rename_i h
    have e : ((b.natAbs : Nat) : Int) = G * c := by rw [← hc]; omega
    rw [e, Int.mul_ediv_cancel_left _ (by omega), hc]
    exact Int.mul_fdiv_cancel_left _ (by omega)
def Sz (k : Nat) (q : Rat) : Prop := q.num.natAbs < 2 ^ k ∧ q.den < 2 ^ k
theorem pw {a b : Nat} (h : a ≤ b) : 2 ^ a ≤ 2 ^ b := Nat.pow_le_pow_right (by decide) h
theorem Sz.mono {j k : Nat} {q : Rat} (h : Sz j q) (e : j ≤ k) : Sz k q := ⟨Nat.lt_of_lt_of_le h.1 (pw e), Nat.lt_of_lt_of_le h.2 (pw e)⟩
theorem Sz.divInt {k : Nat} {t b : Int} (ht : t.natAbs < 2 ^ k) (hb : b.natAbs < 2 ^ k) (h0 : b ≠ 0) : Sz k (Rat.divInt t b) := by
  have g0 := gcd_pos (t := t) h0
  have hg : b.gcd t = Nat.gcd t.natAbs b.natAbs := by rw [Int.gcd_eq_natAbs_gcd_natAbs, Nat.gcd_comm]
  constructor
  · rw [← top_eq h0]
    refine Nat.lt_of_le_of_lt ?_ ht
    have hd : sg t b ∣ t := by
      have : (((Nat.gcd t.natAbs b.natAbs : Nat)) : Int) ∣ t := Int.ofNat_dvd_left.mpr (Nat.gcd_dvd_left _ _)
      unfold sg; split
      · exact Int.neg_dvd.mpr this
      · exact this
    obtain ⟨c, hc⟩ := hd
    have hs := sg_ne (t := t) h0
    generalize sg t b = S at hc hs
    have h1 : 0 < S.natAbs := Int.natAbs_pos.mpr hs
    rw [hc, Int.mul_fdiv_cancel_left _ hs, Int.natAbs_mul]
    exact Nat.le_mul_of_pos_left _ h1
  · rw [Rat.den_divInt, if_neg h0]
    exact Nat.lt_of_le_of_lt (Nat.div_le_self _ _) hb
theorem abs_mul_lt {i j : Int} {a b : Nat} (ha : i.natAbs < 2 ^ a) (hb : j.natAbs < 2 ^ b) : (i * j).natAbs < 2 ^ (a + b) := wide_lt ha hb
theorem abs_add_lt {i j : Int} {a : Nat} (ha : i.natAbs < 2 ^ a) (hb : j.natAbs < 2 ^ a) : (i + j).natAbs < 2 ^ (a + 1) := by
  rw [Nat.pow_succ]; omega
theorem abs_sub_lt {i j : Int} {a : Nat} (ha : i.natAbs < 2 ^ a) (hb : j.natAbs < 2 ^ a) : (i - j).natAbs < 2 ^ (a + 1) := by
  rw [Nat.pow_succ]; omega
theorem lt_up {n a b : Nat} (h : n < 2 ^ a) (e : a ≤ b) : n < 2 ^ b := Nat.lt_of_lt_of_le h (pw e)
theorem den_abs (q : Rat) : ((q.den : Nat) : Int).natAbs = q.den := Int.natAbs_natCast _
theorem den_ne (q : Rat) : ((q.den : Nat) : Int) ≠ 0 := by have := q.den_pos; omega
theorem dd_ne (a b : Rat) : ((a.den : Nat) : Int) * ((b.den : Nat) : Int) ≠ 0 := by
  have := a.den_pos
  have := b.den_pos
  exact Int.mul_ne_zero (by omega) (by omega)
theorem add_divInt (a b : Rat) : Rat.divInt (a.num * b.den + b.num * a.den) ((a.den : Int) * (b.den : Int)) = a + b := by
  rw [Rat.add_def', ← Int.natCast_mul, Rat.divInt_ofNat]
theorem sub_divInt (a b : Rat) : Rat.divInt (a.num * b.den - b.num * a.den) ((a.den : Int) * (b.den : Int)) = a - b := by
  rw [Rat.sub_def', ← Int.natCast_mul, Rat.divInt_ofNat]
theorem mul_divInt (a b : Rat) : Rat.divInt (a.num * b.num) ((a.den : Int) * (b.den : Int)) = a * b := by
  rw [Rat.mul_def', ← Int.natCast_mul, Rat.divInt_ofNat]
theorem neg_divInt1 (a : Rat) : Rat.divInt (-a.num) ((a.den : Nat) : Int) = -a := by
  rw [← Rat.neg_divInt, Rat.num_divInt_den]
theorem over_divInt (a b : Rat) : Rat.divInt (a.num * b.den) ((a.den : Int) * b.num) = a / b := by
  rw [Rat.div_def, Rat.inv_def, ← Rat.divInt_mul_divInt, Rat.num_divInt_den]
theorem int_divInt (n : Int) : Rat.divInt n 1 = (n : Rat) := by
  have h := Rat.num_divInt_den (n : Rat)
  simpa using h
theorem Sz.add {k : Nat} {a b : Rat} (ha : Sz k a) (hb : Sz k b) : Sz (k + k + 1) (a + b) := by
  rw [← add_divInt]
  refine Sz.divInt (abs_add_lt (abs_mul_lt ha.1 (by rw [den_abs]; exact hb.2)) (abs_mul_lt hb.1 (by rw [den_abs]; exact ha.2))) (lt_up (abs_mul_lt (by rw [den_abs]; exact ha.2) (by rw [den_abs]; exact hb.2)) (by omega)) (dd_ne _ _)
theorem Sz.sub {k : Nat} {a b : Rat} (ha : Sz k a) (hb : Sz k b) : Sz (k + k + 1) (a - b) := by
  rw [← sub_divInt]
  refine Sz.divInt (abs_sub_lt (abs_mul_lt ha.1 (by rw [den_abs]; exact hb.2)) (abs_mul_lt hb.1 (by rw [den_abs]; exact ha.2))) (lt_up (abs_mul_lt (by rw [den_abs]; exact ha.2) (by rw [den_abs]; exact hb.2)) (by omega)) (dd_ne _ _)
theorem Sz.mul {k : Nat} {a b : Rat} (ha : Sz k a) (hb : Sz k b) : Sz (k + k) (a * b) := by
  rw [← mul_divInt]
  exact Sz.divInt (abs_mul_lt ha.1 hb.1) (abs_mul_lt (by rw [den_abs]; exact ha.2) (by rw [den_abs]; exact hb.2)) (dd_ne _ _)
theorem Sz.neg {k : Nat} {a : Rat} (ha : Sz k a) : Sz k (-a) := ⟨by rw [Rat.neg_num, Int.natAbs_neg]; exact ha.1, by rw [Rat.neg_den]; exact ha.2⟩
theorem Sz.int {k : Nat} {n : Int} (h : n.natAbs < 2 ^ k) (hk : 1 ≤ k) : Sz k (n : Rat) := ⟨by simpa using h, by simpa using (Nat.lt_of_lt_of_le (by decide : 1 < 2 ^ 1) (pw hk))⟩
theorem Sz.n {k : Nat} {a : Rat} (h : Sz k a) : a.num.natAbs < 2 ^ k := h.1
theorem Sz.d {k : Nat} {a : Rat} (h : Sz k a) : ((a.den : Nat) : Int).natAbs < 2 ^ k := by rw [den_abs]; exact h.2
theorem eq_iff_parts (a b : Rat) : (a = b) ↔ (a.num = b.num ∧ ((a.den : Nat) : Int) = ((b.den : Nat) : Int)) :=
  ⟨fun h => by subst h; exact ⟨rfl, rfl⟩, fun h => Rat.ext h.1 (by have := h.2; omega)⟩
end Fm

set_option maxHeartbeats 2000000
namespace Fm
open PySem PySem.Spec PyProof.Rows L2

def Ex (H H' : Hp) : Prop := ∀ a o, H a = some o → H' a = some o
theorem Ex.refl (H : Hp) : Ex H H := fun _ _ h => h
theorem Ex.trans {H H1 H2 : Hp} (a : Ex H H1) (b : Ex H1 H2) : Ex H H2 := fun x o h => b x o (a x o h)
theorem Ex.new {H : Hp} {p : Addr} {o : HO} (h : H p = none) : Ex H (upd H p o) := fun a u e => by
  rw [upd_ne (ne_of_none e h)]
  exact e
theorem Ex.at {H H' : Hp} {p : Addr} {o : HO} (e : Ex H H') (h : H p = some o) : H' p = some o := e p o h
theorem Ex.mut {H H' : Hp} {p : Addr} {o : HO} (e : Ex H H') (h : H p = none) : Ex H (upd H' p o) := fun a u ha => by
  rw [upd_ne (ne_of_none ha h)]
  exact e a u ha
theorem Ex.free {H H' : Hp} {p : Addr} (e : Ex H H') (h : H' p = none) : H p = none := by
  cases h1 : H p with
  | none => rfl
  | some o =>
    rw [e p o h1] at h
    cases h
theorem Ex.sql {K : PySem.W.Frag} {H H' : Hp} {a : Addr} {xs : List V} (e : Ex H H') (h : SqL K H a xs) : SqL K H' a xs := SqL.ext h e
section
variable {σ : L2.St} {H : Hp} {Q : VK} {D : Ends} {ta tb tc te : TE} {t u : TT} {ts tu : TS} {x y v : V} {r : R2} {i j : Int} {K : PySem.W.Frag} {W : Bool → Hp → Prop}
theorem g_var {n : Nat} (h : σ[n]? = some (some v)) (q : Q v H) : tVar n σ H Q := ⟨v, h, q⟩
theorem g_c (q : Q v H) : tC v σ H Q := q
theorem g_op (q : ta σ H fun x H1 => tb σ H1 fun y H2 => r x y H2 Q) : tOp r ta tb σ H Q := q
theorem g_un {r : V → Hp → VK → Prop} (q : ta σ H fun x H1 => r x H1 Q) : tUn r ta σ H Q := q
theorem g_I0 {g : Int → Int → V} (q : Q (g i j) H) : rI0 g (.int i) (.int j) H Q := ⟨i, j, rfl, rfl, q⟩
theorem g_I {C : Int → Int → Prop} {g : Int → Int → V} (c : C i j) (q : Q (g i j) H) : rI C g (.int i) (.int j) H Q := ⟨i, j, rfl, rfl, c, q⟩
theorem g_U {g : Int → V} (q : Q (g i) H) : rU g (.int i) H Q := ⟨i, rfl, q⟩
theorem g_eqI (q : Q (.bl (decide (i = j))) H) : rEq (.int i) (.int j) H Q := ⟨rfl, by
  rw [show decide (V.int i = V.int j) = decide (i = j) by by_cases h : i = j <;> simp [h]]; exact q⟩
theorem g_neI (q : Q (.bl (!decide (i = j))) H) : rNe (.int i) (.int j) H Q := ⟨rfl, by
  rw [show decide (V.int i = V.int j) = decide (i = j) by by_cases h : i = j <;> simp [h]]; exact q⟩
theorem g_eqS {a b : Str} (q : Q (.bl (decide (a = b))) H) : rEq (.str a) (.str b) H Q := ⟨rfl, by
  rw [show decide (V.str a = V.str b) = decide (a = b) by by_cases h : a = b <;> simp [h]]; exact q⟩
theorem g_neS {a b : Str} (q : Q (.bl (!decide (a = b))) H) : rNe (.str a) (.str b) H Q := ⟨rfl, by
  rw [show decide (V.str a = V.str b) = decide (a = b) by by_cases h : a = b <;> simp [h]]; exact q⟩
theorem g_test {W : Bool → Hp → Prop} (q : te σ H fun x H' => ∃ k, x = .bl k ∧ W k H') : tTest te σ H W := q
theorem g_B {W : Bool → Hp → Prop} (q : te σ H fun x H' => ∃ k, x = .bl k ∧ W k H') : tB te σ H W := q
theorem g_bl {W : Bool → Prop} {b : Bool} (q : W b) : ∃ k, V.bl b = .bl k ∧ W k := ⟨b, rfl, q⟩
theorem g_not (q : t σ H fun c H1 => W (!c) H1) : tNot t σ H W := q
theorem g_and (q : t σ H fun c H1 => if c = true then u σ H1 W else W false H1) : tAnd t u σ H W := q
theorem g_or (q : t σ H fun c H1 => if c = true then W true H1 else u σ H1 W) : tOr t u σ H W := q
theorem g_andV (q : ta σ H fun x H1 => ∃ c, x = .bl c ∧ if c = true then tb σ H1 Q else Q (.bl false) H1) : tAndV ta tb σ H Q := q
theorem g_orV (q : ta σ H fun x H1 => ∃ c, x = .bl c ∧ if c = true then Q (.bl true) H1 else tb σ H1 Q) : tOrV ta tb σ H Q := q
theorem g_notV (q : ta σ H fun x H1 => ∃ c, x = .bl c ∧ Q (.bl (!c)) H1) : tNotV ta σ H Q := q
theorem g_chain {r r' : R2} (q : ta σ H fun x H1 => tb σ H1 fun y H2 => r x y H2 fun z H3 => ∃ k, z = .bl k ∧ (if k = true then tc σ H3 fun w' H4 => r' y w' H4 Q else Q (.bl false) H3)) : tChain r r' ta tb tc σ H Q := q
theorem g_if (q : t σ H fun c H1 => if c = true then ta σ H1 Q else tb σ H1 Q) : tIf t ta tb σ H Q := q
theorem g_ifS (q : t σ H fun b H1 => if b = true then ts D σ H1 else tu D σ H1) : tIfS t ts tu D σ H := q
theorem g_seq (q : ts { D with nx := tu D } σ H) : tSeq ts tu D σ H := q
theorem g_next (q : D.nx σ H) : tNext D σ H := q
theorem g_break (q : D.bk σ H) : tBreak D σ H := q
theorem g_cont (q : D.ct σ H) : tCont D σ H := q
theorem g_drop (q : te σ H fun _ H1 => D.nx σ H1) : tDrop te D σ H := q
theorem g_ret (q : te σ H D.rt) : tRet te D σ H := q
theorem g_retN (q : D.rt .non H) : tRetN D σ H := q
theorem g_asg {g : TG} (q : te σ H fun x H1 => g x σ H1 D.nx) : tAsg te g D σ H := q
theorem g_name {n : Nat} {N : L2.St → Hp → Prop} (q : N (σ.set n (some v)) H) : gName n v σ H N := q
theorem g_par {n m : Nat} {t : TA} (q : t σ H fun vs H1 => ∃ v w, vs = [v, w] ∧ D.nx ((σ.set n (some v)).set m (some w)) H1) : tPar n m t D σ H := q
theorem g_par2 {v w : V} {N : V → V → Prop} (q : N v w) : ∃ v1 w1, [v, w] = [v1, w1] ∧ N v1 w1 := ⟨v, w, rfl, q⟩
theorem g_fld {f : Str} (q : ta σ H fun x H1 => ∃ a C dx fs v, x = .ref a ∧ H1 a = some (.ins C dx fs) ∧ Cls K C ∧ NoAttr K C f ∧ fs.lookup f = some v ∧ Q v H1) : tFld K ta f σ H Q := q
theorem g_sfld {f : Str} {tv : TE} (q : tv σ H fun y H1 => ta σ H1 fun x H2 => ∃ a C dx fs, x = .ref a ∧ H2 a = some (.ins C dx fs) ∧ Cls K C ∧ NoAttr K C f ∧ fs.length < 1000 ∧ D.nx σ (upd H2 a (.ins C dx (putF f y fs)))) : sFld K ta tv f D σ H := q
theorem g_nil {P : List V → Hp → Prop} (q : P [] H) : tNil σ H P := q
theorem g_cons {tr : TA} {P : List V → Hp → Prop} (q : ta σ H fun x H1 => tr σ H1 fun xs H2 => P (x :: xs) H2) : tCons ta tr σ H P := q
theorem g_tup {t : TA} (q : t σ H fun xs H1 => xs.length ≤ sizeLine ∧ ∀ p, H1 p = none → Q (.ref p) (upd H1 p (.tup xs))) : tTup t σ H Q := q
theorem g_lst {t : TA} (q : t σ H fun xs H1 => xs.length ≤ sizeLine ∧ ∀ p, H1 p = none → Q (.ref p) (upd H1 p (.lst xs))) : tLst t σ H Q := q
theorem g_call {sp : Sp} {E : XK} {t : TA} (q : t σ H fun vs H1 => sp vs H1 Q E) : tCall sp [] E t σ H Q := by
  unfold tCall
  have e : (fun vs H1 => sp (vs ++ []) H1 Q E) = fun vs H1 => sp vs H1 Q E := by funext vs H1; rw [List.append_nil]
  rw [e]; exact q
theorem g_meth {C : Addr} {m : Str} {sp : Sp} {E : XK} {t : TA} (q : ta σ H fun x H1 => ∃ a dx fs, x = .ref a ∧ H1 a = some (.ins C dx fs) ∧ fs.lookup m = none ∧ t σ H1 fun vs H2 => sp (x :: vs) H2 Q E) : tMeth C m sp [] E ta t σ H Q := by
  unfold tMeth
  have e : ∀ x H1, (t σ H1 fun vs H2 => sp (x :: (vs ++ [])) H2 Q E) = (t σ H1 fun vs H2 => sp (x :: vs) H2 Q E) := fun x H1 => by
    have : (fun vs H2 => sp (x :: (vs ++ [])) H2 Q E) = fun vs H2 => sp (x :: vs) H2 Q E := by funext vs H2; rw [List.append_nil]
    rw [this]
  simp only [e]
  exact q
theorem g_make {C : Addr} {sp : Sp} {E : XK} {t : TA} (q : t σ H fun vs H1 => ∀ x dx, H1 x = none → H1 dx = none → dx ≠ x → sp (.ref x :: vs) (upd (upd H1 dx (.own x)) x (.ins C dx [])) (fun v H2 => v = .non ∧ Q (.ref x) H2) E) : tMake C sp [] E t σ H Q := by
  unfold tMake
  have e : (fun vs H1 => ∀ x dx, H1 x = none → H1 dx = none → dx ≠ x → sp (.ref x :: (vs ++ [])) (upd (upd H1 dx (.own x)) x (.ins C dx [])) (fun v H2 => v = .non ∧ Q (.ref x) H2) E) = (fun vs H1 => ∀ x dx, H1 x = none → H1 dx = none → dx ≠ x → sp (.ref x :: vs) (upd (upd H1 dx (.own x)) x (.ins C dx [])) (fun v H2 => v = .non ∧ Q (.ref x) H2) E) := by funext vs H1; rw [List.append_nil]
  rw [e]; exact q
theorem g_make1 {C : Addr} {sp : Sp} {E : XK} {d : V} (q : te σ H fun z H1 => ∀ x dx, H1 x = none → H1 dx = none → dx ≠ x → sp [.ref x, z, d] (upd (upd H1 dx (.own x)) x (.ins C dx [])) (fun v H2 => v = .non ∧ Q (.ref x) H2) E) : tMake C sp [d] E (tCons te tNil) σ H Q := q
theorem g_sub {to ti : TE} {t : TSet} {N : L2.St → Hp → Prop} (q : to σ H fun o H1 => ti σ H1 fun i H2 => t o i v H2 fun H3 => N σ H3) : gSub to ti t v σ H N := q
theorem len_lit {α : Type} {xs : List α} (h : Nat.ble xs.length 1000 = true) : xs.length ≤ sizeLine := Nat.le_trans (Nat.le_of_ble_eq_true h) (by decide)
theorem g_cb {r : List V → Hp → VK → Prop} {t : TA} (q : t σ H fun vs H1 => r vs H1 Q) : tCB r t σ H Q := q
end
end Fm

set_option maxHeartbeats 2000000
namespace Fm
open PySem PySem.Spec PyProof.Rows L2

def CDivA (_ j : Int) : Prop := j ≠ 0 ∧ j.natAbs.log2 < 9000
theorem op_fdivA {X : Cx} : OpR X (binaryOp .FloorDiv) (rI CDivA fun i j => .int (i.fdiv j)) := opI fun i j _ _ _ _ _ hc q => floordiv_int hc.1 q (.inl (PyProof.noPylong_of_log2 hc.2))
theorem divA {i j : Int} {k : Nat} (h : j ≠ 0) (hb : j.natAbs < 2 ^ k) (h9 : k ≤ 8000) : CDivA i j := by
  refine ⟨h, Nat.lt_of_lt_of_le ((Nat.log2_lt (by omega)).mpr hb) (by omega)⟩
theorem mulA {i j : Int} {a b : Nat} (ha : i.natAbs < 2 ^ a) (hb : j.natAbs < 2 ^ b) (h : a + b ≤ 900000) : CMulW i j :=
  wide_mul (a := a + 1) (b := b + 1) (lt_up ha (by omega)) (lt_up hb (by omega)) (by omega) (by omega) (by omega)
theorem g_gcd {H : Hp} {Q : VK} {i j : Int} (q : Q (.int ((Nat.gcd i.natAbs j.natAbs : Nat) : Int)) H) : rGcd [.int i, .int j] H Q := ⟨i, j, rfl, q⟩
theorem g_ite {A B : Prop} {c : Bool} (h1 : c = true → A) (h2 : c = false → B) : if c = true then A else B := by
  cases c with
  | true => rw [if_pos rfl]; exact h1 rfl
  | false => rw [if_neg Bool.false_ne_true]; exact h2 rfl
theorem g_dec {p : Prop} [Decidable p] {A B : Prop} (h1 : p → A) (h2 : ¬ p → B) : if decide p = true then A else B := g_ite (fun h => h1 (of_decide_eq_true h)) (fun h => h2 (of_decide_eq_false h))

theorem nTB : ¬ (("top" : Str) = "bottom") := by decide +kernel
def flR (q : Rat) : List (Str × V) := putF "bottom" (.int (q.den : Int)) (putF "top" (.int q.num) [])
theorem flR_top (q : Rat) : (flR q).lookup ("top" : Str) = some (.int q.num) := by
  unfold flR
  rw [lookup_putF, if_neg nTB, lookup_putF, if_pos rfl]
theorem flR_bottom (q : Rat) : (flR q).lookup ("bottom" : Str) = some (.int (q.den : Int)) := by
  unfold flR
  rw [lookup_putF, if_pos rfl]
theorem flR_no (q : Rat) {m : Str} (h1 : ¬ m = "bottom") (h2 : ¬ m = "top") : (flR q).lookup m = none := by
  unfold flR
  rw [lookup_putF, if_neg h1, lookup_putF, if_neg h2]
  all_goals rfl
def RatAt (C : Addr) (H : Hp) (p : Addr) (q : Rat) : Prop := ∃ dx, H p = some (.ins C dx (flR q))
def RatV (C : Addr) (H : Hp) (v : V) (q : Rat) : Prop := ∃ p, v = .ref p ∧ RatAt C H p q
def NumV (C : Addr) (H : Hp) (v : V) (q : Rat) : Prop := (∃ n : Int, v = .int n ∧ q = (n : Rat)) ∨ RatV C H v q
section
variable {C : Addr} {H H' : Hp} {p : Addr} {v : V} {q : Rat}
theorem RatAt.mono (e : Ex H H') (h : RatAt C H p q) : RatAt C H' p q := let ⟨dx, h⟩ := h; ⟨dx, e _ _ h⟩
theorem RatV.mono (e : Ex H H') (h : RatV C H v q) : RatV C H' v q := let ⟨p, a, h⟩ := h; ⟨p, a, h.mono e⟩
theorem NumV.mono (e : Ex H H') (h : NumV C H v q) : NumV C H' v q := h.elim .inl fun h => .inr (h.mono e)
theorem RatV.num (h : RatV C H v q) : NumV C H v q := .inr h
theorem NumV.int {n : Int} : NumV C H (.int n) (n : Rat) := .inl ⟨n, rfl, rfl⟩
theorem RatV.like (h : RatV C H v q) : NumLike C v H := let ⟨p, a, dx, h⟩ := h; .inr ⟨p, dx, _, a, h⟩
theorem NumV.like (h : NumV C H v q) : NumLike C v H := h.elim (fun ⟨n, a, _⟩ => .inl ⟨n, a⟩) RatV.like
theorem RatV.inst (h : RatV C H v q) : ∃ a dx fs, v = .ref a ∧ H a = some (.ins C dx fs) := let ⟨p, a, dx, h⟩ := h; ⟨p, dx, _, a, h⟩
end
section
variable {K : PySem.W.Frag} {C : Addr} {H : Hp} {Q : VK} {v : V} {q : Rat}
theorem g_top (c : Cls K C) (n : NoAttr K C "top") {W : V → Prop} (h : RatV C H v q) (k : W (.int q.num)) : ∃ a C dx fs w, v = .ref a ∧ H a = some (.ins C dx fs) ∧ Cls K C ∧ NoAttr K C "top" ∧ fs.lookup ("top" : Str) = some w ∧ W w := by
  obtain ⟨p, rfl, dx, h⟩ := h
  exact ⟨p, C, dx, _, _, rfl, h, c, n, flR_top q, k⟩
theorem g_bottom (c : Cls K C) (n : NoAttr K C "bottom") {W : V → Prop} (h : RatV C H v q) (k : W (.int (q.den : Int))) : ∃ a C dx fs w, v = .ref a ∧ H a = some (.ins C dx fs) ∧ Cls K C ∧ NoAttr K C "bottom" ∧ fs.lookup ("bottom" : Str) = some w ∧ W w := by
  obtain ⟨p, rfl, dx, h⟩ := h
  exact ⟨p, C, dx, _, _, rfl, h, c, n, flR_bottom q, k⟩
end

def spInit (C : Addr) : Sp := fun vs H Q _ => ∃ (p dx : Addr) (t b : Int) (k : Nat), vs = [.ref p, .int t, .int b] ∧ b ≠ 0 ∧ t.natAbs < 2 ^ k ∧ b.natAbs < 2 ^ k ∧ k ≤ 8000 ∧ H p = some (.ins C dx []) ∧
  ∀ H', (∀ a o, H a = some o → a ≠ p → H' a = some o) → H' p = some (.ins C dx (flR (Rat.divInt t b))) → Q .non H'
theorem use_init {C : Addr} {vs : List V} {H : Hp} {Q : VK} {E : XK} {t b : Int} {k : Nat} (hv : vs = [.int t, .int b]) (hb : b ≠ 0) (h1 : t.natAbs < 2 ^ k) (h2 : b.natAbs < 2 ^ k) (hk : k ≤ 8000)
    (q : ∀ v H', Ex H H' → RatV C H' v (Rat.divInt t b) → Q v H') : ∀ x dx, H x = none → H dx = none → dx ≠ x → spInit C (.ref x :: vs) (upd (upd H dx (.own x)) x (.ins C dx [])) (fun v H2 => v = .non ∧ Q (.ref x) H2) E := by
  intro x dx hx hdx hne
  refine ⟨x, dx, t, b, k, by rw [hv], hb, h1, h2, hk, upd_same, fun H' e hp => ⟨rfl, q _ _ (fun a o ha => ?_) ⟨x, rfl, dx, hp⟩⟩⟩
  refine e a o ?_ (ne_of_none ha hx)
  rw [upd_ne (ne_of_none ha hx), upd_ne (ne_of_none ha hdx)]
  exact ha
def spNum2 (C : Addr) (g : Rat → Rat → Rat) : Sp := fun vs H Q _ => ∃ (x y : V) (a b : Rat) (k : Nat), vs = [x, y] ∧ RatV C H x a ∧ NumV C H y b ∧ Sz k a ∧ Sz k b ∧ k ≤ 3000 ∧ ∀ v H', Ex H H' → RatV C H' v (g a b) → Q v H'
def spNum1 (C : Addr) (g : Rat → Rat) : Sp := fun vs H Q _ => ∃ (x : V) (a : Rat) (k : Nat), vs = [x] ∧ RatV C H x a ∧ Sz k a ∧ k ≤ 3000 ∧ ∀ v H', Ex H H' → RatV C H' v (g a) → Q v H'
def spRel2 (C : Addr) (g : Rat → Rat → Bool) : Sp := fun vs H Q _ => ∃ (x y : V) (a b : Rat) (k : Nat), vs = [x, y] ∧ RatV C H x a ∧ NumV C H y b ∧ Sz k a ∧ Sz k b ∧ k ≤ 3000 ∧ ∀ H', Ex H H' → Q (.bl (g a b)) H'
inductive KTy (C : Addr) : Value → Prop where
  | own : KTy C (.ref C)
  | int : KTy C (.type "int")
  | bool : KTy C (.type "bool")
  | non : KTy C (.type "NoneType")
  | str : KTy C (.type "str")
  | list : KTy C (.type "list")
  | tuple : KTy C (.type "tuple")
  | dict : KTy C (.type "dict")
def spWhole (K : PySem.W.Frag) (C : Addr) : Sp := fun vs H Q _ => ∃ (x : V) (t : Value), vs = [x] ∧ TyX K H x t ∧ KTy C t ∧ ∀ H', Ex H H' → Q (.bl (t == .type "int")) H'
def spNumber (K : PySem.W.Frag) (C : Addr) : Sp := fun vs H Q _ => ∃ (x : V) (t : Value), vs = [x] ∧ TyX K H x t ∧ KTy C t ∧ ∀ H', Ex H H' → Q (.bl (t == .ref C || t == .type "int")) H'
structure RC (K : PySem.W.Frag) (C : Addr) : Prop where
  cl : Cls K C
  nT : NoAttr K C "top"
  nB : NoAttr K C "bottom"
  ha : PySem.W.findIn K (.ref C) "__class__" = some (some (.builtin "object.__class__"))
  hn : PySem.W.specialIn K (.builtin "object.__class__") "__get__" = some (some (.builtin "getset_descriptor.__get__"))
  htk : PySem.W.takesIn K (.builtin "object.__class__") = some true
  hm : PySem.W.mroIn K C (.type "object") = some true
  si : PySem.W.subIn K (.ref C) (.type "int") = some false
  own : (PySem.W.clsIn K C).isSome = true
  ty : PySem.W.typeIn K (.ref C) = some (.type "type")
  noRef : ∀ n ∈ ["int", "bool", "NoneType", "str", "list", "tuple", "dict"], PySem.W.subIn K (.type n) (.ref C) = some false
theorem ty_rat {K : PySem.W.Frag} {C : Addr} {H : Hp} {v : V} {q : Rat} (R : RC K C) (h : RatV C H v q) : TyX K H v (.ref C) := by
  obtain ⟨p, rfl, dx, h⟩ := h
  exact .base (.ins h R.cl R.ha R.hn R.htk R.hm)
theorem ty_num {K : PySem.W.Frag} {C : Addr} {H : Hp} {v : V} {q : Rat} (R : RC K C) (h : NumV C H v q) : ∃ t, TyX K H v t ∧ KTy C t ∧ (t == .ref C || t == .type "int") = true := by
  rcases h with ⟨n, rfl, _⟩ | h
  · exact ⟨_, .base (.int n), .int, by simp⟩
  · exact ⟨_, ty_rat R h, .own, by simp⟩
theorem kit_int {K : PySem.W.Frag} {C : Addr} {t : Value} (R : RC K C) (k : KTy C t) : PySem.W.kitOne K t (.type "int") = some (t == .type "int" || t == .type "bool") := by
  have hm : PySem.W.kitMeta "int" = true := by decide +kernel
  cases k with
  | own =>
    show (if (Value.ref C == Value.type "int") = true then some true else PySem.W.kitCls K (.ref C) (.type "int")) = _
    rw [if_neg (by simp)]
    show (if PySem.W.kitMeta "int" = true then PySem.W.subIn K (.ref C) (.type "int") else none) = _
    rw [if_pos hm, R.si]
    simp
  | int => exact kit_ty (by decide +kernel)
  | bool => exact kit_ty (by decide +kernel)
  | non => exact kit_ty (by decide +kernel)
  | str => exact kit_ty (by decide +kernel)
  | list => exact kit_ty (by decide +kernel)
  | tuple => exact kit_ty (by decide +kernel)
  | dict => exact kit_ty (by decide +kernel)
theorem kit_bool {K : PySem.W.Frag} {C : Addr} {t : Value} (R : RC K C) (k : KTy C t) (h : (t == .type "int" || t == .type "bool") = true) : PySem.W.kitOne K t (.type "bool") = some (t == .type "bool") := by
  cases k with
  | own => simp at h
  | int => exact kit_ty (by decide +kernel)
  | bool => exact kit_ty (by decide +kernel)
  | non => simp at h
  | str => simp at h
  | list => simp at h
  | tuple => simp at h
  | dict => simp at h
theorem kit_own {K : PySem.W.Frag} {C : Addr} {t : Value} (R : RC K C) (k : KTy C t) : PySem.W.kitOne K t (.ref C) = some (t == .ref C) := by
  have base : ∀ n, n ∈ ["int", "bool", "NoneType", "str", "list", "tuple", "dict"] → PySem.W.kitOne K (.type n) (.ref C) = some (Value.type n == .ref C) := fun n hn => by
    have e : (Value.type n == Value.ref C) = false := by simp
    show (if (Value.type n == Value.ref C) = true then some true else PySem.W.kitCls K (.type n) (.ref C)) = _
    rw [e, if_neg Bool.false_ne_true]
    show (if ((PySem.W.clsIn K C).isSome && PySem.W.typeIn K (.ref C) == some (.type "type")) = true then PySem.W.subIn K (.type n) (.ref C) else none) = _
    rw [R.own, R.ty, if_pos (by simp), R.noRef n hn]
  cases k with
  | own =>
    show (if (Value.ref C == Value.ref C) = true then some true else _) = _
    rw [if_pos (by simp)]
    simp
  | int => exact base _ (by simp)
  | bool => exact base _ (by simp)
  | non => exact base _ (by simp)
  | str => exact base _ (by simp)
  | list => exact base _ (by simp)
  | tuple => exact base _ (by simp)
  | dict => exact base _ (by simp)
theorem not_first {K : PySem.W.Frag} {C : Addr} {t : Value} (R : RC K C) (k : KTy C t) : PySem.W.notFirst K C t = true := by
  have base : ∀ n, n ∈ ["int", "bool", "NoneType", "str", "list", "tuple", "dict"] → PySem.W.notFirst K C (.type n) = true := fun n hn => by
    unfold PySem.W.notFirst
    rw [R.noRef n hn]
    simp
  cases k with
  | own => unfold PySem.W.notFirst; simp
  | int => exact base _ (by simp)
  | bool => exact base _ (by simp)
  | non => exact base _ (by simp)
  | str => exact base _ (by simp)
  | list => exact base _ (by simp)
  | tuple => exact base _ (by simp)
  | dict => exact base _ (by simp)
def spAsRatio (C : Addr) : Sp := fun vs H Q _ => ∃ (x : V) (a : Rat) (k : Nat), vs = [x] ∧ NumV C H x a ∧ Sz k a ∧ k ≤ 3000 ∧ ∀ v H', Ex H H' → RatV C H' v a → Q v H'
theorem g_isi {K : PySem.W.Frag} {H : Hp} {Q : VK} {x c : V} {t u : Value} {b : Bool} (ty : TyX K H x t) (k : ClsV c u) (e : PySem.W.kitOne K t u = some b) (q : Q (.bl b) H) : rIsi K [x, c] H Q := ⟨x, c, t, u, b, rfl, k, ty, e, q⟩
theorem cx_K {CX : CXT} {P : Program} {w : World} {K : PySem.W.Frag} {mg : Str → Option Value} {base : Heap} {N : List Str} {q : Str} {sc : Scope} {f : Addr} {cdv : Value} {A : Around} {outer : List Env} {s : Shared} {H : Hp} {E : XK} :
    (cxOf CX P w K mg base N q sc f cdv A outer s H E).K = K := rfl
abbrev Def (K : PySem.W.Frag) (x qual : Str) (st : Stmt) (f : Addr) (fd : FuncData) : Prop := FunD K x qual (defArgs st) (defBody st) (defScope st) [] [] f fd
def spEqV (K : PySem.W.Frag) (C : Addr) : Sp := fun vs H Q _ => ∃ (x y : V) (a : Rat) (r : Bool), vs = [x, y] ∧ RatV C H x a ∧
  ((∃ (c : Rat) (k : Nat), NumV C H y c ∧ Sz k c ∧ k ≤ 3000 ∧ r = decide (a = c)) ∨ (∃ t, TyX K H y t ∧ KTy C t ∧ (t == .ref C || t == .type "int") = false ∧ r = false)) ∧ ∀ H', Ex H H' → Q (.bl r) H'
theorem use_isnot {K : PySem.W.Frag} {C : Addr} {H : Hp} {Q : VK} {E : XK} {x : V} {t : Value} (ty : TyX K H x t) (kt : KTy C t) (e : (t == .ref C || t == .type "int") = false) (q : ∀ H', Ex H H' → Q (.bl false) H') : spNumber K C [x] H Q E :=
  ⟨x, t, rfl, ty, kt, fun H' z => by rw [e]; exact q H' z⟩
theorem use_eqN {K : PySem.W.Frag} {C : Addr} {H : Hp} {Q : VK} {E : XK} {x y : V} {a c : Rat} {k : Nat} (hx : RatV C H x a) (hy : NumV C H y c) (sc : Sz k c) (hk : k ≤ 3000) (q : ∀ H', Ex H H' → Q (.bl (decide (a = c))) H') : spEqV K C [x, y] H Q E :=
  ⟨x, y, a, _, rfl, hx, .inl ⟨c, k, hy, sc, hk, rfl⟩, q⟩
theorem use_eqO {K : PySem.W.Frag} {C : Addr} {H : Hp} {Q : VK} {E : XK} {x y : V} {a : Rat} {t : Value} (hx : RatV C H x a) (ty : TyX K H y t) (kt : KTy C t) (e : (t == .ref C || t == .type "int") = false) (q : ∀ H', Ex H H' → Q (.bl false) H') : spEqV K C [x, y] H Q E :=
  ⟨x, y, a, _, rfl, hx, .inr ⟨t, ty, kt, e, rfl⟩, q⟩
def spOver (C : Addr) : Sp := fun vs H Q _ => ∃ (x y : V) (a b : Rat) (k : Nat), vs = [x, y] ∧ RatV C H x a ∧ NumV C H y b ∧ b ≠ 0 ∧ Sz k a ∧ Sz k b ∧ k ≤ 3000 ∧ ∀ v H', Ex H H' → RatV C H' v (a / b) → Q v H'
theorem dec_and (p q : Prop) [Decidable p] [Decidable q] : (decide p && decide q) = decide (p ∧ q) := by
  by_cases hp : p <;> by_cases hq : q <;> simp [hp, hq]
theorem dec_eqR (a b : Rat) : decide (a = b) = (decide (a.num = b.num) && decide (((a.den : Nat) : Int) = ((b.den : Nat) : Int))) := by
  rw [dec_and]
  exact decide_eq_decide.mpr (eq_iff_parts a b)
theorem dec_ltR (a b : Rat) : decide (a < b) = decide (a.num * b.den < b.num * a.den) := decide_eq_decide.mpr (Rat.lt_iff a b)
theorem b_nt : (!true) = false := rfl
theorem b_nf : (!false) = true := rfl
theorem use_num2 {C : Addr} {g : Rat → Rat → Rat} {H : Hp} {Q : VK} {E : XK} {x y : V} {a b : Rat} {k : Nat} (hx : RatV C H x a) (hy : NumV C H y b) (sa : Sz k a) (sb : Sz k b) (hk : k ≤ 3000) (q : ∀ v H', Ex H H' → RatV C H' v (g a b) → Q v H') : spNum2 C g [x, y] H Q E :=
  ⟨x, y, a, b, k, rfl, hx, hy, sa, sb, hk, q⟩
theorem use_num1 {C : Addr} {g : Rat → Rat} {H : Hp} {Q : VK} {E : XK} {x : V} {a : Rat} {k : Nat} (hx : RatV C H x a) (sa : Sz k a) (hk : k ≤ 3000) (q : ∀ v H', Ex H H' → RatV C H' v (g a) → Q v H') : spNum1 C g [x] H Q E :=
  ⟨x, a, k, rfl, hx, sa, hk, q⟩
theorem use_rel2 {C : Addr} {g : Rat → Rat → Bool} {H : Hp} {Q : VK} {E : XK} {x y : V} {a b : Rat} {k : Nat} (hx : RatV C H x a) (hy : NumV C H y b) (sa : Sz k a) (sb : Sz k b) (hk : k ≤ 3000) (q : ∀ H', Ex H H' → Q (.bl (g a b)) H') : spRel2 C g [x, y] H Q E :=
  ⟨x, y, a, b, k, rfl, hx, hy, sa, sb, hk, q⟩
theorem use_asr {C : Addr} {H : Hp} {Q : VK} {E : XK} {x : V} {a : Rat} {k : Nat} (hx : NumV C H x a) (sa : Sz k a) (hk : k ≤ 3000) (q : ∀ v H', Ex H H' → RatV C H' v a → Q v H') : spAsRatio C [x] H Q E := ⟨x, a, k, rfl, hx, sa, hk, q⟩
theorem use_isnum {K : PySem.W.Frag} {C : Addr} {H : Hp} {Q : VK} {E : XK} {x : V} {a : Rat} (R : RC K C) (hx : NumV C H x a) (q : ∀ H', Ex H H' → Q (.bl true) H') : spNumber K C [x] H Q E := by
  obtain ⟨t, ty, kt, e⟩ := ty_num R hx
  exact ⟨x, t, rfl, ty, kt, fun H' z => by rw [e]; exact q H' z⟩
theorem def_ok0 {P : Program} {w : World} {K : PySem.W.Frag} {mg : Str → Option Value} {base : Heap} {x qual : Str} {params : Arguments} {bd : List Stmt} {scope : Scope} {dvs : List V} {kws : List (Str × V)} {f : Addr} {fd : FuncData} {N ps : List Str} {k : Nat} {sp : Sp}
    (F : FunD K x qual params bd scope dvs kws f fd) (S : FnScope N ps scope) (len : ∀ vs H Q E, sp vs H Q E → vs.length = ps.length)
    (hbody : ∀ (cdv : Value) (A : Around) (outer : List Env) (s : Shared) (H : Hp) (vs : List V) (Q : VK) (E : XK), Room k (A.deeper (envOfC qual scope s.heap.objs.size f cdv)) → sp vs H Q E →
      ∃ t, PSs (cxOf CX0 P w K mg base N qual scope f cdv A outer s H E).nox bd t ∧ t { nx := fun _ H' => Q .non H', rt := Q } (L2.start N vs) H) : FnOk P w K mg base CX0 (k + 1) f fd ps sp :=
  F.ok S len fun cdv A outer s H vs Q E hr hsp => let ⟨t, h, q⟩ := hbody cdv A outer s H vs Q E hr hsp; ⟨t, h.nox, q⟩
theorem cx_Kn {CX : CXT} {P : Program} {w : World} {K : PySem.W.Frag} {mg : Str → Option Value} {base : Heap} {N : List Str} {q : Str} {sc : Scope} {f : Addr} {cdv : Value} {A : Around} {outer : List Env} {s : Shared} {H : Hp} {E : XK} :
    (cxOf CX P w K mg base N q sc f cdv A outer s H E).nox.K = K := rfl
def TapeAt (H : Hp) (p : Addr) : Prop := ∃ t0 t1 : Int, 0 ≤ t0 ∧ 0 ≤ t1 ∧ t1 < 2 ^ 40 ∧ H p = some (.lst [.int t0, .int t1])
def Mo (p : Addr) (H H' : Hp) : Prop := ∀ a o, H a = some o → a ≠ p → H' a = some o
theorem Mo.refl (p : Addr) (H : Hp) : Mo p H H := fun _ _ h _ => h
theorem Mo.trans {p : Addr} {H H1 H2 : Hp} (a : Mo p H H1) (b : Mo p H1 H2) : Mo p H H2 := fun x o h n => b x o (a x o h n) n
theorem Mo.ex {p : Addr} {H H1 H2 : Hp} (a : Mo p H H1) (b : Ex H1 H2) : Mo p H H2 := fun x o h n => b x o (a x o h n)
theorem Ex.mo {p : Addr} {H H1 : Hp} (a : Ex H H1) : Mo p H H1 := fun x o h _ => a x o h
theorem Mo.set {p : Addr} {H : Hp} {o : HO} : Mo p H (upd H p o) := fun x u h n => by rw [upd_ne n]; exact h
theorem TapeAt.mono {H H' : Hp} {p : Addr} (e : Ex H H') (h : TapeAt H p) : TapeAt H' p := let ⟨t0, t1, a, b, c, h⟩ := h; ⟨t0, t1, a, b, c, e _ _ h⟩
def spPick : Sp := fun vs H Q _ => ∃ (p : Addr) (m : Int), vs = [.ref p, .int m] ∧ 0 < m ∧ m < 2 ^ 100 ∧ TapeAt H p ∧ ∀ d H', 0 ≤ d → d < m → Mo p H H' → TapeAt H' p → Q (.int d) H'
theorem use_pick {H : Hp} {Q : VK} {E : XK} {p : Addr} {m : Int} (h0 : 0 < m) (h1 : m < 2 ^ 100) (h : TapeAt H p) (q : ∀ d H', 0 ≤ d → d < m → Mo p H H' → TapeAt H' p → Q (.int d) H') : spPick [.ref p, .int m] H Q E := ⟨p, m, rfl, h0, h1, h, q⟩
theorem g_ixL {K : PySem.W.Frag} {H : Hp} {Q : VK} {p : Addr} {xs : List V} {i : Int} {v : V} (h : SqL K H p xs) (a : atI xs i = some v) (q : Q v H) : rIxL K (.ref p) (.int i) H Q := ⟨p, xs, i, v, rfl, rfl, h, a, q⟩
def rLenQ (K : PySem.W.Frag) : List V → Hp → VK → Prop := fun xs H Q => ∃ p ys, xs = [.ref p] ∧ (SqL K H p ys ∨ SqT K H p ys) ∧ Q (.int ys.length) H
theorem call_lenQ {X : Cx} : CallR X (.builtin "len") (rLenQ X.K) := call_len_seq
theorem g_lenL {K : PySem.W.Frag} {H : Hp} {Q : VK} {p : Addr} {xs : List V} (h : SqL K H p xs) (q : Q (.int xs.length) H) : rLenQ K [.ref p] H Q := ⟨p, xs, rfl, .inl h, q⟩
def rAbsI : List V → Hp → VK → Prop := fun xs H Q => ∃ i, xs = [.int i] ∧ Q (.int (if i < 0 then -i else i)) H
theorem cr_absI {X : Cx} : CallR X (.builtin "abs") rAbsI := call_abs
theorem g_absI {H : Hp} {Q : VK} {i : Int} (q : Q (.int ((i.natAbs : Nat) : Int)) H) : rAbsI [.int i] H Q := ⟨i, rfl, by
  have e : (if i < 0 then -i else i) = ((i.natAbs : Nat) : Int) := by split <;> omega
  rw [e]; exact q⟩
def rIntI : List V → Hp → VK → Prop := fun xs H Q => (∃ i, xs = [.int i] ∧ Q (.int i) H) ∨ ∃ k, xs = [.bl k] ∧ Q (.int (if k then 1 else 0)) H
theorem cr_intI {X : Cx} : CallR X (.type "int") rIntI := call_int1
theorem g_intI {H : Hp} {Q : VK} {i : Int} (q : Q (.int i) H) : rIntI [.int i] H Q := .inl ⟨i, rfl, q⟩
theorem g_setL {H : Hp} {N : Hp → Prop} {p : Addr} {xs : List V} {i : Int} {v : V} {j : Nat} (h : H p = some (.lst xs)) (hj : ixN xs.length i = some j) (q : N (upd H p (.lst (xs.set j v)))) : rSetL (.ref p) (.int i) v H N := ⟨p, xs, i, j, rfl, rfl, h, hj, q⟩
end Fm

set_option maxHeartbeats 2000000
namespace Fm
open PySem PySem.Spec PyProof.Rows L2 SX

def dg (c : Nat) : Bool := decide (48 ≤ c) && decide (c ≤ 57)
def body (l : List Nat) : List Nat := if l.head? = some 45 then l.tail else l
def txN (n : Int) : List Nat := if n < 0 then 45 :: TL.numL n.natAbs else TL.numL n.natAbs
def txR (q : Rat) : List Nat := txN q.num ++ (if q.den = 1 then [] else 47 :: TL.numL q.den)
def dv (l : List Nat) : Nat := NumText.digitsVal l
theorem numL_dg (n : Nat) : (TL.numL n).all dg = true := by
  rw [List.all_eq_true]
  intro c hc
  have := TL.numL_digits n c hc
  unfold dg
  simp; omega
def rAdS : R2 := fun x y H Q => ∃ i j, x = .str i ∧ y = .str j ∧ i.length + j.length ≤ sizeLine ∧ Q (.str (i ++ j)) H
theorem op_adS {X : Cx} : OpR X (binaryOp .Add) rAdS := op_add_str
def rStrI : List V → Hp → VK → Prop := fun xs H Q => ∃ i, xs = [.int i] ∧ i.natAbs.log2 < 1920 ∧ Q (.str (toString i)) H
theorem cr_strI {X : Cx} : CallR X (.type "str") rStrI := call_str_int
theorem str_S (n : Int) : (toString n : String).toList.map Char.toNat = txN n := by
  cases n with
  | ofNat m =>
    have h := congrArg (fun x : Str => x.cps.toList) (num_S m)
    have h2 : (Str.ofString (toString ((m : Nat) : Int))).cps.toList = (toString ((m : Nat) : Int) : String).toList.map Char.toNat := PyProof.Rows.signs_ofString _
    unfold txN
    show (toString ((m : Nat) : Int) : String).toList.map Char.toNat = if ((m : Nat) : Int) < 0 then 45 :: TL.numL (Int.natAbs ((m : Nat) : Int)) else TL.numL (Int.natAbs ((m : Nat) : Int))
    rw [if_neg (show ¬ ((m : Nat) : Int) < 0 by omega)]
    rw [← h2, Int.natAbs_natCast]
    exact h
  | negSucc m =>
    have h := congrArg (fun x : Str => x.cps.toList) (num_S (m + 1))
    have h2 : (Str.ofString (toString (((m + 1 : Nat)) : Int))).cps.toList = (toString (((m + 1 : Nat)) : Int) : String).toList.map Char.toNat := PyProof.Rows.signs_ofString _
    have e : (toString (Int.negSucc m) : String) = "-" ++ (toString (((m + 1 : Nat)) : Int) : String) := rfl
    unfold txN
    rw [if_pos (by omega), e, String.toList_append, List.map_append, ← h2]
    have h3 : (Str.ofString (toString (((m + 1 : Nat)) : Int))).cps.toList = TL.numL (m + 1) := h
    rw [h3]
    rfl
theorem strS (n : Int) : (Str.ofString (toString n) : Str) = S (txN n) := TL.ext_tl ((PyProof.Rows.signs_ofString _).trans (str_S n))
section
variable {K : PySem.W.Frag} {σ : L2.St} {H : Hp} {Q : VK} {D : Ends} {ta te : TE}
theorem g_m0 {r : V → List V → Hp → VK → Prop} (q : te σ H fun x H1 => (∃ a, x = .str a) ∧ r x [] H1 Q) : tM0 r te σ H Q := q
theorem g_m1 {r : V → List V → Hp → VK → Prop} (q : ta σ H fun x H1 => (∃ a, x = .str a) ∧ te σ H1 fun y H2 => r x [y] H2 Q) : tM1 r ta te σ H Q := q
theorem g_isS {z : Str} {A : Prop} (q : A) : (∃ a, V.str z = .str a) ∧ A := ⟨⟨z, rfl⟩, q⟩
theorem g_adS {a b : List Nat} (h : a.length + b.length ≤ 100000) (q : Q (.str (S (a ++ b))) H) : rAdS (.str (S a)) (.str (S b)) H Q :=
  ⟨S a, S b, rfl, rfl, by rw [S_len, S_len]; exact Nat.le_trans h (by decide), by rw [S_cat]; exact q⟩
theorem g_strI {n : Int} (h : n.natAbs < 2 ^ 240) (q : Q (.str (S (txN n))) H) : rStrI [.int n] H Q :=
  ⟨n, rfl, by
    by_cases h0 : n.natAbs = 0
    · rw [h0]; decide
    · exact Nat.lt_of_lt_of_le ((Nat.log2_lt h0).mpr h) (by decide), by
    have e := strS n
    show Q (.str (Str.ofString (toString n))) H
    rw [e]; exact q⟩
theorem g_app {p : Addr} {xs : List V} {y : V} (h : H p = some (.lst xs)) (hl : xs.length ≤ 100000) (q : Q .non (upd H p (.lst (xs ++ [y])))) : rAppend (.ref p) [y] H Q := ⟨p, xs, y, rfl, rfl, h, Nat.lt_of_le_of_lt hl (by decide), q⟩
theorem g_bm {T : String} {r : V → List V → Hp → VK → Prop} {t : TA} (q : te σ H fun x H1 => tyV K T x H1 ∧ t σ H1 fun xs H2 => r x xs H2 Q) : tBM K T r te t σ H Q := q
theorem tyL {p : Addr} {xs : List V} (h : H p = some (.lst xs)) : tyV K "list" (.ref p) H := .inl ⟨rfl, _, SqL.of h⟩
theorem g_revL (q : te σ H fun x H1 => ∃ a xs, x = .ref a ∧ SqL K H1 a xs ∧ ∀ p, H1 p = none → Q (.ref p) (upd H1 p (.lst xs.reverse))) : tRevL K te σ H Q := q
end
section
variable {K : PySem.W.Frag} {σ : L2.St} {H : Hp} {Q : VK} {D : Ends} {ta te : TE} {tl th : TO}
theorem g_sl {r : V → Option Int → Option Int → Hp → VK → Prop} (q : te σ H fun x H1 => tl σ H1 fun l H2 => th σ H2 fun u H3 => r x l u H3 Q) : tSl r te tl th σ H Q := q
theorem g_nopart {W : Option Int → Hp → Prop} (q : W none H) : tNoPart σ H W := q
theorem g_part {W : Option Int → Hp → Prop} (q : te σ H fun x H1 => ∃ i, x = .int i ∧ W (some i) H1) : tPart te σ H W := q
theorem g_exI {W : Int → Prop} {i : Int} (q : W i) : ∃ j, V.int i = .int j ∧ W j := ⟨i, rfl, q⟩
theorem g_iteC {p : Prop} [Decidable p] {v w u : V} (h1 : p → v = u) (h2 : ¬ p → w = u) (q : Q u H) : if decide p = true then tC v σ H Q else tC w σ H Q := by
  by_cases h : p
  · rw [decide_eq_true h, if_pos rfl, h1 h]; exact q
  · rw [decide_eq_false h, if_neg Bool.false_ne_true, h2 h]; exact q
end
theorem txR_one {q : Rat} (h : ((q.den : Nat) : Int) = 1) : txR q = txN q.num := by unfold txR; rw [if_pos (by omega), List.append_nil]
theorem txR_more {q : Rat} (h : ¬ ((q.den : Nat) : Int) = 1) : txR q = txN q.num ++ 47 :: TL.numL q.den := by unfold txR; rw [if_neg (by omega)]
theorem txN_abs (n : Int) : (if n < 0 then [45] else []) ++ TL.numL n.natAbs = txN n := by unfold txN; split <;> rfl
end Fm

set_option maxHeartbeats 2000000
namespace Fm
open PySem PySem.Spec PyProof.Rows L2
def Lp (J : It) (g : TG) (tb : TS) (D : Ends) (σ : L2.St) (H : Hp) : Prop := tFor (fun _ H R => R J H) g tb D σ H
def Cp (J : It) (g : TG) (tt : TT) (te : TE) (vs : List Nat) (σ : L2.St) (H : Hp) (Q : VK) : Prop := tLc (fun _ H R => R J H) g tt te vs σ H Q
section
variable {K : PySem.W.Frag} {σ : L2.St} {H : Hp} {Q : VK} {D : Ends} {g : TG} {tb : TS} {tt : TT} {te tl : TE} {ta : TA} {vs : List Nat} {wi : TI} {R : It → Hp → Prop}
theorem g_for (q : wi σ H fun J H1 => Lp J g tb D σ H1) : tFor wi g tb D σ H := q
theorem g_lc (q : wi σ H fun J H1 => Cp J g tt te vs σ H1 Q) : tLc wi g tt te vs σ H Q := q
theorem g_ilist (q : tl σ H fun x H1 => ∃ a, x = .ref a ∧ (∃ xs, SqL K H1 a xs) ∧ R (Itl K a) H1) : iList K tl σ H R := q
theorem g_itup (q : tl σ H fun x H1 => ∃ a, x = .ref a ∧ (∃ xs, SqT K H1 a xs) ∧ R (Itt K a) H1) : iTup K tl σ H R := q
theorem g_rng1 (q : ta σ H fun vs H1 => ∃ j : Int, vs = [.int j] ∧ -(2 ^ 62) ≤ j ∧ j < 2 ^ 62 ∧ R (Itr 0 j.toNat) H1) : iRng1 ta σ H R := q
theorem g_rng3 (q : ta σ H fun vs H1 => ∃ (i j c : Int) (n : Nat), vs = [.int i, .int j, .int c] ∧ RgC i j c n ∧ R (Itc i c n) H1) : iRng3 ta σ H R := q
theorem lp_R {lo : Int} {n : Nat} (Pv : Nat → L2.St → Hp → Prop) (h0 : Pv 0 σ H)
    (hs : ∀ i σ H, i < n → Pv i σ H → g (.int (lo + i)) σ H fun s2 H2 => tb { D with nx := Pv (i + 1), ct := Pv (i + 1), bk := D.nx } s2 H2) (hd : ∀ σ H, Pv n σ H → D.nx σ H) : Lp (Itr lo n) g tb D σ H := for_range Pv h0 hs hd
theorem lp_L {a : Addr} {xs : List V} (Pv : Nat → L2.St → Hp → Prop) (h0 : Pv 0 σ H) (hl : ∀ i σ H, i ≤ xs.length → Pv i σ H → SqL K H a xs)
    (hs : ∀ i x σ H, xs[i]? = some x → Pv i σ H → g x σ H fun s2 H2 => tb { D with nx := Pv (i + 1), ct := Pv (i + 1), bk := D.nx } s2 H2) (hd : ∀ σ H, Pv xs.length σ H → D.nx σ H) : Lp (Itl K a) g tb D σ H := for_list Pv h0 hl hs hd
theorem lp_T {a : Addr} {xs : List V} (Pv : Nat → L2.St → Hp → Prop) (h0 : Pv 0 σ H) (hl : ∀ i σ H, i ≤ xs.length → Pv i σ H → SqT K H a xs)
    (hs : ∀ i x σ H, xs[i]? = some x → Pv i σ H → g x σ H fun s2 H2 => tb { D with nx := Pv (i + 1), ct := Pv (i + 1), bk := D.nx } s2 H2) (hd : ∀ σ H, Pv xs.length σ H → D.nx σ H) : Lp (Itt K a) g tb D σ H := for_tup Pv h0 hl hs hd
def Turn (g : TG) (tt : TT) (te : TE) (vs : List Nat) (σ : L2.St) (D : Addr) (N : Hp → Prop) (x : V) (H : Hp) : Prop := g x (wipe σ vs) H fun s2 H2 => wipe s2 vs = wipe σ vs ∧ tt s2 H2 fun b H3 =>
  if b = true then te s2 H3 fun y H4 => ∃ acc, H4 D = some (.lst acc) ∧ acc.length < sizeLine ∧ N (upd H4 D (.lst (acc ++ [y]))) else N H3
theorem cp_L {a : Addr} {xs : List V} (Pv : Addr → Nat → Hp → Prop) (h0 : ∀ D, H D = none → Pv D 0 (upd H D (.lst []))) (hl : ∀ D, H D = none → ∀ i H', i ≤ xs.length → Pv D i H' → SqL K H' a xs)
    (hs : ∀ D, H D = none → ∀ i x H', xs[i]? = some x → Pv D i H' → Turn g tt te vs σ D (Pv D (i + 1)) x H') (hd : ∀ D, H D = none → ∀ H', Pv D xs.length H' → Q (.ref D) H') : Cp (Itl K a) g tt te vs σ H Q :=
  fun D hD => lc_list (Pv D) (h0 D hD) (hl D hD) (hs D hD) (hd D hD)
theorem g_yes {W : Bool → Hp → Prop} (q : W true H) : tYes σ H W := q
end
theorem pi_seq {X : Cx} {tg l : Expr} {tl : TE} (hl : PE X l tl) : PI X tg l (fun σ H R => iList X.K tl σ H R ∨ iTup X.K tl σ H R) := by
  refine ⟨fun pins s σ H R I h => ?_⟩
  rcases h with h | h
  · exact (pi_list hl).run pins s σ H R I h
  · exact (pi_tup hl).run pins s σ H R I h
end Fm

set_option maxHeartbeats 2000000
namespace Fm
open PySem PySem.Spec PyProof.Rows L2
structure XC (K : PySem.W.Frag) (C : Addr) : Prop where
  ex : PySem.W.excIn K C [.type "ValueError", .type "Exception", .type "BaseException", .type "object"] "ValueError.__new__" = true
  kp : PySem.W.keepIn K (.ref C) = true
  bx : PySem.W.subIn K (.ref C) (.type "BaseException") = some true
  ty : PySem.W.typeIn K (.ref C) = some (.type "type")
  cls : PySem.W.isClsIn K C = true
  sub : PySem.W.subIn K (.ref C) (.ref C) = some true
section
variable {K : PySem.W.Frag} {σ : L2.St} {H : Hp} {Q : VK} {C : Addr} {v : V} {q : Rat} {N : L2.St → Hp → Prop} {E : XK}
theorem g_gcons {t : TG} {u : TGs} {r : List V} (k : t v σ H fun s1 H1 => u r s1 H1 N) : gCons t u (v :: r) σ H N := ⟨v, r, rfl, k⟩
theorem g_gnil (k : N σ H) : gNil [] σ H N := ⟨rfl, k⟩
theorem g_methR {m : Str} {W : Prop} (h : RatV C H v q) (h1 : ¬ m = "bottom") (h2 : ¬ m = "top") (k : W) : ∃ a dx fs, v = .ref a ∧ H a = some (.ins C dx fs) ∧ fs.lookup m = none ∧ W := by
  obtain ⟨p, rfl, dx, hp⟩ := h
  exact ⟨p, dx, _, rfl, hp, flR_no q h1 h2, k⟩
theorem g_neg {k : Nat} (h : RatV C H v q) (sz : Sz k q) (hk : k ≤ 3000) (z : ∀ u H', Ex H H' → RatV C H' u (-q) → Q u H') : rOwnU C (spNum1 C (- ·)) E v H Q := ⟨h.inst, use_num1 h sz hk z⟩
theorem g_num2 {g : Rat → Rat → Rat} {y : V} {b : Rat} {k : Nat} (hx : RatV C H v q) (hy : NumV C H y b) (sa : Sz k q) (sb : Sz k b) (hk : k ≤ 3000) (z : ∀ u H', Ex H H' → RatV C H' u (g q b) → Q u H') : rOwn C (spNum2 C g) E v y H Q :=
  ⟨hx.inst, hy.like, use_num2 hx hy sa sb hk z⟩
theorem g_rel2 {g : Rat → Rat → Bool} {y : V} {b : Rat} {k : Nat} (R : RC K C) (hx : RatV C H v q) (hy : NumV C H y b) (sa : Sz k q) (sb : Sz k b) (hk : k ≤ 3000) (z : ∀ H', Ex H H' → Q (.bl (g q b)) H') : rCmpOwn K C (spRel2 C g) E v y H Q := by
  obtain ⟨t, ty, kt, _⟩ := ty_num R hy
  exact ⟨hx.inst, ⟨t, ty, not_first R kt⟩, use_rel2 hx hy sa sb hk z⟩
theorem g_eqN {y : V} {b : Rat} {k : Nat} (R : RC K C) (hx : RatV C H v q) (hy : NumV C H y b) (sb : Sz k b) (hk : k ≤ 3000) (z : ∀ H', Ex H H' → Q (.bl (decide (q = b))) H') : rCmpOwn K C (spEqV K C) E v y H Q := by
  obtain ⟨t, ty, kt, _⟩ := ty_num R hy
  exact ⟨hx.inst, ⟨t, ty, not_first R kt⟩, use_eqN hx hy sb hk z⟩
theorem g_eqO {y : V} {t : Value} (R : RC K C) (hx : RatV C H v q) (ty : TyX K H y t) (kt : KTy C t) (e : (t == .ref C || t == .type "int") = false) (z : ∀ H', Ex H H' → Q (.bl false) H') : rCmpOwn K C (spEqV K C) E v y H Q :=
  ⟨hx.inst, ⟨t, ty, not_first R kt⟩, use_eqO hx ty kt e z⟩
theorem g_neN {y : V} {b : Rat} {k : Nat} (R : RC K C) (hx : RatV C H v q) (hy : NumV C H y b) (sb : Sz k b) (hk : k ≤ 3000) (z : ∀ H', Ex H H' → Q (.bl (!decide (q = b))) H') : rNeOwn K C (spEqV K C) E v y H Q := by
  obtain ⟨t, ty, kt, _⟩ := ty_num R hy
  exact ⟨hx.inst, ⟨t, ty, not_first R kt⟩, use_eqN hx hy sb hk fun H' e => ⟨_, rfl, z H' e⟩⟩
end
theorem num_le {t b : Int} (h0 : b ≠ 0) : (Rat.divInt t b).num.natAbs ≤ t.natAbs ∧ (Rat.divInt t b).den ≤ b.natAbs := by
  have hg : b.gcd t = Nat.gcd t.natAbs b.natAbs := by rw [Int.gcd_eq_natAbs_gcd_natAbs, Nat.gcd_comm]
  have hp := gcd_pos (t := t) h0
  constructor
  · rw [← top_eq h0]
    have hd : sg t b ∣ t := by
      have : (((Nat.gcd t.natAbs b.natAbs : Nat)) : Int) ∣ t := Int.ofNat_dvd_left.mpr (Nat.gcd_dvd_left _ _)
      unfold sg; split
      · exact Int.neg_dvd.mpr this
      · exact this
    obtain ⟨c, hc⟩ := hd
    have hs := sg_ne (t := t) h0
    generalize sg t b = S at hc hs
    have h1 : 0 < S.natAbs := Int.natAbs_pos.mpr hs
    rw [hc, Int.mul_fdiv_cancel_left _ hs, Int.natAbs_mul]
    exact Nat.le_mul_of_pos_left _ h1
  · rw [Rat.den_divInt, if_neg h0]
    exact Nat.div_le_self _ _
theorem neS {a b : List Nat} : decide (SX.S a = SX.S b) = decide (a = b) := decide_eq_decide.mpr ⟨SX.S_inj, fun h => by rw [h]⟩
def hd (l : List Nat) : List Nat := ((TL.par [47] [] l).getD (l, [])).1
theorem use_initW {C : Addr} {H : Hp} {W : Addr → Hp → Prop} {E : XK} {t b : Int} {k : Nat} (hb : b ≠ 0) (h1 : t.natAbs < 2 ^ k) (h2 : b.natAbs < 2 ^ k) (hk : k ≤ 8000)
    (q : ∀ p H', Ex H H' → RatV C H' (.ref p) (Rat.divInt t b) → W p H') : ∀ x dx, H x = none → H dx = none → dx ≠ x → spInit C [.ref x, .int t, .int b] (upd (upd H dx (.own x)) x (.ins C dx [])) (fun v H2 => v = .non ∧ W x H2) E := by
  intro x dx hx hdx hne
  refine ⟨x, dx, t, b, k, rfl, hb, h1, h2, hk, upd_same, fun H' e hp => ⟨rfl, q _ _ (fun a o ha => ?_) ⟨x, rfl, dx, hp⟩⟩⟩
  refine e a o ?_ (ne_of_none ha hx)
  rw [upd_ne (ne_of_none ha hx), upd_ne (ne_of_none ha hdx)]
  exact ha
end Fm

set_option maxHeartbeats 2000000
namespace GQ
open PySem PySem.SeqAt
open AutoSeq1 (wpAny_loadPart')
open MeetsSeq MeetsSeq2 MeetsSeq3 SeqRoads2
section
variable {prog : Program} {w : World} {A : Around} {R : Result → Shared → Prop}
def LsB (prog : Program) (w : World) (A : Around) (E : Value → Shared → Prop) (l m : Addr) (N : Nat) (e : Nat → Bool) (J : Nat → Shared → Prop) : Prop :=
  ∀ i s, J i s → ∃ (xs ys : Array Value) (k j : Nat), s.heap.get? l = some { cls := .type "list", data := .seq xs k } ∧ s.heap.get? m = some { cls := .type "list", data := .seq ys j } ∧ xs.size = N ∧ ys.size = N ∧
    ∀ (h1 : i < xs.size) (h2 : i < ys.size), wpAny (model prog w) A.in1 (eqBool xs[i] ys[i]) (fun r s' => r = e i ∧ J (i + 1) s') E s
def fromB (e : Nat → Bool) (N : Nat) : Nat → Nat → Bool
  | 0, _ => true
  | k + 1, i => e i && fromB e N k (i + 1)
theorem lb_ne {l m : Addr} {N : Nat} {e : Nat → Bool} {J : Nat → Shared → Prop} (hl : LsB prog w A (fun v s' => R (.error v) s') l m N e J) (k : Nat) : ∀ i : Nat, N - i = k → i ≤ N → ∀ s, J i s → (∀ t j, J j t → R (.ok (.ret (.bool (!fromB e N k i)))) t) →
    wpAny (model prog w) A.in1 (Builtin.«list.__eq__.loop» ⟨[.ref l, .ref m, rawInt i, rawInt 3], []⟩) (FinOf prog w A R) (fun v s' => R (.error v) s') s := by
  induction k with
  | zero =>
    intro i hk hi s hJ fin
    obtain ⟨xs, ys, a, b, g1, g2, z1, z2, _⟩ := hl _ _ hJ
    have hR : R (.ok (.ret (.bool false))) s := fin s i hJ
    obtain ⟨h0, gn, dd, tk, os⟩ := s
    wp_walk using wpAny_loadPart' g1, wpAny_loadPart' g2
    have o1 : xs[((i : Nat) : Int).toNat]? = none := by simp; omega
    have o2 : ys[((i : Nat) : Int).toNat]? = none := by simp; omega
    rw [o1, o2]
    wp_walk using wpAny_loadPart' g1, wpAny_loadPart' g2
    show R (.ok (.ret (.bool (xs.size != ys.size)))) _
    rw [z1, z2, bne_self_eq_false]
    exact hR
  | succ k ih =>
    intro i hk hi s hJ fin
    obtain ⟨xs, ys, a, b, g1, g2, z1, z2, turn⟩ := hl _ _ hJ
    have l1 : i < xs.size := by omega
    have l2 : i < ys.size := by omega
    have ht := turn l1 l2
    obtain ⟨h0, gn, dd, tk, os⟩ := s
    wp_walk using wpAny_loadPart' g1, wpAny_loadPart' g2
    have o1 : xs[((i : Nat) : Int).toNat]? = some xs[i] := by simp [l1]
    have o2 : ys[((i : Nat) : Int).toNat]? = some ys[i] := by simp [l2]
    rw [o1, o2]
    refine wpAny_bind (wpAny_mono ht (fun r s2 q => ?_) fun _ _ x => x)
    obtain ⟨hr, q⟩ := q
    cases he : e i with
    | true =>
      rw [he] at hr
      subst hr
      have next := ih (i + 1) (by omega) (by omega) s2 q fun t j hj => by
        have f0 := fin t j hj
        unfold fromB at f0
        rw [he, Bool.true_and] at f0
        exact f0
      obtain ⟨h2, gn2, dd2, tk2, os2⟩ := s2
      wp_walk
      rw [show ((i : Int) + 1) = ((i + 1 : Nat) : Int) by omega]
      exact ⟨plainId_quiet plain_eq_loop _, codeAny_builtin entry_eq_loop (by rw [Around.under_plainId plain_eq_loop _]; exact next)⟩
    | false =>
      rw [he] at hr
      subst hr
      have f0 := fin s2 _ q
      unfold fromB at f0
      rw [he, Bool.false_and] at f0
      obtain ⟨xs2, ys2, a2, b2, g3, g4, z3, z4, _⟩ := hl _ _ q
      obtain ⟨h2, gn2, dd2, tk2, os2⟩ := s2
      wp_walk using wpAny_loadPart' g3, wpAny_loadPart' g4
      have o3 : xs2[((i : Nat) : Int).toNat]? = some (xs2[i]'(by omega)) := by simp
      have o4 : ys2[((i : Nat) : Int).toNat]? = some (ys2[i]'(by omega)) := by simp
      rw [o3, o4]
      wp_walk
      exact f0
theorem lb_listN {l m : Addr} {N : Nat} {e : Nat → Bool} {J : Nat → Shared → Prop} (hl : LsB prog w A (fun v s' => R (.error v) s') l m N e J) (fin : ∀ t j, J j t → R (.ok (.ret (.bool (!fromB e N N 0)))) t) {s : Shared} (h : J 0 s) :
    wpAny (model prog w) A.in1 (Builtin.«list.__ne__» ⟨[.ref l, .ref m], []⟩) (FinOf prog w A R) (fun v s' => R (.error v) s') s := by
  obtain ⟨xs, ys, a, b, g1, g2, z1, z2, _⟩ := hl _ _ h
  have lap := lb_ne (A := A) (R := R) hl N 0 (by omega) (Nat.zero_le _) s h fin
  obtain ⟨h0, gn, dd, tk, os⟩ := s
  have f3 := AutoSeq1.sub_list_list
  have same : ¬ (xs.size != ys.size) = true := by simp [z1, z2]
  wp_walk using wpAny_loadPart' g1, wpAny_loadPart' g2
  exact ⟨plainId_quiet plain_eq_loop _, codeAny_builtin entry_eq_loop (by rw [Around.under_plainId plain_eq_loop _]; exact lap)⟩
theorem lb_shortN {l m : Addr} {xs ys : Array Value} {k j : Nat} {s : Shared} (g1 : s.heap.get? l = some { cls := .type "list", data := .seq xs k }) (g2 : s.heap.get? m = some { cls := .type "list", data := .seq ys j }) (hz : (xs.size != ys.size) = true) (fin : R (.ok (.ret (.bool true))) s) :
    wpAny (model prog w) A.in1 (Builtin.«list.__ne__» ⟨[.ref l, .ref m], []⟩) (FinOf prog w A R) (fun v s' => R (.error v) s') s := by
  obtain ⟨h0, gn, dd, tk, os⟩ := s
  have f3 := AutoSeq1.sub_list_list
  wp_walk using wpAny_loadPart' g1, wpAny_loadPart' g2
  exact fin
end
section
variable {prog : Program} {w : World} {A : Around} {E : Value → Shared → Prop} {s : Shared}
theorem rcB_ne {l m : Addr} {N : Nat} {e : Nat → Bool} {J : Nat → Shared → Prop} {Q : Value → Shared → Prop} (hu : A.units < cLine) (hl : LsB prog w A E l m N e J) (fin : ∀ t j, J j t → Q (.bool (!fromB e N N 0)) t) (h : J 0 s) : wpAny (model prog w) A (richCompare .NotEq (.ref l) (.ref m)) Q E s := by
  obtain ⟨xs, ys, a, b, g1, g2, _, _, _⟩ := hl _ _ h
  refine wpAny_richCompare_same_room (op := .NotEq) ⟨_, g1, rfl⟩ ⟨_, g2, rfl⟩ F.slot_list_ne (call_here F.slot_list_ne ⟨_, g1, rfl⟩ F.entry_list_ne (F.args_list_ne_2 _ _) ?_) hu
  exact lb_listN (R := wants (fun v s' => v ≠ .notImplemented ∧ Q v s') E) hl (fun t j hj => ⟨(fun x => nomatch x), fin t j hj⟩) h
theorem rcB_neS {l m : Addr} {xs ys : Array Value} {k j : Nat} {Q : Value → Shared → Prop} (hu : A.units < cLine) (g1 : s.heap.get? l = some { cls := .type "list", data := .seq xs k }) (g2 : s.heap.get? m = some { cls := .type "list", data := .seq ys j }) (hz : (xs.size != ys.size) = true) (fin : Q (.bool true) s) :
    wpAny (model prog w) A (richCompare .NotEq (.ref l) (.ref m)) Q E s := by
  refine wpAny_richCompare_same_room (op := .NotEq) ⟨_, g1, rfl⟩ ⟨_, g2, rfl⟩ F.slot_list_ne (call_here F.slot_list_ne ⟨_, g1, rfl⟩ F.entry_list_ne (F.args_list_ne_2 _ _) ?_) hu
  exact lb_shortN (R := wants (fun v s' => v ≠ .notImplemented ∧ Q v s') E) g1 g2 hz ⟨(fun x => nomatch x), fin⟩
end
end GQ
namespace Fm
open PySem PySem.Spec PyProof.Rows L2
abbrev in1X (X : Cx) : Cx := { X with A := X.A.in1 }
theorem in1_inv {X : Cx} {pins : List (Addr × Obj)} {σ : L2.St} {H : Hp} {s : Shared} (I : Inv X pins σ H s) : Inv (in1X X) pins σ H s := by
  obtain ⟨⟨a1, a2, a3, a4, a5, a6, a7, a8, a9, a10, a11, a12, a13, a14, a15, a16, a17, a18⟩, b2, b3, b4, b5, b6, b7, b8, b9, b10, b11⟩ := I
  exact ⟨⟨a1, a2, a3, a4, a5, a6, a7, a8, a9, a10, a11, a12, a13, a14, a15, a16, a17, a18⟩, b2, b3, b4, b5, b6, b7, b8, b9, b10, b11⟩
theorem un_in1 {X : Cx} {pins : List (Addr × Obj)} {σ : L2.St} {H : Hp} {s : Shared} (I : Inv (in1X X) pins σ H s) : Inv X pins σ H s := by
  obtain ⟨⟨a1, a2, a3, a4, a5, a6, a7, a8, a9, a10, a11, a12, a13, a14, a15, a16, a17, a18⟩, b2, b3, b4, b5, b6, b7, b8, b9, b10, b11⟩ := I
  exact ⟨⟨a1, a2, a3, a4, a5, a6, a7, a8, a9, a10, a11, a12, a13, a14, a15, a16, a17, a18⟩, b2, b3, b4, b5, b6, b7, b8, b9, b10, b11⟩
theorem flR_inj {p q : Rat} (h : flR p = flR q) : p = q := by
  have h1 := flR_top p
  have h2 := flR_bottom p
  rw [h, flR_top] at h1
  rw [h, flR_bottom] at h2
  refine (eq_iff_parts p q).mpr ⟨?_, ?_⟩
  · have := Option.some.inj h1; injection this with e; exact e.symm
  · have := Option.some.inj h2; injection this with e; exact e.symm
abbrev RatsV (C : Addr) (H : Hp) : List V → List Rat → Prop := Paired (RatV C H)
abbrev NumsV (C : Addr) (H : Hp) : List V → List Rat → Prop := Paired (NumV C H)
theorem RatsV.mono {C : Addr} {H H' : Hp} (e : Ex H H') {xs : List V} {qs : List Rat} (h : RatsV C H xs qs) : RatsV C H' xs qs := Paired.mapP h fun _ _ r => r.mono e
theorem NumsV.mono {C : Addr} {H H' : Hp} (e : Ex H H') {xs : List V} {qs : List Rat} (h : NumsV C H xs qs) : NumsV C H' xs qs := Paired.mapP h fun _ _ r => r.mono e
theorem RatsV.nums {C : Addr} {H : Hp} {xs : List V} {qs : List Rat} (h : RatsV C H xs qs) : NumsV C H xs qs := Paired.mapP h fun _ _ r => r.num
theorem Prd.at {α β : Type} {F : α → β → Prop} : ∀ {xs : List α} {ys : List β} {i : Nat}, Paired F xs ys → ∀ {x : α} {y : β}, xs[i]? = some x → ys[i]? = some y → F x y
  | _, _, _, .nil, _, _, h, _ => by simp at h
  | _, _, 0, .cons r _, x, y, h1, h2 => by simp at h1 h2; subst h1 h2; exact r
  | _, _, _ + 1, .cons _ t, x, y, h1, h2 => Prd.at t (by simpa using h1) (by simpa using h2)
theorem eqB_item {X : Cx} {C : Addr} (R : RC X.K C) (ho : OpR (in1X X) (compareOp .Eq) (rCmpOwn X.K C (spEqV X.K C) E0)) {pins : List (Addr × Obj)} {s : Shared} {σ : L2.St} {H : Hp} {x y : V} {u v : Value} {q c : Rat} (I : Inv X pins σ H s) (rx : RelV x u) (ry : RelV y v)
    (hx : RatV C H x q) (hy : NumV C H y c) (sc : Sz 3000 c) : wpAny (model X.prog X.w) X.A.in1 (eqBool u v) (fun r s' => r = decide (q = c) ∧ ∃ H', Inv X pins σ H' s' ∧ Ex H H') X.xe s := by
  have go : ∀ a : Addr, u = .ref a → v ≠ .ref a → wpAny (model X.prog X.w) X.A.in1 (eqBool u v) (fun r s' => r = decide (q = c) ∧ ∃ H', Inv X pins σ H' s' ∧ Ex H H') X.xe s := fun a hu hv => by
    subst hu
    have h := ho pins s σ H x y (.ref a) v (fun z H' => z = .bl (decide (q = c)) ∧ Ex H H') (in1_inv I) rx ry (g_eqN R hx hy sc (by decide) fun H' e => ⟨rfl, e⟩)
    unfold eqBool
    refine wpAny_holding (wpAny_ite_split (fun e => absurd (eq_of_beq e).symm hv) fun _ => wpAny_bind (wpAny_mono h (fun z s' hz => ?_) fun _ _ e => e))
    obtain ⟨z', H', J, rz, ez, ex⟩ := hz
    subst ez
    cases rz
    exact wpAny_truthy_bool ⟨rfl, H', un_in1 J, ex⟩
  obtain ⟨p, rfl, dx, hp⟩ := id hx
  cases rx
  rcases id hy with ⟨n, rfl, _⟩ | ⟨p2, rfl, dx2, hp2⟩
  · obtain ⟨t, rfl⟩ := ry
    exact go p rfl (by simp)
  · cases ry
    by_cases e : p2 = p
    · subst e
      rw [hp] at hp2
      injection hp2 with e1
      injection e1 with _ _ e2
      have e3 := flR_inj e2
      subst e3
      exact SeqAt.EqAt.same (A := X.A.in1) (s := s) (.ref p2) X.prog X.w X.xe _ ⟨by rw [decide_eq_true rfl], H, I, Ex.refl H⟩
    · exact go p rfl fun h => e (by injection h)
theorem fromB_all {e : Nat → Bool} : ∀ {N k i : Nat}, GQ.fromB e N k i = true ↔ ∀ j, j < k → e (i + j) = true
  | N, 0, i => by simp [GQ.fromB]
  | N, k + 1, i => by
    unfold GQ.fromB
    rw [Bool.and_eq_true, fromB_all]
    constructor
    · rintro ⟨h0, h1⟩ j hj
      cases j with
      | zero => exact h0
      | succ j => have := h1 j (by omega); rw [show i + (j + 1) = i + 1 + j by omega]; exact this
    · intro h
      exact ⟨h 0 (by omega), fun j hj => by have := h (j + 1) (by omega); rw [show i + 1 + j = i + (j + 1) by omega]; exact this⟩
theorem fromB_lists {qs cs : List Rat} (h : qs.length = cs.length) : GQ.fromB (fun i => decide (qs[i]? = cs[i]?)) qs.length qs.length 0 = decide (qs = cs) := by
  rw [Bool.eq_iff_iff, fromB_all, decide_eq_true_iff]
  constructor
  · intro hh
    refine List.ext_getElem? fun i => ?_
    by_cases hi : i < qs.length
    · have := hh i hi
      rw [Nat.zero_add] at this
      exact of_decide_eq_true this
    · rw [List.getElem?_eq_none (by omega), List.getElem?_eq_none (by omega)]
  · rintro rfl j _
    exact decide_eq_true rfl
def rLsR (C : Addr) (ne : Bool) : R2 := fun x y H Q => ∃ (a b : Addr) (xs ys : List V) (qs cs : List Rat), x = .ref a ∧ y = .ref b ∧ H a = some (.lst xs) ∧ H b = some (.lst ys) ∧ RatsV C H xs qs ∧ NumsV C H ys cs ∧ (∀ c ∈ cs, Sz 3000 c) ∧ ∀ H', Ex H H' → Q (.bl (if ne = true then !decide (qs = cs) else decide (qs = cs))) H'
theorem lsB_of {X : Cx} {C : Addr} (R : RC X.K C) (ho : OpR (in1X X) (compareOp .Eq) (rCmpOwn X.K C (spEqV X.K C) E0)) {pins : List (Addr × Obj)} {σ : L2.St} {H : Hp} {a b : Addr} {xs ys : List V} {qs cs : List Rat} (ha : H a = some (.lst xs)) (hb : H b = some (.lst ys)) (hx : RatsV C H xs qs)
    (hy : NumsV C H ys cs) (sz : ∀ c ∈ cs, Sz 3000 c) (hl : qs.length = cs.length) : GQ.LsB X.prog X.w X.A X.xe a b qs.length (fun i => decide (qs[i]? = cs[i]?)) (fun _ s' => ∃ H', Inv X pins σ H' s' ∧ Ex H H') := by
  rintro i s ⟨H1, I1, e1⟩
  obtain ⟨_, its, k, r, g1⟩ := I1.hok a _ (e1 _ _ ha)
  obtain ⟨_, its2, k2, r2, g2⟩ := I1.hok b _ (e1 _ _ hb)
  have n1 : its.length = qs.length := by rw [← r.length, hx.length]
  have n2 : its2.length = qs.length := by rw [← r2.length, hy.length, hl]
  refine ⟨its.toArray, its2.toArray, k, k2, g1, g2, by simpa using n1, by simpa using n2, fun h1 h2 => ?_⟩
  have i1 : i < its.length := by simpa using h1
  have i2 : i < its2.length := by simpa using h2
  obtain ⟨u, hu, ru⟩ := r.get (List.getElem?_eq_getElem (show i < xs.length by rw [r.length]; exact i1))
  obtain ⟨v, hv, rv⟩ := r2.get (List.getElem?_eq_getElem (show i < ys.length by rw [r2.length]; exact i2))
  have w1 : its.toArray[i] = u := by
    rw [List.getElem?_eq_getElem i1] at hu
    simpa using Option.some.inj hu
  have w2 : its2.toArray[i] = v := by
    rw [List.getElem?_eq_getElem i2] at hv
    simpa using Option.some.inj hv
  rw [w1, w2]
  have q1 : qs[i]? = some (qs[i]'(by omega)) := List.getElem?_eq_getElem _
  have q2 : cs[i]? = some (cs[i]'(by omega)) := List.getElem?_eq_getElem _
  have rr := Prd.at hx (List.getElem?_eq_getElem (show i < xs.length by rw [r.length]; exact i1)) q1
  have nn := Prd.at hy (List.getElem?_eq_getElem (show i < ys.length by rw [r2.length]; exact i2)) q2
  refine wpAny_mono (eqB_item R ho I1 ru rv (rr.mono e1) (nn.mono e1) (sz _ (List.mem_of_getElem? q2))) (fun t s' z => ?_) fun _ _ z => z
  obtain ⟨ht, H2, I2, e2⟩ := z
  refine ⟨?_, H2, I2, e1.trans e2⟩
  rw [ht]
  show _ = decide (qs[i]? = cs[i]?)
  rw [q1, q2]
  simp
theorem op_lsRN {X : Cx} {C : Addr} (hu : X.A.units < cLine) (R : RC X.K C) (ho : OpR (in1X X) (compareOp .Eq) (rCmpOwn X.K C (spEqV X.K C) E0)) : OpR X (compareOp .NotEq) (rLsR C true) := by
  intro pins s σ H x y v u Q I rx ry h
  obtain ⟨a, b, xs, ys, qs, cs, rfl, rfl, ha, hb, hx, hy, sz, q⟩ := h
  cases rx
  cases ry
  show wpAny _ _ (richCompare .NotEq _ _) _ _ s
  by_cases hl : qs.length = cs.length
  · refine GQ.rcB_ne hu (lsB_of R ho ha hb hx hy sz hl) (fun t j hj => ?_) ⟨H, I, Ex.refl H⟩
    obtain ⟨H', J, e⟩ := hj
    rw [fromB_lists hl]
    exact ⟨.bl _, H', J, rfl, q H' e⟩
  · obtain ⟨_, its, k, r, g1⟩ := I.hok a _ ha
    obtain ⟨_, its2, k2, r2, g2⟩ := I.hok b _ hb
    have hn : qs ≠ cs := fun e => hl (by rw [e])
    have q' := q H (Ex.refl H)
    rw [decide_eq_false hn] at q'
    refine GQ.rcB_neS hu g1 g2 ?_ ⟨.bl true, H, I, rfl, q'⟩
    simp only [List.size_toArray, bne_iff_ne, ne_eq]
    rw [← r.length, ← r2.length, hx.length, hy.length]
    exact hl
end Fm

set_option maxHeartbeats 2000000
namespace Fm
open PySem PySem.Spec PyProof.Rows L2
section
variable {X : Cx} {CX : CXT} {k n : Nat} {f C : Addr} {fd : FuncData} {ps ks : List Str} {sp : Sp} {E : L2.St → XK} {x m : Str} {p pos apos : Pos} {e o : Expr} {es : List Expr} {kws : List Keyword} {t tk : TA} {ta : TE} {g : List Value → List Value → List Value} {gV : List V → List V → List V}
def tCallW (sp : Sp) (gV : List V → List V → List V) (m : Nat) (E : L2.St → XK) (tk : TA) : TE := fun σ H Q => tk σ H fun zs H2 => zs.length = m ∧ sp (gV [] zs) H2 Q (E σ)
def tMethW (C : Addr) (m : Str) (sp : Sp) (gV : List V → List V → List V) (j : Nat) (E : L2.St → XK) (ta : TE) (tk : TA) : TE := fun σ H Q => ta σ H fun x H1 => ∃ a dx fs, x = .ref a ∧ H1 a = some (.ins C dx fs) ∧ fs.lookup m = none ∧
  tk σ H1 fun zs H2 => zs.length = j ∧ sp (gV [x] zs) H2 Q (E σ)
end
theorem at0 {X : Cx} : ∀ σ : L2.St, PassesAt CX0 X σ ((fun _ => E0) σ) := fun _ _ _ _ _ _ _ h => h.elim
section
variable {σ : L2.St} {H : Hp} {Q : VK} {sp : Sp} {gV : List V → List V → List V} {E : L2.St → XK} {tk t : TA} {ta : TE} {m : Nat} {C : Addr} {nm : Str}
theorem g_callW (q : tk σ H fun zs H2 => zs.length = m ∧ sp (gV [] zs) H2 Q (E σ)) : tCallW sp gV m E tk σ H Q := q
theorem g_methW (q : ta σ H fun x H1 => ∃ a dx fs, x = .ref a ∧ H1 a = some (.ins C dx fs) ∧ fs.lookup nm = none ∧ tk σ H1 fun zs H2 => zs.length = m ∧ sp (gV [x] zs) H2 Q (E σ)) : tMethW C nm sp gV m E ta tk σ H Q := q
end
end Fm

set_option maxHeartbeats 2000000
namespace Fm
open PySem PySem.Spec PyProof.Rows L2
def sumR (qs : List Rat) : Rat := qs.foldl (· + ·) 0
theorem sumR_take {qs : List Rat} {i : Nat} {q : Rat} (h : qs[i]? = some q) : sumR (qs.take (i + 1)) = sumR (qs.take i) + q := by
  have e : qs.take (i + 1) = qs.take i ++ [q] := by
    rw [List.take_add_one, h]; rfl
  unfold sumR
  rw [e, List.foldl_append]
  rfl
def Nums (C : Addr) (H : Hp) (xs : List V) (qs : List Rat) : Prop := xs.length = qs.length ∧ ∀ (i : Nat) (v : V) (q : Rat), xs[i]? = some v → qs[i]? = some q → NumV C H v q
theorem Nums.mono {C : Addr} {H H' : Hp} {xs : List V} {qs : List Rat} (e : Ex H H') (h : Nums C H xs qs) : Nums C H' xs qs := ⟨h.1, fun i v q a b => (h.2 i v q a b).mono e⟩
theorem Nums.nil {C : Addr} {H : Hp} : Nums C H [] [] := ⟨rfl, fun i v q a => by simp at a⟩
theorem Nums.cons {C : Addr} {H : Hp} {x : V} {q : Rat} {xs : List V} {qs : List Rat} (h : NumV C H x q) (t : Nums C H xs qs) : Nums C H (x :: xs) (q :: qs) := by
  refine ⟨by rw [List.length_cons, List.length_cons, t.1], fun i v r a b => ?_⟩
  cases i with
  | zero => simp at a b; subst a; subst b; exact h
  | succ i => exact t.2 i v r (by simpa using a) (by simpa using b)
end Fm

set_option maxHeartbeats 2000000
namespace Fm
open PySem PySem.Spec PyProof.Rows L2
theorem divInt_lt {p q r s : Int} (hq : 0 < q) (hs : 0 < s) : Rat.divInt p q < Rat.divInt r s ↔ p * s < r * q := by
  rw [Rat.divInt_eq_div, Rat.divInt_eq_div]
  have hq' : (0 : Rat) < (q : Rat) := by
    have := Rat.lt_iff 0 (q : Rat)
    rw [this]; simp; exact hq
  have hs' : (0 : Rat) < (s : Rat) := by
    have := Rat.lt_iff 0 (s : Rat)
    rw [this]; simp; exact hs
  rw [Rat.div_lt_iff hq', Rat.div_def, Rat.mul_assoc, Rat.mul_comm (s : Rat)⁻¹, ← Rat.mul_assoc, ← Rat.div_def, Rat.lt_div_iff hs', ← Rat.intCast_mul, ← Rat.intCast_mul]
  rw [Rat.lt_iff, Rat.num_intCast, Rat.num_intCast, Rat.den_intCast, Rat.den_intCast]; simp
theorem divInt_eq {p q r s : Int} (hq : 0 < q) (hs : 0 < s) : Rat.divInt p q = Rat.divInt r s ↔ p * s = r * q := Rat.divInt_eq_divInt_iff (by omega) (by omega)
theorem divInt_le {p q r s : Int} (hq : 0 < q) (hs : 0 < s) : Rat.divInt p q ≤ Rat.divInt r s ↔ p * s ≤ r * q := by
  rw [← Rat.not_lt, divInt_lt hs hq]; omega
section
variable {H : Hp} {Q : VK}
end
end Fm

set_option maxHeartbeats 2000000
namespace Fm
open PySem PySem.Spec PyProof.Rows L2 SX
section
variable {K : PySem.W.Frag} {σ : L2.St} {H : Hp} {Q : VK} {D : Ends} {g : TG} {tb : TS} {tt : TT} {te t1 t2 : TE} {ta : TA} {vs : List Nat} {wi : TI} {R : It → Hp → Prop} {v x y : V}
theorem g_istr (q : te σ H fun v H1 => ∃ x, v = .str x ∧ R (Its x) H1) : iStr te σ H R := q
theorem g_notInS {c : Nat} {l : List Nat} (q : Q (.bl (!decide (c ∈ l))) H) : rNotInS (.str (S [c])) (.str (S l)) H Q := ⟨c, S l, rfl, rfl, q⟩
end
theorem canLay_strs : ∀ l : List Str, (∀ x ∈ l, PyData.strOk x = true) → PyData.canLayAll0 (l.map PyData.str) = true
  | [], _ => by simp [PyData.canLayAll0]
  | n :: r, h => by simp [PyData.canLayAll0, PyData.canLay0, h n (List.mem_cons_self ..), canLay_strs r fun x hx => h x (List.mem_cons_of_mem _ hx)]
theorem strOk_S {l : List Nat} (h : ∀ c ∈ l, c < 256) : PyData.strOk (S l) = true := by
  show (S l).cps.all (· < 0x110000) = true
  rw [Array.all_eq_true_iff_forall_mem]
  intro c hc
  have := h c (by simpa using hc)
  exact decide_eq_true (by omega)
section
variable {K : PySem.W.Frag} {H : Hp} {Q : VK}
end
end Fm
namespace Fm
open PySem PySem.Spec PyProof.Rows L2 SX
theorem take_succ_get {α : Type} {l : List α} {i : Nat} {x : α} (h : l[i]? = some x) : l.take (i + 1) = l.take i ++ [x] := by
  rw [List.take_add_one, h]; rfl
end Fm
namespace Fm
open PySem PySem.Spec PyProof.Rows L2 SX
end Fm
namespace Fm
open PySem PySem.Spec PyProof.Rows L2 SX
theorem g_lenQ {K : PySem.W.Frag} {H : Hp} {Q : VK} {p : Addr} {xs : List V} (h : SqL K H p xs) (q : Q (.int (xs.length : Int)) H) : rLenQ K [.ref p] H Q := ⟨p, xs, rfl, .inl h, q⟩
end Fm
namespace Fm
open PySem PySem.Spec PyProof.Rows L2 SX
section
variable {σ : L2.St} {H : Hp} {t u : TT} {W : Bool → Hp → Prop} {b c : Bool}
end
end Fm
namespace Fm
open PySem PySem.Spec PyProof.Rows L2 SX
theorem numL_256 {n c : Nat} (h : c ∈ TL.numL n) : c < 256 := by
  have := List.all_eq_true.mp (numL_dg n) c h
  unfold dg at this
  rw [Bool.and_eq_true] at this
  have := of_decide_eq_true this.2
  omega
theorem txN_256 {n : Int} {c : Nat} (h : c ∈ txN n) : c < 256 := by
  unfold txN at h
  split at h
  · rcases List.mem_cons.mp h with rfl | h
    · omega
    · exact numL_256 h
  · exact numL_256 h
theorem txR_256 {q : Rat} {c : Nat} (h : c ∈ txR q) : c < 256 := by
  unfold txR at h
  rcases List.mem_append.mp h with h | h
  · exact txN_256 h
  · split at h
    · cases h
    · rcases List.mem_cons.mp h with rfl | h
      · omega
      · exact numL_256 h
theorem txR_len {q : Rat} {k : Nat} (hk : 0 < k) (h1 : q.num.natAbs < 10 ^ k) (h2 : q.den < 10 ^ k) : (txR q).length ≤ 2 * k + 2 := by
  have l1 := TL.numL_len hk h1
  have l2 := TL.numL_len hk h2
  have l3 : (txN q.num).length ≤ k + 1 := by rw [← txN_abs]; split <;> simp <;> omega
  unfold txR
  split
  · simp; omega
  · simp; omega
end Fm
namespace Fm
open PySem PySem.Spec PyProof.Rows L2 SX
section
variable {H : Hp} {Q : VK} {m n : Addr} {xs ys : List V} {k j : Nat}
end
end Fm
namespace Fm
open PySem PySem.Spec PyProof.Rows L2 SX
end Fm
namespace Fm
open PySem PySem.Spec PyProof.Rows L2 SX
theorem Ex.mo_new {H H1 H2 : Hp} {t : Addr} (e : Ex H H1) (h : H t = none) (m : Mo t H1 H2) : Ex H H2 := fun a o ha => m a o (e a o ha) (ne_of_none ha h)
theorem TapeAt.ne {H : Hp} {t x : Addr} {o : HO} (h : TapeAt H t) (hx : H x = some o) (hl : ∀ l, o ≠ .lst l) : x ≠ t := fun e => by
  obtain ⟨_, _, _, _, _, z⟩ := h
  rw [e, z] at hx
  exact hl _ (by cases hx; rfl)
theorem TapeAt.new {H : Hp} {t x : Addr} (h : TapeAt H t) (hx : H x = none) : x ≠ t := fun e => by
  obtain ⟨_, _, _, _, _, z⟩ := h
  rw [e, z] at hx
  cases hx
theorem RatV.mo {C : Addr} {H H' : Hp} {v : V} {q : Rat} {t : Addr} (h : TapeAt H t) (m : Mo t H H') (r : RatV C H v q) : RatV C H' v q := by
  obtain ⟨p, rfl, dx, hp⟩ := r
  exact ⟨p, rfl, dx, m _ _ hp (h.ne hp fun l => by intro z; cases z)⟩
end Fm
namespace Fm
open PySem PySem.Spec PyProof.Rows L2 SX
def rMaxI : List V → Hp → VK → Prop := fun xs H Q => ∃ i j, xs = [.int i, .int j] ∧ Q (.int (if j > i then j else i)) H
def rMinI : List V → Hp → VK → Prop := fun xs H Q => ∃ i j, xs = [.int i, .int j] ∧ Q (.int (if j < i then j else i)) H
theorem cr_max2 {X : Cx} (hc : X.calm = true) : CallR X (.builtin "max") rMaxI := call_max2 hc
theorem cr_min2 {X : Cx} (hc : X.calm = true) : CallR X (.builtin "min") rMinI := call_min2 hc
end Fm
namespace Fm
open PySem PySem.Spec PyProof.Rows L2 SX
structure PrOk (H : Hp) (t : Addr) (e : Addr × Int × Int) : Prop where
  ne : e.1 ≠ t
  at_ : H e.1 = some (.tup [.int e.2.1, .int e.2.2])
  l1 : -(10 ^ 11) ≤ e.2.1
  l2 : e.2.1 ≤ 10 ^ 11
  l3 : 1 ≤ e.2.2
  l4 : e.2.2 ≤ 10 ^ 11
theorem PrOk.mono {H H' : Hp} {t : Addr} {e : Addr × Int × Int} (x : Ex H H') (h : PrOk H t e) : PrOk H' t e := ⟨h.ne, x _ _ h.at_, h.l1, h.l2, h.l3, h.l4⟩
theorem PrOk.mo {H H' : Hp} {t : Addr} {e : Addr × Int × Int} (x : Mo t H H') (h : PrOk H t e) : PrOk H' t e := ⟨h.ne, x _ _ h.at_ h.ne, h.l1, h.l2, h.l3, h.l4⟩
def rtOf (e : Addr × Int × Int) : Rat := Rat.divInt e.2.1 e.2.2
structure Bn (C : Addr) (H0 H : Hp) (t D F : Addr) (e0 e1 e2 : Addr × Int × Int) (r0 r1 r2 : V) : Prop where
  ex : Ex H0 H
  nw : H0 t = none
  tp : TapeAt H t
  hD : H D = some (.lst [.ref e0.1, .ref e1.1, .ref e2.1])
  hF : H F = some (.lst [r0, r1, r2])
  dt : D ≠ t
  ft : F ≠ t
  p0 : PrOk H t e0
  p1 : PrOk H t e1
  p2 : PrOk H t e2
  q0 : RatV C H r0 (rtOf e0)
  q1 : RatV C H r1 (rtOf e1)
  q2 : RatV C H r2 (rtOf e2)
section
variable {C : Addr} {H0 H H' : Hp} {t D F : Addr} {e0 e1 e2 : Addr × Int × Int} {r0 r1 r2 : V}
theorem Bn.mono (b : Bn C H0 H t D F e0 e1 e2 r0 r1 r2) (e : Ex H H') : Bn C H0 H' t D F e0 e1 e2 r0 r1 r2 :=
  ⟨b.ex.trans e, b.nw, b.tp.mono e, e _ _ b.hD, e _ _ b.hF, b.dt, b.ft, b.p0.mono e, b.p1.mono e, b.p2.mono e, b.q0.mono e, b.q1.mono e, b.q2.mono e⟩
theorem Bn.mo (b : Bn C H0 H t D F e0 e1 e2 r0 r1 r2) (m : Mo t H H') (h : TapeAt H' t) : Bn C H0 H' t D F e0 e1 e2 r0 r1 r2 :=
  ⟨b.ex.mo_new b.nw m, b.nw, h, m _ _ b.hD b.dt, m _ _ b.hF b.ft, b.dt, b.ft, b.p0.mo m, b.p1.mo m, b.p2.mo m, b.q0.mo b.tp m, b.q1.mo b.tp m, b.q2.mo b.tp m⟩
end
end Fm
namespace Fm
open PySem PySem.Spec PyProof.Rows L2 SX
end Fm

set_option maxHeartbeats 2000000
namespace Fm
open PySem PySem.Spec PyProof.Rows L2
inductive Da where
  | non | bl (b : Bool) | int (i : Int) | str (s : Str) | rat (q : Rat) | lst (l : List Da) | tup (l : List Da) | dic (l : List (Str × Da))
mutual
def Da.sh : Da → PyData
  | .non => .str "None"
  | .bl b => .str (if b then "True" else "False" : String)
  | .int i => .str (toString i)
  | .str s => .str (reprText s)
  | .rat q => .list [.str "ratio", .int q.num, .int (q.den : Int)]
  | .lst l => .list [.str "list", .list (shL l)]
  | .tup l => .list [.str "tuple", .list (shL l)]
  | .dic l => .list [.str "dict", .list (shD l)]
def shL : List Da → List PyData
  | [] => []
  | d :: r => d.sh :: shL r
def shD : List (Str × Da) → List PyData
  | [] => []
  | (s, d) :: r => .tuple [.str (reprText s), d.sh] :: shD r
end
mutual
def Da.dp : Da → Nat
  | .lst l => dpL l + 1
  | .tup l => dpL l + 1
  | .dic l => dpD l + 1
  | _ => 0
def dpL : List Da → Nat
  | [] => 0
  | d :: r => max d.dp (dpL r)
def dpD : List (Str × Da) → Nat
  | [] => 0
  | (_, d) :: r => max d.dp (dpD r)
end
def fineS (s : Str) : Bool := decide (s.cps.toList.length ≤ 200) && PyData.strOk (reprText s) && decide ((reprText s).length ≤ sizeLine)
mutual
def Da.noDic : Da → Bool
  | .lst l => noDicL l
  | .tup l => noDicL l
  | .dic _ => false
  | _ => true
def noDicL : List Da → Bool
  | [] => true
  | d :: r => d.noDic && noDicL r
end
mutual
def Da.fine : Da → Bool
  | .int i => decide (i.natAbs < 2 ^ 1500)
  | .str s => fineS s
  | .rat q => decide (q.num.natAbs < 2 ^ 1500) && decide (q.den < 2 ^ 1500)
  | .lst l => decide (l.length ≤ 1000) && fineL l
  | .tup l => decide (l.length ≤ 1000) && fineL l
  | .dic l => decide (l.length ≤ 8 ∧ (l.map (·.1)).Nodup) && fineD l
  | _ => true
def fineL : List Da → Bool
  | [] => true
  | d :: r => d.fine && fineL r
def fineD : List (Str × Da) → Bool
  | [] => true
  | (s, d) :: r => fineS s && d.fine && d.noDic && fineD r
end
mutual
inductive DaV (C : Addr) (H : Hp) : V → Da → Prop
  | non : DaV C H .non .non
  | bl (b : Bool) : DaV C H (.bl b) (.bl b)
  | int (i : Int) : DaV C H (.int i) (.int i)
  | str (s : Str) : DaV C H (.str s) (.str s)
  | rat {v : V} {q : Rat} (h : RatV C H v q) : DaV C H v (.rat q)
  | lst {p : Addr} {xs : List V} {ds : List Da} (h : H p = some (.lst xs)) (r : DaVs C H xs ds) : DaV C H (.ref p) (.lst ds)
  | tup {p : Addr} {xs : List V} {ds : List Da} (h : H p = some (.tup xs)) (r : DaVs C H xs ds) : DaV C H (.ref p) (.tup ds)
  | dic {p : Addr} {ks : List (Key × V)} {ds : List (Str × Da)} (h : H p = some (.dK ks)) (r : DaKs C H ks ds) : DaV C H (.ref p) (.dic ds)
inductive DaVs (C : Addr) (H : Hp) : List V → List Da → Prop
  | nil : DaVs C H [] []
  | cons {v : V} {d : Da} {vs : List V} {ds : List Da} (h : DaV C H v d) (r : DaVs C H vs ds) : DaVs C H (v :: vs) (d :: ds)
inductive DaKs (C : Addr) (H : Hp) : List (Key × V) → List (Str × Da) → Prop
  | nil : DaKs C H [] []
  | cons {s : Str} {v : V} {d : Da} {vs : List (Key × V)} {ds : List (Str × Da)} (h : DaV C H v d) (r : DaKs C H vs ds) : DaKs C H ((.inr s, v) :: vs) ((s, d) :: ds)
end
section
variable {C : Addr} {H H' : Hp}
mutual
theorem DaV.mono (e : Ex H H') : ∀ {v : V} {d : Da}, DaV C H v d → DaV C H' v d
  | _, _, .non => .non
  | _, _, .bl b => .bl b
  | _, _, .int i => .int i
  | _, _, .str s => .str s
  | _, _, .rat h => .rat (h.mono e)
  | _, _, .lst h r => .lst (e _ _ h) (DaVs.mono e r)
  | _, _, .tup h r => .tup (e _ _ h) (DaVs.mono e r)
  | _, _, .dic h r => .dic (e _ _ h) (DaKs.mono e r)
theorem DaVs.mono (e : Ex H H') : ∀ {vs : List V} {ds : List Da}, DaVs C H vs ds → DaVs C H' vs ds
  | _, _, .nil => .nil
  | _, _, .cons h r => .cons (DaV.mono e h) (DaVs.mono e r)
theorem DaKs.mono (e : Ex H H') : ∀ {vs : List (Key × V)} {ds : List (Str × Da)}, DaKs C H vs ds → DaKs C H' vs ds
  | _, _, .nil => .nil
  | _, _, .cons h r => .cons (DaV.mono e h) (DaKs.mono e r)
end
theorem DaVs.length : ∀ {vs : List V} {ds : List Da}, DaVs C H vs ds → vs.length = ds.length
  | _, _, .nil => rfl
  | _, _, .cons _ r => congrArg Nat.succ r.length
theorem DaVs.at : ∀ {vs : List V} {ds : List Da} {i : Nat} {v : V}, DaVs C H vs ds → vs[i]? = some v → ∃ d, ds[i]? = some d ∧ DaV C H v d
  | _, _, _, _, .nil, h => by simp at h
  | _, _, 0, _, .cons h _, e => by simp at e; subst e; exact ⟨_, rfl, h⟩
  | _, _, i + 1, v, .cons _ r, e => by
    obtain ⟨d, h1, h2⟩ := DaVs.at (i := i) (v := v) r (by simpa using e)
    exact ⟨d, by simpa using h1, h2⟩
theorem RatsV.da {vs : List V} {qs : List Rat} (h : RatsV C H vs qs) : DaVs C H vs (qs.map .rat) := by
  unfold RatsV at h
  induction h with
  | nil => exact .nil
  | cons h _ ih => exact .cons (.rat h) ih
def Da.ty (C : Addr) : Da → Value
  | .non => .type "NoneType"
  | .bl _ => .type "bool"
  | .int _ => .type "int"
  | .str _ => .type "str"
  | .rat _ => .ref C
  | .lst _ => .type "list"
  | .tup _ => .type "tuple"
  | .dic _ => .type "dict"
theorem Da.kty (d : Da) : KTy C (d.ty C) := by
  cases d
  · exact .non
  · exact .bool
  · exact .int
  · exact .str
  · exact .own
  · exact .list
  · exact .tuple
  · exact .dict
theorem DaV.tyx {K : PySem.W.Frag} (R : RC K C) {v : V} {d : Da} (h : DaV C H v d) : TyX K H v (d.ty C) := by
  cases h with
  | non => exact .base .non
  | bl b => exact .base (.bl b)
  | int i => exact .base (.int i)
  | str s => exact .base (.str s)
  | rat h => exact ty_rat R h
  | lst h _ => exact .base (.lst h)
  | tup h _ => exact .base (.tup h)
  | dic h _ => exact .base (.dK h)
def Da.isNum : Da → Bool
  | .int _ => true
  | .rat _ => true
  | _ => false
def Da.num : Da → Rat
  | .int i => (i : Rat)
  | .rat q => q
  | _ => 0
theorem Da.ty_num (d : Da) : (d.ty C == .ref C || d.ty C == .type "int") = d.isNum := by
  cases d <;> simp [Da.ty, Da.isNum]
theorem DaV.num {v : V} {d : Da} (h : DaV C H v d) (n : d.isNum = true) : NumV C H v d.num := by
  cases h with
  | int i => exact .inl ⟨i, rfl, rfl⟩
  | rat h => exact .inr h
  | _ => cases n
theorem Da.numSz {d : Da} (h : d.fine = true) : Sz 1501 d.num := by
  cases d with
  | int i =>
    have h1 : i.natAbs < 2 ^ 1500 := by unfold Da.fine at h; exact of_decide_eq_true h
    show Sz 1501 (i : Rat)
    rw [← int_divInt]
    exact Sz.divInt (Nat.lt_of_lt_of_le h1 (Nat.pow_le_pow_right (by decide) (by decide))) (Nat.lt_of_lt_of_le (m := 2 ^ 1) (by decide) (Nat.pow_le_pow_right (by decide) (by decide))) (by decide)
  | rat q =>
    have h1 : q.num.natAbs < 2 ^ 1500 ∧ q.den < 2 ^ 1500 := by
      unfold Da.fine at h
      rw [Bool.and_eq_true] at h
      exact ⟨of_decide_eq_true h.1, of_decide_eq_true h.2⟩
    show Sz 1501 q
    exact ⟨Nat.lt_of_lt_of_le h1.1 (Nat.pow_le_pow_right (by decide) (by decide)), Nat.lt_of_lt_of_le h1.2 (Nat.pow_le_pow_right (by decide) (by decide))⟩
  | _ => exact (⟨Nat.lt_of_lt_of_le (m := 2 ^ 1) (by decide) (Nat.pow_le_pow_right (by decide) (by decide)), Nat.lt_of_lt_of_le (m := 2 ^ 1) (by decide) (Nat.pow_le_pow_right (by decide) (by decide))⟩ : Sz 1501 (0 : Rat))
def Da.nums : Da → Bool
  | .lst l => l.all Da.isNum
  | .tup l => l.all Da.isNum
  | _ => false
end
end Fm
namespace Fm
open PySem PySem.Spec PyProof.Rows L2
def kinds : List String := ["int", "bool", "NoneType", "str", "list", "tuple", "dict"]
structure RC2 (K : PySem.W.Frag) (C : Addr) : Prop where
  lst : PySem.W.subIn K (.ref C) (.type "list") = some false
  tup : PySem.W.subIn K (.ref C) (.type "tuple") = some false
  dic : PySem.W.subIn K (.ref C) (.type "dict") = some false
structure SC (K : PySem.W.Frag) (CS C : Addr) : Prop where
  cl : Cls K CS
  nM : NoAttr K CS "_marks"
  ha : PySem.W.findIn K (.ref CS) "__class__" = some (some (.builtin "object.__class__"))
  hm : PySem.W.mroIn K CS (.type "object") = some true
  own : (PySem.W.clsIn K CS).isSome = true
  ty : PySem.W.typeIn K (.ref CS) = some (.type "type")
  noRef : ∀ n ∈ kinds, PySem.W.subIn K (.type n) (.ref CS) = some false
  rat : PySem.W.subIn K (.ref C) (.ref CS) = some false
theorem kit_meta {n : String} (h : n = "list" ∨ n = "tuple" ∨ n = "dict") : PySem.W.kitMeta n = true := by
  rcases h with rfl | rfl | rfl <;> decide +kernel
theorem kit_ref {K : PySem.W.Frag} {C : Addr} {n : String} {b : Bool} (hm : PySem.W.kitMeta n = true) (h : PySem.W.subIn K (.ref C) (.type n) = some b) : PySem.W.kitOne K (.ref C) (.type n) = some b := by
  show (if (Value.ref C == Value.type n) = true then some true else PySem.W.kitCls K (.ref C) (.type n)) = _
  rw [if_neg (by simp)]
  show (if PySem.W.kitMeta n = true then PySem.W.subIn K (.ref C) (.type n) else none) = _
  rw [if_pos hm, h]
def Da.isLst : Da → Bool
  | .lst _ => true
  | _ => false
def Da.isTup : Da → Bool
  | .tup _ => true
  | _ => false
def Da.isDic : Da → Bool
  | .dic _ => true
  | _ => false
section
variable {K : PySem.W.Frag} {C CS : Addr}
theorem kit_lst (R : RC2 K C) (d : Da) : PySem.W.kitOne K (d.ty C) (.type "list") = some d.isLst := by
  cases d <;> first | exact kit_ref (kit_meta (.inl rfl)) R.lst | exact kit_ty (r := true) (by decide +kernel) | exact kit_ty (r := false) (by decide +kernel)
theorem kit_tup (R : RC2 K C) (d : Da) : PySem.W.kitOne K (d.ty C) (.type "tuple") = some d.isTup := by
  cases d <;> first | exact kit_ref (kit_meta (.inr (.inl rfl))) R.tup | exact kit_ty (r := true) (by decide +kernel) | exact kit_ty (r := false) (by decide +kernel)
theorem kit_dic (R : RC2 K C) (d : Da) : PySem.W.kitOne K (d.ty C) (.type "dict") = some d.isDic := by
  cases d <;> first | exact kit_ref (kit_meta (.inr (.inr rfl))) R.dic | exact kit_ty (r := true) (by decide +kernel) | exact kit_ty (r := false) (by decide +kernel)
theorem kit_lt (R : RC2 K C) (d : Da) : PySem.W.kitAny K (d.ty C) [.type "list", .type "tuple"] = some (d.isLst || d.isTup) := by
  unfold PySem.W.kitAny
  rw [kit_lst R d]
  cases d.isLst with
  | true => rfl
  | false =>
    unfold PySem.W.kitAny
    rw [kit_tup R d]
    cases d.isTup <;> rfl
theorem kit_rat (R : RC K C) (d : Da) : PySem.W.kitOne K (d.ty C) (.ref C) = some (d.ty C == .ref C) := kit_own R d.kty
theorem ty_sc (R : RC K C) (S : SC K CS C) {H : Hp} {p dx : Addr} {fs : List (Str × V)} (h : H p = some (.ins CS dx fs)) : TyX K H (.ref p) (.ref CS) := .base (.ins h S.cl S.ha R.hn R.htk S.hm)
end
theorem g_isiT {K : PySem.W.Frag} {H : Hp} {Q : VK} {x : V} {tp : Addr} {cs : List V} {t : Value} {us : List Value} {b : Bool} (ht : H tp = some (.tup cs)) (hc : Paired ClsV cs us) (ty : TyX K H x t) (e : PySem.W.kitAny K t us = some b) (q : Q (.bl b) H) : rIsiT K [x, .ref tp] H Q := ⟨x, tp, cs, t, us, b, rfl, ht, hc, ty, e, q⟩
def rLenOwn (C : Addr) (sp : Sp) (E : XK) : List V → Hp → VK → Prop := fun xs H Q => ∃ (a dx : Addr) (fs : List (Str × V)), xs = [.ref a] ∧ H a = some (.ins C dx fs) ∧ sp [.ref a] H (fun v H' => ∃ n : Nat, v = .int (n : Int) ∧ n < 2 ^ 62 ∧ Q (.int (n : Int)) H') E
theorem cr_lenOwn {X : Cx} {CX : CXT} {k : Nat} {f C : Addr} {fd : FuncData} {ps : List Str} {sp : Sp} {E : XK} (hs : PySem.W.findIn X.K (.ref C) "__len__" = some (some (.ref f))) (hf : PySem.W.isFn X.K (.ref f) = true)
    (F : FnOk X.prog X.w X.K X.mg X.base CX k f fd ps sp) (hr : Room (k + 1) X.A) (hb : Binds X.K fd ps []) (hx : Passes CX (in1X X) E) : CallR X (.builtin "len") (rLenOwn C sp E) := by
  intro pins s σ H xs us Q I r h
  obtain ⟨a, dx, fs, rfl, ha, q⟩ := h
  obtain ⟨u, rfl, hv⟩ := vals1 r
  cases hv
  obtain ⟨ox, od, J⟩ := inst_of I ha
  obtain ⟨m, hF⟩ := I.fr
  have R := run_fn (X := in1X X) (us := [.ref a]) (vs := [.ref a]) (dvs := []) (ds := []) F hr.in1 hb .nil hx (in1_inv I) (.cons rfl .nil) q
  refine PySem.W.len_K hF I.ok.mod.kin J hs hf (wpAny_mono R (fun v s' z => ?_) fun _ _ e => e)
  obtain ⟨w, H', J2, rv, n, e, hn, q2⟩ := z
  subst e
  obtain ⟨t, rfl⟩ := rv
  exact ⟨⟨by omega, by omega⟩, .int _, H', (un_in1 J2).tok _, ⟨_, rfl⟩, q2⟩
end Fm
namespace Fm
open PySem PySem.Spec PyProof.Rows L2
def spBadInit (fld : Str) (C : Addr) : Sp := fun vs H Q _ => ∃ (e : Addr) (v : V), vs = [.ref e, v] ∧ H e = some (exo e C none) ∧ ∀ d, H d = none → d ≠ e → Q .non (upd (upd H d (exd d [(fld, v)])) e (exo e C (some d)))
theorem g_oex {C : Addr} {fld : Str} {v : V} {H : Hp} {Q : XK} (z : ∀ d H', H d = none → Ex H H' → H' d = some (.xd [(fld, v)]) → Q (.ref C) (some d) H') : [v].length ≤ 1000 ∧ ∀ e, H e = none → spBadInit fld C (.ref e :: ([v] ++ [])) (upd H e (exo e C none))
    (fun v2 H2 => v2 = .non ∧ ∃ d fs, H2 e = some (exo e C (some d)) ∧ H2 d = some (exd d fs) ∧ H d = none ∧ Q (.ref C) (some d) (upd (del H2 e) d (.xd fs))) (fun _ _ _ => False) := by
  refine ⟨by show 1 ≤ 1000; decide, fun e he => ⟨e, v, rfl, upd_same, fun d hd hn => ⟨rfl, d, _, upd_same, by rw [upd_ne hn, upd_same], by rw [upd_ne hn] at hd; exact hd, ?_⟩⟩⟩
  have hd1 : H d = none := by rw [upd_ne hn] at hd; exact hd
  refine z d _ hd1 (fun b o hb => ?_) upd_same
  rw [upd_ne (ne_of_none hb hd1), del_ne (ne_of_none hb he), upd_ne (ne_of_none hb he), upd_ne (ne_of_none hb hd1), upd_ne (ne_of_none hb he)]
  exact hb
end Fm

set_option maxHeartbeats 4000000
namespace Kx
open PySem PySem.Spec PyProof.Rows L2 Fm
abbrev N_BadNumber_init : List Str := ["self", "given"]
abbrev P_BadNumber_init : List Str := ["self", "given"]
theorem sc_BadNumber_init : FnScope N_BadNumber_init P_BadNumber_init (defScope s_BadNumber_init) := ⟨rfl, rfl, rfl, by decide +kernel, rfl, by decide +kernel, by decide +kernel⟩
abbrev N_BadValues_init : List Str := ["self", "given"]
abbrev P_BadValues_init : List Str := ["self", "given"]
theorem sc_BadValues_init : FnScope N_BadValues_init P_BadValues_init (defScope s_BadValues_init) := ⟨rfl, rfl, rfl, by decide +kernel, rfl, by decide +kernel, by decide +kernel⟩
abbrev N_BadLot_init : List Str := ["self", "given"]
abbrev P_BadLot_init : List Str := ["self", "given"]
theorem sc_BadLot_init : FnScope N_BadLot_init P_BadLot_init (defScope s_BadLot_init) := ⟨rfl, rfl, rfl, by decide +kernel, rfl, by decide +kernel, by decide +kernel⟩
abbrev N_BadNumbers_init : List Str := ["self", "given"]
abbrev P_BadNumbers_init : List Str := ["self", "given"]
theorem sc_BadNumbers_init : FnScope N_BadNumbers_init P_BadNumbers_init (defScope s_BadNumbers_init) := ⟨rfl, rfl, rfl, by decide +kernel, rfl, by decide +kernel, by decide +kernel⟩
abbrev N_Ratio_init : List Str := ["self", "top", "bottom", "shared"]
abbrev P_Ratio_init : List Str := ["self", "top", "bottom"]
theorem sc_Ratio_init : FnScope N_Ratio_init P_Ratio_init (defScope s_Ratio_init) := ⟨rfl, rfl, rfl, by decide +kernel, rfl, by decide +kernel, by decide +kernel⟩
abbrev N_Ratio_add : List Str := ["self", "other", "number"]
abbrev P_Ratio_add : List Str := ["self", "other"]
theorem sc_Ratio_add : FnScope N_Ratio_add P_Ratio_add (defScope s_Ratio_add) := ⟨rfl, rfl, rfl, by decide +kernel, rfl, by decide +kernel, by decide +kernel⟩
abbrev N_Ratio_sub : List Str := ["self", "other", "number"]
abbrev P_Ratio_sub : List Str := ["self", "other"]
theorem sc_Ratio_sub : FnScope N_Ratio_sub P_Ratio_sub (defScope s_Ratio_sub) := ⟨rfl, rfl, rfl, by decide +kernel, rfl, by decide +kernel, by decide +kernel⟩
abbrev N_Ratio_mul : List Str := ["self", "other", "number"]
abbrev P_Ratio_mul : List Str := ["self", "other"]
theorem sc_Ratio_mul : FnScope N_Ratio_mul P_Ratio_mul (defScope s_Ratio_mul) := ⟨rfl, rfl, rfl, by decide +kernel, rfl, by decide +kernel, by decide +kernel⟩
abbrev N_Ratio_neg : List Str := ["self"]
abbrev P_Ratio_neg : List Str := ["self"]
theorem sc_Ratio_neg : FnScope N_Ratio_neg P_Ratio_neg (defScope s_Ratio_neg) := ⟨rfl, rfl, rfl, by decide +kernel, rfl, by decide +kernel, by decide +kernel⟩
abbrev N_Ratio_eq : List Str := ["self", "other", "number"]
abbrev P_Ratio_eq : List Str := ["self", "other"]
theorem sc_Ratio_eq : FnScope N_Ratio_eq P_Ratio_eq (defScope s_Ratio_eq) := ⟨rfl, rfl, rfl, by decide +kernel, rfl, by decide +kernel, by decide +kernel⟩
abbrev N_Ratio_lt : List Str := ["self", "other", "number"]
abbrev P_Ratio_lt : List Str := ["self", "other"]
theorem sc_Ratio_lt : FnScope N_Ratio_lt P_Ratio_lt (defScope s_Ratio_lt) := ⟨rfl, rfl, rfl, by decide +kernel, rfl, by decide +kernel, by decide +kernel⟩
abbrev N_Ratio_over : List Str := ["self", "number", "divisor"]
abbrev P_Ratio_over : List Str := ["self", "number"]
theorem sc_Ratio_over : FnScope N_Ratio_over P_Ratio_over (defScope s_Ratio_over) := ⟨rfl, rfl, rfl, by decide +kernel, rfl, by decide +kernel, by decide +kernel⟩
abbrev N_Ratio_text : List Str := ["self", "sign", "top"]
abbrev P_Ratio_text : List Str := ["self"]
theorem sc_Ratio_text : FnScope N_Ratio_text P_Ratio_text (defScope s_Ratio_text) := ⟨rfl, rfl, rfl, by decide +kernel, rfl, by decide +kernel, by decide +kernel⟩
abbrev N_is_whole : List Str := ["value"]
abbrev P_is_whole : List Str := ["value"]
theorem sc_is_whole : FnScope N_is_whole P_is_whole (defScope s_is_whole) := ⟨rfl, rfl, rfl, by decide +kernel, rfl, by decide +kernel, by decide +kernel⟩
abbrev N_is_number : List Str := ["value"]
abbrev P_is_number : List Str := ["value"]
theorem sc_is_number : FnScope N_is_number P_is_number (defScope s_is_number) := ⟨rfl, rfl, rfl, by decide +kernel, rfl, by decide +kernel, by decide +kernel⟩
abbrev N_are_numbers : List Str := ["value", "item"]
abbrev P_are_numbers : List Str := ["value"]
theorem sc_are_numbers : FnScope N_are_numbers P_are_numbers (defScope s_are_numbers) := ⟨rfl, rfl, rfl, by decide +kernel, rfl, by decide +kernel, by decide +kernel⟩
abbrev N_as_ratio : List Str := ["given"]
abbrev P_as_ratio : List Str := ["given"]
theorem sc_as_ratio : FnScope N_as_ratio P_as_ratio (defScope s_as_ratio) := ⟨rfl, rfl, rfl, by decide +kernel, rfl, by decide +kernel, by decide +kernel⟩
abbrev N_total : List Str := ["numbers", "reached", "number"]
abbrev P_total : List Str := ["numbers"]
theorem sc_total : FnScope N_total P_total (defScope s_total) := ⟨rfl, rfl, rfl, by decide +kernel, rfl, by decide +kernel, by decide +kernel⟩
abbrev N_weighed : List Str := ["numbers", "weights", "number", "weight"]
abbrev P_weighed : List Str := ["numbers", "weights"]
theorem sc_weighed : FnScope N_weighed P_weighed (defScope s_weighed) := ⟨rfl, rfl, rfl, by decide +kernel, rfl, by decide +kernel, by decide +kernel⟩
abbrev N_opposites : List Str := ["numbers", "number"]
abbrev P_opposites : List Str := ["numbers"]
theorem sc_opposites : FnScope N_opposites P_opposites (defScope s_opposites) := ⟨rfl, rfl, rfl, by decide +kernel, rfl, by decide +kernel, by decide +kernel⟩
abbrev N_numeral : List Str := ["number", "parts", "part"]
abbrev P_numeral : List Str := ["number"]
theorem sc_numeral : FnScope N_numeral P_numeral (defScope s_numeral) := ⟨rfl, rfl, rfl, by decide +kernel, rfl, by decide +kernel, by decide +kernel⟩
abbrev N_cover : List Str := ["scale", "threshold", "start", "mark"]
abbrev P_cover : List Str := ["scale", "threshold"]
theorem sc_cover : FnScope N_cover P_cover (defScope s_cover) := ⟨rfl, rfl, rfl, by decide +kernel, rfl, by decide +kernel, by decide +kernel⟩
abbrev N_steeper : List Str := ["marks", "slopes", "width", "at"]
abbrev P_steeper : List Str := ["marks", "slopes", "width"]
theorem sc_steeper : FnScope N_steeper P_steeper (defScope s_steeper) := ⟨rfl, rfl, rfl, by decide +kernel, rfl, by decide +kernel, by decide +kernel⟩
abbrev N_slopes_of : List Str := ["marks", "numbers", "order", "slopes", "number", "width"]
abbrev P_slopes_of : List Str := ["marks", "numbers", "order"]
theorem sc_slopes_of : FnScope N_slopes_of P_slopes_of (defScope s_slopes_of) := ⟨rfl, rfl, rfl, by decide +kernel, rfl, by decide +kernel, by decide +kernel⟩
abbrev N_Scale_init : List Str := ["self", "values"]
abbrev P_Scale_init : List Str := ["self", "values"]
theorem sc_Scale_init : FnScope N_Scale_init P_Scale_init (defScope s_Scale_init) := ⟨rfl, rfl, rfl, by decide +kernel, rfl, by decide +kernel, by decide +kernel⟩
abbrev N_Scale_len : List Str := ["self"]
abbrev P_Scale_len : List Str := ["self"]
theorem sc_Scale_len : FnScope N_Scale_len P_Scale_len (defScope s_Scale_len) := ⟨rfl, rfl, rfl, by decide +kernel, rfl, by decide +kernel, by decide +kernel⟩
abbrev N_Scale_marks : List Str := ["self"]
abbrev P_Scale_marks : List Str := ["self"]
theorem sc_Scale_marks : FnScope N_Scale_marks P_Scale_marks (defScope s_Scale_marks) := ⟨rfl, rfl, rfl, by decide +kernel, rfl, by decide +kernel, by decide +kernel⟩
abbrev N_insert_new : List Str := ["ordered", "item", "place"]
abbrev P_insert_new : List Str := ["ordered", "item"]
theorem sc_insert_new : FnScope N_insert_new P_insert_new (defScope s_insert_new) := ⟨rfl, rfl, rfl, by decide +kernel, rfl, by decide +kernel, by decide +kernel⟩
abbrev N_distinct : List Str := ["numbers", "found", "number"]
abbrev P_distinct : List Str := ["numbers"]
theorem sc_distinct : FnScope N_distinct P_distinct (defScope s_distinct) := ⟨rfl, rfl, rfl, by decide +kernel, rfl, by decide +kernel, by decide +kernel⟩
abbrev N_is_curve : List Str := ["scale", "value"]
abbrev P_is_curve : List Str := ["scale", "value"]
theorem sc_is_curve : FnScope N_is_curve P_is_curve (defScope s_is_curve) := ⟨rfl, rfl, rfl, by decide +kernel, rfl, by decide +kernel, by decide +kernel⟩
abbrev N_are_shares : List Str := ["value", "many", "share"]
abbrev P_are_shares : List Str := ["value", "many"]
theorem sc_are_shares : FnScope N_are_shares P_are_shares (defScope s_are_shares) := ⟨rfl, rfl, rfl, by decide +kernel, rfl, by decide +kernel, by decide +kernel⟩
abbrev N_is_lot : List Str := ["scale", "value"]
abbrev P_is_lot : List Str := ["scale", "value"]
theorem sc_is_lot : FnScope N_is_lot P_is_lot (defScope s_is_lot) := ⟨rfl, rfl, rfl, by decide +kernel, rfl, by decide +kernel, by decide +kernel⟩
abbrev N_check_lot : List Str := ["scale", "lot"]
abbrev P_check_lot : List Str := ["scale", "lot"]
theorem sc_check_lot : FnScope N_check_lot P_check_lot (defScope s_check_lot) := ⟨rfl, rfl, rfl, by decide +kernel, rfl, by decide +kernel, by decide +kernel⟩
abbrev N_covers : List Str := ["scale", "lot", "mark"]
abbrev P_covers : List Str := ["scale", "lot"]
theorem sc_covers : FnScope N_covers P_covers (defScope s_covers) := ⟨rfl, rfl, rfl, by decide +kernel, rfl, by decide +kernel, by decide +kernel⟩
abbrev N_check_prices : List Str := ["scale", "prices"]
abbrev P_check_prices : List Str := ["scale", "prices"]
theorem sc_check_prices : FnScope N_check_prices P_check_prices (defScope s_check_prices) := ⟨rfl, rfl, rfl, by decide +kernel, rfl, by decide +kernel, by decide +kernel⟩
abbrev N_shares_told : List Str := ["scale", "prices", "behind", "before", "after"]
abbrev P_shares_told : List Str := ["scale", "prices"]
theorem sc_shares_told : FnScope N_shares_told P_shares_told (defScope s_shares_told) := ⟨rfl, rfl, rfl, by decide +kernel, rfl, by decide +kernel, by decide +kernel⟩
abbrev N_fault : List Str := ["scale", "prices", "place", "share"]
abbrev P_fault : List Str := ["scale", "prices"]
theorem sc_fault : FnScope N_fault P_fault (defScope s_fault) := ⟨rfl, rfl, rfl, by decide +kernel, rfl, by decide +kernel, by decide +kernel⟩
abbrev N_lot_of_covers : List Str := ["scale", "prices"]
abbrev P_lot_of_covers : List Str := ["scale", "prices"]
theorem sc_lot_of_covers : FnScope N_lot_of_covers P_lot_of_covers (defScope s_lot_of_covers) := ⟨rfl, rfl, rfl, by decide +kernel, rfl, by decide +kernel, by decide +kernel⟩
abbrev N_Lshown : List Str := ["_law_shown_here", "_law_item", "_law_part"]
abbrev P_Lshown : List Str := ["_law_shown_here"]
theorem sc_Lshown : FnScope N_Lshown P_Lshown (defScope s_Lshown) := ⟨rfl, rfl, rfl, by decide +kernel, rfl, by decide +kernel, by decide +kernel⟩
abbrev N_Lcell : List Str := ["_law_script", "_law_k"]
abbrev P_Lcell : List Str := ["_law_script", "_law_k"]
theorem sc_Lcell : FnScope N_Lcell P_Lcell (defScope s_Lcell) := ⟨rfl, rfl, rfl, by decide +kernel, rfl, by decide +kernel, by decide +kernel⟩
abbrev N_Lbox : List Str := ["_law_script", "_law_k", "_law_spare"]
abbrev P_Lbox : List Str := ["_law_script", "_law_k"]
theorem sc_Lbox : FnScope N_Lbox P_Lbox (defScope s_Lbox) := ⟨rfl, rfl, rfl, by decide +kernel, rfl, by decide +kernel, by decide +kernel⟩
abbrev N_Ltake : List Str := ["_law_box_here", "_law_many", "_law_digit", "_law_mixed"]
abbrev P_Ltake : List Str := ["_law_box_here", "_law_many"]
theorem sc_Ltake : FnScope N_Ltake P_Ltake (defScope s_Ltake) := ⟨rfl, rfl, rfl, by decide +kernel, rfl, by decide +kernel, by decide +kernel⟩
abbrev N_Lmarks : List Str := ["_law_box_here", "_law_least", "_law_most", "_law_many", "_law_start", "_law_found", "_law_k", "_law_steps"]
abbrev P_Lmarks : List Str := ["_law_box_here", "_law_least", "_law_most"]
theorem sc_Lmarks : FnScope N_Lmarks P_Lmarks (defScope s_Lmarks) := ⟨rfl, rfl, rfl, by decide +kernel, rfl, by decide +kernel, by decide +kernel⟩
abbrev N_Llot : List Str := ["_law_box_here", "_law_many", "_law_parts", "_law_k", "_law_whole", "_law_part"]
abbrev P_Llot : List Str := ["_law_box_here", "_law_many"]
theorem sc_Llot : FnScope N_Llot P_Llot (defScope s_Llot) := ⟨rfl, rfl, rfl, by decide +kernel, rfl, by decide +kernel, by decide +kernel⟩
abbrev N_Lcurve : List Str := ["_law_box_here", "_law_many", "_law_k"]
abbrev P_Lcurve : List Str := ["_law_box_here", "_law_many"]
theorem sc_Lcurve : FnScope N_Lcurve P_Lcurve (defScope s_Lcurve) := ⟨rfl, rfl, rfl, by decide +kernel, rfl, by decide +kernel, by decide +kernel⟩
abbrev N_Lmean : List Str := ["_law_lot_here", "_law_curve_here", "_law_whole", "_law_k"]
abbrev P_Lmean : List Str := ["_law_lot_here", "_law_curve_here"]
theorem sc_Lmean : FnScope N_Lmean P_Lmean (defScope s_Lmean) := ⟨rfl, rfl, rfl, by decide +kernel, rfl, by decide +kernel, by decide +kernel⟩
abbrev N_Lcovers : List Str := ["_law_marks_here", "_law_lot_here", "_law_found", "_law_mark", "_law_rows", "_law_other"]
abbrev P_Lcovers : List Str := ["_law_marks_here", "_law_lot_here"]
theorem sc_Lcovers : FnScope N_Lcovers P_Lcovers (defScope s_Lcovers) := ⟨rfl, rfl, rfl, by decide +kernel, rfl, by decide +kernel, by decide +kernel⟩
abbrev N_Lfault : List Str := ["_law_marks_here", "_law_prices", "_law_falls", "_law_k", "_law_step", "_law_shares", "_law_bad"]
abbrev P_Lfault : List Str := ["_law_marks_here", "_law_prices"]
theorem sc_Lfault : FnScope N_Lfault P_Lfault (defScope s_Lfault) := ⟨rfl, rfl, rfl, by decide +kernel, rfl, by decide +kernel, by decide +kernel⟩
abbrev N_Lasked : List Str := ["_law_door", "_law_scale", "_law_value", "e"]
abbrev P_Lasked : List Str := ["_law_door", "_law_scale", "_law_value"]
theorem sc_Lasked : FnScope N_Lasked P_Lasked (defScope s_Lasked) := ⟨rfl, rfl, rfl, by decide +kernel, rfl, by decide +kernel, by decide +kernel⟩
abbrev N_Lgiven : List Str := ["_law_box_here", "_law_row", "_law_plain", "_law_item"]
abbrev P_Lgiven : List Str := ["_law_box_here", "_law_row"]
theorem sc_Lgiven : FnScope N_Lgiven P_Lgiven (defScope s_Lgiven) := ⟨rfl, rfl, rfl, by decide +kernel, rfl, by decide +kernel, by decide +kernel⟩
abbrev N_law : List Str := ["_law_script", "_law_k", "_law_box_here", "_law_marks_here", "_law_scale", "_law_lot_here", "_law_due", "_law_told", "_law_at", "_law_bent", "_law_prices", "_law_mark", "_law_place", "_law_shares", "_law_price", "_law_bad", "_law_odd"]
abbrev P_law : List Str := ["_law_script"]
theorem sc_law : FnScope N_law P_law (defScope s_law) := ⟨rfl, rfl, rfl, by decide +kernel, rfl, by decide +kernel, by decide +kernel⟩
structure Ad where
  C_BadNumber : Addr
  C_BadValues : Addr
  C_BadLot : Addr
  C_BadNumbers : Addr
  C_Ratio : Addr
  C_Scale : Addr
  f_BadNumber_init : Addr
  d_BadNumber_init : FuncData
  f_BadValues_init : Addr
  d_BadValues_init : FuncData
  f_BadLot_init : Addr
  d_BadLot_init : FuncData
  f_BadNumbers_init : Addr
  d_BadNumbers_init : FuncData
  f_Ratio_init : Addr
  d_Ratio_init : FuncData
  f_Ratio_add : Addr
  d_Ratio_add : FuncData
  f_Ratio_sub : Addr
  d_Ratio_sub : FuncData
  f_Ratio_mul : Addr
  d_Ratio_mul : FuncData
  f_Ratio_neg : Addr
  d_Ratio_neg : FuncData
  f_Ratio_eq : Addr
  d_Ratio_eq : FuncData
  f_Ratio_lt : Addr
  d_Ratio_lt : FuncData
  f_Ratio_over : Addr
  d_Ratio_over : FuncData
  f_Ratio_text : Addr
  d_Ratio_text : FuncData
  f_is_whole : Addr
  d_is_whole : FuncData
  f_is_number : Addr
  d_is_number : FuncData
  f_are_numbers : Addr
  d_are_numbers : FuncData
  f_as_ratio : Addr
  d_as_ratio : FuncData
  f_total : Addr
  d_total : FuncData
  f_weighed : Addr
  d_weighed : FuncData
  f_opposites : Addr
  d_opposites : FuncData
  f_numeral : Addr
  d_numeral : FuncData
  f_cover : Addr
  d_cover : FuncData
  f_steeper : Addr
  d_steeper : FuncData
  f_slopes_of : Addr
  d_slopes_of : FuncData
  f_Scale_init : Addr
  d_Scale_init : FuncData
  f_Scale_len : Addr
  d_Scale_len : FuncData
  f_Scale_marks : Addr
  d_Scale_marks : FuncData
  f_insert_new : Addr
  d_insert_new : FuncData
  f_distinct : Addr
  d_distinct : FuncData
  f_is_curve : Addr
  d_is_curve : FuncData
  f_are_shares : Addr
  d_are_shares : FuncData
  f_is_lot : Addr
  d_is_lot : FuncData
  f_check_lot : Addr
  d_check_lot : FuncData
  f_covers : Addr
  d_covers : FuncData
  f_check_prices : Addr
  d_check_prices : FuncData
  f_shares_told : Addr
  d_shares_told : FuncData
  f_fault : Addr
  d_fault : FuncData
  f_lot_of_covers : Addr
  d_lot_of_covers : FuncData
  f_Lshown : Addr
  d_Lshown : FuncData
  f_Lcell : Addr
  d_Lcell : FuncData
  f_Lbox : Addr
  d_Lbox : FuncData
  f_Ltake : Addr
  d_Ltake : FuncData
  f_Lmarks : Addr
  d_Lmarks : FuncData
  f_Llot : Addr
  d_Llot : FuncData
  f_Lcurve : Addr
  d_Lcurve : FuncData
  f_Lmean : Addr
  d_Lmean : FuncData
  f_Lcovers : Addr
  d_Lcovers : FuncData
  f_Lfault : Addr
  d_Lfault : FuncData
  f_Lasked : Addr
  d_Lasked : FuncData
  f_Lgiven : Addr
  d_Lgiven : FuncData
  f_law : Addr
  d_law : FuncData
structure Tx (K : PySem.W.Frag) (mg : Str → Option Value) (a : Ad) : Prop where
  g_BadNumber : mg "BadNumber" = some (.ref a.C_BadNumber)
  g_BadValues : mg "BadValues" = some (.ref a.C_BadValues)
  g_BadLot : mg "BadLot" = some (.ref a.C_BadLot)
  g_BadNumbers : mg "BadNumbers" = some (.ref a.C_BadNumbers)
  g_Ratio : mg "Ratio" = some (.ref a.C_Ratio)
  g_Scale : mg "Scale" = some (.ref a.C_Scale)
  F_BadNumber_init : Def K "__init__" "BadNumber.__init__" s_BadNumber_init a.f_BadNumber_init a.d_BadNumber_init
  F_BadValues_init : Def K "__init__" "BadValues.__init__" s_BadValues_init a.f_BadValues_init a.d_BadValues_init
  F_BadLot_init : Def K "__init__" "BadLot.__init__" s_BadLot_init a.f_BadLot_init a.d_BadLot_init
  F_BadNumbers_init : Def K "__init__" "BadNumbers.__init__" s_BadNumbers_init a.f_BadNumbers_init a.d_BadNumbers_init
  F_Ratio_init : FunD K "__init__" "Ratio.__init__" (defArgs s_Ratio_init) (defBody s_Ratio_init) (defScope s_Ratio_init) [.int 1] [] a.f_Ratio_init a.d_Ratio_init
  F_Ratio_add : Def K "__add__" "Ratio.__add__" s_Ratio_add a.f_Ratio_add a.d_Ratio_add
  F_Ratio_sub : Def K "__sub__" "Ratio.__sub__" s_Ratio_sub a.f_Ratio_sub a.d_Ratio_sub
  F_Ratio_mul : Def K "__mul__" "Ratio.__mul__" s_Ratio_mul a.f_Ratio_mul a.d_Ratio_mul
  F_Ratio_neg : Def K "__neg__" "Ratio.__neg__" s_Ratio_neg a.f_Ratio_neg a.d_Ratio_neg
  m_Ratio_neg : Meth K a.C_Ratio "__neg__" a.f_Ratio_neg
  F_Ratio_eq : Def K "__eq__" "Ratio.__eq__" s_Ratio_eq a.f_Ratio_eq a.d_Ratio_eq
  F_Ratio_lt : Def K "__lt__" "Ratio.__lt__" s_Ratio_lt a.f_Ratio_lt a.d_Ratio_lt
  F_Ratio_over : Def K "over" "Ratio.over" s_Ratio_over a.f_Ratio_over a.d_Ratio_over
  m_Ratio_over : Meth K a.C_Ratio "over" a.f_Ratio_over
  F_Ratio_text : Def K "text" "Ratio.text" s_Ratio_text a.f_Ratio_text a.d_Ratio_text
  m_Ratio_text : Meth K a.C_Ratio "text" a.f_Ratio_text
  F_is_whole : Def K "is_whole" "is_whole" s_is_whole a.f_is_whole a.d_is_whole
  g_is_whole : mg "is_whole" = some (.ref a.f_is_whole)
  F_is_number : Def K "is_number" "is_number" s_is_number a.f_is_number a.d_is_number
  g_is_number : mg "is_number" = some (.ref a.f_is_number)
  F_are_numbers : Def K "are_numbers" "are_numbers" s_are_numbers a.f_are_numbers a.d_are_numbers
  g_are_numbers : mg "are_numbers" = some (.ref a.f_are_numbers)
  F_as_ratio : Def K "as_ratio" "as_ratio" s_as_ratio a.f_as_ratio a.d_as_ratio
  g_as_ratio : mg "as_ratio" = some (.ref a.f_as_ratio)
  F_total : Def K "total" "total" s_total a.f_total a.d_total
  g_total : mg "total" = some (.ref a.f_total)
  F_weighed : Def K "weighed" "weighed" s_weighed a.f_weighed a.d_weighed
  g_weighed : mg "weighed" = some (.ref a.f_weighed)
  F_opposites : Def K "opposites" "opposites" s_opposites a.f_opposites a.d_opposites
  g_opposites : mg "opposites" = some (.ref a.f_opposites)
  F_numeral : Def K "numeral" "numeral" s_numeral a.f_numeral a.d_numeral
  g_numeral : mg "numeral" = some (.ref a.f_numeral)
  F_cover : Def K "cover" "cover" s_cover a.f_cover a.d_cover
  g_cover : mg "cover" = some (.ref a.f_cover)
  F_steeper : Def K "steeper" "steeper" s_steeper a.f_steeper a.d_steeper
  g_steeper : mg "steeper" = some (.ref a.f_steeper)
  F_slopes_of : Def K "slopes_of" "slopes_of" s_slopes_of a.f_slopes_of a.d_slopes_of
  g_slopes_of : mg "slopes_of" = some (.ref a.f_slopes_of)
  F_Scale_init : Def K "__init__" "Scale.__init__" s_Scale_init a.f_Scale_init a.d_Scale_init
  F_Scale_len : Def K "__len__" "Scale.__len__" s_Scale_len a.f_Scale_len a.d_Scale_len
  F_Scale_marks : Def K "marks" "Scale.marks" s_Scale_marks a.f_Scale_marks a.d_Scale_marks
  m_Scale_marks : Meth K a.C_Scale "marks" a.f_Scale_marks
  F_insert_new : Def K "insert_new" "insert_new" s_insert_new a.f_insert_new a.d_insert_new
  g_insert_new : mg "insert_new" = some (.ref a.f_insert_new)
  F_distinct : Def K "distinct" "distinct" s_distinct a.f_distinct a.d_distinct
  g_distinct : mg "distinct" = some (.ref a.f_distinct)
  F_is_curve : Def K "is_curve" "is_curve" s_is_curve a.f_is_curve a.d_is_curve
  g_is_curve : mg "is_curve" = some (.ref a.f_is_curve)
  F_are_shares : Def K "are_shares" "are_shares" s_are_shares a.f_are_shares a.d_are_shares
  g_are_shares : mg "are_shares" = some (.ref a.f_are_shares)
  F_is_lot : Def K "is_lot" "is_lot" s_is_lot a.f_is_lot a.d_is_lot
  g_is_lot : mg "is_lot" = some (.ref a.f_is_lot)
  F_check_lot : Def K "check_lot" "check_lot" s_check_lot a.f_check_lot a.d_check_lot
  g_check_lot : mg "check_lot" = some (.ref a.f_check_lot)
  F_covers : Def K "covers" "covers" s_covers a.f_covers a.d_covers
  g_covers : mg "covers" = some (.ref a.f_covers)
  F_check_prices : Def K "check_prices" "check_prices" s_check_prices a.f_check_prices a.d_check_prices
  g_check_prices : mg "check_prices" = some (.ref a.f_check_prices)
  F_shares_told : Def K "shares_told" "shares_told" s_shares_told a.f_shares_told a.d_shares_told
  g_shares_told : mg "shares_told" = some (.ref a.f_shares_told)
  F_fault : Def K "fault" "fault" s_fault a.f_fault a.d_fault
  g_fault : mg "fault" = some (.ref a.f_fault)
  F_lot_of_covers : Def K "lot_of_covers" "lot_of_covers" s_lot_of_covers a.f_lot_of_covers a.d_lot_of_covers
  g_lot_of_covers : mg "lot_of_covers" = some (.ref a.f_lot_of_covers)
  F_Lshown : Def K "_law_shown" "_law_shown" s_Lshown a.f_Lshown a.d_Lshown
  g_Lshown : mg "_law_shown" = some (.ref a.f_Lshown)
  F_Lcell : Def K "_law_cell" "_law_cell" s_Lcell a.f_Lcell a.d_Lcell
  g_Lcell : mg "_law_cell" = some (.ref a.f_Lcell)
  F_Lbox : Def K "_law_box" "_law_box" s_Lbox a.f_Lbox a.d_Lbox
  g_Lbox : mg "_law_box" = some (.ref a.f_Lbox)
  F_Ltake : Def K "_law_take" "_law_take" s_Ltake a.f_Ltake a.d_Ltake
  g_Ltake : mg "_law_take" = some (.ref a.f_Ltake)
  F_Lmarks : Def K "_law_marks" "_law_marks" s_Lmarks a.f_Lmarks a.d_Lmarks
  g_Lmarks : mg "_law_marks" = some (.ref a.f_Lmarks)
  F_Llot : Def K "_law_lot" "_law_lot" s_Llot a.f_Llot a.d_Llot
  g_Llot : mg "_law_lot" = some (.ref a.f_Llot)
  F_Lcurve : Def K "_law_curve" "_law_curve" s_Lcurve a.f_Lcurve a.d_Lcurve
  g_Lcurve : mg "_law_curve" = some (.ref a.f_Lcurve)
  F_Lmean : Def K "_law_mean" "_law_mean" s_Lmean a.f_Lmean a.d_Lmean
  g_Lmean : mg "_law_mean" = some (.ref a.f_Lmean)
  F_Lcovers : Def K "_law_covers" "_law_covers" s_Lcovers a.f_Lcovers a.d_Lcovers
  g_Lcovers : mg "_law_covers" = some (.ref a.f_Lcovers)
  F_Lfault : Def K "_law_fault" "_law_fault" s_Lfault a.f_Lfault a.d_Lfault
  g_Lfault : mg "_law_fault" = some (.ref a.f_Lfault)
  F_Lasked : Def K "_law_asked" "_law_asked" s_Lasked a.f_Lasked a.d_Lasked
  g_Lasked : mg "_law_asked" = some (.ref a.f_Lasked)
  F_Lgiven : Def K "_law_given" "_law_given" s_Lgiven a.f_Lgiven a.d_Lgiven
  g_Lgiven : mg "_law_given" = some (.ref a.f_Lgiven)
  F_law : Def K "law" "law" s_law a.f_law a.d_law
  oc_BadNumber : OexC K a.C_BadNumber
  ti_BadNumber : PySem.W.typeIn K (.ref a.f_BadNumber_init) = some (.type "function")
  fi_BadNumber : PySem.W.findIn K (.ref a.C_BadNumber) "__init__" = some (some (.ref a.f_BadNumber_init))
  xa_BadNumber_given : PySem.W.findIn K (.ref a.C_BadNumber) "given" = some none
  oc_BadValues : OexC K a.C_BadValues
  ti_BadValues : PySem.W.typeIn K (.ref a.f_BadValues_init) = some (.type "function")
  fi_BadValues : PySem.W.findIn K (.ref a.C_BadValues) "__init__" = some (some (.ref a.f_BadValues_init))
  xa_BadValues_given : PySem.W.findIn K (.ref a.C_BadValues) "given" = some none
  oc_BadLot : OexC K a.C_BadLot
  ti_BadLot : PySem.W.typeIn K (.ref a.f_BadLot_init) = some (.type "function")
  fi_BadLot : PySem.W.findIn K (.ref a.C_BadLot) "__init__" = some (some (.ref a.f_BadLot_init))
  xf_BadLot : XfC K a.C_BadLot
  xs_BadLot : PySem.W.exmOne K (.ref a.C_BadLot) (.ref a.C_BadLot) = some true
  xa_BadLot_given : PySem.W.findIn K (.ref a.C_BadLot) "given" = some none
  oc_BadNumbers : OexC K a.C_BadNumbers
  ti_BadNumbers : PySem.W.typeIn K (.ref a.f_BadNumbers_init) = some (.type "function")
  fi_BadNumbers : PySem.W.findIn K (.ref a.C_BadNumbers) "__init__" = some (some (.ref a.f_BadNumbers_init))
  xf_BadNumbers : XfC K a.C_BadNumbers
  xs_BadNumbers : PySem.W.exmOne K (.ref a.C_BadNumbers) (.ref a.C_BadNumbers) = some true
  xa_BadNumbers_given : PySem.W.findIn K (.ref a.C_BadNumbers) "given" = some none
  xo_BadNumbers_BadLot : PySem.W.exmOne K (.ref a.C_BadNumbers) (.ref a.C_BadLot) = some false
  b_abs : mg "abs" = none
  b_all : mg "all" = none
  b_bool : mg "bool" = none
  b_dict : mg "dict" = none
  b_enumerate : mg "enumerate" = none
  b_int : mg "int" = none
  b_isinstance : mg "isinstance" = none
  b_len : mg "len" = none
  b_list : mg "list" = none
  b_max : mg "max" = none
  b_min : mg "min" = none
  b_range : mg "range" = none
  b_repr : mg "repr" = none
  b_str : mg "str" = none
  b_sum : mg "sum" = none
  b_tuple : mg "tuple" = none
  b_zip : mg "zip" = none
  c_MOST_VALUES : ∃ t, mg "MOST_VALUES" = some (.int 8 t)
  g_gcd : mg "gcd" = some (.builtin "math.gcd")
  R : RC K a.C_Ratio
  mk_Ratio : Mk K a.C_Ratio a.f_Ratio_init
  o_add : OpFn K a.C_Ratio a.f_Ratio_add .Add
  o_sub : OpFn K a.C_Ratio a.f_Ratio_sub .Sub
  o_mul : OpFn K a.C_Ratio a.f_Ratio_mul .Mult
  p_lt : CmpFn K a.C_Ratio a.f_Ratio_lt .Lt
  p_eq : CmpFn K a.C_Ratio a.f_Ratio_eq .Eq
  p_ne : NeFn K a.C_Ratio a.f_Ratio_eq
  RS : SC K a.C_Scale a.C_Ratio
  R2 : RC2 K a.C_Ratio
  mk_Scale : Mk K a.C_Scale a.f_Scale_init
  ln_Scale : PySem.W.findIn K (.ref a.C_Scale) "__len__" = some (some (.ref a.f_Scale_len))
  lf_Scale : PySem.W.isFn K (.ref a.f_Scale_len) = true
  neS : a.C_Ratio ≠ a.C_Scale
theorem bd_BadNumber_init {K : PySem.W.Frag} {mg : Str → Option Value} {a : Ad} (T : Tx K mg a) : Binds K a.d_BadNumber_init P_BadNumber_init [] := T.F_BadNumber_init.bindsN fun _ _ _ _ _ _ us hl => match us, hl with | [_, _], _ => rfl
theorem bd_BadValues_init {K : PySem.W.Frag} {mg : Str → Option Value} {a : Ad} (T : Tx K mg a) : Binds K a.d_BadValues_init P_BadValues_init [] := T.F_BadValues_init.bindsN fun _ _ _ _ _ _ us hl => match us, hl with | [_, _], _ => rfl
theorem bd_BadLot_init {K : PySem.W.Frag} {mg : Str → Option Value} {a : Ad} (T : Tx K mg a) : Binds K a.d_BadLot_init P_BadLot_init [] := T.F_BadLot_init.bindsN fun _ _ _ _ _ _ us hl => match us, hl with | [_, _], _ => rfl
theorem bd_BadNumbers_init {K : PySem.W.Frag} {mg : Str → Option Value} {a : Ad} (T : Tx K mg a) : Binds K a.d_BadNumbers_init P_BadNumbers_init [] := T.F_BadNumbers_init.bindsN fun _ _ _ _ _ _ us hl => match us, hl with | [_, _], _ => rfl
theorem bd_Ratio_init {K : PySem.W.Frag} {mg : Str → Option Value} {a : Ad} (T : Tx K mg a) : Binds K a.d_Ratio_init P_Ratio_init [] := by
  obtain ⟨ds, hv, hb⟩ := T.F_Ratio_init.binds1 (ps := P_Ratio_init) 3 1 (by simp) rfl fun T kV doc pm an cdv ct us its h1 h2 => match us, its, h1, h2 with | [_, _, _], [_], _, _ => ⟨_, rfl, rfl⟩
  cases hv
  exact hb
theorem bd1_Ratio_init {K : PySem.W.Frag} {mg : Str → Option Value} {a : Ad} (T : Tx K mg a) : ∃ ds, Vals [.int 1] ds ∧ Binds K a.d_Ratio_init P_Ratio_init ds :=
  T.F_Ratio_init.binds1 (ps := P_Ratio_init) 2 0 (by simp) rfl fun T kV doc pm an cdv ct us its h1 h2 => match us, its, h1, h2 with | [_, _], [_], _, _ => ⟨_, rfl, rfl⟩
theorem bd_Ratio_add {K : PySem.W.Frag} {mg : Str → Option Value} {a : Ad} (T : Tx K mg a) : Binds K a.d_Ratio_add P_Ratio_add [] := T.F_Ratio_add.bindsN fun _ _ _ _ _ _ us hl => match us, hl with | [_, _], _ => rfl
theorem bd_Ratio_sub {K : PySem.W.Frag} {mg : Str → Option Value} {a : Ad} (T : Tx K mg a) : Binds K a.d_Ratio_sub P_Ratio_sub [] := T.F_Ratio_sub.bindsN fun _ _ _ _ _ _ us hl => match us, hl with | [_, _], _ => rfl
theorem bd_Ratio_mul {K : PySem.W.Frag} {mg : Str → Option Value} {a : Ad} (T : Tx K mg a) : Binds K a.d_Ratio_mul P_Ratio_mul [] := T.F_Ratio_mul.bindsN fun _ _ _ _ _ _ us hl => match us, hl with | [_, _], _ => rfl
theorem bd_Ratio_neg {K : PySem.W.Frag} {mg : Str → Option Value} {a : Ad} (T : Tx K mg a) : Binds K a.d_Ratio_neg P_Ratio_neg [] := T.F_Ratio_neg.bindsN fun _ _ _ _ _ _ us hl => match us, hl with | [_], _ => rfl
theorem bd_Ratio_eq {K : PySem.W.Frag} {mg : Str → Option Value} {a : Ad} (T : Tx K mg a) : Binds K a.d_Ratio_eq P_Ratio_eq [] := T.F_Ratio_eq.bindsN fun _ _ _ _ _ _ us hl => match us, hl with | [_, _], _ => rfl
theorem bd_Ratio_lt {K : PySem.W.Frag} {mg : Str → Option Value} {a : Ad} (T : Tx K mg a) : Binds K a.d_Ratio_lt P_Ratio_lt [] := T.F_Ratio_lt.bindsN fun _ _ _ _ _ _ us hl => match us, hl with | [_, _], _ => rfl
theorem bd_Ratio_over {K : PySem.W.Frag} {mg : Str → Option Value} {a : Ad} (T : Tx K mg a) : Binds K a.d_Ratio_over P_Ratio_over [] := T.F_Ratio_over.bindsN fun _ _ _ _ _ _ us hl => match us, hl with | [_, _], _ => rfl
theorem bd_Ratio_text {K : PySem.W.Frag} {mg : Str → Option Value} {a : Ad} (T : Tx K mg a) : Binds K a.d_Ratio_text P_Ratio_text [] := T.F_Ratio_text.bindsN fun _ _ _ _ _ _ us hl => match us, hl with | [_], _ => rfl
theorem bd_is_whole {K : PySem.W.Frag} {mg : Str → Option Value} {a : Ad} (T : Tx K mg a) : Binds K a.d_is_whole P_is_whole [] := T.F_is_whole.bindsN fun _ _ _ _ _ _ us hl => match us, hl with | [_], _ => rfl
theorem bd_is_number {K : PySem.W.Frag} {mg : Str → Option Value} {a : Ad} (T : Tx K mg a) : Binds K a.d_is_number P_is_number [] := T.F_is_number.bindsN fun _ _ _ _ _ _ us hl => match us, hl with | [_], _ => rfl
theorem bd_are_numbers {K : PySem.W.Frag} {mg : Str → Option Value} {a : Ad} (T : Tx K mg a) : Binds K a.d_are_numbers P_are_numbers [] := T.F_are_numbers.bindsN fun _ _ _ _ _ _ us hl => match us, hl with | [_], _ => rfl
theorem bd_as_ratio {K : PySem.W.Frag} {mg : Str → Option Value} {a : Ad} (T : Tx K mg a) : Binds K a.d_as_ratio P_as_ratio [] := T.F_as_ratio.bindsN fun _ _ _ _ _ _ us hl => match us, hl with | [_], _ => rfl
theorem bd_total {K : PySem.W.Frag} {mg : Str → Option Value} {a : Ad} (T : Tx K mg a) : Binds K a.d_total P_total [] := T.F_total.bindsN fun _ _ _ _ _ _ us hl => match us, hl with | [_], _ => rfl
theorem bd_weighed {K : PySem.W.Frag} {mg : Str → Option Value} {a : Ad} (T : Tx K mg a) : Binds K a.d_weighed P_weighed [] := T.F_weighed.bindsN fun _ _ _ _ _ _ us hl => match us, hl with | [_, _], _ => rfl
theorem bd_opposites {K : PySem.W.Frag} {mg : Str → Option Value} {a : Ad} (T : Tx K mg a) : Binds K a.d_opposites P_opposites [] := T.F_opposites.bindsN fun _ _ _ _ _ _ us hl => match us, hl with | [_], _ => rfl
theorem bd_numeral {K : PySem.W.Frag} {mg : Str → Option Value} {a : Ad} (T : Tx K mg a) : Binds K a.d_numeral P_numeral [] := T.F_numeral.bindsN fun _ _ _ _ _ _ us hl => match us, hl with | [_], _ => rfl
theorem bd_cover {K : PySem.W.Frag} {mg : Str → Option Value} {a : Ad} (T : Tx K mg a) : Binds K a.d_cover P_cover [] := T.F_cover.bindsN fun _ _ _ _ _ _ us hl => match us, hl with | [_, _], _ => rfl
theorem bd_steeper {K : PySem.W.Frag} {mg : Str → Option Value} {a : Ad} (T : Tx K mg a) : Binds K a.d_steeper P_steeper [] := T.F_steeper.bindsN fun _ _ _ _ _ _ us hl => match us, hl with | [_, _, _], _ => rfl
theorem bd_slopes_of {K : PySem.W.Frag} {mg : Str → Option Value} {a : Ad} (T : Tx K mg a) : Binds K a.d_slopes_of P_slopes_of [] := T.F_slopes_of.bindsN fun _ _ _ _ _ _ us hl => match us, hl with | [_, _, _], _ => rfl
theorem bd_Scale_init {K : PySem.W.Frag} {mg : Str → Option Value} {a : Ad} (T : Tx K mg a) : Binds K a.d_Scale_init P_Scale_init [] := T.F_Scale_init.bindsN fun _ _ _ _ _ _ us hl => match us, hl with | [_, _], _ => rfl
theorem bd_Scale_len {K : PySem.W.Frag} {mg : Str → Option Value} {a : Ad} (T : Tx K mg a) : Binds K a.d_Scale_len P_Scale_len [] := T.F_Scale_len.bindsN fun _ _ _ _ _ _ us hl => match us, hl with | [_], _ => rfl
theorem bd_Scale_marks {K : PySem.W.Frag} {mg : Str → Option Value} {a : Ad} (T : Tx K mg a) : Binds K a.d_Scale_marks P_Scale_marks [] := T.F_Scale_marks.bindsN fun _ _ _ _ _ _ us hl => match us, hl with | [_], _ => rfl
theorem bd_insert_new {K : PySem.W.Frag} {mg : Str → Option Value} {a : Ad} (T : Tx K mg a) : Binds K a.d_insert_new P_insert_new [] := T.F_insert_new.bindsN fun _ _ _ _ _ _ us hl => match us, hl with | [_, _], _ => rfl
theorem bd_distinct {K : PySem.W.Frag} {mg : Str → Option Value} {a : Ad} (T : Tx K mg a) : Binds K a.d_distinct P_distinct [] := T.F_distinct.bindsN fun _ _ _ _ _ _ us hl => match us, hl with | [_], _ => rfl
theorem bd_is_curve {K : PySem.W.Frag} {mg : Str → Option Value} {a : Ad} (T : Tx K mg a) : Binds K a.d_is_curve P_is_curve [] := T.F_is_curve.bindsN fun _ _ _ _ _ _ us hl => match us, hl with | [_, _], _ => rfl
theorem bd_are_shares {K : PySem.W.Frag} {mg : Str → Option Value} {a : Ad} (T : Tx K mg a) : Binds K a.d_are_shares P_are_shares [] := T.F_are_shares.bindsN fun _ _ _ _ _ _ us hl => match us, hl with | [_, _], _ => rfl
theorem bd_is_lot {K : PySem.W.Frag} {mg : Str → Option Value} {a : Ad} (T : Tx K mg a) : Binds K a.d_is_lot P_is_lot [] := T.F_is_lot.bindsN fun _ _ _ _ _ _ us hl => match us, hl with | [_, _], _ => rfl
theorem bd_check_lot {K : PySem.W.Frag} {mg : Str → Option Value} {a : Ad} (T : Tx K mg a) : Binds K a.d_check_lot P_check_lot [] := T.F_check_lot.bindsN fun _ _ _ _ _ _ us hl => match us, hl with | [_, _], _ => rfl
theorem bd_covers {K : PySem.W.Frag} {mg : Str → Option Value} {a : Ad} (T : Tx K mg a) : Binds K a.d_covers P_covers [] := T.F_covers.bindsN fun _ _ _ _ _ _ us hl => match us, hl with | [_, _], _ => rfl
theorem bd_check_prices {K : PySem.W.Frag} {mg : Str → Option Value} {a : Ad} (T : Tx K mg a) : Binds K a.d_check_prices P_check_prices [] := T.F_check_prices.bindsN fun _ _ _ _ _ _ us hl => match us, hl with | [_, _], _ => rfl
theorem bd_shares_told {K : PySem.W.Frag} {mg : Str → Option Value} {a : Ad} (T : Tx K mg a) : Binds K a.d_shares_told P_shares_told [] := T.F_shares_told.bindsN fun _ _ _ _ _ _ us hl => match us, hl with | [_, _], _ => rfl
theorem bd_fault {K : PySem.W.Frag} {mg : Str → Option Value} {a : Ad} (T : Tx K mg a) : Binds K a.d_fault P_fault [] := T.F_fault.bindsN fun _ _ _ _ _ _ us hl => match us, hl with | [_, _], _ => rfl
theorem bd_lot_of_covers {K : PySem.W.Frag} {mg : Str → Option Value} {a : Ad} (T : Tx K mg a) : Binds K a.d_lot_of_covers P_lot_of_covers [] := T.F_lot_of_covers.bindsN fun _ _ _ _ _ _ us hl => match us, hl with | [_, _], _ => rfl
theorem bd_Lshown {K : PySem.W.Frag} {mg : Str → Option Value} {a : Ad} (T : Tx K mg a) : Binds K a.d_Lshown P_Lshown [] := T.F_Lshown.bindsN fun _ _ _ _ _ _ us hl => match us, hl with | [_], _ => rfl
theorem bd_Lcell {K : PySem.W.Frag} {mg : Str → Option Value} {a : Ad} (T : Tx K mg a) : Binds K a.d_Lcell P_Lcell [] := T.F_Lcell.bindsN fun _ _ _ _ _ _ us hl => match us, hl with | [_, _], _ => rfl
theorem bd_Lbox {K : PySem.W.Frag} {mg : Str → Option Value} {a : Ad} (T : Tx K mg a) : Binds K a.d_Lbox P_Lbox [] := T.F_Lbox.bindsN fun _ _ _ _ _ _ us hl => match us, hl with | [_, _], _ => rfl
theorem bd_Ltake {K : PySem.W.Frag} {mg : Str → Option Value} {a : Ad} (T : Tx K mg a) : Binds K a.d_Ltake P_Ltake [] := T.F_Ltake.bindsN fun _ _ _ _ _ _ us hl => match us, hl with | [_, _], _ => rfl
theorem bd_Lmarks {K : PySem.W.Frag} {mg : Str → Option Value} {a : Ad} (T : Tx K mg a) : Binds K a.d_Lmarks P_Lmarks [] := T.F_Lmarks.bindsN fun _ _ _ _ _ _ us hl => match us, hl with | [_, _, _], _ => rfl
theorem bd_Llot {K : PySem.W.Frag} {mg : Str → Option Value} {a : Ad} (T : Tx K mg a) : Binds K a.d_Llot P_Llot [] := T.F_Llot.bindsN fun _ _ _ _ _ _ us hl => match us, hl with | [_, _], _ => rfl
theorem bd_Lcurve {K : PySem.W.Frag} {mg : Str → Option Value} {a : Ad} (T : Tx K mg a) : Binds K a.d_Lcurve P_Lcurve [] := T.F_Lcurve.bindsN fun _ _ _ _ _ _ us hl => match us, hl with | [_, _], _ => rfl
theorem bd_Lmean {K : PySem.W.Frag} {mg : Str → Option Value} {a : Ad} (T : Tx K mg a) : Binds K a.d_Lmean P_Lmean [] := T.F_Lmean.bindsN fun _ _ _ _ _ _ us hl => match us, hl with | [_, _], _ => rfl
theorem bd_Lcovers {K : PySem.W.Frag} {mg : Str → Option Value} {a : Ad} (T : Tx K mg a) : Binds K a.d_Lcovers P_Lcovers [] := T.F_Lcovers.bindsN fun _ _ _ _ _ _ us hl => match us, hl with | [_, _], _ => rfl
theorem bd_Lfault {K : PySem.W.Frag} {mg : Str → Option Value} {a : Ad} (T : Tx K mg a) : Binds K a.d_Lfault P_Lfault [] := T.F_Lfault.bindsN fun _ _ _ _ _ _ us hl => match us, hl with | [_, _], _ => rfl
theorem bd_Lasked {K : PySem.W.Frag} {mg : Str → Option Value} {a : Ad} (T : Tx K mg a) : Binds K a.d_Lasked P_Lasked [] := T.F_Lasked.bindsN fun _ _ _ _ _ _ us hl => match us, hl with | [_, _, _], _ => rfl
theorem bd_Lgiven {K : PySem.W.Frag} {mg : Str → Option Value} {a : Ad} (T : Tx K mg a) : Binds K a.d_Lgiven P_Lgiven [] := T.F_Lgiven.bindsN fun _ _ _ _ _ _ us hl => match us, hl with | [_, _], _ => rfl
end Kx


set_option maxHeartbeats 4000000
namespace Kx
open PySem PySem.Spec PyProof.Rows L2 Fm
local macro_rules | `(tactic| walk_at "gv") => `(tactic| ((with_reducible refine' g_var ?gh ?_); (case gh => exact rfl)))
local macro_rules | `(tactic| walk_at "g1") => `(tactic| first
  | walk_at "gv"
  | with_reducible refine g_c ?_ | with_reducible refine g_op ?_ | with_reducible refine g_un ?_ | with_reducible refine g_I0 ?_ | with_reducible refine g_U ?_
  | with_reducible refine g_eqI ?_ | with_reducible refine g_neI ?_ | with_reducible refine g_eqS ?_ | with_reducible refine g_neS ?_
  | with_reducible refine g_test ?_ | with_reducible refine g_B ?_ | with_reducible refine g_bl ?_ | with_reducible refine g_not ?_ | with_reducible refine g_and ?_ | with_reducible refine g_or ?_
  | with_reducible refine g_andV ?_ | with_reducible refine g_orV ?_ | with_reducible refine g_notV ?_ | with_reducible refine g_chain ?_ | with_reducible refine g_if ?_ | with_reducible refine g_ifS ?_
  | with_reducible refine g_seq ?_ | with_reducible refine g_next ?_ | with_reducible refine g_break ?_ | with_reducible refine g_cont ?_ | with_reducible refine g_drop ?_ | with_reducible refine g_ret ?_ | with_reducible refine g_retN ?_
  | with_reducible refine g_asg ?_ | with_reducible refine g_name ?_ | with_reducible refine g_par ?_ | with_reducible refine g_par2 ?_ | with_reducible refine g_fld ?_ | with_reducible refine g_sfld ?_
  | with_reducible refine g_nil ?_ | with_reducible refine g_cons ?_ | with_reducible refine g_tup ?_ | with_reducible refine g_lst ?_ | with_reducible refine g_call ?_ | with_reducible refine g_meth ?_ | with_reducible refine g_make1 ?_ | with_reducible refine g_make ?_ | with_reducible refine g_cb ?_ | with_reducible refine g_sub ?_ | with_reducible refine g_absI ?_ | with_reducible refine g_intI ?_
  | with_reducible refine iteT ?_ | with_reducible refine iteF ?_ | with_reducible refine g_gcd ?_)
local macro_rules | `(tactic| walk_at "g") => `(tactic| (repeat (first | walk_at "g1" | dsimp only [cx_K, cx_Kn, b_nt, b_nf])))
local macro_rules | `(tactic| walk_at "mul") => `(tactic| exact mulA (a := 200) (b := 200) (by omega) (by omega) (by decide))
local macro_rules | `(tactic| walk_at "pow") => `(tactic| exact ⟨by omega, by omega, by omega⟩)

section
variable {P : Program} {w : World} {K : PySem.W.Frag} {mg : Str → Option Value} {base : Heap} {a : Ad}
theorem ok_is_whole (T : Tx K mg a) : FnOk P w K mg base CX0 1 a.f_is_whole a.d_is_whole P_is_whole (spWhole K a.C_Ratio) := by
  refine T.F_is_whole.ok sc_is_whole (fun vs H Q E h => ?_) (fun cdv A outer s H vs Q E hr h => ?_)
  · obtain ⟨x, t, rfl, _⟩ := h
    rfl
  · obtain ⟨x, t, rfl, ty, kt, k⟩ := h
    refine ⟨_, (pss_one (ps_ret (pe_and (pe_callB call_isi (by rfl) T.b_isinstance (by decide +kernel) (pa_cons (pv 0) (pa_cons (pe_bltn (v := .ty "int") (by rfl) T.b_int (by decide +kernel) rfl) pa_nil))) (pe_one (pe_not (pe_callB call_isi (by rfl) T.b_isinstance (by decide +kernel) (pa_cons (pv 0) (pa_cons (pe_bltn (v := .ty "bool") (by rfl) T.b_bool (by decide +kernel) rfl) pa_nil)))))))), ?_⟩
    walk_at "g"
    refine g_isi ty (.ty _) (kit_int T.R kt) ?_
    walk_at "g"
    cases hb : (t == .type "int" || t == .type "bool") with
    | true =>
      walk_at "g"
      refine g_isi ty (.ty _) (kit_bool T.R kt hb) ?_
      walk_at "g"
      have e : (!(t == Value.type "bool")) = (t == .type "int") := by cases kt <;> first | rfl | simp at hb | simp
      rw [e]
      exact k H (Ex.refl H)
    | false =>
      walk_at "g"
      have e : (t == Value.type "int") = false := (Bool.or_eq_false_iff.mp hb).1
      rw [e] at k
      exact k H (Ex.refl H)
theorem ok_is_number (T : Tx K mg a) : FnOk P w K mg base CX0 2 a.f_is_number a.d_is_number P_is_number (spNumber K a.C_Ratio) := by
  refine T.F_is_number.ok sc_is_number (fun vs H Q E h => ?_) (fun cdv A outer s H vs Q E hr h => ?_)
  · obtain ⟨x, t, rfl, _⟩ := h
    rfl
  · obtain ⟨x, t, rfl, ty, kt, k⟩ := h
    refine ⟨_, (pss_one (ps_ret (pe_or (pe_callB call_isi (by rfl) T.b_isinstance (by decide +kernel) (pa_cons (pv 0) (pa_cons (pe_glob (v := .ref a.C_Ratio) rfl T.g_Ratio rfl) pa_nil))) (pe_one (pe_call (ok_is_whole T) (hr.mono (by decide)) (by rfl) T.g_is_whole T.F_is_whole.kp (bd_is_whole T) .nil pass0 (pa_cons (pv 0) pa_nil)))))), ?_⟩
    walk_at "g"
    refine g_isi ty (.own _) (kit_own T.R kt) ?_
    walk_at "g"
    cases hb : (t == .ref a.C_Ratio) with
    | true =>
      walk_at "g"
      rw [hb] at k
      exact k H (Ex.refl H)
    | false =>
      walk_at "g"
      rw [hb] at k
      exact ⟨x, t, rfl, ty, kt, fun H' e => k H' e⟩
theorem ok_Ratio_init (T : Tx K mg a) : FnOk P w K mg base CX0 1 a.f_Ratio_init a.d_Ratio_init P_Ratio_init (spInit a.C_Ratio) := by
  refine T.F_Ratio_init.ok sc_Ratio_init (fun vs H Q E h => ?_) (fun cdv A outer s H vs Q E hr h => ?_)
  · obtain ⟨p, dx, t, b, k, rfl, _⟩ := h
    rfl
  · obtain ⟨p, dx, t, b, k, rfl, hb, h1, h2, hk, hp, q⟩ := h
    refine ⟨_, (pss_cons (ps_if (pt_cmpR op_eq (pv 2) pe_int (nomark _)) (pss_one ps_never) pss_nil) (pss_cons (ps_set (i := 3) sc_Ratio_init.nd rfl (Or.inl rfl) (pe_callBfun cr_gcd (by rfl) T.g_gcd (pa_cons (pv 1) (pa_cons (pv 2) pa_nil)))) (pss_cons (ps_if (pt_cmpR op_lt (pv 2) pe_int (nomark _)) (pss_one (ps_set (i := 3) sc_Ratio_init.nd rfl (Or.inl rfl) (pe_un un_neg (pv 3)))) pss_nil) (pss_cons (ps_fld (pv 0) (pe_op op_fdivA (pv 1) (pv 3)) rfl) (pss_one (ps_fld (pv 0) (pe_op op_fdivA (pv 2) (pv 3)) rfl)))))), ?_⟩
    walk_at "g"
    refine g_dec (fun h => absurd h hb) (fun _ => ?_)
    walk_at "g"
    refine g_dec (fun hn => ?_) (fun hn => ?_)
    · walk_at "g"
      have ez : -((Nat.gcd t.natAbs b.natAbs : Nat) : Int) = sg t b := by unfold sg; rw [if_pos hn]
      rw [ez]
      refine g_I (divA (sg_ne hb) (sg_sz hb h2) hk) ?_
      walk_at "g"
      refine ⟨p, _, dx, [], rfl, hp, T.R.cl, T.R.nT, by decide, ?_⟩
      walk_at "g"
      refine g_I (divA (sg_ne hb) (sg_sz hb h2) hk) ?_
      walk_at "g"
      refine ⟨p, _, dx, _, rfl, upd_same, T.R.cl, T.R.nB, by show 1 < 1000; decide, ?_⟩
      walk_at "g"
      rw [top_eq hb, bot_eq hb]
      refine q _ (fun c o hc hne => ?_) upd_same
      rw [upd_ne hne, upd_ne hne]
      exact hc
    · walk_at "g"
      have ez : ((Nat.gcd t.natAbs b.natAbs : Nat) : Int) = sg t b := by unfold sg; rw [if_neg hn]
      rw [ez]
      refine g_I (divA (sg_ne hb) (sg_sz hb h2) hk) ?_
      walk_at "g"
      refine ⟨p, _, dx, [], rfl, hp, T.R.cl, T.R.nT, by decide, ?_⟩
      walk_at "g"
      refine g_I (divA (sg_ne hb) (sg_sz hb h2) hk) ?_
      walk_at "g"
      refine ⟨p, _, dx, _, rfl, upd_same, T.R.cl, T.R.nB, by show 1 < 1000; decide, ?_⟩
      walk_at "g"
      rw [top_eq hb, bot_eq hb]
      refine q _ (fun c o hc hne => ?_) upd_same
      rw [upd_ne hne, upd_ne hne]
      exact hc
theorem ok_as_ratio (T : Tx K mg a) : FnOk P w K mg base CX0 3 a.f_as_ratio a.d_as_ratio P_as_ratio (spAsRatio a.C_Ratio) := by
  refine T.F_as_ratio.ok sc_as_ratio (fun vs H Q E h => ?_) (fun cdv A outer s H vs Q E hr h => ?_)
  · obtain ⟨x, q, k, rfl, _⟩ := h
    rfl
  · obtain ⟨x, q, k, rfl, hx, sa, hk, z⟩ := h
    refine ⟨_, (pss_cons (ps_if (pt_val (pe_callB call_isi (by rfl) T.b_isinstance (by decide +kernel) (pa_cons (pv 0) (pa_cons (pe_glob (v := .ref a.C_Ratio) rfl T.g_Ratio rfl) pa_nil)))) (pss_one (ps_ret (pv 0))) pss_nil) (pss_cons (ps_if (pt_val (pe_call (ok_is_whole T) (hr.mono (by decide)) (by rfl) T.g_is_whole T.F_is_whole.kp (bd_is_whole T) .nil pass0 (pa_cons (pv 0) pa_nil))) (pss_one (ps_ret (pe_make T.mk_Ratio (ok_Ratio_init T) (hr.mono (by decide)) (by rfl) T.g_Ratio (bd1_Ratio_init T).choose_spec.2 (bd1_Ratio_init T).choose_spec.1 pass0 (pa_cons (pv 0) pa_nil)))) pss_nil) (pss_one ps_never))), ?_⟩
    walk_at "g"
    rcases hx with ⟨n, rfl, rfl⟩ | hx
    · refine g_isi (.base (.int n)) (.own _) (kit_own T.R .int) ?_
      walk_at "g"
      refine g_ite (fun h => by simp at h) (fun _ => ?_)
      walk_at "g"
      refine ⟨_, _, rfl, .base (.int n), .int, fun H1 e1 => ?_⟩
      walk_at "g"
      refine g_ite (fun _ => ?_) (fun h => by simp at h)
      walk_at "g"
      refine use_init (t := n) (b := 1) (k := k + 1) rfl (by decide) (by have := sa.1; rw [Rat.num_intCast] at this; exact lt_up this (by omega)) (lt_up (by decide : 1 < 2 ^ 1) (by omega)) (by omega) fun v H2 e2 hv => ?_
      rw [int_divInt] at hv
      exact z v H2 (e1.trans e2) hv
    · refine g_isi (ty_rat T.R hx) (.own _) (kit_own T.R .own) ?_
      walk_at "g"
      refine g_ite (fun _ => ?_) (fun h => by simp at h)
      walk_at "g"
      exact z x H (Ex.refl H) hx
theorem ok_Ratio_add (T : Tx K mg a) : FnOk P w K mg base CX0 4 a.f_Ratio_add a.d_Ratio_add P_Ratio_add (spNum2 a.C_Ratio (· + ·)) := by
  refine T.F_Ratio_add.ok sc_Ratio_add (fun vs H Q E h => ?_) (fun cdv A outer s H vs Q E hr h => ?_)
  · obtain ⟨x, y, p, q, k, rfl, _⟩ := h
    rfl
  · obtain ⟨x, y, p, q, k, rfl, hx, hy, sa, sb, hk, z⟩ := h
    refine ⟨_, (pss_cons (ps_if (pt_not (pt_val (pe_call (ok_is_number T) (hr.mono (by decide)) (by rfl) T.g_is_number T.F_is_number.kp (bd_is_number T) .nil pass0 (pa_cons (pv 1) pa_nil)))) (pss_one ps_never) pss_nil) (pss_cons (ps_set (i := 2) sc_Ratio_add.nd rfl (Or.inl rfl) (pe_call (ok_as_ratio T) (hr.mono (by decide)) (by rfl) T.g_as_ratio T.F_as_ratio.kp (bd_as_ratio T) .nil pass0 (pa_cons (pv 1) pa_nil))) (pss_one (ps_ret (pe_make T.mk_Ratio (ok_Ratio_init T) (hr.mono (by decide)) (by rfl) T.g_Ratio (bd_Ratio_init T) .nil pass0 (pa_cons (pe_op op_add (pe_op op_mulW (pe_fld (pv 0) rfl) (pe_fld (pv 2) rfl)) (pe_op op_mulW (pe_fld (pv 2) rfl) (pe_fld (pv 0) rfl))) (pa_cons (pe_op op_mulW (pe_fld (pv 0) rfl) (pe_fld (pv 2) rfl)) pa_nil))))))), ?_⟩
    walk_at "g"
    refine use_isnum T.R hy fun H0 e0 => ?_
    walk_at "g"
    have hy := hy.mono e0
    have hx := hx.mono e0
    refine use_asr hy sb hk fun u H1 e1 hn => ?_
    have hx' := hx.mono e1
    walk_at "g"
    refine g_top T.R.cl T.R.nT hx' ?_
    walk_at "g"
    refine g_bottom T.R.cl T.R.nB hn ?_
    refine g_I (mulA sa.n sb.d (by omega)) ?_
    walk_at "g"
    refine g_top T.R.cl T.R.nT hn ?_
    walk_at "g"
    refine g_bottom T.R.cl T.R.nB hx' ?_
    refine g_I (mulA sb.n sa.d (by omega)) ?_
    walk_at "g"
    refine g_bottom T.R.cl T.R.nB hx' ?_
    walk_at "g"
    refine g_bottom T.R.cl T.R.nB hn ?_
    refine g_I (mulA sa.d sb.d (by omega)) ?_
    walk_at "g"
    refine use_init (k := k + k + 1) rfl (dd_ne _ _) (abs_add_lt (abs_mul_lt sa.n sb.d) (abs_mul_lt sb.n sa.d)) (lt_up (abs_mul_lt sa.d sb.d) (by omega)) (by omega) fun v H2 e2 hv => ?_
    rw [add_divInt] at hv
    exact z v H2 ((e0.trans e1).trans e2) hv
theorem ok_Ratio_sub (T : Tx K mg a) : FnOk P w K mg base CX0 4 a.f_Ratio_sub a.d_Ratio_sub P_Ratio_sub (spNum2 a.C_Ratio (· - ·)) := by
  refine T.F_Ratio_sub.ok sc_Ratio_sub (fun vs H Q E h => ?_) (fun cdv A outer s H vs Q E hr h => ?_)
  · obtain ⟨x, y, p, q, k, rfl, _⟩ := h
    rfl
  · obtain ⟨x, y, p, q, k, rfl, hx, hy, sa, sb, hk, z⟩ := h
    refine ⟨_, (pss_cons (ps_if (pt_not (pt_val (pe_call (ok_is_number T) (hr.mono (by decide)) (by rfl) T.g_is_number T.F_is_number.kp (bd_is_number T) .nil pass0 (pa_cons (pv 1) pa_nil)))) (pss_one ps_never) pss_nil) (pss_cons (ps_set (i := 2) sc_Ratio_sub.nd rfl (Or.inl rfl) (pe_call (ok_as_ratio T) (hr.mono (by decide)) (by rfl) T.g_as_ratio T.F_as_ratio.kp (bd_as_ratio T) .nil pass0 (pa_cons (pv 1) pa_nil))) (pss_one (ps_ret (pe_make T.mk_Ratio (ok_Ratio_init T) (hr.mono (by decide)) (by rfl) T.g_Ratio (bd_Ratio_init T) .nil pass0 (pa_cons (pe_op op_sub (pe_op op_mulW (pe_fld (pv 0) rfl) (pe_fld (pv 2) rfl)) (pe_op op_mulW (pe_fld (pv 2) rfl) (pe_fld (pv 0) rfl))) (pa_cons (pe_op op_mulW (pe_fld (pv 0) rfl) (pe_fld (pv 2) rfl)) pa_nil))))))), ?_⟩
    walk_at "g"
    refine use_isnum T.R hy fun H0 e0 => ?_
    walk_at "g"
    have hy := hy.mono e0
    have hx := hx.mono e0
    refine use_asr hy sb hk fun u H1 e1 hn => ?_
    have hx' := hx.mono e1
    walk_at "g"
    refine g_top T.R.cl T.R.nT hx' ?_
    walk_at "g"
    refine g_bottom T.R.cl T.R.nB hn ?_
    refine g_I (mulA sa.n sb.d (by omega)) ?_
    walk_at "g"
    refine g_top T.R.cl T.R.nT hn ?_
    walk_at "g"
    refine g_bottom T.R.cl T.R.nB hx' ?_
    refine g_I (mulA sb.n sa.d (by omega)) ?_
    walk_at "g"
    refine g_bottom T.R.cl T.R.nB hx' ?_
    walk_at "g"
    refine g_bottom T.R.cl T.R.nB hn ?_
    refine g_I (mulA sa.d sb.d (by omega)) ?_
    walk_at "g"
    refine use_init (k := k + k + 1) rfl (dd_ne _ _) (abs_sub_lt (abs_mul_lt sa.n sb.d) (abs_mul_lt sb.n sa.d)) (lt_up (abs_mul_lt sa.d sb.d) (by omega)) (by omega) fun v H2 e2 hv => ?_
    rw [sub_divInt] at hv
    exact z v H2 ((e0.trans e1).trans e2) hv
theorem ok_Ratio_mul (T : Tx K mg a) : FnOk P w K mg base CX0 4 a.f_Ratio_mul a.d_Ratio_mul P_Ratio_mul (spNum2 a.C_Ratio (· * ·)) := by
  refine T.F_Ratio_mul.ok sc_Ratio_mul (fun vs H Q E h => ?_) (fun cdv A outer s H vs Q E hr h => ?_)
  · obtain ⟨x, y, p, q, k, rfl, _⟩ := h
    rfl
  · obtain ⟨x, y, p, q, k, rfl, hx, hy, sa, sb, hk, z⟩ := h
    refine ⟨_, (pss_cons (ps_if (pt_not (pt_val (pe_call (ok_is_number T) (hr.mono (by decide)) (by rfl) T.g_is_number T.F_is_number.kp (bd_is_number T) .nil pass0 (pa_cons (pv 1) pa_nil)))) (pss_one ps_never) pss_nil) (pss_cons (ps_set (i := 2) sc_Ratio_mul.nd rfl (Or.inl rfl) (pe_call (ok_as_ratio T) (hr.mono (by decide)) (by rfl) T.g_as_ratio T.F_as_ratio.kp (bd_as_ratio T) .nil pass0 (pa_cons (pv 1) pa_nil))) (pss_one (ps_ret (pe_make T.mk_Ratio (ok_Ratio_init T) (hr.mono (by decide)) (by rfl) T.g_Ratio (bd_Ratio_init T) .nil pass0 (pa_cons (pe_op op_mulW (pe_fld (pv 0) rfl) (pe_fld (pv 2) rfl)) (pa_cons (pe_op op_mulW (pe_fld (pv 0) rfl) (pe_fld (pv 2) rfl)) pa_nil))))))), ?_⟩
    walk_at "g"
    refine use_isnum T.R hy fun H0 e0 => ?_
    walk_at "g"
    have hy := hy.mono e0
    have hx := hx.mono e0
    refine use_asr hy sb hk fun u H1 e1 hn => ?_
    have hx' := hx.mono e1
    walk_at "g"
    refine g_top T.R.cl T.R.nT hx' ?_
    walk_at "g"
    refine g_top T.R.cl T.R.nT hn ?_
    refine g_I (mulA sa.n sb.n (by omega)) ?_
    walk_at "g"
    refine g_bottom T.R.cl T.R.nB hx' ?_
    walk_at "g"
    refine g_bottom T.R.cl T.R.nB hn ?_
    refine g_I (mulA sa.d sb.d (by omega)) ?_
    walk_at "g"
    refine use_init (k := k + k) rfl (dd_ne _ _) (abs_mul_lt sa.n sb.n) (abs_mul_lt sa.d sb.d) (by omega) fun v H2 e2 hv => ?_
    rw [mul_divInt] at hv
    exact z v H2 ((e0.trans e1).trans e2) hv
theorem ok_Ratio_lt (T : Tx K mg a) : FnOk P w K mg base CX0 4 a.f_Ratio_lt a.d_Ratio_lt P_Ratio_lt (spRel2 a.C_Ratio fun x y => decide (x < y)) := by
  refine T.F_Ratio_lt.ok sc_Ratio_lt (fun vs H Q E h => ?_) (fun cdv A outer s H vs Q E hr h => ?_)
  · obtain ⟨x, y, p, q, k, rfl, _⟩ := h
    rfl
  · obtain ⟨x, y, p, q, k, rfl, hx, hy, sa, sb, hk, z⟩ := h
    refine ⟨_, (pss_cons (ps_if (pt_not (pt_val (pe_call (ok_is_number T) (hr.mono (by decide)) (by rfl) T.g_is_number T.F_is_number.kp (bd_is_number T) .nil pass0 (pa_cons (pv 1) pa_nil)))) (pss_one ps_never) pss_nil) (pss_cons (ps_set (i := 2) sc_Ratio_lt.nd rfl (Or.inl rfl) (pe_call (ok_as_ratio T) (hr.mono (by decide)) (by rfl) T.g_as_ratio T.F_as_ratio.kp (bd_as_ratio T) .nil pass0 (pa_cons (pv 1) pa_nil))) (pss_one (ps_ret (pe_cmpR op_lt (pe_op op_mulW (pe_fld (pv 0) rfl) (pe_fld (pv 2) rfl)) (pe_op op_mulW (pe_fld (pv 2) rfl) (pe_fld (pv 0) rfl)) (nomark _)))))), ?_⟩
    walk_at "g"
    refine use_isnum T.R hy fun H0 e0 => ?_
    walk_at "g"
    have hy := hy.mono e0
    have hx := hx.mono e0
    refine use_asr hy sb hk fun u H1 e1 hn => ?_
    have hx' := hx.mono e1
    walk_at "g"
    refine g_top T.R.cl T.R.nT hx' ?_
    walk_at "g"
    refine g_bottom T.R.cl T.R.nB hn ?_
    refine g_I (mulA sa.n sb.d (by omega)) ?_
    walk_at "g"
    refine g_top T.R.cl T.R.nT hn ?_
    walk_at "g"
    refine g_bottom T.R.cl T.R.nB hx' ?_
    refine g_I (mulA sb.n sa.d (by omega)) ?_
    walk_at "g"
    have z := z H1 (e0.trans e1)
    dsimp only at z
    rw [dec_ltR] at z
    exact z
theorem ok_Ratio_eq (T : Tx K mg a) : FnOk P w K mg base CX0 4 a.f_Ratio_eq a.d_Ratio_eq P_Ratio_eq (spEqV K a.C_Ratio) := by
  refine T.F_Ratio_eq.ok sc_Ratio_eq (fun vs H Q E h => ?_) (fun cdv A outer s H vs Q E hr h => ?_)
  · obtain ⟨x, y, p, r, rfl, _⟩ := h
    rfl
  · obtain ⟨x, y, p, r, rfl, hx, hy, z⟩ := h
    refine ⟨_, (pss_cons (ps_if (pt_not (pt_val (pe_call (ok_is_number T) (hr.mono (by decide)) (by rfl) T.g_is_number T.F_is_number.kp (bd_is_number T) .nil pass0 (pa_cons (pv 1) pa_nil)))) (pss_one (ps_ret pe_bl)) pss_nil) (pss_cons (ps_set (i := 2) sc_Ratio_eq.nd rfl (Or.inl rfl) (pe_call (ok_as_ratio T) (hr.mono (by decide)) (by rfl) T.g_as_ratio T.F_as_ratio.kp (bd_as_ratio T) .nil pass0 (pa_cons (pv 1) pa_nil))) (pss_one (ps_ret (pe_and (pe_cmpR op_eq (pe_fld (pv 0) rfl) (pe_fld (pv 2) rfl) (nomark _)) (pe_one (pe_cmpR op_eq (pe_fld (pv 0) rfl) (pe_fld (pv 2) rfl) (nomark _)))))))), ?_⟩
    walk_at "g"
    rcases hy with ⟨q, k, hy, sb, hk, rfl⟩ | ⟨t, ty, kt, et, rfl⟩
    · refine use_isnum T.R hy fun H0 e0 => ?_
      walk_at "g"
      have hy := hy.mono e0
      have hx := hx.mono e0
      refine use_asr hy sb hk fun u H1 e1 hn => ?_
      have hx' := hx.mono e1
      walk_at "g"
      refine g_top T.R.cl T.R.nT hx' ?_
      walk_at "g"
      refine g_top T.R.cl T.R.nT hn ?_
      walk_at "g"
      have z := z H1 (e0.trans e1)
      rw [dec_eqR] at z
      refine g_dec (fun h => ?_) (fun h => ?_)
      · rw [decide_eq_true h] at z
        walk_at "g"
        refine g_bottom T.R.cl T.R.nB hx' ?_
        walk_at "g"
        refine g_bottom T.R.cl T.R.nB hn ?_
        walk_at "g"
        exact z
      · rw [decide_eq_false h] at z
        walk_at "g"
        exact z
    · refine use_isnot ty kt et fun H0 e0 => ?_
      walk_at "g"
      exact z H0 e0
theorem ok_Ratio_neg (T : Tx K mg a) : FnOk P w K mg base CX0 3 a.f_Ratio_neg a.d_Ratio_neg P_Ratio_neg (spNum1 a.C_Ratio (- ·)) := by
  refine T.F_Ratio_neg.ok sc_Ratio_neg (fun vs H Q E h => ?_) (fun cdv A outer s H vs Q E hr h => ?_)
  · obtain ⟨x, p, k, rfl, _⟩ := h
    rfl
  · obtain ⟨x, p, k, rfl, hx, sa, hk, z⟩ := h
    refine ⟨_, (pss_one (ps_ret (pe_make T.mk_Ratio (ok_Ratio_init T) (hr.mono (by decide)) (by rfl) T.g_Ratio (bd_Ratio_init T) .nil pass0 (pa_cons (pe_un un_neg (pe_fld (pv 0) rfl)) (pa_cons (pe_fld (pv 0) rfl) pa_nil))))), ?_⟩
    walk_at "g"
    refine g_top T.R.cl T.R.nT hx ?_
    walk_at "g"
    refine g_bottom T.R.cl T.R.nB hx ?_
    walk_at "g"
    refine use_init (k := k) rfl (den_ne _) (by rw [Int.natAbs_neg]; exact sa.n) sa.d (by omega) fun v H2 e2 hv => ?_
    rw [neg_divInt1] at hv
    exact z v H2 e2 hv
end
end Kx


set_option maxHeartbeats 2000000
namespace Fm
open PySem PySem.Spec PyProof.Rows L2
def BoxAt (H : Hp) (p : Addr) (b : Nat) : Prop := ∃ t0 t1 t2 : Int, 0 ≤ t0 ∧ 0 ≤ t1 ∧ t1 ≤ (b : Int) ∧ 0 ≤ t2 ∧ t2 < 2 ^ 40 ∧ H p = some (.lst [.int t0, .int t1, .int t2])
theorem BoxAt.lst {H : Hp} {p : Addr} {b : Nat} (h : BoxAt H p b) : ∃ vs, H p = some (.lst vs) := let ⟨_, _, _, _, _, _, _, _, h⟩ := h; ⟨_, h⟩
theorem BoxAt.at {H H' : Hp} {p : Addr} {b : Nat} (h : BoxAt H p b) (e : ∀ vs, H p = some (.lst vs) → H' p = some (.lst vs)) : BoxAt H' p b := let ⟨t0, t1, t2, a0, a1, a2, a3, a4, h⟩ := h; ⟨t0, t1, t2, a0, a1, a2, a3, a4, e _ h⟩
theorem BoxAt.mono {H H' : Hp} {p : Addr} {b : Nat} (e : Ex H H') (h : BoxAt H p b) : BoxAt H' p b := h.at fun _ q => e _ _ q
theorem BoxAt.le {H : Hp} {p : Addr} {b c : Nat} (h : BoxAt H p b) (hb : b ≤ c) : BoxAt H p c := let ⟨t0, t1, t2, a0, a1, a2, a3, a4, h⟩ := h; ⟨t0, t1, t2, a0, a1, by omega, a3, a4, h⟩
def spBox (K : PySem.W.Frag) : Sp := fun vs H Q _ => ∃ (a : Addr) (ns : List Int) (k : Nat), vs = [.ref a, .int (k : Int)] ∧ SqL K H a (ns.map V.int) ∧ k ≤ 100 ∧ ∀ p H', H p = none → Ex H H' → BoxAt H' p 0 → Q (.ref p) H'
def spTake : Sp := fun vs H Q _ => ∃ (p : Addr) (b : Nat) (m : Int), vs = [.ref p, .int m] ∧ 0 < m ∧ m < 2 ^ 100 ∧ b < 2 ^ 50 ∧ BoxAt H p b ∧ ∀ d H', 0 ≤ d → d < m → Mo p H H' → BoxAt H' p (b + 1) → Q (.int d) H'
end Fm

set_option maxHeartbeats 2000000
namespace Fm
open PySem PySem.Spec PyProof.Rows L2
def CPowA (i j : Int) : Prop := 0 ≤ j ∧ j ≤ 1000 ∧ i.natAbs < 2 ^ 1000
theorem bits_mulA {a n : Int} (ha : a.natAbs < 2 ^ 1000) (h0 : 0 ≤ n) (hn : n ≤ 1000) : (Builtin.Int.intBits a : Int) * n ≤ 2 ^ 27 := by
  have hb : Builtin.Int.intBits a ≤ 1000 := by
    unfold Builtin.Int.intBits
    split
    · omega
    · have := PySem.Flt.log2_lt_of (by decide) ha
      omega
  have h1 : (Builtin.Int.intBits a : Int) * n ≤ 1000 * n := Int.mul_le_mul_of_nonneg_right (by omega) h0
  omega
theorem op_powA {X : Cx} : OpR X (binaryOp .Pow) (rI CPowA fun i j => .int (i ^ j.toNat)) := opI fun _ _ _ _ _ _ _ hc q => pow_int hc.1 (bits_mulA hc.2.2 hc.1 hc.2.1) q
def spCellB (K : PySem.W.Frag) : Sp := fun vs H Q _ => ∃ (a : Addr) (ns : List Int) (k : Nat), vs = [.ref a, .int (k : Int)] ∧ SqL K H a (ns.map V.int) ∧ ∀ z : Int, Q (.int z) H
end Fm

set_option maxHeartbeats 4000000
namespace Kx
open PySem PySem.Spec PyProof.Rows L2 Fm
local macro_rules | `(tactic| walk_at "gv") => `(tactic| ((with_reducible refine' g_var ?gh ?_); (case gh => exact rfl)))
local macro_rules | `(tactic| walk_at "g1") => `(tactic| first
  | walk_at "gv"
  | with_reducible refine g_c ?_ | with_reducible refine g_op ?_ | with_reducible refine g_un ?_ | with_reducible refine g_I0 ?_ | with_reducible refine g_U ?_
  | with_reducible refine g_eqI ?_ | with_reducible refine g_neI ?_ | with_reducible refine g_eqS ?_ | with_reducible refine g_neS ?_
  | with_reducible refine g_test ?_ | with_reducible refine g_B ?_ | with_reducible refine g_bl ?_ | with_reducible refine g_not ?_ | with_reducible refine g_and ?_ | with_reducible refine g_or ?_
  | with_reducible refine g_andV ?_ | with_reducible refine g_orV ?_ | with_reducible refine g_notV ?_ | with_reducible refine g_chain ?_ | with_reducible refine g_if ?_ | with_reducible refine g_ifS ?_
  | with_reducible refine g_seq ?_ | with_reducible refine g_next ?_ | with_reducible refine g_break ?_ | with_reducible refine g_cont ?_ | with_reducible refine g_drop ?_ | with_reducible refine g_ret ?_ | with_reducible refine g_retN ?_
  | with_reducible refine g_asg ?_ | with_reducible refine g_name ?_ | with_reducible refine g_par ?_ | with_reducible refine g_par2 ?_ | with_reducible refine g_fld ?_ | with_reducible refine g_sfld ?_
  | with_reducible refine g_nil ?_ | with_reducible refine g_cons ?_ | with_reducible refine g_tup ?_ | with_reducible refine g_lst ?_ | with_reducible refine g_call ?_ | with_reducible refine g_meth ?_ | with_reducible refine g_make1 ?_ | with_reducible refine g_make ?_ | with_reducible refine g_cb ?_ | with_reducible refine g_sub ?_ | with_reducible refine g_absI ?_ | with_reducible refine g_intI ?_
  | with_reducible refine iteT ?_ | with_reducible refine iteF ?_ | with_reducible refine g_gcd ?_)
local macro_rules | `(tactic| walk_at "g") => `(tactic| (repeat (first | walk_at "g1" | dsimp only [cx_K, cx_Kn, b_nt, b_nf])))
local macro_rules | `(tactic| walk_at "mul") => `(tactic| exact mulA (a := 200) (b := 200) (by omega) (by omega) (by decide))
local macro_rules | `(tactic| walk_at "pow") => `(tactic| exact ⟨by omega, by omega, by omega⟩)

section
variable {P : Program} {w : World} {K : PySem.W.Frag} {mg : Str → Option Value} {base : Heap} {a : Ad}
theorem ok_Lcell (T : Tx K mg a) : FnOk P w K mg base CX0 1 a.f_Lcell a.d_Lcell P_Lcell (spCellB K) := by
  refine T.F_Lcell.ok sc_Lcell (fun vs H Q E h => ?_) (fun cdv A outer s H vs Q E hr h => ?_)
  · obtain ⟨p, ns, k, rfl, _⟩ := h
    rfl
  · obtain ⟨p, ns, k, rfl, hs, q⟩ := h
    refine ⟨_, (pss_one (ps_ret (pe_ifExp (pt_cmpR op_lt (pv 1) (pe_callB call_lenQ (by rfl) T.b_len (by decide +kernel) (pa_cons (pv 0) pa_nil)) (nomark _)) (pe_ix ix_list (pv 0) (pv 1) (fun _ _ => rfl)) pe_int))), ?_⟩
    walk_at "g"
    refine g_lenL hs ?_
    walk_at "g"
    refine g_dec (fun hlt => ?_) (fun _ => ?_)
    · walk_at "g"
      rw [List.length_map] at hlt
      have hkn : k < ns.length := by omega
      refine g_ixL hs (atI_nat (by rw [List.getElem?_map, List.getElem?_eq_getElem hkn]; rfl)) ?_
      exact q _
    · walk_at "g"
      exact q _
theorem ok_Lbox (T : Tx K mg a) : FnOk P w K mg base CX0 2 a.f_Lbox a.d_Lbox P_Lbox (spBox K) := by
  refine T.F_Lbox.ok sc_Lbox (fun vs H Q E h => ?_) (fun cdv A outer s H vs Q E hr h => ?_)
  · obtain ⟨p, ns, k, rfl, _⟩ := h
    rfl
  · obtain ⟨p, ns, k, rfl, hs, hk, q⟩ := h
    refine ⟨_, (pss_cons (ps_set (i := 2) sc_Lbox.nd rfl (Or.inl rfl) (pe_ifExp (pt_chain op_lt op_le pe_int (pe_callB call_lenQ (by rfl) T.b_len (by decide +kernel) (pa_cons (pv 0) pa_nil)) (pv 1)) (pe_op op_mod (pe_callB cr_absI (by rfl) T.b_abs (by decide +kernel) (pa_cons (pe_callTy cr_intI (by rfl) T.b_int (by decide +kernel) (pa_cons (pe_ix ix_list (pv 0) pe_int (fun _ _ => rfl)) pa_nil)) pa_nil)) pe_int) pe_int)) (pss_one (ps_ret (pe_lst (pa_cons (pe_callB cr_absI (by rfl) T.b_abs (by decide +kernel) (pa_cons (pe_callTy cr_intI (by rfl) T.b_int (by decide +kernel) (pa_cons (pe_call (ok_Lcell T) (hr.mono (by decide)) (by rfl) T.g_Lcell T.F_Lcell.kp (bd_Lcell T) .nil pass0 (pa_cons (pv 0) (pa_cons (pv 1) pa_nil))) pa_nil)) pa_nil)) (pa_cons pe_int (pa_cons (pe_op op_add (pe_op op_add (pe_op op_mulW pe_int (pv 1)) pe_int) (pv 2)) pa_nil))))))), ?_⟩
    walk_at "g"
    have fin : ∀ (z : Int) (s : Int), 0 ≤ s → s < 1000003 → ∀ l, H l = none → Q (.ref l) (upd H l (.lst [.int ((z.natAbs : Nat) : Int), .int 0, .int (40503 * (k : Int) + 911 + s)])) := fun z s s0 s1 l hl =>
      q l _ hl (Ex.new hl) ⟨_, _, _, by omega, by omega, by omega, by omega, by omega, upd_same⟩
    refine g_lenL hs ?_
    walk_at "g"
    refine g_dec (fun h0 => ?_) (fun _ => ?_)
    · walk_at "g"
      refine g_dec (fun h1 => ?_) (fun _ => ?_)
      · walk_at "g"
        rw [List.length_map] at h0
        have hkn : 0 < ns.length := by omega
        refine g_ixL hs (atI_nat (j := 0) (by rw [List.getElem?_map, List.getElem?_eq_getElem hkn]; rfl)) ?_
        walk_at "g"
        refine g_I (by decide) ?_
        walk_at "g"
        refine ⟨p, ns, k, rfl, hs, fun z => ?_⟩
        walk_at "g"
        refine g_I (by walk_at "mul") ?_
        walk_at "g"
        exact ⟨len_lit rfl, fun l hl => fin z _ (Int.emod_nonneg _ (by decide)) (Int.emod_lt_of_pos _ (by decide)) l hl⟩
      · walk_at "g"
        refine ⟨p, ns, k, rfl, hs, fun z => ?_⟩
        walk_at "g"
        refine g_I (by walk_at "mul") ?_
        walk_at "g"
        exact ⟨len_lit rfl, fun l hl => fin z 0 (by decide) (by decide) l hl⟩
    · walk_at "g"
      refine ⟨p, ns, k, rfl, hs, fun z => ?_⟩
      walk_at "g"
      refine g_I (by walk_at "mul") ?_
      walk_at "g"
      exact ⟨len_lit rfl, fun l hl => fin z 0 (by decide) (by decide) l hl⟩
theorem ok_Ltake (T : Tx K mg a) : FnOk P w K mg base CX0 1 a.f_Ltake a.d_Ltake P_Ltake spTake := by
  refine T.F_Ltake.ok sc_Ltake (fun vs H Q E h => ?_) (fun cdv A outer s H vs Q E hr h => ?_)
  · obtain ⟨p, b, m, rfl, _⟩ := h
    rfl
  · obtain ⟨p, b, m, rfl, h0, h1, hb, ⟨t0, t1, t2, a0, a1, a2, a3, a4, hp⟩, q⟩ := h
    refine ⟨_, (pss_cons (ps_if (pt_cmpR op_ge (pe_ix ix_list (pv 0) pe_int (fun _ _ => rfl)) (pe_op op_pow pe_int pe_int) (nomark _)) (pss_cons (ps_set (i := 2) sc_Ltake.nd rfl (Or.inl rfl) (pe_op op_mod (pe_callTy cr_intI (by rfl) T.b_int (by decide +kernel) (pa_cons (pe_ix ix_list (pv 0) pe_int (fun _ _ => rfl)) pa_nil)) (pv 1))) (pss_cons (ps_asg (pe_op op_fdivA (pe_ix ix_list (pv 0) pe_int (fun _ _ => rfl)) (pv 1)) (pg_sub (pv 0) pe_int set_list)) (pss_one (ps_ret (pv 2))))) pss_nil) (pss_cons (ps_asg (pe_op op_add (pe_ix ix_list (pv 0) pe_int (fun _ _ => rfl)) pe_int) (pg_sub (pv 0) pe_int set_list)) (pss_cons (ps_set (i := 3) sc_Ltake.nd rfl (Or.inl rfl) (pe_op op_mod (pe_op op_powA (pe_callTy cr_intI (by rfl) T.b_int (by decide +kernel) (pa_cons (pe_op op_add (pe_op op_add (pe_op op_mulW (pe_op op_add (pe_ix ix_list (pv 0) pe_int (fun _ _ => rfl)) pe_int) pe_int) (pe_op op_mulW (pe_ix ix_list (pv 0) pe_int (fun _ _ => rfl)) pe_int)) (pe_ix ix_list (pv 0) pe_int (fun _ _ => rfl))) pa_nil)) pe_int) pe_int)) (pss_cons (ps_set (i := 3) sc_Ltake.nd rfl (Or.inl rfl) (pe_op op_mod (pe_op op_powA (pe_callTy cr_intI (by rfl) T.b_int (by decide +kernel) (pa_cons (pe_op op_add (pv 3) (pe_op op_mulW (pe_ix ix_list (pv 0) pe_int (fun _ _ => rfl)) pe_int)) pa_nil)) pe_int) pe_int)) (pss_one (ps_ret (pe_op op_mod (pe_callTy cr_intI (by rfl) T.b_int (by decide +kernel) (pa_cons (pe_op op_fdivA (pv 3) pe_int) pa_nil)) (pv 1)))))))), ?_⟩
    walk_at "g"
    refine g_ixL (SqL.of hp) (atI_nat (j := 0) rfl) ?_
    walk_at "g"
    refine g_I (by walk_at "pow") ?_
    walk_at "g"
    refine g_dec (fun hge => ?_) (fun hlt => ?_)
    · walk_at "g"
      refine g_ixL (SqL.of hp) (atI_nat (j := 0) rfl) ?_
      walk_at "g"
      refine g_I h0 ?_
      walk_at "g"
      refine g_ixL (SqL.of hp) (atI_nat (j := 0) rfl) ?_
      walk_at "g"
      refine g_I (divA (k := 100) (by omega) (by omega) (by decide)) ?_
      walk_at "g"
      refine g_setL (j := 0) hp rfl ?_
      walk_at "g"
      refine q _ _ (Int.emod_nonneg _ (by omega)) (Int.emod_lt_of_pos _ h0) Mo.set ⟨_, t1, t2, ?_, a1, by omega, a3, a4, upd_same⟩
      rw [Int.fdiv_eq_ediv_of_nonneg _ (by omega)]
      exact Int.ediv_nonneg a0 (by omega)
    · have hs : t0 < 2 ^ 64 := by
        have : ¬ ((10 : Int) ^ (18 : Int).toNat ≤ t0) := hlt
        have e : (10 : Int) ^ (18 : Int).toNat = 1000000000000000000 := by decide
        omega
      walk_at "g"
      refine g_ixL (SqL.of hp) (atI_nat (j := 1) rfl) ?_
      walk_at "g"
      refine g_setL (j := 1) hp rfl ?_
      have hp1 : (upd H p (.lst ([V.int t0, V.int t1, V.int t2].set 1 (.int (t1 + 1))))) p = some (.lst [.int t0, .int (t1 + 1), .int t2]) := upd_same
      have a1' : t1 + 1 ≤ ((b + 1 : Nat) : Int) := by omega
      walk_at "g"
      refine g_ixL (SqL.of hp1) (atI_nat (j := 0) rfl) ?_
      walk_at "g"
      refine g_I (by walk_at "mul") ?_
      walk_at "g"
      refine g_ixL (SqL.of hp1) (atI_nat (j := 1) rfl) ?_
      walk_at "g"
      refine g_I (by walk_at "mul") ?_
      walk_at "g"
      refine g_ixL (SqL.of hp1) (atI_nat (j := 2) rfl) ?_
      walk_at "g"
      have e3 : (3 : Int).toNat = 3 := rfl
      have z1 : ((t0 + 7) * 69069 + (t1 + 1) * 40692 + t2).natAbs < 2 ^ 1000 := Nat.lt_of_lt_of_le (m := 2 ^ 100) (by omega) (by decide)
      refine g_I ⟨by decide, by decide, z1⟩ ?_
      walk_at "g"
      refine g_I (by decide) ?_
      walk_at "g"
      have u0 : 0 ≤ ((t0 + 7) * 69069 + (t1 + 1) * 40692 + t2) ^ Int.toNat 3 % 2147483647 := Int.emod_nonneg _ (by decide)
      have u1 : ((t0 + 7) * 69069 + (t1 + 1) * 40692 + t2) ^ Int.toNat 3 % 2147483647 < 2147483647 := Int.emod_lt_of_pos _ (by decide)
      generalize ((t0 + 7) * 69069 + (t1 + 1) * 40692 + t2) ^ Int.toNat 3 % 2147483647 = u at u0 u1 ⊢
      refine g_ixL (SqL.of hp1) (atI_nat (j := 1) rfl) ?_
      walk_at "g"
      refine g_I (by walk_at "mul") ?_
      walk_at "g"
      have z2 : (u + (t1 + 1) * 17389).natAbs < 2 ^ 1000 := Nat.lt_of_lt_of_le (m := 2 ^ 100) (by omega) (by decide)
      refine g_I ⟨by decide, by decide, z2⟩ ?_
      walk_at "g"
      refine g_I (by decide) ?_
      walk_at "g"
      have v0 : 0 ≤ (u + (t1 + 1) * 17389) ^ Int.toNat 3 % 2147483399 := Int.emod_nonneg _ (by decide)
      have v1 : (u + (t1 + 1) * 17389) ^ Int.toNat 3 % 2147483399 < 2147483399 := Int.emod_lt_of_pos _ (by decide)
      generalize (u + (t1 + 1) * 17389) ^ Int.toNat 3 % 2147483399 = v at v0 v1 ⊢
      refine g_I (divA (k := 100) (by decide) (by decide) (by decide)) ?_
      walk_at "g"
      refine g_I h0 ?_
      exact q _ _ (Int.emod_nonneg _ (by omega)) (Int.emod_lt_of_pos _ h0) Mo.set ⟨_, _, _, a0, by omega, a1', a3, a4, hp1⟩
end
end Kx


set_option maxHeartbeats 2000000
namespace Fm
open PySem PySem.Spec PyProof.Rows L2 SX
theorem sz_int {w : Int} {k : Nat} (h : w.natAbs < 2 ^ k) (hk : 1 ≤ k) : Sz k (w : Rat) := by
  rw [← int_divInt]
  exact Sz.divInt h (Nat.lt_of_lt_of_le (by decide : (1 : Int).natAbs < 2 ^ 1) (Nat.pow_le_pow_right (by decide) hk)) (by decide)
theorem sz_le {k j : Nat} {q : Rat} (h : Sz k q) (hk : k ≤ j) : Sz j q := ⟨Nat.lt_of_lt_of_le h.1 (Nat.pow_le_pow_right (by decide) hk), Nat.lt_of_lt_of_le h.2 (Nat.pow_le_pow_right (by decide) hk)⟩
section
variable {p q r s w : Int}
end
end Fm
namespace L2
open PySem PySem.Spec PyProof.Rows
end L2
namespace Fm
open PySem PySem.Spec PyProof.Rows L2 SX
def OddV (H : Hp) (v : V) : Prop := v = .non ∨ (∃ b, v = .bl b) ∨ v = .str (S [49]) ∨ ∃ p, v = .ref p ∧ (H p = some (.lst [.int 1]) ∨ H p = some (.tup [.int 1, .int 2]) ∨ H p = some (.dK []))
theorem OddV.mono {H H' : Hp} {v : V} (e : Ex H H') (h : OddV H v) : OddV H' v := by
  rcases h with h | h | h | ⟨p, h, h1 | h1 | h1⟩
  · exact .inl h
  · exact .inr (.inl h)
  · exact .inr (.inr (.inl h))
  · exact .inr (.inr (.inr ⟨p, h, .inl (e _ _ h1)⟩))
  · exact .inr (.inr (.inr ⟨p, h, .inr (.inl (e _ _ h1))⟩))
  · exact .inr (.inr (.inr ⟨p, h, .inr (.inr (e _ _ h1))⟩))
end Fm
namespace Fm
open PySem PySem.Spec PyProof.Rows L2 SX
end Fm

set_option maxHeartbeats 2000000
namespace Fm
open PySem PySem.Spec PyProof.Rows L2
section
variable {X : Cx} {K : PySem.W.Frag}
theorem pe_fldV {e : Expr} {f : Str} {ta : TE} {pos : Pos} (hK : X.K = K) (he : PE X e ta) (hb : attributeBase e f X.env (eval e X.env) = eval e X.env) : PE X (.Attribute e f pos) (tFld K ta f) := by
  subst hK; exact pe_fld he hb
theorem ix_listV (hK : X.K = K) : IxR X (rIxL K) := by subst hK; exact ix_list
theorem op_cmpV {CX : CXT} {k : Nat} {f C : Addr} {fd : FuncData} {ps : List Str} {sp : Sp} {E : XK} {op : CmpOp} (hK : X.K = K) (hop : ∀ v u : Value, compareOp op v u = richCompare op v u) (T : CmpFn K C f op) (F : FnOk X.prog X.w K X.mg X.base CX k f fd ps sp) (hr : Room k X.A) (hb : Binds K fd ps []) (hx : Passes CX X E) :
    OpR X (compareOp op) (rCmpOwn K C sp E) := by
  subst hK; exact op_cmp hop T F hr hb hx
end
theorem g_all {K : PySem.W.Frag} {H : Hp} {Q : VK} {p : Addr} {bs : List Bool} (h : SqL K H p (bs.map V.bl)) (q : Q (.bl (bs.all id)) H) : rAll K [.ref p] H Q := ⟨p, bs, rfl, h, q⟩
section
variable {K : PySem.W.Frag} {σ : L2.St} {H : Hp} {Q : VK} {g : TG} {te : TE} {tt : TT} {vs : List Nat}
theorem cp_T {a : Addr} {xs : List V} (Pv : Addr → Nat → Hp → Prop) (h0 : ∀ D, H D = none → Pv D 0 (upd H D (.lst []))) (hl : ∀ D, H D = none → ∀ i H', i ≤ xs.length → Pv D i H' → SqT K H' a xs)
    (hs : ∀ D, H D = none → ∀ i x H', xs[i]? = some x → Pv D i H' → Turn g tt te vs σ D (Pv D (i + 1)) x H') (hd : ∀ D, H D = none → ∀ H', Pv D xs.length H' → Q (.ref D) H') : Cp (Itt K a) g tt te vs σ H Q := by
  intro D hD
  refine ⟨fun i m H' => m = xs.length - i ∧ i ≤ xs.length ∧ Pv D i H', ⟨xs.length, by simp, Nat.zero_le _, h0 D hD⟩, ?_⟩
  rintro i m H' ⟨rfl, hi, p⟩
  have q := hl D hD i H' hi p
  by_cases hlt : i < xs.length
  · refine .inr ⟨⟨xs, xs[i], q, by simp [hlt]⟩, Pv D (i + 1), fun H' p' => ⟨xs.length - (i + 1), by omega, rfl, hlt, p'⟩, fun x H2 y => ?_⟩
    obtain ⟨e, y⟩ := y
    subst e
    exact hs D hD i x _ (y xs q) p
  · have e : i = xs.length := by omega
    subst e
    exact .inl ⟨⟨xs, q, Nat.le_refl _⟩, hd D hD _ p⟩
end
end Fm
namespace Fm
open PySem PySem.Spec PyProof.Rows L2
section
variable {K : PySem.W.Frag} {σ : L2.St} {H : Hp} {Q : VK} {g : TG} {te : TE} {tt : TT} {vs : List Nat}
end
theorem RatV.set {C : Addr} {H : Hp} {o : Addr} {xs ys : List V} (h : H o = some (.lst xs)) {v : V} {q : Rat} (r : RatV C H v q) : RatV C (upd H o (.lst ys)) v q := by
  obtain ⟨p, rfl, dx, hp⟩ := r
  exact ⟨p, rfl, dx, by rw [upd_ne fun z => by rw [z, h] at hp; cases hp]; exact hp⟩
theorem RatsV.set {C : Addr} {H : Hp} {o : Addr} {xs ys : List V} (h : H o = some (.lst xs)) {vs : List V} {qs : List Rat} (r : RatsV C H vs qs) : RatsV C (upd H o (.lst ys)) vs qs := Paired.mapP r fun _ _ z => z.set h
theorem prd_app {α β : Type} {F : α → β → Prop} : ∀ {xs ys : List α} {us ws : List β}, Paired F xs us → Paired F ys ws → Paired F (xs ++ ys) (us ++ ws)
  | _, _, _, _, .nil, s => s
  | _, _, _, _, .cons r t, s => .cons r (prd_app t s)
theorem prd_take {α β : Type} {F : α → β → Prop} : ∀ {xs : List α} {us : List β} (n : Nat), Paired F xs us → Paired F (xs.take n) (us.take n)
  | _, _, 0, _ => .nil
  | _, _, _ + 1, .nil => .nil
  | _, _, n + 1, .cons r t => .cons r (prd_take n t)
theorem prd_drop {α β : Type} {F : α → β → Prop} : ∀ {xs : List α} {us : List β} (n : Nat), Paired F xs us → Paired F (xs.drop n) (us.drop n)
  | _, _, 0, r => r
  | _, _, _ + 1, .nil => .nil
  | _, _, n + 1, .cons _ t => prd_drop n t
theorem prd_getR {α β : Type} {F : α → β → Prop} : ∀ {xs : List α} {us : List β} {i : Nat} {u : β}, Paired F xs us → us[i]? = some u → ∃ x, xs[i]? = some x ∧ F x u
  | _, _, _, _, .nil, h => by simp at h
  | _, _, 0, _, .cons r _, h => by simp at h; subst h; exact ⟨_, rfl, r⟩
  | _, _, i + 1, x, .cons _ t, h => by
    obtain ⟨u, h1, h2⟩ := prd_getR (i := i) (u := x) t (by simpa using h)
    exact ⟨u, by simpa using h1, h2⟩
def insQ (q : Rat) (l : List Rat) : List Rat := l.takeWhile (fun x => decide (x < q)) ++ q :: l.dropWhile (fun x => decide (x < q))
def isort (ns : List Rat) : List Rat := ns.foldl (fun acc q => insQ q acc) []
theorem insQ_len (q : Rat) (l : List Rat) : (insQ q l).length = l.length + 1 := by
  have h := congrArg List.length (List.takeWhile_append_dropWhile (p := fun x => decide (x < q)) (l := l))
  unfold insQ
  rw [List.length_append] at h ⊢
  rw [List.length_cons]
  omega
theorem insQ_mem {q x : Rat} {l : List Rat} : x ∈ insQ q l ↔ x = q ∨ x ∈ l := by
  have h : x ∈ l ↔ x ∈ l.takeWhile (fun x => decide (x < q)) ∨ x ∈ l.dropWhile (fun x => decide (x < q)) := by
    rw [← List.mem_append, List.takeWhile_append_dropWhile]
  unfold insQ
  rw [List.mem_append, List.mem_cons, h]
  constructor
  · rintro (h | h | h)
    · exact .inr (.inl h)
    · exact .inl h
    · exact .inr (.inr h)
  · rintro (h | h | h)
    · exact .inr (.inl h)
    · exact .inl h
    · exact .inr (.inr h)
theorem isort_len (ns : List Rat) : (isort ns).length = ns.length := by
  have key : ∀ (l acc : List Rat), (l.foldl (fun acc q => insQ q acc) acc).length = acc.length + l.length := by
    intro l
    induction l with
    | nil => intro acc; rfl
    | cons q l ih =>
      intro acc
      show (l.foldl _ (insQ q acc)).length = _
      rw [ih, insQ_len, List.length_cons]
      omega
  unfold isort
  rw [key]
  simp
theorem isort_mem {ns : List Rat} {x : Rat} : x ∈ isort ns ↔ x ∈ ns := by
  have key : ∀ (l acc : List Rat), x ∈ l.foldl (fun acc q => insQ q acc) acc ↔ x ∈ acc ∨ x ∈ l := by
    intro l
    induction l with
    | nil => intro acc; simp
    | cons q l ih =>
      intro acc
      show x ∈ l.foldl _ (insQ q acc) ↔ _
      rw [ih, insQ_mem, List.mem_cons]
      constructor
      · rintro ((h | h) | h)
        · exact .inr (.inl h)
        · exact .inl h
        · exact .inr (.inr h)
      · rintro (h | h | h)
        · exact .inl (.inr h)
        · exact .inl (.inl h)
        · exact .inr h
  unfold isort
  rw [key]
  simp
theorem rlt {a b c : Rat} (h1 : a < b) (h2 : b < c) : a < c := Rat.not_le.mp fun h => Rat.not_le.mpr h2 (Rat.le_trans h (Rat.le_of_lt h1))
def climbB (qs : List Rat) : Bool := (qs.zip qs.tail).all fun e => decide (e.1 < e.2)
theorem climbB_iff {qs : List Rat} : climbB qs = true ↔ qs.Pairwise (· < ·) := by
  induction qs with
  | nil => simp [climbB]
  | cons q r ih =>
    cases r with
    | nil => simp [climbB]
    | cons p r =>
      have e : climbB (q :: p :: r) = (decide (q < p) && climbB (p :: r)) := rfl
      rw [e, Bool.and_eq_true, ih, decide_eq_true_iff]
      constructor
      · rintro ⟨h1, h2⟩
        refine List.pairwise_cons.mpr ⟨fun x hx => ?_, h2⟩
        rcases List.mem_cons.mp hx with rfl | hx
        · exact h1
        · exact rlt h1 ((List.pairwise_cons.mp h2).1 x hx)
      · intro h
        have h1 := List.pairwise_cons.mp h
        exact ⟨h1.1 p (by simp), h1.2⟩
theorem takeW_mem {α : Type} {p : α → Bool} : ∀ {l : List α} {x : α}, x ∈ l.takeWhile p → p x = true
  | [], _, h => by simp at h
  | y :: l, x, h => by
    rw [List.takeWhile_cons] at h
    cases hy : p y with
    | true =>
      rw [hy, if_pos rfl] at h
      rcases List.mem_cons.mp h with rfl | h
      · exact hy
      · exact takeW_mem h
    | false =>
      rw [hy] at h
      simp at h
theorem dropW_head {α : Type} {p : α → Bool} : ∀ {l : List α} {x : α} {r : List α}, l.dropWhile p = x :: r → p x = false
  | [], _, _, h => by simp at h
  | y :: l, x, r, h => by
    rw [List.dropWhile_cons] at h
    cases hy : p y with
    | true => rw [hy, if_pos rfl] at h; exact dropW_head h
    | false =>
      rw [hy, if_neg Bool.false_ne_true] at h
      injection h with h1 _
      subst h1
      exact hy
theorem insQ_sorted {q : Rat} {l : List Rat} (h : l.Pairwise (· ≤ ·)) : (insQ q l).Pairwise (· ≤ ·) := by
  have hl : (l.takeWhile (fun x => decide (x < q)) ++ l.dropWhile (fun x => decide (x < q))).Pairwise (· ≤ ·) := by rw [List.takeWhile_append_dropWhile]; exact h
  obtain ⟨h1, h2, h3⟩ := List.pairwise_append.mp hl
  unfold insQ
  refine List.pairwise_append.mpr ⟨h1, List.pairwise_cons.mpr ⟨fun y hy => ?_, h2⟩, fun x hx y hy => ?_⟩
  · cases hd : l.dropWhile (fun x => decide (x < q)) with
    | nil => rw [hd] at hy; simp at hy
    | cons z r =>
      have hz : q ≤ z := Rat.not_lt.mp (of_decide_eq_false (dropW_head (p := fun x => decide (x < q)) hd))
      rw [hd] at hy h2
      rcases List.mem_cons.mp hy with rfl | hy
      · exact hz
      · exact Rat.le_trans hz ((List.pairwise_cons.mp h2).1 y hy)
  · have hx' : x < q := of_decide_eq_true (takeW_mem (p := fun x => decide (x < q)) hx)
    rcases List.mem_cons.mp hy with rfl | hy
    · exact Rat.le_of_lt hx'
    · exact h3 x hx y hy
theorem isort_sorted (ns : List Rat) : (isort ns).Pairwise (· ≤ ·) := by
  have key : ∀ (l acc : List Rat), acc.Pairwise (· ≤ ·) → (l.foldl (fun acc q => insQ q acc) acc).Pairwise (· ≤ ·) := by
    intro l
    induction l with
    | nil => intro acc h; exact h
    | cons q l ih => intro acc h; exact ih _ (insQ_sorted h)
  exact key ns [] .nil
theorem climb_ext : ∀ {ps qs : List Rat}, ps.Pairwise (· < ·) → qs.Pairwise (· < ·) → (∀ x, x ∈ ps ↔ x ∈ qs) → ps = qs
  | [], [], _, _, _ => rfl
  | [], q :: r, _, _, h => absurd ((h q).mpr (by simp)) (by simp)
  | p :: r, [], _, _, h => absurd ((h p).mp (by simp)) (by simp)
  | p :: ps, q :: qs, h1, h2, h => by
    obtain ⟨a1, b1⟩ := List.pairwise_cons.mp h1
    obtain ⟨a2, b2⟩ := List.pairwise_cons.mp h2
    have e : p = q := by
      rcases List.mem_cons.mp ((h p).mp (by simp)) with e | m
      · exact e
      · rcases List.mem_cons.mp ((h q).mpr (by simp)) with e | m'
        · exact e.symm
        · exact absurd (rlt (a2 p m) (a1 q m')) (Rat.lt_irrefl)
    subst e
    have hh : ∀ x, x ∈ ps ↔ x ∈ qs := fun x => by
      constructor
      · intro hx
        rcases List.mem_cons.mp ((h x).mp (List.mem_cons_of_mem _ hx)) with e | m
        · subst e; exact absurd (a1 x hx) Rat.lt_irrefl
        · exact m
      · intro hx
        rcases List.mem_cons.mp ((h x).mpr (List.mem_cons_of_mem _ hx)) with e | m
        · subst e; exact absurd (a2 x hx) Rat.lt_irrefl
        · exact m
    rw [climb_ext b1 b2 hh]
theorem climb_of_sorted : ∀ {qs : List Rat}, qs.Pairwise (· ≤ ·) → qs.Nodup → qs.Pairwise (· < ·)
  | [], _, _ => .nil
  | q :: r, h, n => by
    obtain ⟨a, b⟩ := List.pairwise_cons.mp h
    obtain ⟨c, d⟩ := List.nodup_cons.mp n
    refine List.pairwise_cons.mpr ⟨fun x hx => ?_, climb_of_sorted b d⟩
    rcases Rat.le_iff_lt_or_eq.mp (a x hx) with h | h
    · exact h
    · subst h; exact absurd hx c
theorem isort_nodup {ns : List Rat} (h : ns.Nodup) : (isort ns).Nodup := by
  have one : ∀ {q : Rat} {l : List Rat}, l.Nodup → q ∉ l → (insQ q l).Nodup := by
    intro q l hl hq
    have hp : (insQ q l).Perm (q :: l) := by
      unfold insQ
      refine List.perm_middle.trans ?_
      rw [List.takeWhile_append_dropWhile]
    exact hp.nodup_iff.mpr (List.nodup_cons.mpr ⟨hq, hl⟩)
  have key : ∀ (l acc : List Rat), (acc ++ l).Nodup → (l.foldl (fun acc q => insQ q acc) acc).Nodup := by
    intro l
    induction l with
    | nil => intro acc h; simpa using h
    | cons q l ih =>
      intro acc h
      refine ih (insQ q acc) ?_
      have hp : (insQ q acc ++ l).Perm (acc ++ q :: l) := by
        have hp1 : (insQ q acc).Perm (acc ++ [q]) := by
          unfold insQ
          refine List.perm_middle.trans ?_
          rw [List.takeWhile_append_dropWhile]
          exact (List.perm_append_comm (l₁ := [q]) (l₂ := acc))
        have := hp1.append_right l
        rw [List.append_assoc] at this
        exact this
      exact hp.nodup_iff.mpr h
  exact key ns [] (by simpa using h)
theorem isort_climb {ns qs : List Rat} (hq : qs.Pairwise (· < ·)) (hp : ns.Perm qs) : isort ns = qs := by
  have nd : ns.Nodup := hp.nodup_iff.mpr (hq.imp fun h e => by subst e; exact absurd h Rat.lt_irrefl)
  refine climb_ext (climb_of_sorted (isort_sorted ns) (isort_nodup nd)) hq fun x => ?_
  rw [isort_mem]
  exact hp.mem_iff
end Fm
namespace Fm
open PySem PySem.Spec PyProof.Rows L2
section
variable {K : PySem.W.Frag} {σ : L2.St} {H : Hp} {Q : VK} {D : Ends} {g : TG} {tb : TS} {tt : TT} {te tl : TE} {vs : List Nat}
theorem lp_Q {p : Addr} {xs : List V} (ht : ∀ Q : VK, Q (.ref p) H → tl σ H Q) (hp : H p = some (.lst xs) ∨ H p = some (.tup xs)) (Pv : Nat → L2.St → Hp → Prop) (h0 : Pv 0 σ H) (hk : ∀ i σ' H', Pv i σ' H' → H' p = H p)
    (hs : ∀ i x σ' H', xs[i]? = some x → Pv i σ' H' → g x σ' H' fun s2 H2 => tb { D with nx := Pv (i + 1), ct := Pv (i + 1), bk := D.nx } s2 H2) (hd : ∀ σ' H', Pv xs.length σ' H' → D.nx σ' H') :
    iList K tl σ H (fun J H1 => Lp J g tb D σ H1) ∨ iTup K tl σ H (fun J H1 => Lp J g tb D σ H1) := by
  rcases hp with hp | hp
  · exact .inl (ht _ ⟨p, rfl, ⟨xs, SqL.of hp⟩, lp_L (xs := xs) Pv h0 (fun i σ' H' _ h => SqL.of ((hk i σ' H' h).trans hp)) hs hd⟩)
  · exact .inr (ht _ ⟨p, rfl, ⟨xs, SqT.of hp⟩, lp_T (xs := xs) Pv h0 (fun i σ' H' _ h => SqT.of ((hk i σ' H' h).trans hp)) hs hd⟩)
end
theorem tw_step {α : Type} {p : α → Bool} : ∀ {l : List α} {j : Nat} {x : α}, l[j]? = some x → j ≤ (l.takeWhile p).length → (p x = true → j + 1 ≤ (l.takeWhile p).length) ∧ (p x = false → j = (l.takeWhile p).length)
  | [], _, _, h, _ => by simp at h
  | y :: l, 0, x, h, _ => by
    simp at h
    subst h
    rw [List.takeWhile_cons]
    cases hy : p y <;> simp
  | y :: l, j + 1, x, h, hj => by
    rw [List.takeWhile_cons] at hj ⊢
    cases hy : p y with
    | true =>
      rw [hy, if_pos rfl] at hj
      simp only [if_pos, List.length_cons] at hj ⊢
      have := tw_step (p := p) (l := l) (j := j) (x := x) (by simpa using h) (by omega)
      exact ⟨fun q => by have := this.1 q; omega, fun q => by have := this.2 q; omega⟩
    | false =>
      rw [hy] at hj
      simp at hj
theorem insQ_cut (q : Rat) (l : List Rat) : insQ q l = l.take (l.takeWhile fun x => decide (x < q)).length ++ [q] ++ l.drop (l.takeWhile fun x => decide (x < q)).length := by
  have h := List.takeWhile_append_dropWhile (p := fun x => decide (x < q)) (l := l)
  have h1 : l.take (l.takeWhile fun x => decide (x < q)).length = l.takeWhile fun x => decide (x < q) := by
    conv => lhs; arg 2; rw [← h]
    rw [List.take_left]
  have h2 : l.drop (l.takeWhile fun x => decide (x < q)).length = l.dropWhile fun x => decide (x < q) := by
    conv => lhs; arg 2; rw [← h]
    rw [List.drop_left]
  rw [h1, h2]
  unfold insQ
  simp
theorem tw_le {α : Type} {p : α → Bool} (l : List α) : (l.takeWhile p).length ≤ l.length := by
  have h := congrArg List.length (List.takeWhile_append_dropWhile (p := p) (l := l))
  rw [List.length_append] at h
  omega
theorem fineL_mem : ∀ {l : List Da} {d : Da}, fineL l = true → d ∈ l → d.fine = true
  | [], _, _, h => by simp at h
  | e :: l, d, hf, h => by
    unfold fineL at hf
    rw [Bool.and_eq_true] at hf
    rcases List.mem_cons.mp h with rfl | h
    · exact hf.1
    · exact fineL_mem hf.2 h
section
variable {K : PySem.W.Frag} {σ : L2.St} {H : Hp} {Q : VK} {ta : TA} {te : TE} {R : It → Hp → Prop}
theorem g_izip (q : ta σ H fun vs H1 => ∃ a b xs ys, vs = [.ref a, .ref b] ∧ SqL K H1 a xs ∧ SqL K H1 b ys ∧ R (Itz K a b) H1) : iZip K ta σ H R := q
theorem g_ienum (q : ta σ H fun vs H1 => ∃ a xs, vs = [.ref a] ∧ SqL K H1 a xs ∧ R (Ite K a) H1) : iEnum K ta σ H R := q
theorem g_bm0 {T : String} {r : V → List V → Hp → VK → Prop} (q : te σ H fun x H1 => tyV K T x H1 ∧ r x [] H1 Q) : tBM0 K T r te σ H Q := q
end
theorem g_mko {C : Addr} {sp : Sp} {dvs : List V} {ta : TA} {σ : L2.St} {H : Hp} {Q : XK} (q : ta σ H fun vs H1 => vs.length ≤ 1000 ∧ ∀ a, H1 a = none → sp (.ref a :: (vs ++ dvs)) (upd H1 a (exo a C none)) (fun v H2 => v = .non ∧ ∃ (d : Addr) (fs : List (Str × V)), H2 a = some (exo a C (some d)) ∧ H2 d = some (exd d fs) ∧ H1 d = none ∧ Q (.ref C) (some d) (upd (del H2 a) d (.xd fs))) (fun _ _ _ => False)) : tMkO C sp dvs ta σ H Q := q
theorem g_lenLT {K : PySem.W.Frag} {H : Hp} {Q : VK} {p : Addr} {xs : List V} (h : H p = some (.lst xs) ∨ H p = some (.tup xs)) (q : Q (.int (xs.length : Int)) H) : rLenQ K [.ref p] H Q := ⟨p, xs, rfl, h.imp SqL.of SqT.of, q⟩
theorem nums_seq {C : Addr} {H : Hp} {v : V} {d : Da} (h : DaV C H v d) (n : d.nums = true) : ∃ p xs ds, v = .ref p ∧ (d = .lst ds ∨ d = .tup ds) ∧ (H p = some (.lst xs) ∨ H p = some (.tup xs)) ∧ DaVs C H xs ds ∧ ds.all Da.isNum = true := by
  cases h with
  | lst h r => exact ⟨_, _, _, rfl, .inl rfl, .inl h, r, n⟩
  | tup h r => exact ⟨_, _, _, rfl, .inr rfl, .inr h, r, n⟩
  | _ => cases n
theorem fine_seq {d : Da} {ds : List Da} (h : d = .lst ds ∨ d = .tup ds) (f : d.fine = true) : ds.length ≤ 1000 ∧ fineL ds = true := by
  rcases h with rfl | rfl
  · unfold Da.fine at f
    rw [Bool.and_eq_true] at f
    exact ⟨of_decide_eq_true f.1, f.2⟩
  · unfold Da.fine at f
    rw [Bool.and_eq_true] at f
    exact ⟨of_decide_eq_true f.1, f.2⟩
theorem opR_or {X : Cx} {f : Value → Value → Sem Value} {r1 r2 : R2} (h1 : OpR X f r1) (h2 : OpR X f r2) : OpR X f (fun x y H Q => r1 x y H Q ∨ r2 x y H Q) := fun pins s σ H x y v u Q I rx ry h => h.elim (h1 pins s σ H x y v u Q I rx ry) (h2 pins s σ H x y v u Q I rx ry)
theorem marks_look (m : Addr) : (putF "_marks" (V.ref m) [] : List (Str × V)).lookup ("_marks" : Str) = some (.ref m) := by
  rw [lookup_putF, if_pos rfl]
theorem marks_no (m : Addr) {n : Str} (h : ¬ n = "_marks") : (putF "_marks" (V.ref m) [] : List (Str × V)).lookup n = none := by
  rw [lookup_putF, if_neg h]
  rfl
section
variable {K : PySem.W.Frag} {σ : L2.St} {H : Hp} {D : Ends} {g : TG} {tb : TS}
end
theorem asc_nodup {l : List Rat} (h : l.Pairwise (· < ·)) : l.Nodup := h.imp fun h e => by subst e; exact absurd h Rat.lt_irrefl
end Fm

set_option maxHeartbeats 2000000
namespace Fm
open PySem PySem.Spec PyProof.Rows L2
section
variable {C : Addr} {H : Hp} {a : Addr} {ks : List (Key × V)} {o : HO}
mutual
theorem DaV.lock (ha : H a = some (.dK ks)) : ∀ {v : V} {d : Da}, DaV C H v d → d.noDic = true → DaV C (upd H a o) v d
  | _, _, .non, _ => .non
  | _, _, .bl b, _ => .bl b
  | _, _, .int i, _ => .int i
  | _, _, .str s, _ => .str s
  | _, _, .rat h, _ => by
    obtain ⟨p, e, dx, hp⟩ := h
    exact .rat ⟨p, e, dx, by rw [upd_ne fun z => by rw [z, ha] at hp; cases hp]; exact hp⟩
  | _, _, .lst h r, n => .lst (by rw [upd_ne fun z => by rw [z, ha] at h; cases h]; exact h) (DaVs.lock ha r n)
  | _, _, .tup h r, n => .tup (by rw [upd_ne fun z => by rw [z, ha] at h; cases h]; exact h) (DaVs.lock ha r n)
  | _, _, .dic h r, n => by cases n
theorem DaVs.lock (ha : H a = some (.dK ks)) : ∀ {vs : List V} {ds : List Da}, DaVs C H vs ds → noDicL ds = true → DaVs C (upd H a o) vs ds
  | _, _, .nil, _ => .nil
  | _, _, .cons h r, n => by
    unfold noDicL at n
    rw [Bool.and_eq_true] at n
    exact .cons (DaV.lock ha h n.1) (DaVs.lock ha r n.2)
end
end

mutual
inductive DpN (H0 H : Hp) : V → PyData → Prop
  | int (i : Int) : DpN H0 H (.int i) (.int i)
  | str (s : Str) : DpN H0 H (.str s) (.str s)
  | lst {p : Addr} {xs : List V} {ds : List PyData} (n : H0 p = none) (h : H p = some (.lst xs)) (r : DpNs H0 H xs ds) : DpN H0 H (.ref p) (.list ds)
  | tup {p : Addr} {xs : List V} {ds : List PyData} (n : H0 p = none) (h : H p = some (.tup xs)) (r : DpNs H0 H xs ds) : DpN H0 H (.ref p) (.tuple ds)
inductive DpNs (H0 H : Hp) : List V → List PyData → Prop
  | nil : DpNs H0 H [] []
  | cons {v : V} {d : PyData} {vs : List V} {ds : List PyData} (h : DpN H0 H v d) (r : DpNs H0 H vs ds) : DpNs H0 H (v :: vs) (d :: ds)
end
section
variable {K : PySem.W.Frag} {H0 H : Hp}
mutual
theorem DpN.mono {H' : Hp} (e : Ex H H') : ∀ {v : V} {d : PyData}, DpN H0 H v d → DpN H0 H' v d
  | _, _, .int i => .int i
  | _, _, .str s => .str s
  | _, _, .lst n h r => .lst n (e _ _ h) (DpNs.mono e r)
  | _, _, .tup n h r => .tup n (e _ _ h) (DpNs.mono e r)
theorem DpNs.mono {H' : Hp} (e : Ex H H') : ∀ {vs : List V} {ds : List PyData}, DpNs H0 H vs ds → DpNs H0 H' vs ds
  | _, _, .nil => .nil
  | _, _, .cons h r => .cons (DpN.mono e h) (DpNs.mono e r)
end
mutual
theorem DpN.weak {H1 : Hp} (e : ∀ p, H0 p = none → H1 p = none) : ∀ {v : V} {d : PyData}, DpN H0 H v d → DpN H1 H v d
  | _, _, .int i => .int i
  | _, _, .str s => .str s
  | _, _, .lst n h r => .lst (e _ n) h (DpNs.weak e r)
  | _, _, .tup n h r => .tup (e _ n) h (DpNs.weak e r)
theorem DpNs.weak {H1 : Hp} (e : ∀ p, H0 p = none → H1 p = none) : ∀ {vs : List V} {ds : List PyData}, DpNs H0 H vs ds → DpNs H1 H vs ds
  | _, _, .nil => .nil
  | _, _, .cons h r => .cons (DpN.weak e h) (DpNs.weak e r)
end
mutual
theorem DpN.set {D : Addr} {ob o : HO} (hD : H0 D = some ob) : ∀ {v : V} {d : PyData}, DpN H0 H v d → DpN H0 (upd H D o) v d
  | _, _, .int i => .int i
  | _, _, .str s => .str s
  | _, _, .lst n h r => .lst n (by rw [upd_ne fun z => by rw [z, hD] at n; cases n]; exact h) (DpNs.set hD r)
  | _, _, .tup n h r => .tup n (by rw [upd_ne fun z => by rw [z, hD] at n; cases n]; exact h) (DpNs.set hD r)
theorem DpNs.set {D : Addr} {ob o : HO} (hD : H0 D = some ob) : ∀ {vs : List V} {ds : List PyData}, DpNs H0 H vs ds → DpNs H0 (upd H D o) vs ds
  | _, _, .nil => .nil
  | _, _, .cons h r => .cons (DpN.set hD h) (DpNs.set hD r)
end
mutual
theorem DpN.dp : ∀ {v : V} {d : PyData}, DpN H0 H v d → Dp K H v d
  | _, _, .int i => .int i
  | _, _, .str s => .str s
  | _, _, .lst _ h r => .lst (SqL.of h) (DpNs.dp r)
  | _, _, .tup _ h r => .tup (SqT.of h) (DpNs.dp r)
theorem DpNs.dp : ∀ {vs : List V} {ds : List PyData}, DpNs H0 H vs ds → DpAll K H vs ds
  | _, _, .nil => .nil
  | _, _, .cons h r => .cons (DpN.dp h) (DpNs.dp r)
end
theorem DpNs.snoc {v : V} {d : PyData} (h : DpN H0 H v d) : ∀ {vs : List V} {ds : List PyData}, DpNs H0 H vs ds → DpNs H0 H (vs ++ [v]) (ds ++ [d])
  | _, _, .nil => .cons h .nil
  | _, _, .cons q r => .cons q (DpNs.snoc h r)
theorem DpNs.length : ∀ {vs : List V} {ds : List PyData}, DpNs H0 H vs ds → vs.length = ds.length
  | _, _, .nil => rfl
  | _, _, .cons _ r => congrArg Nat.succ r.length
end
def rReprF : List V → Hp → VK → Prop := fun xs H Q => (xs = [.non] ∧ Q (.str "None") H) ∨ (∃ b : Bool, xs = [.bl b] ∧ Q (.str ((if b then "True" else "False" : String) : Str)) H) ∨ (∃ i : Int, xs = [.int i] ∧ i.natAbs.log2 < 1920 ∧ Q (.str (toString i)) H) ∨ ∃ s : Str, xs = [.str s] ∧ (reprText s).length ≤ sizeLine ∧ Q (.str (reprText s)) H
theorem cr_reprF {X : Cx} : CallR X (.builtin "repr") rReprF := by
  intro pins s σ H xs us Q I r h
  rcases h with ⟨rfl, q⟩ | ⟨b, rfl, q⟩ | ⟨i, rfl, hi, q⟩ | ⟨x, rfl, hx, q⟩
  · obtain ⟨u, rfl, hv⟩ := vals1 r
    cases hv
    exact PySem.P.repr_of_none ⟨.str "None", H, I.tok _, ⟨_, rfl⟩, q⟩
  · obtain ⟨u, rfl, hv⟩ := vals1 r
    cases hv
    refine PySem.P.repr_of_bool ⟨.str _, H, I.tok _, ⟨_, rfl⟩, ?_⟩
    cases b <;> exact q
  · obtain ⟨u, rfl, t, rfl⟩ := vals1 r
    exact PySem.P.repr_of_int hi ⟨.str _, H, I.tok _, ⟨_, rfl⟩, q⟩
  · obtain ⟨u, rfl, t, rfl⟩ := vals1 r
    exact PySem.P.repr_of_str ⟨.str _, H, I.tok _, ⟨_, rfl⟩, q⟩ hx
theorem fine_int {i : Int} (h : (Da.int i).fine = true) : i.natAbs.log2 < 1920 := by
  unfold Da.fine at h
  have h1 : i.natAbs < 2 ^ 1500 := of_decide_eq_true h
  by_cases h0 : i.natAbs = 0
  · rw [h0]; decide
  · exact Nat.lt_of_lt_of_le ((Nat.log2_lt h0).mpr h1) (by decide)
section
variable {σ : L2.St} {H : Hp} {Q : VK} {g : TG} {te : TE} {tt : TT} {vs : List Nat}
end
theorem DaKs.at {C : Addr} {H : Hp} : ∀ {ks : List (Key × V)} {ds : List (Str × Da)} {i : Nat} {k : Key} {v : V}, DaKs C H ks ds → ks[i]? = some (k, v) → ∃ s d, ds[i]? = some (s, d) ∧ k = .inr s ∧ DaV C H v d
  | _, _, _, _, _, .nil, h => by simp at h
  | _, _, 0, k, v, .cons h _, e => by
    simp at e
    obtain ⟨rfl, rfl⟩ := e
    exact ⟨_, _, rfl, rfl, h⟩
  | _, _, i + 1, k, v, .cons _ r, e => by
    obtain ⟨s, d, h1, h2⟩ := DaKs.at (i := i) r (by simpa using e)
    exact ⟨s, d, by simpa using h1, h2⟩
theorem DaKs.length {C : Addr} {H : Hp} : ∀ {ks : List (Key × V)} {ds : List (Str × Da)}, DaKs C H ks ds → ks.length = ds.length
  | _, _, .nil => rfl
  | _, _, .cons _ r => congrArg Nat.succ r.length
theorem DaKs.look {C : Addr} {H : Hp} : ∀ {ks : List (Key × V)} {ds : List (Str × Da)} {i : Nat} {s : Str} {v : V}, DaKs C H ks ds → (ds.map (·.1)).Nodup → ks[i]? = some (.inr s, v) → valV ks (.inr s) = some v
  | _, _, _, _, _, .nil, _, h => by simp at h
  | _, _, 0, s, v, .cons h r, _, e => by
    simp at e
    obtain ⟨e1, e2⟩ := e
    subst e1
    subst e2
    unfold valV
    rw [List.find?_cons_of_pos (by simp)]
    rfl
  | _, _, i + 1, s, v, .cons (s := s0) h r, hn, e => by
    rw [List.map_cons, List.nodup_cons] at hn
    have e : _ := (by simpa using e)
    have ih := DaKs.look (i := i) (s := s) (v := v) r hn.2 e
    have hne : s0 ≠ s := fun z => hn.1 (by
      obtain ⟨s1, d1, h1, h2, _⟩ := r.at e
      injection h2 with h2
      subst h2
      rw [z]
      exact List.mem_map.mpr ⟨_, List.mem_of_getElem? h1, rfl⟩)
    unfold valV at ih ⊢
    rw [List.find?_cons_of_neg (by simp; exact hne)]
    exact ih
end Fm

set_option maxHeartbeats 2000000
namespace Fm
open PySem PySem.Spec PyProof.Rows L2
theorem insQ_perm (q : Rat) (l : List Rat) : (insQ q l).Perm (q :: l) := by
  unfold insQ
  refine List.perm_middle.trans (.cons q ?_)
  rw [List.takeWhile_append_dropWhile]
theorem foldl_ins_perm : ∀ (ns acc : List Rat), (ns.foldl (fun acc q => insQ q acc) acc).Perm (ns ++ acc)
  | [], acc => .refl _
  | q :: r, acc => (foldl_ins_perm r (insQ q acc)).trans (((insQ_perm q acc).append_left r).trans List.perm_middle)
theorem isort_perm (ns : List Rat) : (isort ns).Perm ns := by
  have h := foldl_ins_perm ns []
  rw [List.append_nil] at h
  exact h
theorem climb_nodup {ns : List Rat} (h : climbB (isort ns) = true) : ns.Nodup := (isort_perm ns).nodup_iff.mp (asc_nodup (climbB_iff.mp h))
theorem DaVs.app {C : Addr} {H : Hp} : ∀ {vs ws : List V} {ds es : List Da}, DaVs C H vs ds → DaVs C H ws es → DaVs C H (vs ++ ws) (ds ++ es)
  | _, _, _, _, .nil, q => q
  | _, _, _, _, .cons h r, q => .cons h (DaVs.app r q)
end Fm

set_option maxHeartbeats 2000000
namespace Fm
open PySem PySem.Spec PyProof.Rows L2
def insU (q : Rat) (l : List Rat) : List Rat := if (l.dropWhile (fun x => decide (x < q))).head? = some q then l else insQ q l
def dst (ns : List Rat) : List Rat := ns.foldl (fun acc q => insU q acc) []
theorem dst_snoc (ns : List Rat) (q : Rat) : dst (ns ++ [q]) = insU q (dst ns) := by
  unfold dst
  rw [List.foldl_append]
  rfl
theorem insU_has {q : Rat} {l : List Rat} (h : l.Pairwise (· < ·)) : (l.dropWhile (fun x => decide (x < q))).head? = some q ↔ q ∈ l := by
  have e := List.takeWhile_append_dropWhile (p := fun x => decide (x < q)) (l := l)
  have hl : (l.takeWhile (fun x => decide (x < q)) ++ l.dropWhile (fun x => decide (x < q))).Pairwise (· < ·) := by rw [e]; exact h
  obtain ⟨_, h2, _⟩ := List.pairwise_append.mp hl
  constructor
  · intro hh
    rw [← e]
    exact List.mem_append_right _ (List.mem_of_mem_head? hh)
  · intro hm
    rw [← e] at hm
    rcases List.mem_append.mp hm with hm | hm
    · exact absurd (of_decide_eq_true (takeW_mem (p := fun x => decide (x < q)) hm)) Rat.lt_irrefl
    · cases hd : l.dropWhile (fun x => decide (x < q)) with
      | nil => rw [hd] at hm; simp at hm
      | cons z r =>
        have hz : q ≤ z := Rat.not_lt.mp (of_decide_eq_false (dropW_head (p := fun x => decide (x < q)) hd))
        rw [hd] at hm h2
        rcases List.mem_cons.mp hm with rfl | hm
        · rfl
        · exact absurd ((List.pairwise_cons.mp h2).1 q hm) (Rat.not_lt.mpr hz)
theorem insQ_strict {q : Rat} {l : List Rat} (h : l.Pairwise (· < ·)) (hq : q ∉ l) : (insQ q l).Pairwise (· < ·) :=
  climb_of_sorted (insQ_sorted (h.imp fun h => Rat.le_of_lt h)) ((insQ_perm q l).nodup_iff.mpr (List.nodup_cons.mpr ⟨hq, asc_nodup h⟩))
theorem dst_key : ∀ (l acc : List Rat), acc.Pairwise (· < ·) → (l.foldl (fun acc q => insU q acc) acc).Pairwise (· < ·) ∧ (∀ x, x ∈ l.foldl (fun acc q => insU q acc) acc ↔ x ∈ acc ∨ x ∈ l) ∧
    (l.foldl (fun acc q => insU q acc) acc).length ≤ acc.length + l.length ∧ ((l.foldl (fun acc q => insU q acc) acc).length = acc.length + l.length → (acc ++ l).Nodup) := by
  intro l
  induction l with
  | nil => intro acc h; exact ⟨h, fun x => by simp, by simp, fun _ => by simpa using asc_nodup h⟩
  | cons q l ih =>
    intro acc h
    by_cases hq : q ∈ acc
    · have e : insU q acc = acc := by unfold insU; rw [if_pos ((insU_has h).mpr hq)]
      have r := ih acc h
      rw [List.foldl_cons, e, List.length_cons]
      refine ⟨r.1, fun x => (r.2.1 x).trans ?_, by have := r.2.2.1; omega, fun h => by have := r.2.2.1; omega⟩
      rw [List.mem_cons]
      constructor
      · rintro (h | h)
        · exact .inl h
        · exact .inr (.inr h)
      · rintro (h | rfl | h)
        · exact .inl h
        · exact .inl hq
        · exact .inr h
    · have e : insU q acc = insQ q acc := by unfold insU; rw [if_neg (fun w => hq ((insU_has h).mp w))]
      have r := ih (insQ q acc) (insQ_strict h hq)
      have hl := insQ_len q acc
      rw [List.foldl_cons, e, List.length_cons]
      refine ⟨r.1, fun x => (r.2.1 x).trans ?_, by have := r.2.2.1; omega, fun h => ?_⟩
      · rw [List.mem_cons, insQ_mem]
        constructor
        · rintro ((h | h) | h)
          · exact .inr (.inl h)
          · exact .inl h
          · exact .inr (.inr h)
        · rintro (h | h | h)
          · exact .inl (.inr h)
          · exact .inl (.inl h)
          · exact .inr h
      · have n := r.2.2.2 (by omega)
        have p : (insQ q acc ++ l).Perm (acc ++ q :: l) := ((insQ_perm q acc).append_right l).trans (List.perm_middle (l₁ := acc) (l₂ := l) (a := q)).symm
        exact p.nodup_iff.mp n
theorem dst_asc (ns : List Rat) : (dst ns).Pairwise (· < ·) := (dst_key ns [] .nil).1
theorem dst_mem {ns : List Rat} {x : Rat} : x ∈ dst ns ↔ x ∈ ns := ((dst_key ns [] .nil).2.1 x).trans (by simp)
theorem dst_len (ns : List Rat) : (dst ns).length ≤ ns.length := by
  have h := (dst_key ns [] .nil).2.2.1
  show (ns.foldl (fun acc q => insU q acc) []).length ≤ _
  simpa using h
theorem dst_nodup {ns : List Rat} (h : ns.length ≤ (dst ns).length) : ns.Nodup := by
  have := (dst_key ns [] .nil).2.2.2 (by have := dst_len ns; unfold dst at this h; simp; omega)
  simpa using this
theorem dst_isort {ns : List Rat} (h : ns.Nodup) : dst ns = isort ns :=
  climb_ext (dst_asc ns) (climb_of_sorted (isort_sorted ns) (isort_nodup h)) fun x => dst_mem.trans isort_mem.symm
theorem dst_climb (ns : List Rat) : (ns.length ≤ (dst ns).length ↔ climbB (isort ns) = true) ∧ (climbB (isort ns) = true → dst ns = isort ns) := by
  have b : climbB (isort ns) = true → ns.Nodup := climb_nodup
  refine ⟨⟨fun h => ?_, fun h => ?_⟩, fun h => dst_isort (b h)⟩
  · rw [← dst_isort (dst_nodup h)]
    exact climbB_iff.mpr (dst_asc ns)
  · rw [dst_isort (b h), isort_len]
    exact Nat.le_refl _
end Fm

set_option maxHeartbeats 2000000
namespace Fm
open PySem PySem.Spec PyProof.Rows L2
structure Cl where
  cls : Value
  slot : Option Nat
  ts : Addr → Value → Option Addr → TS
def Ends.drop (i : Nat) (D : Ends) : Ends := { nx := fun m G => D.nx (m.set i none) G, rt := D.rt, bk := fun m G => D.bk (m.set i none) G, ct := fun m G => D.ct (m.set i none) G }
def Cl.wish (c : Cl) (a : Addr) (cls : Value) (d : Option Addr) (D : Ends) (m : L2.St) (G : Hp) : Prop := match c.slot with
  | none => c.ts a cls d D m G
  | some i => c.ts a cls d (Ends.drop i D) (m.set i (some (.ref a))) G
def wCls (K : PySem.W.Frag) (W : WX) (D : Ends) : List Cl → WX
  | [] => W
  | c :: r => fun cls d m G => ∃ b, PySem.W.exmOne K cls c.cls = some b ∧ (b = true → ∀ a, G a = none → c.wish a cls d D m G) ∧ (b = false → wCls K W D r cls d m G)
def NameOk (X : Cx) (nm : Option Str) (sl : Option Nat) : Prop := match nm, sl with
  | none, none => True
  | some n, some i => X.N[i]? = some n ∧ X.env.kindOf n = some .local
  | _, _ => False
inductive ClsOk (X : Cx) : List ExceptHandler → List Cl → Prop
  | nil : ClsOk X [] []
  | cons {x : Str} {nm : Option Str} {c : Cl} {b : Stmt} {su : List Stmt} {np p : Pos} {hs : List ExceptHandler} {l : List Cl} (nok : NameOk X nm c.slot) (hc : Names X x c.cls)
      (hsu : ∀ (a : Addr) (oe : Obj) (k : Value) (d : Option Addr) (pn : List (Addr × Obj)), Zc k d oe → (∃ vs, oe.data = .fields vs) → PSs (X.suite a ((a, oe) :: pn)) (b :: su) (c.ts a k d)) (r : ClsOk X hs l) :
      ClsOk X (.ExceptHandler (some (.Name x np)) nm (b :: su) p :: hs) (c :: l)
section
variable {X : Cx}
theorem sp_ofTry {pins : List (Addr × Obj)} {xe : Value → Shared → Prop} {D : Ends} {f : Flow} {s : Shared} (ok : X.Ok) (h : SP (X.tr (X.pn ++ pins) xe) [] D f s) : SP X pins D f s := by
  cases f with
  | ret u => exact let ⟨v, m, G, J, r, q⟩ := h; ⟨v, m, G, J.ofTry ok, r, q⟩
  | _ => exact let ⟨m, G, J, q⟩ := h; ⟨m, G, J.ofTry ok, q⟩
theorem sp_unsuite {pins : List (Addr × Obj)} {D : Ends} {f : Flow} {s : Shared} {a : Addr} {oe : Obj} (ok : X.Ok) (h : SP (X.suite a ((a, oe) :: (X.pn ++ pins))) [] D f s) : SP X pins D f s := by
  cases f with
  | ret u => exact let ⟨v, m, G, J, r, q⟩ := h; ⟨v, m, G, J.unsuite ok, r, q⟩
  | _ => exact let ⟨m, G, J, q⟩ := h; ⟨m, G, J.unsuite ok, q⟩
end
end Fm

set_option maxHeartbeats 2000000
namespace Fm
open PySem PySem.Spec PyProof.Rows L2
inductive ClsOkN (X : Cx) : List ExceptHandler → List Cl → Prop
  | nil : ClsOkN X [] []
  | cons {x : Str} {nm : Option Str} {c : Cl} {b : Stmt} {su : List Stmt} {np p : Pos} {hs : List ExceptHandler} {l : List Cl} (nok : NameOk X nm c.slot) (hc : Names X x c.cls)
      (hsu : ∀ (a : Addr) (oe : Obj) (k : Value) (d : Option Addr) (pn : List (Addr × Obj)), L2N.Zn k d oe → (∃ vs, oe.data = .fields vs) → PSs (X.suite a ((a, oe) :: pn)) (b :: su) (c.ts a k d)) (r : ClsOkN X hs l) :
      ClsOkN X (.ExceptHandler (some (.Name x np)) nm (b :: su) p :: hs) (c :: l)
section
variable {X : Cx}
theorem ps_try_clsN {X : Cx} {body : List Stmt} {h1 : ExceptHandler} {hs : List ExceptHandler} {l : List Cl} {pos : Pos} {tb : WX → TS} {W : WX} (st : X.stack = X.env :: X.outer) (fr : X.env.frame = some X.env.locals) (nd : X.N.Nodup) (tk : L2N.Takes X W)
    (hb : ∀ (V : WX) (pn : List (Addr × Obj)) (xe : Value → Shared → Prop), L2N.Takes (X.tr pn xe) V → PassesOwn (model X.prog X.w) X.A X.env xe → PSs (X.tr pn xe) body (tb V)) (hk : ClsOkN X (h1 :: hs) l) :
    PS X (.Try body (h1 :: hs) [] [] pos) (fun D m G => tb (wCls X.K W D l) D m G) := by
  constructor
  intro pins s₀ m₀ G₀ D I₀ hh
  have ok := I₀.ok
  have frames : X.A.frames = some (X.env :: X.outer) := ok.frames.trans (congrArg some st)
  apply wpAny_Try_except
  have R := (hb (wCls X.K W D l) (X.pn ++ pins) (fun e x1 => wpAny (model X.prog X.w) X.A (noteFrame e X.env) (fun _ x2 => wpAny (model X.prog X.w) X.A (setFlight e none) (fun _ x3 => wpAny (model X.prog X.w) X.A (handleBy e X.env (h1 :: hs)) (SP X pins D) X.xe x3) X.xe x2) X.xe x1) ?_ PassesOwn.looking).run [] s₀ m₀ G₀ D (I₀.toTry _) hh
  · refine wpAny_mono R (fun f x q => ?_) fun _ _ q => q
    have q2 := sp_ofTry ok q
    cases f with
    | next => exact let ⟨m, G, J, z⟩ := q2; wpAny_execs_nil ⟨m, G, J, z⟩
    | _ => exact q2
  intro u x ⟨e, B, y, pin2, m, G, k, d, eu, J2, nb, up, air, free, os, bare, wish⟩
  subst eu
  have J : Inv X pins m G y := J2.ofTry ok
  rw [show (X.tr (X.pn ++ pins) _).stack = X.env :: X.outer from st] at air
  show wpAny (model X.prog X.w) X.A (noteFrame (.ref e) X.env) _ _ _
  refine L2N.Sky.land L2N.Zn.steady frames fr air fun g1 fly1 up1 => ?_
  have L1 : Inv X pins m G { x with heap := g1 } := J.landed nb fly1.1 (up.trans up1) os bare
  obtain ⟨oe, vs, at1, z1, da⟩ := fly1.there
  have off : e ∉ frs (X.env :: X.outer) := fun hm => by
    obtain ⟨_, o2, at2, no⟩ := fly1.2.2.1.mem hm
    rw [at1] at at2
    cases at2
    exact no _ da
  have offL : e ≠ X.env.locals := fun z => off (List.mem_filterMap.mpr ⟨X.env, List.mem_cons_self, by rw [fr, z]⟩)
  have offF : e ∉ X.fs := fun hm => let ⟨v, hv, z⟩ := List.mem_filterMap.mp hm; off (List.mem_filterMap.mpr ⟨v, List.mem_cons_of_mem _ hv, z⟩)
  have S1 := L1.suite at1 da free offL offF
  suffices go : ∀ {hs' : List ExceptHandler} {l' : List Cl}, ClsOkN X hs' l' → wCls X.K W D l' k d m G → wpAny (model X.prog X.w) X.A (handleBy (.ref e) X.env hs') (SP X pins D) X.xe { x with heap := g1 } from go hk wish
  intro hs' l' ck
  induction ck with
  | nil =>
    intro out
    apply wpAny_handleBy_nil
    have fly := fly1
    obtain ⟨_, _, _, o2, vs2, T, _, _, at2, _, da2, tb2, _⟩ := fly1
    unfold PySem.passOn
    apply wpAny_bind
    refine wpAny_field at2 da2 tb2 ?_
    rw [if_neg (by simp)]
    have last : wpAny (model X.prog X.w) X.A (setFlight (.ref e) X.env.frame) (fun _ x4 => wpAny (model X.prog X.w) X.A (throw (.ref e) : Sem Flow) (SP X pins D) X.xe x4) X.xe { x with heap := g1 } := by
      rw [fr]
      exact HandSPX.setFlight_upZ fly fun g2 land2 up2 => wpAny_throw (tk _ _ ⟨e, B, y, pins, m, G, k, d, rfl, J, nb, (up.trans up1).trans up2, .inr (.inr (by rw [st]; exact land2)), free, os, bare, out⟩)
    first
      | exact wpAny_bind (wpAny_pure (wpAny_bind last))
      | exact wpAny_bind last
  | @cons nmX nm c b su np p hs2 l2 nok hc hsu _ ih =>
    intro ⟨ans, hans, yes, no⟩
    refine wpAny_handleBy_cons (codeAny_handlers_test ?_) (by intro q; cases q)
    have ty : PySem.W.Looks (model X.prog X.w) g1 (typeOf (.ref e)) k := fun _ _ _ _ kp q => wpAny_typeOf_ref (kp _ _ at1) (by rw [z1.1]; exact q)
    have look : ∀ {Q : Value → Shared → Prop} {F : Value → Shared → Prop}, Q c.cls { x with heap := g1 } → wpAny (model X.prog X.w) (X.A.mark (some (.ref e))) (eval (.Name nmX np) X.env) Q F { x with heap := g1 } := fun q => by
      rcases hc with ⟨g, dbg, own | ⟨free', blt, nn⟩⟩
      · exact ld_glob (X := X.suite e ((e, oe) :: (X.pn ++ pins))) S1 g own q dbg
      · exact ld_blt (X := X.suite e ((e, oe) :: (X.pn ++ pins))) S1 g free' blt q nn dbg
    refine look ((PySem.W.exm_one (M := model X.prog X.w) L1.kIn ty hans).here ?_)
    cases ans with
    | false => exact ih (no rfl)
    | true =>
      have w1 := yes rfl e free
      match nm, hsl : c.slot, nok with
      | none, none, _ =>
        refine codeAny_handlers_suite (HandSPX.lands_againZ fly1 fun g2 fly2 up2 => ?_)
        obtain ⟨oe2, vs2, at2, z2, da2⟩ := fly2.there
        have S2 := (J.landed nb fly2.1 ((up.trans up1).trans up2) os bare : Inv X pins m G { x with heap := g2 }).suite at2 da2 free offL offF
        unfold Cl.wish at w1
        rw [hsl] at w1
        exact wpAny_mono ((hsu e oe2 k d (X.pn ++ pins) z2 ⟨_, da2⟩).run [] _ _ G _ S2 w1) (fun f _ q => sp_unsuite ok q) fun _ _ q => q.elim
      | some n, some i, ⟨hi, hl⟩ =>
        refine codeAny_handlers_suite_as (HandSPX.lands_againZ fly1 fun g2 fly2 up2 => ?_)
        obtain ⟨oe2, vs2, at2, z2, da2⟩ := fly2.there
        have S2 := (J.landed nb fly2.1 ((up.trans up1).trans up2) os bare : Inv X pins m G { x with heap := g2 }).suite at2 da2 free offL offF
        unfold Cl.wish at w1
        rw [hsl] at w1
        refine store_ok (X := X.suite e ((e, oe2) :: (X.pn ++ pins))) (v := .ref e) S2 nd hi (.inl hl) rfl (fun x5 S5 => ?_) (.inr hl)
        refine wpAny_mono ((hsu e oe2 k d (X.pn ++ pins) z2 ⟨_, da2⟩).run [] x5 _ G _ S5 w1) (fun f x6 q => ?_) fun _ _ q => q.elim
        cases f with
        | ret u => exact let ⟨v, m6, G6, S6, r6, q6⟩ := q; gone_ok (S6.unsuite ok) nd hi hl fun x7 J7 => ⟨v, _, _, J7, r6, q6⟩
        | _ => exact let ⟨m6, G6, S6, q6⟩ := q; gone_ok (S6.unsuite ok) nd hi hl fun x7 J7 => ⟨_, _, J7, q6⟩
end
end Fm

set_option maxHeartbeats 2000000
namespace Fm
open PySem PySem.Spec PyProof.Rows L2
section
variable {X : Cx} {ta : TA} {e : Expr} {es : List Expr} {p pos : Pos}
theorem pmk_oexN {CX : CXT} {x : Str} {C fI : Addr} {k : Nat} {fd : FuncData} {ps : List Str} {sp : Sp} {ds : List Value} {dvs : List V} (T : OexC X.K C) (iC : PySem.W.findIn X.K (.ref C) "__init__" = some (some (.ref fI))) (tI : PySem.W.typeIn X.K (.ref fI) = some (.type "function"))
    (F1 : FnOk X.prog X.w X.K X.mg X.base CX k fI fd ps sp) (hr : Room (k + 1) X.A) (hb : Binds X.K fd ps ds) (hd : Vals dvs ds) (hx : Passes CX X (fun _ _ _ => False)) (hg : Gl X x) (hm : X.mg x = some (.ref C)) (ha : PA X (e :: es) ta)
    (hdb : (x == ("__debug__" : Str)) = false := by decide) (he : starEach (e :: es) X.env = (false, eval e X.env) :: starEach es X.env := by rfl) (hpl : (backTo pos (starEach es X.env)).any (·.1) = false := by rfl) :
    L2N.PMk X (.Call (.Name x p) (e :: es) [] pos) (tMkO C sp dvs ta) := by
  intro pins s σ H Q I h
  obtain ⟨nm, q, N, bs, bm, sn, sub, ab, col, dd, k0, k1, k2, k3, k5, hC, hbm⟩ := T.cls
  refine wpAny_Call_Name_kw (ld_glob I hg hm ?_ hdb)
  refine PySem.W.callWith_K (h₀ := X.base) I.ok.mod.kin T.kC (thn (ha.run pos pins s σ H _ I h) fun us s1 ⟨vs, H1, I1, r1, hz, q1⟩ => ⟨I1.kIn, ?_⟩) he hpl
  show wpAny _ _ (call (.ref C) us) _ _ _
  obtain ⟨hp, g, dr, tk, os⟩ := s1
  have hsz : hp.objs.size ≤ hp.objs.size + 1 := Nat.le_succ _
  have hn : H1 (hp.objs.size + 1) = none := I1.hok.fresh hsz
  have hq := q1 (hp.objs.size + 1) hn
  have kk : ∀ b o, hp.get? b = some o → ((hp.push (PySem.W.kdv_tup us)).push (PySem.HandSPX.excO C hp.objs.size)).get? b = some o := fun b o e => Heap.get?_push_of_some _ (Heap.get?_push_of_some _ e)
  have hget : ((hp.push (PySem.W.kdv_tup us)).push (PySem.HandSPX.excO C hp.objs.size)).get? (hp.objs.size + 1) = some (PySem.HandSPX.excO C hp.objs.size) := by heap_get
  have I2 : Inv X pins σ (upd H1 (hp.objs.size + 1) (exo (hp.objs.size + 1) C none)) ⟨(hp.push (PySem.W.kdv_tup us)).push (PySem.HandSPX.excO C hp.objs.size), g, dr, tk, os⟩ :=
    I1.laid (t' := tk) (a := hp.objs.size + 1) (o := exo (hp.objs.size + 1) C none) (h' := (hp.push (PySem.W.kdv_tup us)).push (PySem.HandSPX.excO C hp.objs.size)) kk hsz (exo_ok hget)
  have r2 : Vals (V.ref (hp.objs.size + 1) :: (vs ++ dvs)) (Value.ref (hp.objs.size + 1) :: (us ++ ds)) := .cons rfl (r1.append hd)
  have hl : (Value.ref (hp.objs.size + 1) :: us ++ ds).length = ps.length := by
    have e := r2.length
    rw [F1.len _ _ _ _ hq] at e
    exact e.symm
  have hus : us.length ≤ sizeLine := by
    rw [← Paired.length r1, sizeLine_eq]
    omega
  refine wpAny_call (PySem.HandSPX.call_own F.excBase_ValueError (fun Y => PySem.HandSPX.refsVE_contains Y bm hbm) (I1.kIn _ _ hC) (PySem.W.looks_findIn I1.kIn iC) (fun self => PySem.W.bind_fn I1.kIn self tI) hus
    (codeAny_mono (F1.run _ X.stack _ _ ⟨Value.ref (hp.objs.size + 1) :: us, []⟩ (Value.ref (hp.objs.size + 1) :: (us ++ ds)) _ _ (fun _ _ _ => False) (hr.make C us []) (I2.env0.make C us []) (hb _ (Value.ref (hp.objs.size + 1) :: us) I2.kIn hl) r2 hq) fun r s' hq' => ?_))
  cases r with
  | error er => exact hx pins σ _ _ er s' I2 hq'
  | ok fl =>
    cases fl with
    | ret u =>
      obtain ⟨v, H2, os2, bare2, un2, hok2, rv, ev, d, fs, ea, ed, hd1, q2⟩ := hq'
      subst ev
      obtain ⟨h2, g2, d2, t2, os'⟩ := s'
      obtain ⟨t0, G, J, kG, ge, hoe, na⟩ := mk_end0 (d2 := d2) (t2 := t2) I1 hsz kk un2 hok2 os2 bare2 ea ed hd1
      exact ⟨rv, hp.objs.size + 1, _, _, ⟨G, g2, d2, t2, os'⟩, _, .ref C, some d, rfl, J, kG, ge, hoe, ⟨rfl, rfl, fun vs e => by cases e; rfl⟩, rfl, rfl, na, rfl, bare2, raises_own T.exC T.tyC, q2⟩
    | next => exact False.elim hq'
    | brk => exact False.elim hq'
    | cont => exact False.elim hq'
theorem passN {X : Cx} : Passes (L2N.CX X.prog X.w) X E0 := fun _ _ _ _ _ _ _ h => by
  obtain ⟨_, _, _, _, _, _, _, _, _, _, _, _, z⟩ := h
  exact z.elim
theorem takesN0 {X : Cx} : L2N.Takes X (fun _ _ _ _ => False) := fun _ _ x => by
  obtain ⟨_, _, _, _, _, _, _, _, _, _, _, _, _, _, _, _, z⟩ := x
  exact z.elim
end
end Fm

set_option maxHeartbeats 2000000
namespace Fm
open PySem PySem.Spec PyProof.Rows L2
def spNums (C : Addr) : Sp := fun vs H Q _ => ∃ (v : V) (d : Da), vs = [v] ∧ DaV C H v d ∧ d.fine = true ∧ ∀ H', Ex H H' → Q (.bl d.nums) H'
def spIns (C : Addr) : Sp := fun vs H Q _ => ∃ (o : Addr) (x : V) (rs : List V) (qs : List Rat) (q : Rat), vs = [.ref o, x] ∧ H o = some (.lst rs) ∧ RatsV C H rs qs ∧ RatV C H x q ∧ (∀ c ∈ qs, Sz 3000 c) ∧ Sz 3000 q ∧ qs.length ≤ 1000 ∧
  ∀ rs' H', (∀ b ob, H b = some ob → b ≠ o → H' b = some ob) → H' o = some (.lst rs') → RatsV C H' rs' (insU q qs) → Q .non H'
def spDst (C : Addr) : Sp := fun vs H Q _ => ∃ (v : V) (ds : List Da), vs = [v] ∧ (DaV C H v (.lst ds) ∨ DaV C H v (.tup ds)) ∧ ds.all Da.isNum = true ∧ fineL ds = true ∧ ds.length ≤ 1000 ∧ ∀ p rs H', H p = none → Ex H H' → H' p = some (.lst rs) → RatsV C H' rs (dst (ds.map Da.num)) → Q (.ref p) H'
def ValsOf (d : Da) (qs : List Rat) : Prop := ∃ ds : List Da, (d = .lst ds ∨ d = .tup ds) ∧ ds.all Da.isNum = true ∧ 1 ≤ ds.length ∧ ds.length ≤ 8 ∧ qs = isort (ds.map Da.num) ∧ climbB qs = true
def ScaleAt (CS C : Addr) (H : Hp) (p : Addr) (qs : List Rat) : Prop := ∃ dx m rs, H p = some (.ins CS dx (putF "_marks" (.ref m) [])) ∧ H m = some (.lst rs) ∧ RatsV C H rs qs
def spScaleInit (CS C B : Addr) : Sp := fun vs H Q E => ∃ (p dx : Addr) (v : V) (d : Da), vs = [.ref p, v] ∧ DaV C H v d ∧ d.fine = true ∧ H p = some (.ins CS dx []) ∧
  (∀ qs, ValsOf d qs → ∀ m rs H', H m = none → (∀ b o, H b = some o → b ≠ p → H' b = some o) → H' p = some (.ins CS dx (putF "_marks" (.ref m) [])) → H' m = some (.lst rs) → RatsV C H' rs qs → Q .non H') ∧
  ((∀ qs, ¬ ValsOf d qs) → ∀ dd H', H dd = none → (∀ b o, H b = some o → b ≠ p → H' b = some o) → H' dd = some (.xd [("given", v)]) → E (.ref B) (some dd) H')
def spLenS (CS C : Addr) : Sp := fun vs H Q _ => ∃ (p : Addr) (qs : List Rat), vs = [.ref p] ∧ ScaleAt CS C H p qs ∧ ∀ H', Ex H H' → Q (.int (qs.length : Int)) H'
def spMarksS (CS C : Addr) : Sp := fun vs H Q _ => ∃ (p : Addr) (qs : List Rat), vs = [.ref p] ∧ ScaleAt CS C H p qs ∧ ∀ l rs H', H l = none → Ex H H' → H' l = some (.lst rs) → RatsV C H' rs qs → Q (.ref l) H'
theorem ScaleAt.mono {CS C : Addr} {H H' : Hp} {p : Addr} {qs : List Rat} (e : Ex H H') (h : ScaleAt CS C H p qs) : ScaleAt CS C H' p qs := let ⟨dx, m, rs, h1, h2, h3⟩ := h; ⟨dx, m, rs, e _ _ h1, e _ _ h2, h3.mono e⟩
end Fm

set_option maxHeartbeats 4000000
namespace Kx
open PySem PySem.Spec PyProof.Rows L2 Fm
local macro_rules | `(tactic| walk_at "gv") => `(tactic| ((with_reducible refine' g_var ?gh ?_); (case gh => exact rfl)))
local macro_rules | `(tactic| walk_at "g1") => `(tactic| first
  | walk_at "gv"
  | with_reducible refine g_c ?_ | with_reducible refine g_op ?_ | with_reducible refine g_un ?_ | with_reducible refine g_I0 ?_ | with_reducible refine g_U ?_
  | with_reducible refine g_eqI ?_ | with_reducible refine g_neI ?_ | with_reducible refine g_eqS ?_ | with_reducible refine g_neS ?_
  | with_reducible refine g_test ?_ | with_reducible refine g_B ?_ | with_reducible refine g_bl ?_ | with_reducible refine g_not ?_ | with_reducible refine g_and ?_ | with_reducible refine g_or ?_
  | with_reducible refine g_andV ?_ | with_reducible refine g_orV ?_ | with_reducible refine g_notV ?_ | with_reducible refine g_chain ?_ | with_reducible refine g_if ?_ | with_reducible refine g_ifS ?_
  | with_reducible refine g_seq ?_ | with_reducible refine g_next ?_ | with_reducible refine g_break ?_ | with_reducible refine g_cont ?_ | with_reducible refine g_drop ?_ | with_reducible refine g_ret ?_ | with_reducible refine g_retN ?_
  | with_reducible refine g_asg ?_ | with_reducible refine g_name ?_ | with_reducible refine g_par ?_ | with_reducible refine g_par2 ?_ | with_reducible refine g_fld ?_ | with_reducible refine g_sfld ?_
  | with_reducible refine g_nil ?_ | with_reducible refine g_cons ?_ | with_reducible refine g_tup ?_ | with_reducible refine g_lst ?_ | with_reducible refine g_call ?_ | with_reducible refine g_meth ?_ | with_reducible refine g_make1 ?_ | with_reducible refine g_make ?_ | with_reducible refine g_cb ?_ | with_reducible refine g_sub ?_ | with_reducible refine g_m0 ?_ | with_reducible refine g_gcons ?_ | with_reducible refine g_gnil ?_ | with_reducible refine g_for ?_ | with_reducible refine g_lc ?_ | with_reducible refine g_ilist ?_ | with_reducible refine g_itup ?_ | with_reducible refine g_rng1 ?_ | with_reducible refine g_rng3 ?_ | with_reducible refine g_yes ?_ | with_reducible refine g_sl ?_ | with_reducible refine g_nopart ?_ | with_reducible refine g_part ?_ | with_reducible refine g_exI ?_ | with_reducible refine g_m1 ?_ | with_reducible refine g_isS ?_ | with_reducible refine g_bm ?_ | with_reducible refine g_revL ?_ | with_reducible refine g_istr ?_ | with_reducible refine g_notInS ?_ | with_reducible refine g_absI ?_ | with_reducible refine g_intI ?_ | with_reducible refine g_izip ?_ | with_reducible refine g_ienum ?_ | with_reducible refine g_bm0 ?_ | with_reducible refine g_mko ?_ | with_reducible refine g_methW ?_ | with_reducible refine g_callW ?_
  | with_reducible refine iteT ?_ | with_reducible refine iteF ?_ | with_reducible refine g_gcd ?_)
local macro_rules | `(tactic| walk_at "g") => `(tactic| (repeat (first | walk_at "g1" | dsimp only [cx_K, cx_Kn, b_nt, b_nf])))
local macro_rules | `(tactic| walk_at "mul") => `(tactic| exact mulA (a := 200) (b := 200) (by omega) (by omega) (by decide))
local macro_rules | `(tactic| walk_at "pow") => `(tactic| exact ⟨by omega, by omega, by omega⟩)

section
variable {P : Program} {w : World} {K : PySem.W.Frag} {mg : Str → Option Value} {base : Heap} {a : Ad}
theorem ok_BadNumber_init (T : Tx K mg a) : FnOk P w K mg base CX0 1 a.f_BadNumber_init a.d_BadNumber_init P_BadNumber_init (spBadInit "given" a.C_BadNumber) := by
  refine def_ok0 T.F_BadNumber_init sc_BadNumber_init (fun vs H Q E h => ?_) (fun cdv A outer s H vs Q E hr h => ?_)
  · obtain ⟨e, v, rfl, _⟩ := h
    rfl
  · obtain ⟨e, v, rfl, he, z⟩ := h
    refine ⟨_, pss_one (ps_ost (pv 0) (pv 1)), ?_⟩
    exact ⟨_, rfl, _, rfl, e, a.C_BadNumber, rfl, T.oc_BadNumber, T.xa_BadNumber_given, .inl ⟨he, fun d hd hn => z d hd hn⟩⟩
theorem ok_BadValues_init (T : Tx K mg a) : FnOk P w K mg base CX0 1 a.f_BadValues_init a.d_BadValues_init P_BadValues_init (spBadInit "given" a.C_BadValues) := by
  refine def_ok0 T.F_BadValues_init sc_BadValues_init (fun vs H Q E h => ?_) (fun cdv A outer s H vs Q E hr h => ?_)
  · obtain ⟨e, v, rfl, _⟩ := h
    rfl
  · obtain ⟨e, v, rfl, he, z⟩ := h
    refine ⟨_, pss_one (ps_ost (pv 0) (pv 1)), ?_⟩
    exact ⟨_, rfl, _, rfl, e, a.C_BadValues, rfl, T.oc_BadValues, T.xa_BadValues_given, .inl ⟨he, fun d hd hn => z d hd hn⟩⟩
theorem ok_BadLot_init (T : Tx K mg a) : FnOk P w K mg base CX0 1 a.f_BadLot_init a.d_BadLot_init P_BadLot_init (spBadInit "given" a.C_BadLot) := by
  refine def_ok0 T.F_BadLot_init sc_BadLot_init (fun vs H Q E h => ?_) (fun cdv A outer s H vs Q E hr h => ?_)
  · obtain ⟨e, v, rfl, _⟩ := h
    rfl
  · obtain ⟨e, v, rfl, he, z⟩ := h
    refine ⟨_, pss_one (ps_ost (pv 0) (pv 1)), ?_⟩
    exact ⟨_, rfl, _, rfl, e, a.C_BadLot, rfl, T.oc_BadLot, T.xa_BadLot_given, .inl ⟨he, fun d hd hn => z d hd hn⟩⟩
theorem ok_BadNumbers_init (T : Tx K mg a) : FnOk P w K mg base CX0 1 a.f_BadNumbers_init a.d_BadNumbers_init P_BadNumbers_init (spBadInit "given" a.C_BadNumbers) := by
  refine def_ok0 T.F_BadNumbers_init sc_BadNumbers_init (fun vs H Q E h => ?_) (fun cdv A outer s H vs Q E hr h => ?_)
  · obtain ⟨e, v, rfl, _⟩ := h
    rfl
  · obtain ⟨e, v, rfl, he, z⟩ := h
    refine ⟨_, pss_one (ps_ost (pv 0) (pv 1)), ?_⟩
    exact ⟨_, rfl, _, rfl, e, a.C_BadNumbers, rfl, T.oc_BadNumbers, T.xa_BadNumbers_given, .inl ⟨he, fun d hd hn => z d hd hn⟩⟩
theorem ok_are_numbersD (T : Tx K mg a) : FnOk P w K mg base CX0 4 a.f_are_numbers a.d_are_numbers P_are_numbers (spNums a.C_Ratio) := by
  refine def_ok0 T.F_are_numbers sc_are_numbers (fun vs H Q E h => ?_) (fun cdv A outer s H vs Q E hr h => ?_)
  · obtain ⟨v, d, rfl, _⟩ := h
    rfl
  · obtain ⟨v, d, rfl, hv, fine, z⟩ := h
    refine ⟨_, (pss_one (ps_ret (pe_and (pe_callB call_isiT (by rfl) T.b_isinstance (by decide +kernel) (pa_cons (pv 0) (pa_cons (pe_tup (pa_cons (pe_bltn (v := .ty "list") (by rfl) T.b_list (by decide +kernel) rfl) (pa_cons (pe_bltn (v := .ty "tuple") (by rfl) T.b_tuple (by decide +kernel) rfl) pa_nil))) pa_nil))) (pe_one (pe_callB (cr_all rfl) (by rfl) T.b_all (by decide +kernel) (pa_cons (pe_lc (own := [("item", 1)]) (g := (gName 1)) (tt := tYes) rfl sc_are_numbers.nd (pi_seq (pv 0)) (blkOk_by (N := N_are_numbers) (sc := defScope s_are_numbers) (by decide +kernel)) (fun _ _ _ _ _ => pg_name (i := 1) sc_are_numbers.nd rfl (Or.inl rfl)) (fun _ _ _ _ _ => pts_nil) (fun _ _ _ _ _ => (pe_call (ok_is_number T) (hr.mono (by decide)) (by rfl) T.g_is_number T.F_is_number.kp (bd_is_number T) .nil pass0 (pa_cons (pv 1) pa_nil)))) pa_nil)))))), ?_⟩
    walk_at "g"
    refine ⟨len_lit rfl, fun tp htp => ?_⟩
    have et : Ex H (upd H tp (.tup [.ty "list", .ty "tuple"])) := Ex.new htp
    have at_ : (upd H tp (.tup [.ty "list", .ty "tuple"])) tp = some (.tup [.ty "list", .ty "tuple"]) := upd_same
    generalize (upd H tp (.tup [.ty "list", .ty "tuple"])) = H1 at et at_ ⊢
    walk_at "g"
    refine g_isiT at_ (.cons (.ty _) (.cons (.ty _) .nil)) ((hv.mono et).tyx T.R) (kit_lt T.R2 d) ?_
    refine ⟨_, rfl, ?_⟩
    have key : ∀ (p : Addr) (xs : List V) (ds : List Da), v = .ref p → DaVs a.C_Ratio H1 xs ds → ds.length ≤ 1000 → d.nums = ds.all Da.isNum → (H1 p = some (.lst xs) ∨ H1 p = some (.tup xs)) →
        tCB (rAll K) (tCons (tLc (fun σ H R => iList K (tVar 0) σ H R ∨ iTup K (tVar 0) σ H R) (gName 1) tYes (tCall (spNumber K a.C_Ratio) [] E0 (tCons (tVar 1) tNil)) (List.map (fun x => x.snd) [(Str.ofString "item", 1)])) tNil) (L2.start N_are_numbers [v]) H1 Q := by
      intro p xs ds hvp hr2 hl hn hp
      subst hvp
      walk_at "g"
      have body : ∀ D, H1 D = none → ∀ i x H', xs[i]? = some x → (Ex H1 H' ∧ H' D = some (.lst ((ds.take i).map fun d => V.bl d.isNum))) →
          Turn (gName 1) tYes (tCall (spNumber K a.C_Ratio) [] E0 (tCons (tVar 1) tNil)) (List.map (fun x => x.snd) [((Str.ofString "item" : Str), 1)]) (L2.start N_are_numbers [.ref p]) D (fun H' => Ex H1 H' ∧ H' D = some (.lst ((ds.take (i + 1)).map fun d => V.bl d.isNum))) x H' := by
        rintro D hD i x H' hx ⟨ex, hd⟩
        obtain ⟨e, he, hve⟩ := hr2.at hx
        refine ⟨rfl, ?_⟩
        walk_at "g"
        refine ⟨x, e.ty a.C_Ratio, rfl, (hve.mono ex).tyx T.R, e.kty, fun H2 e2 => ?_⟩
        rw [e.ty_num]
        refine ⟨_, e2 _ _ hd, Nat.lt_of_le_of_lt (m := 1000) (by rw [List.length_map, List.length_take]; omega) (by decide), (ex.trans e2).mut hD, ?_⟩
        rw [upd_same, take_succ_get he, List.map_append]
        rfl
      have last : ∀ D, H1 D = none → ∀ H', (Ex H1 H' ∧ H' D = some (.lst ((ds.take xs.length).map fun d => V.bl d.isNum))) → rAll K [.ref D] H' Q := by
        rintro D hD H' ⟨ex, hd⟩
        have e1 : ((ds.take xs.length).map fun d => V.bl d.isNum) = (ds.map Da.isNum).map V.bl := by
          rw [hr2.length, List.take_length, List.map_map]
          rfl
        rw [e1] at hd
        refine g_all (SqL.of hd) ?_
        rw [List.all_map, show (id ∘ Da.isNum) = Da.isNum from rfl, ← hn]
        exact z H' (et.trans ex)
      rcases hp with hp | hp
      · refine .inl ?_
        walk_at "g"
        exact ⟨p, rfl, ⟨xs, SqL.of hp⟩, cp_L (xs := xs) (fun D i H' => Ex H1 H' ∧ H' D = some (.lst ((ds.take i).map fun d => V.bl d.isNum))) (fun D hD => ⟨Ex.new hD, upd_same⟩) (fun D hD i H' _ h => SqL.of (h.1 _ _ hp)) body last⟩
      · refine .inr ?_
        walk_at "g"
        exact ⟨p, rfl, ⟨xs, SqT.of hp⟩, cp_T (xs := xs) (fun D i H' => Ex H1 H' ∧ H' D = some (.lst ((ds.take i).map fun d => V.bl d.isNum))) (fun D hD => ⟨Ex.new hD, upd_same⟩) (fun D hD i H' _ h => SqT.of (h.1 _ _ hp)) body last⟩
    have hv1 := hv.mono et
    cases hv1 with
    | lst hp r =>
      refine iteT (key _ _ _ rfl r ?_ rfl (.inl hp))
      unfold Da.fine at fine
      rw [Bool.and_eq_true] at fine
      exact of_decide_eq_true fine.1
    | tup hp r =>
      refine iteT (key _ _ _ rfl r ?_ rfl (.inr hp))
      unfold Da.fine at fine
      rw [Bool.and_eq_true] at fine
      exact of_decide_eq_true fine.1
    | _ => exact iteF (z H1 et)
theorem ok_insert_new (T : Tx K mg a) : FnOk P w K mg base CX0 6 a.f_insert_new a.d_insert_new P_insert_new (spIns a.C_Ratio) := by
  refine def_ok0 T.F_insert_new sc_insert_new (fun vs H Q E h => ?_) (fun cdv A outer s H vs Q E hr h => ?_)
  · obtain ⟨o, x, rs, qs, q, rfl, _⟩ := h
    rfl
  · obtain ⟨o, x, rs, qs, q, rfl, ho, hrs, hx, szs, szq, hl, z⟩ := h
    refine ⟨_, (pss_cons (ps_set (i := 2) sc_insert_new.nd rfl (Or.inl rfl) pe_int) (pss_cons (ps_while PassesOwn.never (PW.pt (pw_and (pt_cmpR op_lt (pv 2) (pe_callB call_lenQ (by rfl) T.b_len (by decide +kernel) (pa_cons (pv 0) pa_nil)) (nomark _)) (pw_and1 (pt_cmpR (op_cmp (fun _ _ => rfl) T.p_lt (ok_Ratio_lt T) (hr.mono (by decide)) (bd_Ratio_lt T) pass0) (pe_ix ix_list (pv 0) (pv 2) (fun _ _ => rfl)) (pv 1) (nomark _))))) (pss_one (ps_aug (i := 2) sc_insert_new.nd rfl (Or.inl rfl) pe_int ip_add))) (pss_one (ps_if (PW.pt (pw_or (pt_cmpR op_eq (pv 2) (pe_callB call_lenQ (by rfl) T.b_len (by decide +kernel) (pa_cons (pv 0) pa_nil)) (nomark _)) (pw_or1 (pt_cmpR (op_neOwn T.p_ne (ok_Ratio_eq T) (hr.mono (by decide)) (bd_Ratio_eq T) pass0) (pe_ix ix_list (pv 0) (pv 2) (fun _ _ => rfl)) (pv 1) (nomark _))))) (pss_one (ps_expr (pe_bm PySem.F.plainAttrs_list PySem.F.slot_list_insert PySem.F.type_list_insert mt_insert (pv 0) (pa_cons (pv 2) (pa_cons (pv 1) pa_nil))))) pss_nil)))), ?_⟩
    walk_at "g"
    have htw := tw_le (p := fun c => decide (c < q)) qs
    have hlen := hrs.length
    have fin : ∀ (j : Nat) H4, Ex H H4 → j = (qs.takeWhile fun c => decide (c < q)).length → (qs.dropWhile fun c => decide (c < q)).head? ≠ some q → ∀ Q2 : VK, (∀ rs' H', (∀ b ob, H b = some ob → b ≠ o → H' b = some ob) → H' o = some (.lst rs') → RatsV a.C_Ratio H' rs' (insU q qs) → Q2 .non H') →
        Q2 .non (upd H4 o (.lst (rs.take j ++ [x] ++ rs.drop j))) := by
      intro j H4 e4 ej hh Q2 z2
      have ho4 := e4 _ _ ho
      have hrs4 := hrs.mono e4
      refine z2 _ _ (fun b ob hb hne => by rw [upd_ne hne]; exact e4 _ _ hb) upd_same ?_
      rw [show insU q qs = insQ q qs by unfold insU; rw [if_neg hh], insQ_cut, ← ej]
      exact prd_app (prd_app (prd_take j (hrs4.set ho4)) (.cons ((hx.mono e4).set ho4) .nil)) (prd_drop j (hrs4.set ho4))
    have hdw : qs.drop (qs.takeWhile fun c => decide (c < q)).length = qs.dropWhile fun c => decide (c < q) := by
      have h := List.takeWhile_append_dropWhile (p := fun c => decide (c < q)) (l := qs)
      conv => lhs; arg 2; rw [← h]
      rw [List.drop_left]
    refine ⟨fun m σ' H' => ∃ j : Nat, m = rs.length - j ∧ j ≤ (qs.takeWhile fun c => decide (c < q)).length ∧ σ' = [some (.ref o), some x, some (.int (j : Int))] ∧ Ex H H', ⟨_, 0, rfl, Nat.zero_le _, rfl, Ex.refl _⟩, ?_⟩
    rintro m σ' H3 ⟨j, rfl, hj, rfl, e3⟩
    have ho3 := e3 _ _ ho
    have hrs3 := hrs.mono e3
    walk_at "g"
    refine g_lenQ (SqL.of ho3) ?_
    walk_at "g"
    refine g_dec (fun h => ?_) (fun h => ?_)
    · have hjl : j < qs.length := by omega
      obtain ⟨x', hx', hxq⟩ := prd_getR hrs3 (List.getElem?_eq_getElem hjl)
      walk_at "g"
      refine g_ixL (SqL.of ho3) (atI_nat hx') ?_
      walk_at "g"
      refine g_rel2 T.R hxq (hx.mono e3).num (szs _ (List.getElem_mem hjl)) szq (by decide) fun H4 e4 => ?_
      have ts := tw_step (p := fun c => decide (c < q)) (List.getElem?_eq_getElem hjl) hj
      have ho4 := e4 _ _ ho3
      walk_at "g"
      cases hlt : decide (qs[j] < q) with
      | true =>
        refine iteT ?_
        refine ⟨fun s2 H5 => s2 = [some (.ref o), some x, some (.int ((j + 1 : Nat) : Int))] ∧ Ex H H5, ?_, ?_⟩
        · rintro σ' H5 ⟨rfl, e5⟩
          exact ⟨rs.length - (j + 1), by omega, j + 1, rfl, ts.1 hlt, rfl, e5⟩
        · exact ⟨_, rfl, _, _, rfl, rfl, rfl, e3.trans e4⟩
      | false =>
        refine iteF ?_
        walk_at "g"
        refine g_lenQ (SqL.of ho4) ?_
        walk_at "g"
        refine g_dec (fun h2 => by omega) (fun _ => ?_)
        walk_at "g"
        refine g_ixL (SqL.of ho4) (atI_nat hx') ?_
        walk_at "g"
        refine g_neN T.R (hxq.mono e4) (hx.mono (e3.trans e4)).num szq (by decide) fun H5 e5 => ?_
        have ex5 := (e3.trans e4).trans e5
        have ej := ts.2 hlt
        have hhd : (qs.dropWhile fun c => decide (c < q)).head? = some qs[j] := by
          rw [← hdw, ← ej, List.head?_drop, List.getElem?_eq_getElem hjl]
        walk_at "g"
        refine g_ite (fun hne => ?_) (fun hne => ?_)
        · have hn : qs[j] ≠ q := of_decide_eq_false (by simpa using hne)
          walk_at "g"
          refine ⟨tyL (e5 _ _ ho4), ?_⟩
          walk_at "g"
          exact ⟨o, rs, (j : Int), x, rfl, rfl, e5 _ _ ho4, Nat.lt_of_le_of_lt (m := 1000) (by omega) (by decide), by omega, by omega, fin j H5 ex5 ej (by rw [hhd]; intro e; exact hn (Option.some.inj e)) Q z⟩
        · have hn : qs[j] = q := of_decide_eq_true (by simpa using hne)
          walk_at "g"
          refine z rs H5 (fun b ob hb _ => ex5 _ _ hb) (e5 _ _ ho4) ?_
          rw [show insU q qs = qs by unfold insU; rw [hhd, hn, if_pos rfl]]
          exact hrs3.mono (e4.trans e5)
    · have ej : j = (qs.takeWhile fun c => decide (c < q)).length := by omega
      walk_at "g"
      refine g_lenQ (SqL.of ho3) ?_
      walk_at "g"
      refine g_dec (fun _ => ?_) (fun h2 => by omega)
      walk_at "g"
      refine ⟨tyL ho3, ?_⟩
      walk_at "g"
      refine ⟨o, rs, (j : Int), x, rfl, rfl, ho3, Nat.lt_of_le_of_lt (m := 1000) (by omega) (by decide), by omega, by omega, fin j H3 e3 ej ?_ Q z⟩
      rw [← hdw, ← ej, List.drop_eq_nil_of_le (by omega)]
      simp
theorem ok_distinct (T : Tx K mg a) : FnOk P w K mg base CX0 7 a.f_distinct a.d_distinct P_distinct (spDst a.C_Ratio) := by
  refine def_ok0 T.F_distinct sc_distinct (fun vs H Q E h => ?_) (fun cdv A outer s H vs Q E hr h => ?_)
  · obtain ⟨v, ds, rfl, _⟩ := h
    rfl
  · obtain ⟨v, ds, rfl, hv, nums, fine, hl, z⟩ := h
    refine ⟨_, (pss_cons (ps_set (i := 1) sc_distinct.nd rfl (Or.inl rfl) (pe_lst pa_nil)) (pss_cons (ps_for PassesOwn.never rfl (pi_seq (pv 0)) (pg_name (i := 2) sc_distinct.nd rfl (Or.inl rfl)) (pss_one (ps_expr (pe_call (ok_insert_new T) (hr.mono (by decide)) (by rfl) T.g_insert_new T.F_insert_new.kp (bd_insert_new T) .nil pass0 (pa_cons (pv 1) (pa_cons (pe_call (ok_as_ratio T) (hr.mono (by decide)) (by rfl) T.g_as_ratio T.F_as_ratio.kp (bd_as_ratio T) .nil pass0 (pa_cons (pv 2) pa_nil)) pa_nil)))))) (pss_one (ps_ret (pv 1))))), ?_⟩
    walk_at "g"
    refine ⟨len_lit rfl, fun o ho => ?_⟩
    have e0 : Ex H (upd H o (.lst [])) := Ex.new ho
    have o0 : (upd H o (.lst [])) o = some (.lst []) := upd_same
    generalize (upd H o (.lst [])) = H1 at e0 o0 ⊢
    walk_at "g"
    obtain ⟨p, xs, rfl, hp, hr2⟩ : ∃ p xs, v = .ref p ∧ (H p = some (.lst xs) ∨ H p = some (.tup xs)) ∧ DaVs a.C_Ratio H xs ds := by
      rcases hv with hv | hv
      · cases hv with | lst h r => exact ⟨_, _, rfl, .inl h, r⟩
      · cases hv with | tup h r => exact ⟨_, _, rfl, .inr h, r⟩
    have hpo : ∃ ob, H p = some ob := hp.elim (fun h => ⟨_, h⟩) fun h => ⟨_, h⟩
    refine lp_Q (p := p) (xs := xs) (fun Q q => ⟨_, rfl, q⟩) (hp.imp (fun h => e0 _ _ h) fun h => e0 _ _ h) (fun i σ' H' => ∃ u2 rs, σ' = [some (.ref p), some (.ref o), u2] ∧ Ex H H' ∧ H' o = some (.lst rs) ∧ RatsV a.C_Ratio H' rs (dst ((ds.take i).map Da.num)))
      ⟨none, [], rfl, e0, o0, .nil⟩ (fun i σ' H' h => by
        obtain ⟨_, _, _, ex, _⟩ := h
        obtain ⟨ob, hob⟩ := hpo
        rw [ex _ _ hob, e0 _ _ hob]) (fun i x σ' H' hx h => ?_) (fun σ' H' h => ?_)
    · obtain ⟨u2, rs, rfl, ex, ho', hrs⟩ := h
      obtain ⟨d, hd, hvd⟩ := hr2.at hx
      have dn : d.isNum = true := List.all_eq_true.mp nums d (List.mem_of_getElem? hd)
      have df : d.fine = true := fineL_mem fine (List.mem_of_getElem? hd)
      walk_at "g"
      refine use_asr ((hvd.mono ex).num dn) (Da.numSz df) (by decide) fun w H2 e2 hw => ?_
      walk_at "g"
      have szs : ∀ q ∈ dst ((ds.take i).map Da.num), Sz 3000 q := fun q hq => by
        obtain ⟨d', hd', rfl⟩ := List.mem_map.mp (dst_mem.mp hq)
        exact sz_le (Da.numSz (fineL_mem fine (List.mem_of_mem_take hd'))) (by decide)
      have hlen2 : (dst ((ds.take i).map Da.num)).length ≤ 1000 := by have := dst_len ((ds.take i).map Da.num); rw [List.length_map, List.length_take] at this; omega
      refine ⟨o, w, rs, _, _, rfl, e2 _ _ ho', hrs.mono e2, hw, szs, sz_le (Da.numSz df) (by decide), hlen2, fun rs' H3 keep ho3 hrs3 => ?_⟩
      refine ⟨_, rs', rfl, fun b ob hb => keep b ob ((ex.trans e2) _ _ hb) (ne_of_none hb ho), ho3, ?_⟩
      rw [take_succ_get hd, List.map_append]
      show RatsV _ _ _ (dst (_ ++ [d.num]))
      rw [dst_snoc]
      exact hrs3
    · obtain ⟨u2, rs, rfl, ex, ho', hrs⟩ := h
      walk_at "g"
      rw [hr2.length, List.take_length] at hrs
      exact z o rs H' ho ex ho' hrs
theorem ok_Scale_init (T : Tx K mg a) : FnOk P w K mg base (L2N.CX P w) 8 a.f_Scale_init a.d_Scale_init P_Scale_init (spScaleInit a.C_Scale a.C_Ratio a.C_BadValues) := by
  refine T.F_Scale_init.ok sc_Scale_init (fun vs H Q E h => ?_) (fun cdv A outer s H vs Q E hr h => ?_)
  · obtain ⟨p, dx, v, d, rfl, _⟩ := h
    rfl
  · obtain ⟨p, dx, v, d, rfl, hv, fine, hp, good, bad⟩ := h
    refine ⟨_, (pss_cons (ps_if (PW.pt (pw_or (pt_not (pt_val (pe_call (ok_are_numbersD T) (hr.mono (by decide)) (by rfl) T.g_are_numbers T.F_are_numbers.kp (bd_are_numbers T) .nil pass0 (pa_cons (pv 1) pa_nil)))) (pw_or1 (pt_not (pt_chain op_le op_le pe_int (pe_callB call_lenQ (by rfl) T.b_len (by decide +kernel) (pa_cons (pv 1) pa_nil)) (pe_glob (v := .int 8) rfl T.c_MOST_VALUES.choose_spec ⟨_, rfl⟩)))))) (pss_one (L2N.ps_raise rfl (L2N.takes_of rfl rfl rfl rfl) (pmk_oexN T.oc_BadValues T.fi_BadValues T.ti_BadValues (ok_BadValues_init T) (hr.mono (by decide)) (bd_BadValues_init T) .nil pass0 (by rfl) T.g_BadValues (pa_cons (pv 1) pa_nil)))) pss_nil) (pss_cons (ps_fld (pv 0) (pe_call (ok_distinct T) (hr.mono (by decide)) (by rfl) T.g_distinct T.F_distinct.kp (bd_distinct T) .nil pass0 (pa_cons (pv 1) pa_nil)) rfl) (pss_one (ps_if (pt_cmpR op_lt (pe_callB call_lenQ (by rfl) T.b_len (by decide +kernel) (pa_cons (pe_fld (pv 0) rfl) pa_nil)) (pe_callB call_lenQ (by rfl) T.b_len (by decide +kernel) (pa_cons (pv 1) pa_nil)) (nomark _)) (pss_one (L2N.ps_raise rfl (L2N.takes_of rfl rfl rfl rfl) (pmk_oexN T.oc_BadValues T.fi_BadValues T.ti_BadValues (ok_BadValues_init T) (hr.mono (by decide)) (bd_BadValues_init T) .nil pass0 (by rfl) T.g_BadValues (pa_cons (pv 1) pa_nil)))) pss_nil)))), ?_⟩
    walk_at "g"
    have kp : ∀ {H1 : Hp}, Ex H H1 → H1 p = some (.ins a.C_Scale dx []) := fun e => e _ _ hp
    refine ⟨v, d, rfl, hv, fine, fun H1 e1 => ⟨_, rfl, ?_⟩⟩
    cases hn : d.nums with
    | false =>
      walk_at "g"
      refine g_oex fun dd H' hd ex hx => bad (fun qs h => ?_) dd H' (e1.free hd) (fun b o hb _ => (e1.trans ex) b o hb) hx
      obtain ⟨ds, h1, h2, _⟩ := h
      rcases h1 with rfl | rfl
      · rw [show (Da.lst ds).nums = ds.all Da.isNum from rfl, h2] at hn; cases hn
      · rw [show (Da.tup ds).nums = ds.all Da.isNum from rfl, h2] at hn; cases hn
    | true =>
      obtain ⟨p1, xs, ds, rfl, hd, hp1, hds, hall⟩ := nums_seq (hv.mono e1) hn
      obtain ⟨hl, hf⟩ := fine_seq hd fine
      have hlx := hds.length
      walk_at "g"
      refine g_lenLT hp1 ?_
      walk_at "g"
      have uni : ∀ qs, ValsOf d qs → 1 ≤ ds.length ∧ ds.length ≤ 8 ∧ climbB (isort (ds.map Da.num)) = true := fun qs h => by
        obtain ⟨ds2, h1, _, h3, h4, h5, h6⟩ := h
        have e : ds = ds2 := by
          rcases hd with rfl | rfl <;> rcases h1 with h1 | h1 <;> first | cases h1; rfl | cases h1
        subst e
        subst h5
        exact ⟨h3, h4, h6⟩
      refine g_dec (fun h1 => ?_) (fun h1 => ?_)
      · walk_at "g"
        refine g_ite (fun h2 => ?_) (fun h2 => ?_)
        · walk_at "g"
          refine g_oex fun dd H' hd ex hx => bad (fun qs h => ?_) dd H' (e1.free hd) (fun b o hb _ => (e1.trans ex) b o hb) hx
          have := uni qs h
          simp at h2
          omega
        · have h8 : ds.length ≤ 8 := by simp at h2; omega
          walk_at "g"
          refine ⟨.ref p1, ds, rfl, ?_, hall, hf, hl, fun m rs H2 hm e2 hm2 hrs => ?_⟩
          · have := hv.mono e1
            rcases hd with rfl | rfl
            · exact .inl this
            · exact .inr this
          have ex2 := e1.trans e2
          have hp2 := kp ex2
          have npm : m ≠ p := (ne_of_none hp (e1.free hm)).symm
          have npp : p1 ≠ p := by
            intro w
            subst w
            rcases hp1 with h | h <;> rw [kp e1] at h <;> cases h
          walk_at "g"
          refine ⟨p, a.C_Scale, dx, [], rfl, hp2, T.RS.cl, T.RS.nM, by decide, ?_⟩
          have kp3 : ∀ b o, H b = some o → b ≠ p → (upd H2 p (.ins a.C_Scale dx (putF "_marks" (.ref m) []))) b = some o := fun b o hb hne => by
            rw [upd_ne hne]; exact ex2 _ _ hb
          have hp3 : (upd H2 p (.ins a.C_Scale dx (putF "_marks" (.ref m) []))) p = some (.ins a.C_Scale dx (putF "_marks" (.ref m) [])) := upd_same
          have hm3 : (upd H2 p (.ins a.C_Scale dx (putF "_marks" (.ref m) []))) m = some (.lst rs) := by rw [upd_ne npm]; exact hm2
          have hp13 : (upd H2 p (.ins a.C_Scale dx (putF "_marks" (.ref m) []))) p1 = some (.lst xs) ∨ (upd H2 p (.ins a.C_Scale dx (putF "_marks" (.ref m) []))) p1 = some (.tup xs) := by
            rw [upd_ne npp]
            exact hp1.imp (fun h => e2 _ _ h) fun h => e2 _ _ h
          have hrs3 : RatsV a.C_Ratio (upd H2 p (.ins a.C_Scale dx (putF "_marks" (.ref m) []))) rs (dst (ds.map Da.num)) := Paired.mapP hrs fun v q r => by
            obtain ⟨p', rfl, dx', h'⟩ := r
            refine ⟨p', rfl, dx', ?_⟩
            rw [upd_ne]
            · exact h'
            · intro w
              rw [w, hp2] at h'
              injection h' with h'
              injection h' with h1 _ _
              exact T.neS h1.symm
          generalize (upd H2 p (.ins a.C_Scale dx (putF "_marks" (.ref m) []))) = H3 at kp3 hp3 hm3 hp13 hrs3 ⊢
          walk_at "g"
          refine ⟨p, a.C_Scale, dx, _, _, rfl, hp3, T.RS.cl, T.RS.nM, marks_look m, ?_⟩
          walk_at "g"
          refine g_lenQ (SqL.of hm3) ?_
          walk_at "g"
          refine g_lenLT hp13 ?_
          walk_at "g"
          have hlr := hrs3.length
          have hdc := dst_climb (ds.map Da.num)
          rw [List.length_map] at hdc
          refine g_dec (fun hlt => ?_) (fun hlt => ?_)
          · walk_at "g"
            refine g_oex fun dd H' hd ex hx => bad (fun qs h => ?_) dd H' ?_ (fun b o hb hne => ex _ _ (kp3 b o hb hne)) hx
            · have h1 := hdc.1.mpr (uni qs h).2.2
              omega
            · cases hq : H dd with
              | none => rfl
              | some ob =>
                by_cases hpp : dd = p
                · subst hpp; rw [hp3] at hd; cases hd
                · rw [kp3 _ _ hq hpp] at hd; cases hd
          · walk_at "g"
            have hc : climbB (isort (ds.map Da.num)) = true := hdc.1.mp (by omega)
            rw [hdc.2 hc] at hrs3
            exact good _ ⟨ds, hd, hall, by omega, h8, rfl, hc⟩ m rs _ (e1.free hm) kp3 hp3 hm3 hrs3
      · walk_at "g"
        refine g_oex fun dd H' hd ex hx => bad (fun qs h => ?_) dd H' (e1.free hd) (fun b o hb _ => (e1.trans ex) b o hb) hx
        have := uni qs h
        omega
theorem ok_Scale_len (T : Tx K mg a) : FnOk P w K mg base CX0 1 a.f_Scale_len a.d_Scale_len P_Scale_len (spLenS a.C_Scale a.C_Ratio) := by
  refine def_ok0 T.F_Scale_len sc_Scale_len (fun vs H Q E h => ?_) (fun cdv A outer s H vs Q E hr h => ?_)
  · obtain ⟨p, qs, rfl, _⟩ := h
    rfl
  · obtain ⟨p, qs, rfl, ⟨dx, m, rs, hp, hm, hrs⟩, z⟩ := h
    refine ⟨_, (pss_one (ps_ret (pe_callB call_lenQ (by rfl) T.b_len (by decide +kernel) (pa_cons (pe_fld (pv 0) rfl) pa_nil)))), ?_⟩
    walk_at "g"
    refine ⟨p, a.C_Scale, dx, _, _, rfl, hp, T.RS.cl, T.RS.nM, marks_look m, ?_⟩
    walk_at "g"
    refine g_lenQ (SqL.of hm) ?_
    rw [hrs.length]
    exact z H (Ex.refl H)
theorem ok_Scale_marks (T : Tx K mg a) : FnOk P w K mg base CX0 1 a.f_Scale_marks a.d_Scale_marks P_Scale_marks (spMarksS a.C_Scale a.C_Ratio) := by
  refine def_ok0 T.F_Scale_marks sc_Scale_marks (fun vs H Q E h => ?_) (fun cdv A outer s H vs Q E hr h => ?_)
  · obtain ⟨p, qs, rfl, _⟩ := h
    rfl
  · obtain ⟨p, qs, rfl, ⟨dx, m, rs, hp, hm, hrs⟩, z⟩ := h
    refine ⟨_, (pss_one (ps_ret (pe_callTy call_list_of (by rfl) T.b_list (by decide +kernel) (pa_cons (pe_fld (pv 0) rfl) pa_nil)))), ?_⟩
    walk_at "g"
    refine ⟨p, a.C_Scale, dx, _, _, rfl, hp, T.RS.cl, T.RS.nM, marks_look m, ?_⟩
    walk_at "g"
    exact ⟨m, rs, rfl, .inl (SqL.of hm), fun l hl => z l rs _ hl (Ex.new hl) upd_same (hrs.mono (Ex.new hl))⟩
end
end Kx


set_option maxHeartbeats 2000000
namespace Fm
open PySem PySem.Spec PyProof.Rows L2
section
variable {X : Cx} {CX : CXT} {k n : Nat} {f C : Addr} {fd : FuncData} {ps ks : List Str} {sp : Sp} {E : L2.St → XK} {x m : Str} {p pos apos : Pos} {e o : Expr} {es : List Expr} {kws : List Keyword} {t tk : TA} {ta : TE} {g : List Value → List Value → List Value} {gV : List V → List V → List V}
end
section
variable {σ : L2.St} {H : Hp} {Q : VK} {sp : Sp} {gV : List V → List V → List V} {E : L2.St → XK} {tk t : TA} {ta : TE} {n m : Nat} {C : Addr} {nm : Str}
end
end Fm

set_option maxHeartbeats 2000000
namespace Fm
open PySem PySem.Spec PyProof.Rows L2 HotX L2H
section
variable {X : Cx}
theorem lc_hot {pins : List (Addr × Obj)} {s : Shared} {σ : L2.St} {H : Hp} {Q : VK} {elt tg iter : Expr} {ifs : List Expr} {scope : Scope} {own : List (Str × Nat)} {pos pos' : Pos} {wi : TI} {g : TG} {tt : TT} {te : TE} {use : Option (Value → Sem Unit)} {Qf : Value → Shared → Prop}
    (hc : HotC X) (hN : X.N.Nodup) (I : Inv X pins σ H s) (hi : PIH X tg iter wi) (ok : BlkOk X.N X.env.scope scope own)
    (hg : ∀ (s : Shared) (H : Hp) (C : Addr) (cl : List (Str × Addr)) (fp : List Addr) (p : Addr × Obj), Hot1 X.A p → PG ((X.blk s H scope (compEnvC scope cl C X.env) fp).tr [p] (fun _ _ => False)) tg g) (ht : ∀ (s : Shared) (H : Hp) (C : Addr) (cl : List (Str × Addr)) (fp : List Addr) (p : Addr × Obj), Hot1 X.A p → PTs ((X.blk s H scope (compEnvC scope cl C X.env) fp).tr [p] (fun _ _ => False)) ifs tt)
    (he : ∀ (s : Shared) (H : Hp) (C : Addr) (cl : List (Str × Addr)) (fp : List Addr) (p : Addr × Obj), Hot1 X.A p → PE ((X.blk s H scope (compEnvC scope cl C X.env) fp).tr [p] (fun _ _ => False)) elt te) (hs : ∀ x, foldedSetIterable iter X.env x = pure x)
    (h : tLc wi g tt te (own.map (·.2)) σ H Q)
    (hRR : ∀ D C s' m H', Inv X pins σ H' s' → Q (.ref D) H' → s'.heap.Ns C m → FpOk X pins H' C → compPost (model X.prog X.w) X.A X.xe use Qf (.ref D) C (.ok .next) s') :
    wpAny (model X.prog X.w) X.A (comprehension (.ListComp elt [⟨tg, iter, ifs, 0⟩] scope pos) scope X.env pos' (newList []) false (eval iter X.env) use) Qf X.xe s := by
  obtain ⟨p0, hot0, hp0⟩ := hc
  have hfree : ∀ y ∈ scope.names, y.2 = .free → ∃ c, X.env.cells.lookup y.1 = some c := fun y hy e => by
    rcases ok.free y hy e with k | k
    · exact I.ok.has _ (.inl k)
    · exact I.ok.has _ (.inr k)
  refine wpAny_comprehension_free (use := use) rfl hs (closure_ok hfree) ok.kind (fun y hy e => by rw [ok.uniq y hy, e])
    (thn (hi.run pins s σ H _ I h) fun xv s1 hx => thn hx fun itv s2 h2 => ?_)
  obtain ⟨it, fp, tn, J, H2, e, I2, T, st2, f2, q⟩ := h2
  subst e
  refine wpAny_newObj_type (newEnv_comp ?_) (by show 0 ≤ sizeLine; decide)
  generalize hD : s2.heap.objs.size = D
  have hDn : H2 D = none := I2.hok.fresh (Nat.le_of_eq hD)
  obtain ⟨W, ⟨m0, w0⟩, turn⟩ := q D hDn
  -- the new list
  generalize hs3 : ({ s2 with heap := s2.heap.push { cls := .type "list", data := .seq ([] : List Value).toArray } } : Shared) = s3
  have I3 : Inv X pins σ (upd H2 D (.lst [])) s3 := by
    rw [← hs3]
    refine I2.laid (t' := s2.toks) (fun b o e => Heap.get?_push_of_some _ e) (Nat.le_of_eq hD) ⟨Nat.zero_le _, [], 0, .nil, ?_⟩
    rw [← hD]
    exact Heap.get?_push_size _ rfl
  have h3 : s3.heap = s2.heap.push { cls := .type "list", data := .seq ([] : List Value).toArray } := by rw [← hs3]
  have sz : ∀ b ∈ fp, b < s2.heap.objs.size := fun b hb => by
    obtain ⟨o, e, _⟩ := T.obj _ _ st2 b hb
    exact Heap.lt_size e
  have f3 : ∀ b ∈ fp, FpOk X pins (upd H2 D (.lst [])) b ∧ b < s3.heap.objs.size := fun b hb => by
    have hlt := sz b hb
    refine ⟨⟨?_, (f2 b hb).2⟩, by rw [h3, Heap.size_push]; exact Nat.lt_succ_of_lt hlt⟩
    rw [upd_ne (by rw [← hD]; exact Nat.ne_of_lt hlt)]
    exact (f2 b hb).1
  have st3 : tn 0 s3.heap := T.keep _ _ _ st2 fun b _ o e => by rw [h3]; exact Heap.get?_push_of_some _ e
  have pp := I3.pin p0 (List.mem_append_left _ hp0)
  have I4 : L2.Inv ((X.blk s3 (upd H2 D (.lst [])) scope (compEnvC scope (cellsFrom (s3.heap.objs.size + 1) scope.names (cloFrom X.env.cells scope.names [])) s3.heap.objs.size X.env) fp).tr [p0] (fun _ _ => False)) [] (wipe σ (own.map (·.2))) (upd H2 D (.lst [])) { s3 with heap := pushCells (s3.heap.push { cls := .type "dict", data := .dict #[] }) scope.names } := Inv.toTry (pins := [p0]) ((block_start I3 ok hN f3).pins_of fun q hq => by
    have eq : q = p0 := List.mem_singleton.mp hq
    subst eq
    exact ⟨pushCells_keeps _ _ _ _ (Heap.get?_push_of_some _ pp.1), pp.2.1, Nat.ne_of_lt (Heap.lt_size pp.1), fun hm => (List.mem_cons.mp (I3.stkSub q.1 hm)).elim pp.2.2.1 pp.2.2.2.1, pp.2.2.2.2⟩) (fun _ _ => False)
  have pg := hg s3 (upd H2 D (.lst [])) s3.heap.objs.size (cellsFrom (s3.heap.objs.size + 1) scope.names (cloFrom X.env.cells scope.names [])) fp p0 hot0
  have pt := ht s3 (upd H2 D (.lst [])) s3.heap.objs.size (cellsFrom (s3.heap.objs.size + 1) scope.names (cloFrom X.env.cells scope.names [])) fp p0 hot0
  have pe := he s3 (upd H2 D (.lst [])) s3.heap.objs.size (cellsFrom (s3.heap.objs.size + 1) scope.names (cloFrom X.env.cells scope.names [])) fp p0 hot0
  show codeAny _ _ (.compStart (.ListComp elt [⟨tg, iter, ifs, 0⟩] scope pos) 0 (.ref it) (.ref D) (compEnvC scope (cellsFrom (s3.heap.objs.size + 1) scope.names (cloFrom X.env.cells scope.names [])) s3.heap.objs.size X.env)) (compPost (model X.prog X.w) X.A X.xe use Qf (.ref D) s3.heap.objs.size) { s3 with heap := pushCells (s3.heap.push { cls := .type "dict", data := .dict #[] }) scope.names }
  have nfp : ∀ b ∈ fp, (upd H2 D (.lst [])) b = none := fun b hb => (f3 b hb).1.1
  generalize hce : compEnvC scope (cellsFrom (s3.heap.objs.size + 1) scope.names (cloFrom X.env.cells scope.names [])) s3.heap.objs.size X.env = ce at I4 pg pt pe ⊢
  have cL : ce.locals = s3.heap.objs.size := by subst hce; rfl
  generalize hH3 : upd H2 D (.lst []) = H3 at I3 I4 pg pt pe w0 nfp f3
  generalize hs4 : ({ s3 with heap := pushCells (s3.heap.push { cls := .type "dict", data := .dict #[] }) scope.names } : Shared) = s4 at I4 ⊢
  have st4 : tn 0 s4.heap := T.keep _ _ _ st3 fun b _ o e => by rw [← hs4]; exact pushCells_keeps _ _ _ _ (Heap.get?_push_of_some _ e)
  have stat : ∀ {σ' : L2.St} {H' : Hp} {s' : Shared}, Inv ((X.blk s3 H3 scope ce fp).tr [p0] (fun _ _ => False)) [] σ' H' s' → (∀ b ∈ fp, H' b = none) → ∀ b ∈ fp, FpOk ((X.blk s3 H3 scope ce fp).tr [p0] (fun _ _ => False)) [] H' b := fun {σ' H' s'} I' hn b hb =>
    ⟨hn b hb, (I'.ok.exf b hb).1, I'.ok.exfs b hb, .inl hb, fun x c e => (I'.ok.exf b hb).2 x c e, fun p hp => by
      have e : p = p0 := by simpa using (show p ∈ [p0] ++ ([] : List (Addr × Obj)) from hp)
      rw [e]
      exact (f3 b hb).1.2.2.2.2.2 p0 (List.mem_append_left _ hp0)⟩
  have loop : codeAny (model X.prog X.w) X.A (.compLoop (.ListComp elt [⟨tg, iter, ifs, 0⟩] scope pos) 0 (.ref it) (.ref D) ce) (compPost (model X.prog X.w) X.A X.xe use Qf (.ref D) s3.heap.objs.size) s4 := by
    refine compLoop_any (fun n s' => ∃ i H', Inv ((X.blk s3 H3 scope ce fp).tr [p0] (fun _ _ => False)) [] (wipe σ (own.map (·.2))) H' s' ∧ tn i s'.heap ∧ (∀ b ∈ fp, H' b = none) ∧ W i n H') ?_ m0 ⟨0, H3, I4, st4, nfp, w0⟩
    rintro n s5 ⟨i, H5, I5, st5, n5, w5⟩
    rcases turn i n H5 w5 with ⟨stop, qq⟩ | ⟨go, Nx, hNx, step⟩
    · have td := T.done ((X.blk s3 H3 scope ce fp).tr [p0] (fun _ _ => False)) rfl rfl rfl ⟨p0, hot0, List.mem_singleton.mpr rfl⟩ i [] s5 _ H5 (fun _ _ => False) I5 (stat I5 n5) st5 stop
      refine thnF td fun r s6 ⟨hr, I6⟩ => ?_
      subst hr
      -- back in the def's context
      have I7 : Inv X pins σ H5 s6 := I3.call' (ch := fp) I6.os I6.base I6.hok I6.bare fun b hb => ⟨(f3 b hb).1.2.2.2.1, (f3 b hb).1.2.1, (f3 b hb).1.2.2.2.2.1, (f3 b hb).1.2.2.2.2.2⟩
      have nC : H5 s3.heap.objs.size = none := by
        have z : H5 ce.locals = none := I6.free
        rw [cL] at z
        exact z
      obtain ⟨m, hn, _⟩ := I6.loc
      have hn : s6.heap.Ns ce.locals m := hn
      rw [cL] at hn
      exact hRR D s3.heap.objs.size s6 m H5 I7 qq hn (I3.fpOk (Nat.le_refl _) nC)
    · have ti := T.item ((X.blk s3 H3 scope ce fp).tr [p0] (fun _ _ => False)) rfl rfl rfl ⟨p0, hot0, List.mem_singleton.mpr rfl⟩ i [] s5 _ H5 (fun _ _ => False) I5 (stat I5 n5) st5 go
      refine thnF ti fun r s6 ⟨u, hr, h6⟩ => ?_
      subst hr
      refine thnF h6 fun _ s7 ⟨x, H7, I7, r7, y7, st7, n7⟩ => ?_
      have I7' := I7.pinned (stat I7 n7) (T.obj _ _ st7)
      refine thnF (pg.run _ s7 _ H7 x u _ I7' r7 (step x H7 y7)) fun _ s8 ⟨σ8, H8, I8, hw8, q8⟩ => ?_
      refine thnF (pt.run _ s8 σ8 H8 _ I8 q8) fun b s9 ⟨H9, I9, q9⟩ => ?_
      -- the turn's end
      have fin : ∀ {s' : Shared} {H' : Hp}, Inv ((X.blk s3 H3 scope ce fp).tr [p0] (fun _ _ => False)) ([] ++ pinsAt fp s7.heap) σ8 H' s' → Nx H' → ∃ m, m < n ∧ ∃ i H', Inv ((X.blk s3 H3 scope ce fp).tr [p0] (fun _ _ => False)) [] (wipe σ (own.map (·.2))) H' s' ∧ tn i s'.heap ∧ (∀ b ∈ fp, H' b = none) ∧ W i m H' := fun {s' H'} I' nx => by
        obtain ⟨m', hm, w'⟩ := hNx H' nx
        have pin' : ∀ b ∈ fp, ∀ o, s7.heap.get? b = some o → s'.heap.get? b = some o ∧ H' b = none := fun b hb o e =>
          let z := I'.pin (b, o) (List.mem_append_right _ (List.mem_append_right _ (mem_pinsAt hb e)))
          ⟨z.1, z.2.1⟩
        have hl : (wipe σ (own.map (·.2))).length = σ8.length := by rw [← hw8, wipe_length]
        refine ⟨m', hm, i + 1, H', (I'.unpinned (pins := [])).weak hl (fun j v e => ?_), T.keep _ _ _ st7 fun b hb o e => (pin' b hb o e).1, fun b hb => ?_, w'⟩
        · rw [← hw8] at e
          exact (wipe_some e).1
        · obtain ⟨o, e, _⟩ := T.obj _ _ st7 b hb
          exact (pin' b hb o e).2
      cases b with
      | false =>
        simp only [Bool.false_eq_true, if_false] at q9 ⊢
        exact fin I9 q9
      | true =>
        simp only [if_true] at q9 ⊢
        refine thnF (pe.run _ s9 σ8 H9 _ I9 q9) fun z s10 ⟨yv, H10, I10, r10, acc, hD10, hz10, nx⟩ => ?_
        exact app_ok (X := (X.blk s3 H3 scope ce fp).tr [p0] (fun _ _ => False)) I10 hD10 hz10 r10 fun s11 I11 => fin I11 nx
  exact codeAny_compStart_list loop (T.self X.A 0 _ _ _ st4 loop)
theorem pe_lcH {elt tg iter : Expr} {ifs : List Expr} {scope : Scope} {own : List (Str × Nat)} {pos : Pos} {wi : TI} {g : TG} {tt : TT} {te : TE} (hc : HotC X) (hN : X.N.Nodup) (hi : PIH X tg iter wi) (ok : BlkOk X.N X.env.scope scope own)
    (hg : ∀ (s : Shared) (H : Hp) (C : Addr) (cl : List (Str × Addr)) (fp : List Addr) (p : Addr × Obj), Hot1 X.A p → PG ((X.blk s H scope (compEnvC scope cl C X.env) fp).tr [p] (fun _ _ => False)) tg g) (ht : ∀ (s : Shared) (H : Hp) (C : Addr) (cl : List (Str × Addr)) (fp : List Addr) (p : Addr × Obj), Hot1 X.A p → PTs ((X.blk s H scope (compEnvC scope cl C X.env) fp).tr [p] (fun _ _ => False)) ifs tt)
    (he : ∀ (s : Shared) (H : Hp) (C : Addr) (cl : List (Str × Addr)) (fp : List Addr) (p : Addr × Obj), Hot1 X.A p → PE ((X.blk s H scope (compEnvC scope cl C X.env) fp).tr [p] (fun _ _ => False)) elt te) (hs : ∀ x, foldedSetIterable iter X.env x = pure x := by intro _; rfl) :
    PE X (.ListComp elt [⟨tg, iter, ifs, 0⟩] scope pos) (tLc wi g tt te (own.map (·.2))) := by
  refine ⟨fun pins s σ H Q I h => ?_⟩
  rw [eval_ListComp]
  refine lc_hot hc hN I hi ok hg ht he hs h fun D C s' m H' I' q hn f => ⟨m, hn, fun h2 sb => ?_⟩
  obtain ⟨f0, f1, f2, f3, f4, f5⟩ := f
  exact ⟨.ref D, H', I'.turned (t' := s'.toks) (fun b o hb e => (sb.2 b hb).trans e) f0 f1 f3 f4 f5, rfl, q⟩
end
end Fm

set_option maxHeartbeats 2000000
namespace Fm
open PySem PySem.Spec PyProof.Rows L2 HotX L2H
section
variable {prog : Program} {w : World} {A : Around} {E : Value → Shared → Prop} {s : Shared}
theorem next_list_hot {it l x1 : Addr} {i : Nat} {items : Array Value} {Q : Option Value → Shared → Prop} (hot : HotAt A x1 s.heap) (hne : x1 ≠ it)
    (hit : s.heap.IsListIter it l i) (hl : s.heap.IsList l items) (hx : items[i]? = none)
    (hQ : ∀ h', Heap.ExtBut it s.heap h' → Q none { s with heap := h' }) : wpAny (model prog w) A (pyNext (.ref it)) Q E s := by
  obtain ⟨hh, o1, vs1, h1, d1, c1⟩ := hot
  obtain ⟨o, ho, hc, hd⟩ := id hit
  obtain ⟨ol, hol, _, nl, hdl⟩ := hl
  unfold pyNext
  refine wpAny_bind (wpAny_attempt (wpAny_callSpecial?_slot (name := Str.ofString "__next__") hit.typeIs slot_listiter_next
    (wpAny_call_entry slot_listiter_next hit.typeIs entry_listiter_next ?_ (args_listiter_next _))))
  show wpAny _ _ (field (.ref it) 0 >>= _) _ _ s
  refine wpAny_bind (wpAny_field ho hd (x := .ref l) rfl ?_)
  show wpAny _ _ (if (Value.ref l == Value.none) = true then _ else _) _ _ s
  rw [if_neg (show ¬ ((Value.ref l == Value.none) = true) from Bool.false_ne_true)]
  show wpAny _ _ (field (.ref it) 1 >>= _) _ _ s
  refine wpAny_bind (wpAny_field ho hd (x := .int i 0) rfl ?_)
  show wpAny _ _ (seqItems? (.ref l) >>= _) _ _ s
  refine wpAny_bind (wpAny_seqItems hol hdl ?_)
  simp only [Int.toNat_natCast, hx]
  refine wpAny_bind (wpAny_rule (wpAny_bind (wpAny_setField ho hd (by simp) ?_)))
  show wpAny _ _ (newExc (.type "StopIteration") [] >>= _) _ _ _
  refine wpAny_bind ?_
  simp only [newExc, newTuple]
  refine wpAny_bind (wpAny_newObj_type ?_ (by size_fits))
  refine wpAny_bind (m := firstArgMember _ _) (wpAny_of_eq (a := Value.none) (by first | rfl | (simp only [firstArgMember]; rfl)) ?_)
  refine wpAny_newObj_type ?_ (by size_fits)
  have h1' : (s.heap.update it (Obj.mapFields (·.setIfInBounds 0 .none))).get? x1 = some o1 := by rw [Heap.get?_update_other _ _ hne.symm]; exact h1
  refine raiseNew_hot ⟨hh, o1, vs1, Heap.get?_push_of_some _ (Heap.get?_push_of_some _ h1'), d1, c1⟩ (Nat.ne_of_lt (Heap.lt_size (Heap.get?_push_of_some _ h1'))) (Heap.get?_push_size _ rfl) rfl (by first | (simp; done) | (simp; omega) | (simp only [Array.size_append]; simp; omega)) ?_
  refine wpAny_bind (wpAny_isInstance (T := "StopIteration") (b := true) ⟨_, Heap.get?_update_self _ (Heap.get?_push_size _ rfl) rfl, rfl⟩ isSubtype_stop ?_)
  refine wpAny_pure (hQ _ fun b o hb e => ?_)
  have e' : (s.heap.update it (Obj.mapFields (·.setIfInBounds 0 .none))).get? b = some o := by rw [Heap.get?_update_other _ _ hb.symm]; exact e
  rw [Heap.get?_update_other _ _ (Nat.ne_of_gt (Heap.lt_size (Heap.get?_push_of_some _ e')))]
  exact Heap.get?_push_of_some _ (Heap.get?_push_of_some _ e')
theorem next_tuple_hot {it l x1 : Addr} {i : Nat} {items : Array Value} {Q : Option Value → Shared → Prop} (hot : HotAt A x1 s.heap) (hne : x1 ≠ it)
    (hit : s.heap.IsTupleIter it l i) (hl : s.heap.IsTuple l items) (hx : items[i]? = none)
    (hQ : ∀ h', Heap.ExtBut it s.heap h' → Q none { s with heap := h' }) : wpAny (model prog w) A (pyNext (.ref it)) Q E s := by
  obtain ⟨hh, o1, vs1, h1, d1, c1⟩ := hot
  obtain ⟨o, ho, hc, hd⟩ := id hit
  obtain ⟨ol, hol, _, nl, hdl⟩ := hl
  unfold pyNext
  refine wpAny_bind (wpAny_attempt (wpAny_callSpecial?_slot (name := Str.ofString "__next__") hit.typeIs F.slot_tuple_iterator_next
    (wpAny_call_entry F.slot_tuple_iterator_next hit.typeIs F.entry_tuple_iterator_next ?_ (F.args_tuple_iterator_next_1 _))))
  show wpAny _ _ (field (.ref it) 0 >>= _) _ _ s
  refine wpAny_bind (wpAny_field ho hd (x := .ref l) rfl ?_)
  show wpAny _ _ (if (Value.ref l == Value.none) = true then _ else _) _ _ s
  rw [if_neg (show ¬ ((Value.ref l == Value.none) = true) from Bool.false_ne_true)]
  show wpAny _ _ (field (.ref it) 1 >>= _) _ _ s
  refine wpAny_bind (wpAny_field ho hd (x := .int i 0) rfl ?_)
  show wpAny _ _ (seqItems? (.ref l) >>= _) _ _ s
  refine wpAny_bind (wpAny_seqItems hol hdl ?_)
  simp only [Int.toNat_natCast, hx]
  refine wpAny_bind (wpAny_rule (wpAny_bind (wpAny_setField ho hd (by simp) ?_)))
  show wpAny _ _ (newExc (.type "StopIteration") [] >>= _) _ _ _
  refine wpAny_bind ?_
  simp only [newExc, newTuple]
  refine wpAny_bind (wpAny_newObj_type ?_ (by size_fits))
  refine wpAny_bind (m := firstArgMember _ _) (wpAny_of_eq (a := Value.none) (by first | rfl | (simp only [firstArgMember]; rfl)) ?_)
  refine wpAny_newObj_type ?_ (by size_fits)
  have h1' : (s.heap.update it (Obj.mapFields (·.setIfInBounds 0 .none))).get? x1 = some o1 := by rw [Heap.get?_update_other _ _ hne.symm]; exact h1
  refine raiseNew_hot ⟨hh, o1, vs1, Heap.get?_push_of_some _ (Heap.get?_push_of_some _ h1'), d1, c1⟩ (Nat.ne_of_lt (Heap.lt_size (Heap.get?_push_of_some _ h1'))) (Heap.get?_push_size _ rfl) rfl (by first | (simp; done) | (simp; omega) | (simp only [Array.size_append]; simp; omega)) ?_
  refine wpAny_bind (wpAny_isInstance (T := "StopIteration") (b := true) ⟨_, Heap.get?_update_self _ (Heap.get?_push_size _ rfl) rfl, rfl⟩ isSubtype_stop ?_)
  refine wpAny_pure (hQ _ fun b o hb e => ?_)
  have e' : (s.heap.update it (Obj.mapFields (·.setIfInBounds 0 .none))).get? b = some o := by rw [Heap.get?_update_other _ _ hb.symm]; exact e
  rw [Heap.get?_update_other _ _ (Nat.ne_of_gt (Heap.lt_size (Heap.get?_push_of_some _ e')))]
  exact Heap.get?_push_of_some _ (Heap.get?_push_of_some _ e')
end
theorem hot_off {X : Cx} {pins : List (Addr × Obj)} {σ : L2.St} {H : Hp} {s : Shared} {it : Addr} (c : HotC X) (I : L2.Inv X pins σ H s) (f5 : ∀ p ∈ X.pn ++ pins, p.1 ≠ it) : ∃ x1, HotAt X.A x1 s.heap ∧ x1 ≠ it := by
  obtain ⟨p, ⟨hh, v1, e1, c1⟩, hp⟩ := c
  exact ⟨p.1, ⟨hh, p.2, v1, (I.pin p (List.mem_append_left _ hp)).1, e1, c1⟩, f5 p (List.mem_append_left _ hp)⟩
theorem turn_listH {P : Program} {w : World} {K : PySem.W.Frag} {tg : Expr} (a it : Addr) : TurnH P w K tg (Itl K a) [it] it (fun i h => h.IsListIter it a i) where
  mem := List.mem_singleton.mpr rfl
  obj := fun i h st b hb => by
    obtain rfl := List.mem_singleton.mp hb
    obtain ⟨o, e, c, d⟩ := st
    exact ⟨o, e, fun v z => by rw [d] at z; cases z⟩
  keep := fun i h h' st k => st.at fun o e => k it (List.mem_singleton.mpr rfl) o e
  item := by
    intro X hP hw hK hc i pins s σ H E I hf st ⟨xs, x, hq, hx⟩
    subst hP hw hK
    obtain ⟨its, rv, p, hz⟩ := I.list hq
    obtain ⟨u, hu, ru⟩ := rv.get hx
    obtain ⟨f0, f1, f2, f3, f4, f5⟩ := hf it (List.mem_singleton.mpr rfl)
    refine wpAny_pyNext_list_item st (show s.heap.IsList a its.toArray from p.isList) (x := u) (by simpa using hu) fun h' st' sb => ?_
    obtain ⟨o, e, c, d⟩ := id st'
    exact ⟨u, rfl, go_of (s := { s with heap := h' }) e c d (by decide) ⟨x, H, I.turned (t' := s.toks) (fun b o hb e => (sb.2 b hb).trans e) f0 f1 f3 f4 f5, ru, ⟨rfl, fun ys hy => by rw [I.list_inj hy hq]; exact hx⟩, st', fun b hb => (hf b hb).1⟩⟩
  done := by
    intro X hP hw hK hc i pins s σ H E I hf st ⟨xs, hq, hx⟩
    subst hP hw hK
    obtain ⟨its, rv, p, hz⟩ := I.list hq
    obtain ⟨f0, f1, f2, f3, f4, f5⟩ := hf it (List.mem_singleton.mpr rfl)
    have hl := rv.length
    obtain ⟨x1, hot, ne⟩ := hot_off hc I f5
    exact next_list_hot hot ne st (show s.heap.IsList a its.toArray from p.isList) (by simp; omega) fun h' eb => ⟨rfl, I.turned (t' := s.toks) (fun b o hb e => eb b o hb e) f0 f1 f3 f4 f5⟩
  self := fun _ _ _ _ _ st h => wpAny_pyIter_listiter st h
theorem turn_tupleH {P : Program} {w : World} {K : PySem.W.Frag} {tg : Expr} (a it : Addr) : TurnH P w K tg (Itt K a) [it] it (fun i h => h.IsTupleIter it a i) where
  mem := List.mem_singleton.mpr rfl
  obj := fun i h st b hb => by
    obtain rfl := List.mem_singleton.mp hb
    obtain ⟨o, e, c, d⟩ := st
    exact ⟨o, e, fun v z => by rw [d] at z; cases z⟩
  keep := fun i h h' st k => st.at fun o e => k it (List.mem_singleton.mpr rfl) o e
  item := by
    intro X hP hw hK hc i pins s σ H E I hf st ⟨xs, x, hq, hx⟩
    subst hP hw hK
    obtain ⟨its, rv, p, hz⟩ := I.tuple hq
    obtain ⟨u, hu, ru⟩ := rv.get hx
    obtain ⟨f0, f1, f2, f3, f4, f5⟩ := hf it (List.mem_singleton.mpr rfl)
    refine wpAny_pyNext_tuple_item st (show s.heap.IsTuple a its.toArray from p) (x := u) (by simpa using hu) fun h' st' sb => ?_
    obtain ⟨o, e, c, d⟩ := id st'
    exact ⟨u, rfl, go_of (s := { s with heap := h' }) e c d (by decide) ⟨x, H, I.turned (t' := s.toks) (fun b o hb e => (sb.2 b hb).trans e) f0 f1 f3 f4 f5, ru, ⟨rfl, fun ys hy => by rw [I.tuple_inj hy hq]; exact hx⟩, st', fun b hb => (hf b hb).1⟩⟩
  done := by
    intro X hP hw hK hc i pins s σ H E I hf st ⟨xs, hq, hx⟩
    subst hP hw hK
    obtain ⟨its, rv, p, hz⟩ := I.tuple hq
    obtain ⟨f0, f1, f2, f3, f4, f5⟩ := hf it (List.mem_singleton.mpr rfl)
    have hl := rv.length
    obtain ⟨x1, hot, ne⟩ := hot_off hc I f5
    exact next_tuple_hot hot ne st (show s.heap.IsTuple a its.toArray from p) (by simp; omega) fun h' eb => ⟨rfl, I.turned (t' := s.toks) (fun b o hb e => eb b o hb e) f0 f1 f3 f4 f5⟩
  self := fun _ _ _ _ _ st h => wpAny_pyIter_tupleiter st h
end Fm

set_option maxHeartbeats 2000000
namespace Fm
open PySem PySem.Spec PyProof.Rows L2 HotX L2H
section
variable {X : Cx} {tg : Expr}
theorem pi_oneH {pins : List (Addr × Obj)} {σ : L2.St} {H : Hp} {s : Shared} {R : It → Hp → Prop} {J : It} {tn : Nat → Heap → Prop} {tk : Nat} (I : L2.Inv X pins σ H s) (o : Obj)
    (T : TurnH X.prog X.w X.K tg J [s.heap.objs.size] s.heap.objs.size tn) (st : tn 0 (s.heap.push o)) (q : R J H) : PIEH X pins σ tg R (.ref s.heap.objs.size) { s with heap := s.heap.push o, toks := tk } :=
  ⟨s.heap.objs.size, [s.heap.objs.size], tn, J, H, rfl, I.kept fun b ob e => Heap.get?_push_of_some _ e, T, st, fun b hb => by
    obtain rfl := List.mem_singleton.mp hb
    exact I.fpOk (Nat.le_refl _) (I.hok.fresh (Nat.le_refl _)), q⟩
theorem pi_listH {l : Expr} {tl : TE} (hl : PE X l tl) : PIH X tg l (iList X.K tl) := by
  refine ⟨fun pins s σ H R I h => thn (hl.run pins s σ H _ I h) fun v s1 ⟨x, H1, I1, r1, a, e, ⟨xs, hq⟩, q⟩ => ?_⟩
  subst e
  cases r1
  obtain ⟨its, rv, p, hz⟩ := I1.list hq
  exact wpAny_pyIter_list p.isList (pi_oneH (tk := s1.toks) I1 _ (turn_listH a _) ⟨_, Heap.get?_push_size _ rfl, rfl, rfl⟩ q)
theorem pi_tupH {l : Expr} {tl : TE} (hl : PE X l tl) : PIH X tg l (iTup X.K tl) := by
  refine ⟨fun pins s σ H R I h => thn (hl.run pins s σ H _ I h) fun v s1 ⟨x, H1, I1, r1, a, e, ⟨xs, hq⟩, q⟩ => ?_⟩
  subst e
  cases r1
  obtain ⟨its, rv, p, hz⟩ := I1.tuple hq
  exact wpAny_pyIter_tuple (show s1.heap.IsTuple a its.toArray from p) (pi_oneH (tk := s1.toks) I1 _ (turn_tupleH a _) ⟨_, Heap.get?_push_size _ rfl, rfl, rfl⟩ q)
theorem pi_seqH {l : Expr} {tl : TE} (hl : PE X l tl) : PIH X tg l (fun σ H R => iList X.K tl σ H R ∨ iTup X.K tl σ H R) :=
  ⟨fun pins s σ H R I h => h.elim ((pi_listH hl).run pins s σ H R I) ((pi_tupH hl).run pins s σ H R I)⟩
end
theorem def_okH {P : Program} {w : World} {K : PySem.W.Frag} {mg : Str → Option Value} {base : Heap} {CX : CXT} {k : Nat} {x qual : Str} {params : Arguments} {bd : List Stmt} {scope : Scope} {f : Addr} {fd : FuncData} {N ps : List Str} {sp : Sp} (F : FunD K x qual params bd scope [] [] f fd) (S : FnScope N ps scope)
    (len : ∀ vs H Q E, sp vs H Q E → vs.length = ps.length)
    (hbody : ∀ (cdv : Value) (A : Around) (outer : List Env) (s : Shared) (H : Hp) (vs : List V) (Q : VK) (E : XK) (p : Addr × Obj), Hot1 A p → RoomH k (A.deeper (envOfC qual scope s.heap.objs.size f cdv)) → sp vs H Q E →
      ∃ t, PSs (cxH CX P w K mg base N qual scope f cdv A outer s H E p) bd t ∧ t { nx := fun _ H' => Q .non H', rt := Q } (L2.start N vs) H) :
    FnH P w K mg base CX (k + 1) f fd ps sp := by
  obtain ⟨oc, od, dV, kV, doc, pm, an, cdv, ct, osl, rfl, lk, hcd, hD, hK⟩ := F.ex
  exact fn_ofH lk hcd S len fun A outer s H vs Q E p hot hr h => hbody cdv A outer s H vs Q E p hot hr h
end Fm

set_option maxHeartbeats 2000000
namespace Fm
open PySem PySem.Spec PyProof.Rows L2
inductive Dt where
  | non | bl (b : Bool) | int (i : Int) | str (s : Str) | rat (q : Rat) | lst (l : List Dt) | tup (l : List Dt) | dic (l : List (Str × Dt)) | scl (qs : List Rat)
structure Gs where
  S : Addr
  R : Addr
mutual
inductive DtV (G : Gs) (H : Hp) : V → Dt → Prop
  | non : DtV G H .non .non
  | bl (b : Bool) : DtV G H (.bl b) (.bl b)
  | int (i : Int) : DtV G H (.int i) (.int i)
  | str (s : Str) : DtV G H (.str s) (.str s)
  | rat {v : V} {q : Rat} (h : RatV G.R H v q) : DtV G H v (.rat q)
  | lst {p : Addr} {xs : List V} {ds : List Dt} (h : H p = some (.lst xs)) (r : DtVs G H xs ds) : DtV G H (.ref p) (.lst ds)
  | tup {p : Addr} {xs : List V} {ds : List Dt} (h : H p = some (.tup xs)) (r : DtVs G H xs ds) : DtV G H (.ref p) (.tup ds)
  | dic {p : Addr} {ks : List (Key × V)} {ds : List (Str × Dt)} (h : H p = some (.dK ks)) (r : DtKs G H ks ds) : DtV G H (.ref p) (.dic ds)
  | scl {p dx m : Addr} {rs : List V} {qs : List Rat} (h : H p = some (.ins G.S dx (putF "_marks" (.ref m) []))) (hm : H m = some (.lst rs)) (r : RatsV G.R H rs qs) : DtV G H (.ref p) (.scl qs)
inductive DtVs (G : Gs) (H : Hp) : List V → List Dt → Prop
  | nil : DtVs G H [] []
  | cons {v : V} {d : Dt} {vs : List V} {ds : List Dt} (h : DtV G H v d) (r : DtVs G H vs ds) : DtVs G H (v :: vs) (d :: ds)
inductive DtKs (G : Gs) (H : Hp) : List (Key × V) → List (Str × Dt) → Prop
  | nil : DtKs G H [] []
  | cons {s : Str} {v : V} {d : Dt} {vs : List (Key × V)} {ds : List (Str × Dt)} (h : DtV G H v d) (r : DtKs G H vs ds) : DtKs G H ((.inr s, v) :: vs) ((s, d) :: ds)
end
section
variable {G : Gs} {H H' : Hp}
mutual
theorem DtV.mono (e : Ex H H') : ∀ {v : V} {d : Dt}, DtV G H v d → DtV G H' v d
  | _, _, .non => .non
  | _, _, .bl b => .bl b
  | _, _, .int i => .int i
  | _, _, .str s => .str s
  | _, _, .rat h => .rat (h.mono e)
  | _, _, .lst h r => .lst (e _ _ h) (DtVs.mono e r)
  | _, _, .tup h r => .tup (e _ _ h) (DtVs.mono e r)
  | _, _, .dic h r => .dic (e _ _ h) (DtKs.mono e r)
  | _, _, .scl h hm r => .scl (e _ _ h) (e _ _ hm) (r.mono e)
theorem DtVs.mono (e : Ex H H') : ∀ {vs : List V} {ds : List Dt}, DtVs G H vs ds → DtVs G H' vs ds
  | _, _, .nil => .nil
  | _, _, .cons h r => .cons (DtV.mono e h) (DtVs.mono e r)
theorem DtKs.mono (e : Ex H H') : ∀ {vs : List (Key × V)} {ds : List (Str × Dt)}, DtKs G H vs ds → DtKs G H' vs ds
  | _, _, .nil => .nil
  | _, _, .cons h r => .cons (DtV.mono e h) (DtKs.mono e r)
end
theorem DtVs.length : ∀ {vs : List V} {ds : List Dt}, DtVs G H vs ds → vs.length = ds.length
  | _, _, .nil => rfl
  | _, _, .cons _ r => congrArg Nat.succ r.length
theorem DtVs.at : ∀ {vs : List V} {ds : List Dt} {i : Nat} {v : V}, DtVs G H vs ds → vs[i]? = some v → ∃ d, ds[i]? = some d ∧ DtV G H v d
  | _, _, _, _, .nil, h => by simp at h
  | _, _, 0, _, .cons h _, e => by simp at e; subst e; exact ⟨_, rfl, h⟩
  | _, _, i + 1, v, .cons _ r, e => by
    obtain ⟨d, h1, h2⟩ := DtVs.at (i := i) (v := v) r (by simpa using e)
    exact ⟨d, by simpa using h1, h2⟩
theorem DtVs.atR : ∀ {vs : List V} {ds : List Dt} {i : Nat} {d : Dt}, DtVs G H vs ds → ds[i]? = some d → ∃ v, vs[i]? = some v ∧ DtV G H v d
  | _, _, _, _, .nil, h => by simp at h
  | _, _, 0, _, .cons h _, e => by simp at e; subst e; exact ⟨_, rfl, h⟩
  | _, _, i + 1, d, .cons _ r, e => by
    obtain ⟨v, h1, h2⟩ := DtVs.atR (i := i) (d := d) r (by simpa using e)
    exact ⟨v, by simpa using h1, h2⟩
theorem DtVs.app : ∀ {vs ws : List V} {ds es : List Dt}, DtVs G H vs ds → DtVs G H ws es → DtVs G H (vs ++ ws) (ds ++ es)
  | _, _, _, _, .nil, h => h
  | _, _, _, _, .cons h r, h2 => .cons h (r.app h2)
theorem DtVs.take : ∀ {vs : List V} {ds : List Dt} (n : Nat), DtVs G H vs ds → DtVs G H (vs.take n) (ds.take n)
  | _, _, 0, _ => by simpa using DtVs.nil
  | _, _, n + 1, .nil => by simpa using DtVs.nil
  | _, _, n + 1, .cons h r => .cons h (r.take n)
theorem DtVs.drop : ∀ {vs : List V} {ds : List Dt} (n : Nat), DtVs G H vs ds → DtVs G H (vs.drop n) (ds.drop n)
  | _, _, 0, h => h
  | _, _, n + 1, .nil => by simpa using DtVs.nil
  | _, _, n + 1, .cons h r => r.drop n
theorem DtVs.rev : ∀ {vs : List V} {ds : List Dt}, DtVs G H vs ds → DtVs G H vs.reverse ds.reverse
  | _, _, .nil => .nil
  | _, _, .cons h r => by rw [List.reverse_cons, List.reverse_cons]; exact r.rev.app (.cons h .nil)
theorem DtVs.set : ∀ {vs : List V} {ds : List Dt} {v : V} {d : Dt} (n : Nat), DtVs G H vs ds → DtV G H v d → DtVs G H (vs.set n v) (ds.set n d)
  | _, _, _, _, _, .nil, _ => by simpa using DtVs.nil
  | _, _, _, _, 0, .cons h r, h2 => .cons h2 r
  | _, _, _, _, n + 1, .cons h r, h2 => .cons h (r.set n h2)
theorem RatsV.dt {vs : List V} {qs : List Rat} (h : RatsV G.R H vs qs) : DtVs G H vs (qs.map .rat) := by
  unfold RatsV at h
  induction h with
  | nil => exact .nil
  | cons h _ ih => exact .cons (.rat h) ih
theorem DtVs.rats : ∀ {vs : List V} {qs : List Rat}, DtVs G H vs (qs.map .rat) → RatsV G.R H vs qs
  | _, [], .nil => .nil
  | _, _ :: _, .cons (.rat h) r => .cons h r.rats
theorem DtVs.ints : ∀ {vs : List V} {is : List Int}, DtVs G H vs (is.map .int) → vs = is.map V.int
  | _, [], .nil => rfl
  | _, _ :: _, .cons (.int _) r => congrArg _ r.ints
theorem DtVs.bls : ∀ {vs : List V} {is : List Bool}, DtVs G H vs (is.map .bl) → vs = is.map V.bl
  | _, [], .nil => rfl
  | _, _ :: _, .cons (.bl _) r => congrArg _ r.bls
end
def Dt.isNum : Dt → Bool
  | .int _ => true
  | .rat _ => true
  | _ => false
def Dt.num : Dt → Rat
  | .int i => (i : Rat)
  | .rat q => q
  | _ => 0
theorem DtV.num {G : Gs} {H : Hp} {v : V} {d : Dt} (h : DtV G H v d) (n : d.isNum = true) : NumV G.R H v d.num := by
  cases h with
  | int i => exact .inl ⟨i, rfl, rfl⟩
  | rat h => exact .inr h
  | _ => cases n
open Classical in
noncomputable def cut (X : Addr → Prop) (H : Hp) : Hp := fun a => if X a then none else H a
section
variable {X Y : Addr → Prop} {H H' : Hp} {a : Addr} {o : HO}
theorem cut_some : cut X H a = some o ↔ ¬ X a ∧ H a = some o := by
  unfold cut
  by_cases h : X a
  · simp [h]
  · simp [h]
theorem cut_ex (h : ∀ a o, ¬ X a → H a = some o → ¬ Y a ∧ H' a = some o) : Ex (cut X H) (cut Y H') := fun a o e => by
  obtain ⟨h1, h2⟩ := cut_some.mp e
  exact cut_some.mpr (h a o h1 h2)
theorem cut_le (h : ∀ a, Y a → X a) : Ex (cut X H) (cut Y H) := cut_ex fun a o n e => ⟨fun y => n (h a y), e⟩
theorem cut_H : Ex (cut X H) H := fun a o e => (cut_some.mp e).2
theorem cut_grow (e : Ex H H') : Ex (cut X H) (cut X H') := cut_ex fun a o n h => ⟨n, e a o h⟩
theorem cut_upd {p : Addr} {ob : HO} (h : X p) : cut X (upd H p ob) = cut X H := by
  funext a
  unfold cut
  by_cases hx : X a
  · simp [hx]
  · have : a ≠ p := fun e => hx (e ▸ h)
    simp [hx, upd_ne this]
end
inductive Slot where
  | un | val (d : Dt) | own (l : List Dt) | lock (l : List Dt) | tape (p : Addr) | ref (a : Addr) | box (p : Addr) (b : Nat)
abbrev Env := List Slot
def Slot.lists : Slot → Bool
  | .own _ => true
  | .lock _ => true
  | .tape _ => true
  | .box _ _ => true
  | _ => false
def Own (σ : L2.St) (ρ : Fm.Env) (p : Addr) : Prop := ∃ (i : Nat) (s : Slot), ρ[i]? = some s ∧ s.lists = true ∧ σ[i]? = some (some (.ref p))
structure Fr where
  H0 : Hp
  P : Addr → Prop
  X0 : Addr → Prop
def Xs (f : Fr) (σ : L2.St) (ρ : Fm.Env) : Addr → Prop := fun p => f.X0 p ∨ Own σ ρ p
inductive SlR (G : Gs) (Hc H : Hp) : Option V → Slot → Prop
  | un {o : Option V} : SlR G Hc H o .un
  | val {v : V} {d : Dt} (h : DtV G Hc v d) : SlR G Hc H (some v) (.val d)
  | own {p : Addr} {vs : List V} {l : List Dt} (h : H p = some (.lst vs)) (r : DtVs G Hc vs l) : SlR G Hc H (some (.ref p)) (.own l)
  | lock {p : Addr} {vs : List V} {l : List Dt} (h : H p = some (.lst vs)) (r : DtVs G Hc vs l) : SlR G Hc H (some (.ref p)) (.lock l)
  | tape {p : Addr} (h : TapeAt H p) : SlR G Hc H (some (.ref p)) (.tape p)
  | ref {a : Addr} : SlR G Hc H (some (.ref a)) (.ref a)
  | box {p : Addr} {b : Nat} (h : BoxAt H p b) : SlR G Hc H (some (.ref p)) (.box p b)
def Kp (f : Fr) (H : Hp) : Prop := ∀ a o, ¬ f.P a → f.H0 a = some o → H a = some o
def LstAt (H : Hp) (p : Addr) : Prop := ∃ vs, H p = some (.lst vs)
structure St (G : Gs) (f : Fr) (σ : L2.St) (H : Hp) (ρ : Fm.Env) : Prop where
  len : σ.length = ρ.length
  fr : Kp f H
  sl : ∀ (i : Nat) (s : Slot), ρ[i]? = some s → SlR G (cut (Xs f σ ρ) H) H (σ[i]?.join) s
  uq : ∀ (i j : Nat) (s t : Slot) (p : Addr), ρ[i]? = some s → s.lists = true → σ[i]? = some (some (.ref p)) → ρ[j]? = some t → t.lists = true → σ[j]? = some (some (.ref p)) → i = j
  nw : ∀ p, Own σ ρ p → f.P p ∨ f.H0 p = none
  x0 : ∀ p, f.X0 p → LstAt H p ∧ ¬ Own σ ρ p
  pd : ∀ p, f.P p → H p ≠ none
section
variable {G : Gs} {f : Fr} {σ : L2.St} {H H' : Hp} {ρ : Fm.Env} {i : Nat} {v : V} {d : Dt} {l : List Dt} {p : Addr}
theorem SlR.mono {Hc Hc' : Hp} {o : Option V} {s : Slot} (e : Ex Hc Hc') (e2 : ∀ p vs, s.lists = true → o = some (.ref p) → H p = some (.lst vs) → H' p = some (.lst vs)) (h : SlR G Hc H o s) : SlR G Hc' H' o s := by
  cases h with
  | un => exact .un
  | val h => exact .val (h.mono e)
  | own h r => exact .own (e2 _ _ rfl rfl h) (r.mono e)
  | lock h r => exact .lock (e2 _ _ rfl rfl h) (r.mono e)
  | tape h => obtain ⟨a, b, h1, h2, h3, h⟩ := h; exact .tape ⟨a, b, h1, h2, h3, e2 _ _ rfl rfl h⟩
  | box h => exact .box (h.at fun vs q => e2 _ _ rfl rfl q)
  | ref => exact .ref
theorem jn {σ : L2.St} {i : Nat} {v : V} : σ[i]?.join = some v ↔ σ[i]? = some (some v) := by
  cases h : σ[i]? with
  | none => simp
  | some o => simp
theorem St.val (S : St G f σ H ρ) (h : ρ[i]? = some (.val d)) : ∃ v, σ[i]? = some (some v) ∧ DtV G (cut (Xs f σ ρ) H) v d := by
  have := S.sl i _ h
  generalize e : σ[i]?.join = o at this
  cases this with
  | val h => exact ⟨_, jn.mp e, h⟩
theorem St.lst (S : St G f σ H ρ) {s : Slot} (h : ρ[i]? = some s) (hs : s = .own l ∨ s = .lock l) : ∃ p vs, σ[i]? = some (some (.ref p)) ∧ Own σ ρ p ∧ H p = some (.lst vs) ∧ DtVs G (cut (Xs f σ ρ) H) vs l := by
  have := S.sl i _ h
  generalize e : σ[i]?.join = o at this
  rcases hs with rfl | rfl
  · cases this with
    | own h1 r => exact ⟨_, _, jn.mp e, ⟨i, _, h, rfl, jn.mp e⟩, h1, r⟩
  · cases this with
    | lock h1 r => exact ⟨_, _, jn.mp e, ⟨i, _, h, rfl, jn.mp e⟩, h1, r⟩
theorem St.own (S : St G f σ H ρ) (h : ρ[i]? = some (.own l)) : ∃ p vs, σ[i]? = some (some (.ref p)) ∧ Own σ ρ p ∧ H p = some (.lst vs) ∧ DtVs G (cut (Xs f σ ρ) H) vs l := S.lst h (.inl rfl)
theorem St.grow (S : St G f σ H ρ) (e : Ex H H') : St G f σ H' ρ where
  len := S.len
  fr := fun a o n h => e _ _ (S.fr a o n h)
  sl := fun i s h => (S.sl i s h).mono (cut_grow e) fun p vs _ _ h => e _ _ h
  uq := S.uq
  nw := S.nw
  x0 := fun p h => ⟨(S.x0 p h).1.imp fun vs h => e _ _ h, (S.x0 p h).2⟩
  pd := fun p h n => S.pd p h (e.free n)
theorem Own.lt (S : St G f σ H ρ) (h : Own σ ρ p) : ∃ vs, H p = some (.lst vs) := by
  obtain ⟨i, s, h1, h2, h3⟩ := h
  have := S.sl i s h1
  rw [jn.mpr h3] at this
  cases this with
  | un => cases h2
  | val => cases h2
  | ref => cases h2
  | own h r => exact ⟨_, h⟩
  | lock h r => exact ⟨_, h⟩
  | tape h => obtain ⟨a, b, h1, h2, h3, h⟩ := h; exact ⟨_, h⟩
  | box h => exact h.lst
theorem own_set {σ : L2.St} {ρ : Fm.Env} {i : Nat} {o : Option V} {s : Slot} (hs : s.lists = false) (h : Own (σ.set i o) (ρ.set i s) p) : Own σ ρ p := by
  obtain ⟨j, t, h1, h2, h3⟩ := h
  by_cases e : i = j
  · subst e
    by_cases hl : i < ρ.length
    · rw [List.getElem?_set_self hl] at h1
      cases h1
      rw [hs] at h2; cases h2
    · rw [List.getElem?_eq_none (by rw [List.length_set]; omega)] at h1; cases h1
  · rw [List.getElem?_set_ne e] at h1 h3
    exact ⟨j, t, h1, h2, h3⟩
theorem St.put (S : St G f σ H ρ) {o : Option V} {s : Slot} (hs : s.lists = false) (h : SlR G (cut (Xs f σ ρ) H) H o s) : St G f (σ.set i o) H (ρ.set i s) := by
  have hx : ∀ p, Xs f (σ.set i o) (ρ.set i s) p → Xs f σ ρ p := fun p h => h.imp id fun h => own_set hs h
  have e : Ex (cut (Xs f σ ρ) H) (cut (Xs f (σ.set i o) (ρ.set i s)) H) := cut_le hx
  refine ⟨by rw [List.length_set, List.length_set]; exact S.len, S.fr, fun j t hj => ?_, fun a b s1 t1 p h1 h2 h3 h4 h5 h6 => ?_, fun p h => S.nw p (own_set hs h), fun p h => ⟨(S.x0 p h).1, fun w => (S.x0 p h).2 (own_set hs w)⟩, S.pd⟩
  · by_cases hij : i = j
    · subst hij
      have hl : i < ρ.length := by
        by_cases hl : i < ρ.length
        · exact hl
        · rw [List.getElem?_eq_none (by rw [List.length_set]; omega)] at hj; cases hj
      rw [List.getElem?_set_self hl] at hj
      cases hj
      rw [List.getElem?_set_self (by rw [S.len]; exact hl)]
      exact h.mono e fun _ _ _ _ h => h
    · rw [List.getElem?_set_ne hij] at hj ⊢
      exact (S.sl j t hj).mono e fun _ _ _ _ h => h
  · have key : ∀ {c : Nat} {u : Slot}, (ρ.set i s)[c]? = some u → u.lists = true → i ≠ c := by
      intro c u hc hu e
      subst e
      by_cases hl : i < ρ.length
      · rw [List.getElem?_set_self hl] at hc; cases hc; rw [hs] at hu; cases hu
      · rw [List.getElem?_eq_none (by rw [List.length_set]; omega)] at hc; cases hc
    have k1 := key h1 h2
    have k2 := key h4 h5
    rw [List.getElem?_set_ne k1] at h1 h3
    rw [List.getElem?_set_ne k2] at h4 h6
    exact S.uq a b s1 t1 p h1 h2 h3 h4 h5 h6
theorem put_ex {o : Option V} {s : Slot} (hs : s.lists = false) : Ex (cut (Xs f σ ρ) H) (cut (Xs f (σ.set i o) (ρ.set i s)) H) := cut_le fun p h => h.imp id fun h => own_set hs h
def Fr.out (f : Fr) (p : Addr) : Fr := { f with X0 := fun a => f.X0 a ∨ a = p }
theorem xs_out {p a : Addr} : Xs (f.out p) σ ρ a ↔ Xs f σ ρ a ∨ a = p := by
  unfold Xs Fr.out
  constructor
  · rintro ((h | h) | h)
    · exact .inl (.inl h)
    · exact .inr h
    · exact .inl (.inr h)
  · rintro ((h | h) | h)
    · exact .inl (.inl h)
    · exact .inr h
    · exact .inl (.inr h)
theorem St.back (S : St G (f.out p) σ H ρ) : St G f σ H ρ :=
  ⟨S.len, S.fr, fun i s h => (S.sl i s h).mono (cut_le fun a h => xs_out.mpr (.inl h)) fun _ _ _ _ h => h, S.uq, S.nw, fun a h => S.x0 a (.inl h), S.pd⟩
theorem out_ex : Ex (cut (Xs (f.out p) σ ρ) H) (cut (Xs f σ ρ) H) := cut_le fun a h => xs_out.mpr (.inl h)
theorem St.outNew (S : St G f σ H ρ) (hp : H p = none) (e : Ex H H') (h' : LstAt H' p) : St G (f.out p) σ H' ρ := by
  refine ⟨S.len, fun a o n h => e _ _ (S.fr a o n h), fun i s h => (S.sl i s h).mono (cut_ex fun a o n h => ⟨fun w => ?_, e _ _ h⟩) fun _ _ _ _ h => e _ _ h, S.uq, S.nw, fun a h => ?_, fun a h n => S.pd a h (e.free n)⟩
  · rcases xs_out.mp w with w | w
    · exact n w
    · subst w; rw [hp] at h; cases h
  · rcases h with h | h
    · exact ⟨(S.x0 a h).1.imp fun vs h => e _ _ h, (S.x0 a h).2⟩
    · subst h
      refine ⟨h', fun w => ?_⟩
      obtain ⟨vs, hv⟩ := Own.lt S w
      rw [hp] at hv; cases hv
theorem newOut_ex (hp : H p = none) (e : Ex H H') : Ex (cut (Xs f σ ρ) H) (cut (Xs (f.out p) σ ρ) H') := by
  refine cut_ex fun a o n h => ⟨fun w => ?_, e _ _ h⟩
  rcases xs_out.mp w with w | w
  · exact n w
  · subst w; rw [hp] at h; cases h
theorem St.take (S : St G (f.out p) σ H ρ) {vs : List V} (hi : i < ρ.length) (hp : H p = some (.lst vs)) (hr : DtVs G (cut (Xs (f.out p) σ ρ) H) vs l) (hn : f.P p ∨ f.H0 p = none) (hx : ¬ f.X0 p) : St G f (σ.set i (some (.ref p))) H (ρ.set i (.own l)) := by
  have oo : ∀ a, Own (σ.set i (some (.ref p))) (ρ.set i (.own l)) a → Own σ ρ a ∨ a = p := by
    rintro a ⟨j, t, h1, h2, h3⟩
    by_cases e : i = j
    · subst e
      rw [List.getElem?_set_self (by rw [S.len]; exact hi)] at h3
      right
      injection h3 with h3; injection h3 with h3; injection h3 with h3; exact h3.symm
    · rw [List.getElem?_set_ne e] at h1 h3
      exact .inl ⟨j, t, h1, h2, h3⟩
  have hnp : ¬ Own σ ρ p := (S.x0 p (.inr rfl)).2
  have e : Ex (cut (Xs (f.out p) σ ρ) H) (cut (Xs f (σ.set i (some (.ref p))) (ρ.set i (.own l))) H) := cut_le fun a h => by
    rcases h with h | h
    · exact xs_out.mpr (.inl (.inl h))
    · rcases oo a h with h | h
      · exact xs_out.mpr (.inl (.inr h))
      · exact xs_out.mpr (.inr h)
  refine ⟨by rw [List.length_set, List.length_set]; exact S.len, S.fr, fun j t hj => ?_, fun a b s1 t1 q h1 h2 h3 h4 h5 h6 => ?_, fun q h => ?_, fun q h => ⟨(S.x0 q (.inl h)).1, fun w => ?_⟩, S.pd⟩
  · by_cases hij : i = j
    · subst hij
      rw [List.getElem?_set_self hi] at hj
      cases hj
      rw [List.getElem?_set_self (by rw [S.len]; exact hi)]
      exact .own hp (hr.mono e)
    · rw [List.getElem?_set_ne hij] at hj ⊢
      exact (S.sl j t hj).mono e fun _ _ _ _ h => h
  · by_cases ha : i = a <;> by_cases hb : i = b
    · omega
    · subst ha
      rw [List.getElem?_set_self (by rw [S.len]; exact hi)] at h3
      injection h3 with h3; injection h3 with h3; injection h3 with h3; subst h3
      rw [List.getElem?_set_ne hb] at h4 h6
      exact absurd ⟨b, t1, h4, h5, h6⟩ hnp
    · subst hb
      rw [List.getElem?_set_self (by rw [S.len]; exact hi)] at h6
      injection h6 with h6; injection h6 with h6; injection h6 with h6; subst h6
      rw [List.getElem?_set_ne ha] at h1 h3
      exact absurd ⟨a, s1, h1, h2, h3⟩ hnp
    · rw [List.getElem?_set_ne ha] at h1 h3
      rw [List.getElem?_set_ne hb] at h4 h6
      exact S.uq a b s1 t1 q h1 h2 h3 h4 h5 h6
  · rcases oo q h with h | h
    · exact S.nw q h
    · subst h; exact hn
  · rcases oo q w with w | w
    · exact (S.x0 q (.inl h)).2 w
    · subst w; exact hx h
theorem take_ex (S : St G (f.out p) σ H ρ) (hi : i < ρ.length) : Ex (cut (Xs (f.out p) σ ρ) H) (cut (Xs f (σ.set i (some (.ref p))) (ρ.set i (.own l))) H) := cut_le fun a h => by
  rcases h with h | ⟨j, t, h1, h2, h3⟩
  · exact xs_out.mpr (.inl (.inl h))
  · by_cases e : i = j
    · subst e
      rw [List.getElem?_set_self (by rw [S.len]; exact hi)] at h3
      injection h3 with h3; injection h3 with h3; injection h3 with h3
      exact xs_out.mpr (.inr h3.symm)
    · rw [List.getElem?_set_ne e] at h1 h3
      exact xs_out.mpr (.inl (.inr ⟨j, t, h1, h2, h3⟩))
theorem St.mut (S : St G f σ H ρ) (h : ρ[i]? = some (.own l)) (hp : σ[i]? = some (some (.ref p))) {vs : List V} {l' : List Dt} (hr : DtVs G (cut (Xs f σ ρ) H) vs l') : St G f σ (upd H p (.lst vs)) (ρ.set i (.own l')) ∧ Ex (cut (Xs f σ ρ) H) (cut (Xs f σ (ρ.set i (.own l'))) (upd H p (.lst vs))) := by
  have hi : i < ρ.length := by
    by_cases hl : i < ρ.length
    · exact hl
    · rw [List.getElem?_eq_none (by omega)] at h; cases h
  have oi : Own σ ρ p := ⟨i, _, h, rfl, hp⟩
  have oo : ∀ a, Own σ (ρ.set i (.own l')) a ↔ Own σ ρ a := by
    intro a
    constructor
    · rintro ⟨j, t, h1, h2, h3⟩
      by_cases e : i = j
      · subst e; exact ⟨i, _, h, rfl, h3⟩
      · rw [List.getElem?_set_ne e] at h1; exact ⟨j, t, h1, h2, h3⟩
    · rintro ⟨j, t, h1, h2, h3⟩
      by_cases e : i = j
      · subst e; exact ⟨i, .own l', List.getElem?_set_self hi, rfl, h3⟩
      · exact ⟨j, t, by rw [List.getElem?_set_ne e]; exact h1, h2, h3⟩
  have xx : Xs f σ (ρ.set i (.own l')) = Xs f σ ρ := by
    funext a
    unfold Xs
    rw [oo a]
  have ce : cut (Xs f σ ρ) (upd H p (.lst vs)) = cut (Xs f σ ρ) H := cut_upd (.inr oi)
  refine ⟨⟨by rw [List.length_set]; exact S.len, fun a o n ha => ?_, fun j t hj => ?_, fun a b s1 t1 q h1 h2 h3 h4 h5 h6 => ?_, fun q hq => S.nw q ((oo q).mp hq), fun q hq => ⟨?_, fun w => (S.x0 q hq).2 ((oo q).mp w)⟩, fun q hq => ?_⟩, by rw [xx, ce]; exact Ex.refl _⟩
  · have : a ≠ p := by
      rintro rfl
      rcases S.nw a oi with w | w
      · exact n w
      · rw [w] at ha; cases ha
    rw [upd_ne this]
    exact S.fr a o n ha
  · rw [xx, ce]
    by_cases hij : i = j
    · subst hij
      rw [List.getElem?_set_self hi] at hj
      cases hj
      rw [hp]
      exact .own upd_same hr
    · rw [List.getElem?_set_ne hij] at hj
      refine (S.sl j t hj).mono (Ex.refl _) fun q ws ht hq hw => ?_
      have : q ≠ p := by
        rintro rfl
        exact hij (S.uq i j _ t q h rfl hp hj ht (jn.mp hq))
      rw [upd_ne this]
      exact hw
  · have fix : ∀ {c : Nat} {u : Slot}, (ρ.set i (.own l'))[c]? = some u → u.lists = true → ∃ u', ρ[c]? = some u' ∧ u'.lists = true := by
      intro c u hc hu
      by_cases e : i = c
      · subst e; exact ⟨_, h, rfl⟩
      · rw [List.getElem?_set_ne e] at hc; exact ⟨_, hc, hu⟩
    obtain ⟨u1, k1, k2⟩ := fix h1 h2
    obtain ⟨u2, k3, k4⟩ := fix h4 h5
    exact S.uq a b u1 u2 q k1 k2 h3 k3 k4 h6
  · by_cases e : q = p
    · subst e; exact ⟨_, upd_same⟩
    · exact (S.x0 q hq).1.imp fun vs h => by rw [upd_ne e]; exact h
  · by_cases e : q = p
    · subst e; rw [upd_same]; simp
    · rw [upd_ne e]; exact S.pd q hq
theorem St.melt (S : St G f σ H ρ) (h : ρ[i]? = some (.own l)) (hp : σ[i]? = some (some (.ref p))) : St G f σ H (ρ.set i (.val (.lst l))) ∧ Ex (cut (Xs f σ ρ) H) (cut (Xs f σ (ρ.set i (.val (.lst l)))) H) ∧ DtV G (cut (Xs f σ (ρ.set i (.val (.lst l)))) H) (.ref p) (.lst l) := by
  obtain ⟨p', vs, e1, _, e3, e4⟩ := S.own h
  rw [hp] at e1
  injection e1 with e1; injection e1 with e1; injection e1 with e1; subst e1
  have hσ : σ = σ.set i (some (.ref p)) := by
    apply List.ext_getElem?
    intro j
    by_cases e : i = j
    · subst e
      rw [List.getElem?_set_self]
      · exact hp
      · by_cases hl : i < σ.length
        · exact hl
        · rw [List.getElem?_eq_none (by omega)] at hp; cases hp
    · rw [List.getElem?_set_ne e]
  have ex : Ex (cut (Xs f σ ρ) H) (cut (Xs f σ (ρ.set i (.val (.lst l)))) H) := by
    have := put_ex (f := f) (σ := σ) (H := H) (ρ := ρ) (i := i) (o := some (.ref p)) (s := .val (.lst l)) rfl
    rw [← hσ] at this
    exact this
  have nx : ¬ Xs f σ (ρ.set i (.val (.lst l))) p := by
    rintro (w | ⟨j, t, h1, h2, h3⟩)
    · exact (S.x0 p w).2 ⟨i, _, h, rfl, hp⟩
    · by_cases e : i = j
      · subst e
        have hi : i < ρ.length := by
          by_cases hl : i < ρ.length
          · exact hl
          · rw [List.getElem?_eq_none (by omega)] at h; cases h
        rw [List.getElem?_set_self hi] at h1
        cases h1; cases h2
      · rw [List.getElem?_set_ne e] at h1
        exact e (S.uq i j _ t p h rfl hp h1 h2 h3)
  have dv : DtV G (cut (Xs f σ (ρ.set i (.val (.lst l)))) H) (.ref p) (.lst l) := .lst (cut_some.mpr ⟨nx, e3⟩) (e4.mono ex)
  refine ⟨⟨by rw [List.length_set]; exact S.len, S.fr, fun j t hj => ?_, fun a b s1 t1 q h1 h2 h3 h4 h5 h6 => ?_, fun q hq => ?_, fun q hq => ⟨(S.x0 q hq).1, fun w => ?_⟩, S.pd⟩, ex, dv⟩
  · by_cases hij : i = j
    · subst hij
      have hi : i < ρ.length := by
        by_cases hl : i < ρ.length
        · exact hl
        · rw [List.getElem?_eq_none (by omega)] at h; cases h
      rw [List.getElem?_set_self hi] at hj
      cases hj
      rw [hp]
      exact .val dv
    · rw [List.getElem?_set_ne hij] at hj
      exact (S.sl j t hj).mono ex fun _ _ _ _ h => h
  · have fix : ∀ {c : Nat} {u : Slot}, (ρ.set i (.val (.lst l)))[c]? = some u → u.lists = true → ρ[c]? = some u := by
      intro c u hc hu
      by_cases e : i = c
      · subst e
        by_cases hl : i < ρ.length
        · rw [List.getElem?_set_self hl] at hc; cases hc; cases hu
        · rw [List.getElem?_eq_none (by rw [List.length_set]; omega)] at hc; cases hc
      · rw [List.getElem?_set_ne e] at hc; exact hc
    exact S.uq a b s1 t1 q (fix h1 h2) h2 h3 (fix h4 h5) h5 h6
  · obtain ⟨j, t, h1, h2, h3⟩ := hq
    have : Own (σ.set i (some (.ref p))) (ρ.set i (.val (.lst l))) q := by rw [← hσ]; exact ⟨j, t, h1, h2, h3⟩
    exact S.nw q (own_set rfl this)
  · have : Own (σ.set i (some (.ref p))) (ρ.set i (.val (.lst l))) q := by rw [← hσ]; exact w
    exact (S.x0 q hq).2 (own_set rfl this)
end
end Fm

set_option maxHeartbeats 2000000
namespace Fm
open PySem PySem.Spec PyProof.Rows L2
inductive Er where
  | bare (c : Addr)
  | own (c : Addr) (n : Str) (d : Dt)
abbrev FE := Fm.Env → (Dt → Fm.Env → Prop) → (Er → Prop) → Prop
abbrev FT := Fm.Env → (Bool → Fm.Env → Prop) → (Er → Prop) → Prop
abbrev FA := Fm.Env → (List Dt → Fm.Env → Prop) → (Er → Prop) → Prop
abbrev FG := Dt → Fm.Env → (Fm.Env → Prop) → Prop
structure DE where
  nx : Fm.Env → Prop
  rt : Dt → Fm.Env → Prop
  rl : List Dt → Fm.Env → Prop
  bk : Fm.Env → Prop := fun _ => False
  ct : Fm.Env → Prop := fun _ => False
  ex : Er → Prop := fun _ => False
abbrev FS := Fm.Env → DE → Prop
structure DE.Le (D D' : DE) : Prop where
  nx : ∀ ρ, D.nx ρ → D'.nx ρ
  rt : ∀ d ρ, D.rt d ρ → D'.rt d ρ
  rl : ∀ l ρ, D.rl l ρ → D'.rl l ρ
  bk : ∀ ρ, D.bk ρ → D'.bk ρ
  ct : ∀ ρ, D.ct ρ → D'.ct ρ
  ex : ∀ e, D.ex e → D'.ex e
section
variable {G : Gs} {E : XK}
def kX (G : Gs) (f : Fr) (E : XK) : Er → Prop
  | .bare c => ∀ H', Kp f H' → E (.ref c) none H'
  | .own c n d => ∀ v dd H', Kp f H' → DtV G (cut f.X0 H') v d → H' dd = some (.xd [(n, v)]) → f.H0 dd = none → E (.ref c) (some dd) H'
def kV (G : Gs) (f : Fr) (σ : L2.St) (H : Hp) (ρ : Fm.Env) (Q : VK) : Dt → Fm.Env → Prop := fun d ρ' => ∀ v H', St G f σ H' ρ' → Ex (cut (Xs f σ ρ) H) (cut (Xs f σ ρ') H') → DtV G (cut (Xs f σ ρ') H') v d → Q v H'
def kF (G : Gs) (f : Fr) (σ : L2.St) (H : Hp) (ρ : Fm.Env) (Q : VK) : List Dt → Fm.Env → Prop := fun l ρ' => ∀ p vs H', St G (f.out p) σ H' ρ' → Ex (cut (Xs f σ ρ) H) (cut (Xs (f.out p) σ ρ') H') → (f.P p ∨ f.H0 p = none) → ¬ f.X0 p → H' p = some (.lst vs) → DtVs G (cut (Xs (f.out p) σ ρ') H') vs l → Q (.ref p) H'
def kB (G : Gs) (f : Fr) (σ : L2.St) (H : Hp) (ρ : Fm.Env) (W : Bool → Hp → Prop) : Bool → Fm.Env → Prop := fun b ρ' => ∀ H', St G f σ H' ρ' → Ex (cut (Xs f σ ρ) H) (cut (Xs f σ ρ') H') → W b H'
def kA (G : Gs) (f : Fr) (σ : L2.St) (H : Hp) (ρ : Fm.Env) (Q : List V → Hp → Prop) : List Dt → Fm.Env → Prop := fun ds ρ' => ∀ vs H', St G f σ H' ρ' → Ex (cut (Xs f σ ρ) H) (cut (Xs f σ ρ') H') → DtVs G (cut (Xs f σ ρ') H') vs ds → Q vs H'
def kN (G : Gs) (f : Fr) (σ : L2.St) (H : Hp) (ρ : Fm.Env) (N : L2.St → Hp → Prop) : Fm.Env → Prop := fun ρ' => ∀ σ' H', St G f σ' H' ρ' → Ex (cut (Xs f σ ρ) H) (cut (Xs f σ' ρ') H') → N σ' H'
def kD (G : Gs) (E : XK) (f : Fr) (σ : L2.St) (H : Hp) (ρ : Fm.Env) (D : Ends) : DE where
  nx := kN G f σ H ρ D.nx
  rt := fun d ρ' => ∀ v σ' H', St G f σ' H' ρ' → DtV G (cut (Xs f σ' ρ') H') v d → D.rt v H'
  rl := fun l ρ' => ∀ p vs σ' H', St G (f.out p) σ' H' ρ' → (f.P p ∨ f.H0 p = none) → ¬ f.X0 p → H' p = some (.lst vs) → DtVs G (cut (Xs (f.out p) σ' ρ') H') vs l → D.rt (.ref p) H'
  bk := kN G f σ H ρ D.bk
  ct := kN G f σ H ρ D.ct
  ex := kX G f E
structure PU (G : Gs) (E : XK) (t : TE) (F : FE) : Prop where
  run : ∀ {f : Fr} {σ : L2.St} {H : Hp} {ρ : Fm.Env} {Q : VK}, St G f σ H ρ → F ρ (kV G f σ H ρ Q) (kX G f E) → t σ H Q
  mono : ∀ {ρ : Fm.Env} {K K' : Dt → Fm.Env → Prop} {X X' : Er → Prop}, (∀ d ρ', K d ρ' → K' d ρ') → (∀ e, X e → X' e) → F ρ K X → F ρ K' X'
structure PUF (G : Gs) (E : XK) (t : TE) (F : FA) : Prop where
  run : ∀ {f : Fr} {σ : L2.St} {H : Hp} {ρ : Fm.Env} {Q : VK}, St G f σ H ρ → F ρ (kF G f σ H ρ Q) (kX G f E) → t σ H Q
  mono : ∀ {ρ : Fm.Env} {K K' : List Dt → Fm.Env → Prop} {X X' : Er → Prop}, (∀ d ρ', K d ρ' → K' d ρ') → (∀ e, X e → X' e) → F ρ K X → F ρ K' X'
structure PUT (G : Gs) (E : XK) (t : TT) (F : FT) : Prop where
  run : ∀ {f : Fr} {σ : L2.St} {H : Hp} {ρ : Fm.Env} {W : Bool → Hp → Prop}, St G f σ H ρ → F ρ (kB G f σ H ρ W) (kX G f E) → t σ H W
  mono : ∀ {ρ : Fm.Env} {K K' : Bool → Fm.Env → Prop} {X X' : Er → Prop}, (∀ d ρ', K d ρ' → K' d ρ') → (∀ e, X e → X' e) → F ρ K X → F ρ K' X'
structure PUA (G : Gs) (E : XK) (t : TA) (F : FA) : Prop where
  run : ∀ {f : Fr} {σ : L2.St} {H : Hp} {ρ : Fm.Env} {Q : List V → Hp → Prop}, St G f σ H ρ → F ρ (kA G f σ H ρ Q) (kX G f E) → t σ H Q
  mono : ∀ {ρ : Fm.Env} {K K' : List Dt → Fm.Env → Prop} {X X' : Er → Prop}, (∀ d ρ', K d ρ' → K' d ρ') → (∀ e, X e → X' e) → F ρ K X → F ρ K' X'
structure PUG (G : Gs) (g : TG) (F : FG) : Prop where
  run : ∀ {f : Fr} {σ : L2.St} {H : Hp} {ρ : Fm.Env} {N : L2.St → Hp → Prop} {v : V} {d : Dt}, St G f σ H ρ → DtV G (cut (Xs f σ ρ) H) v d → F d ρ (kN G f σ H ρ N) → g v σ H N
  mono : ∀ {d : Dt} {ρ : Fm.Env} {K K' : Fm.Env → Prop}, (∀ ρ', K ρ' → K' ρ') → F d ρ K → F d ρ K'
structure PUS (G : Gs) (E : XK) (t : TS) (F : FS) : Prop where
  run : ∀ {f : Fr} {σ : L2.St} {H : Hp} {ρ : Fm.Env} {D : Ends}, St G f σ H ρ → F ρ (kD G E f σ H ρ D) → t D σ H
  mono : ∀ {ρ : Fm.Env} {D D' : DE}, D.Le D' → F ρ D → F ρ D'
theorem DE.Le.refl (D : DE) : D.Le D := ⟨fun _ h => h, fun _ _ h => h, fun _ _ h => h, fun _ h => h, fun _ h => h, fun _ h => h⟩
theorem kN_ex {f : Fr} {σ σ1 : L2.St} {H H1 : Hp} {ρ ρ1 : Fm.Env} {N : L2.St → Hp → Prop} (e : Ex (cut (Xs f σ ρ) H) (cut (Xs f σ1 ρ1) H1)) {ρ' : Fm.Env} (h : kN G f σ H ρ N ρ') : kN G f σ1 H1 ρ1 N ρ' := fun σ' H' S e2 => h σ' H' S (e.trans e2)
theorem kD_ex {f : Fr} {σ σ1 : L2.St} {H H1 : Hp} {ρ ρ1 : Fm.Env} {D : Ends} (e : Ex (cut (Xs f σ ρ) H) (cut (Xs f σ1 ρ1) H1)) : (kD G E f σ H ρ D).Le (kD G E f σ1 H1 ρ1 D) :=
  ⟨fun _ h => kN_ex e h, fun _ _ h => h, fun _ _ h => h, fun _ h => kN_ex e h, fun _ h => kN_ex e h, fun _ h => h⟩
abbrev F_var (i : Nat) : FE := fun ρ K _ => ∃ d, ρ[i]? = some (.val d) ∧ K d ρ
theorem PU.var {i : Nat} : PU G E (tVar i) (F_var i) where
  run := fun S ⟨d, h, k⟩ => by
    obtain ⟨v, h1, h2⟩ := S.val h
    exact ⟨v, h1, k v _ S (Ex.refl _) h2⟩
  mono := fun m _ ⟨d, h, k⟩ => ⟨d, h, m _ _ k⟩
abbrev F_melt (i : Nat) : FE := fun ρ K _ => ∃ l, ρ[i]? = some (.own l) ∧ K (.lst l) (ρ.set i (.val (.lst l)))
theorem PU.melt {i : Nat} : PU G E (tVar i) (F_melt i) where
  run := fun S ⟨l, h, k⟩ => by
    obtain ⟨p, vs, h1, _⟩ := S.own h
    obtain ⟨S2, e, hv⟩ := S.melt h h1
    exact ⟨_, h1, k _ _ S2 e hv⟩
  mono := fun m _ ⟨d, h, k⟩ => ⟨d, h, m _ _ k⟩
abbrev F_c (d : Dt) : FE := fun ρ K _ => K d ρ
theorem PU.c {v : V} {d : Dt} (h : ∀ H, DtV G H v d) : PU G E (tC v) (F_c d) where
  run := fun S k => k _ _ S (Ex.refl _) (h _)
  mono := fun m _ k => m _ _ k
theorem PU.ci {i : Int} : PU G E (tC (.int i)) (F_c (.int i)) := PU.c fun _ => .int i
theorem PU.cb {b : Bool} : PU G E (tC (.bl b)) (F_c (.bl b)) := PU.c fun _ => .bl b
theorem PU.cs {s : Str} : PU G E (tC (.str s)) (F_c (.str s)) := PU.c fun _ => .str s
theorem PU.cn : PU G E (tC .non) (F_c .non) := PU.c fun _ => .non
abbrev F_toV (F : FA) : FE := fun ρ K X => F ρ (fun l ρ' => K (.lst l) ρ') X
theorem PUF.toV {t : TE} {F : FA} (A : PUF G E t F) : PU G E t (F_toV F) where
  run := fun S h => A.run S (A.mono (fun l ρ' k p vs H' S' e _ _ hp hr => k (.ref p) H' S'.back (e.trans out_ex) (.lst (cut_some.mpr ⟨fun w => by
    rcases w with w | w
    · exact absurd ‹¬ _› (by exact fun n => n w)
    · exact (S'.x0 p (.inr rfl)).2 w, hp⟩) (hr.mono out_ex))) (fun _ x => x) h)
  mono := fun m x h => A.mono (fun l ρ' k => m _ _ k) x h
end
end Fm

set_option maxHeartbeats 2000000
namespace Fm
open PySem PySem.Spec PyProof.Rows L2
section
variable {G : Gs} {E : XK} {K : PySem.W.Frag}
theorem St.lstAt {f : Fr} {σ : L2.St} {H : Hp} {ρ : Fm.Env} (S : St G f σ H ρ) {p : Addr} (h : Xs f σ ρ p) : LstAt H p := by
  rcases h with h | h
  · exact (S.x0 p h).1
  · exact Own.lt S h
theorem LstAt.ne {H : Hp} {p : Addr} (h : LstAt H p) : H p ≠ none := by
  obtain ⟨vs, hv⟩ := h
  rw [hv]; simp
theorem St.dom {f : Fr} {σ : L2.St} {H : Hp} {ρ : Fm.Env} (S : St G f σ H ρ) {p : Addr} (h : Xs f σ ρ p) : H p ≠ none := (S.lstAt h).ne
theorem St.fresh {f : Fr} {σ : L2.St} {H : Hp} {ρ : Fm.Env} (S : St G f σ H ρ) {p : Addr} (h : H p = none) : f.H0 p = none ∧ ¬ f.X0 p ∧ ¬ Xs f σ ρ p := by
  refine ⟨?_, fun w => (S.x0 p w).1.ne h, fun w => S.dom w h⟩
  cases e : f.H0 p with
  | none => rfl
  | some o =>
    by_cases hp : f.P p
    · exact absurd h (S.pd p hp)
    · rw [S.fr p o hp e] at h; cases h
theorem tkT {n : Nat} {α : Type} {l : List α} {d : α} (h : l[n]? = some d) : l.drop n = d :: l.drop (n + 1) := by
  obtain ⟨hl, e⟩ := List.getElem?_eq_some_iff.mp h
  rw [List.drop_eq_getElem_cons hl, e]
abbrev F_next : FS := fun ρ D => D.nx ρ
theorem PUS.next : PUS G E tNext F_next := ⟨fun S h => h _ _ S (Ex.refl _), fun m h => m.nx _ h⟩
abbrev F_brk : FS := fun ρ D => D.bk ρ
theorem PUS.brk : PUS G E tBreak F_brk := ⟨fun S h => h _ _ S (Ex.refl _), fun m h => m.bk _ h⟩
abbrev F_seq (A B : FS) : FS := fun ρ D => A ρ { D with nx := fun ρ' => B ρ' D }
theorem PUS.seq {t u : TS} {A B : FS} (a : PUS G E t A) (b : PUS G E u B) : PUS G E (tSeq t u) (F_seq A B) where
  run := fun {f σ H ρ D} S h => a.run (D := { D with nx := u D }) S (a.mono (D := { kD G E f σ H ρ D with nx := fun ρ' => B ρ' (kD G E f σ H ρ D) }) ⟨fun ρ' k σ' H' S' e => b.run S' (b.mono (kD_ex e) k), fun _ _ k => k, fun _ _ k => k, fun _ k => k, fun _ k => k, fun _ k => k⟩ h)
  mono := fun {ρ D D'} m h => a.mono (D := { D with nx := fun ρ' => B ρ' D }) (D' := { D' with nx := fun ρ' => B ρ' D' }) ⟨fun ρ' k => b.mono m k, m.rt, m.rl, m.bk, m.ct, m.ex⟩ h
abbrev F_ret (F : FE) : FS := fun ρ D => F ρ D.rt D.ex
theorem PUS.ret {t : TE} {F : FE} (a : PU G E t F) : PUS G E (tRet t) (F_ret F) where
  run := fun S h => a.run S (a.mono (fun d ρ' k v H' S' _ hv => k v _ H' S' hv) (fun _ x => x) h)
  mono := fun m h => a.mono m.rt m.ex h
abbrev F_retF (F : FA) : FS := fun ρ D => F ρ D.rl D.ex
theorem PUS.retF {t : TE} {F : FA} (a : PUF G E t F) : PUS G E (tRet t) (F_retF F) where
  run := fun S h => a.run S (a.mono (fun l ρ' k p vs H' S' _ h1 h2 h3 h4 => k p vs _ H' S' h1 h2 h3 h4) (fun _ x => x) h)
  mono := fun m h => a.mono m.rl m.ex h
abbrev F_if (T : FT) (A B : FS) : FS := fun ρ D => T ρ (fun b ρ' => if b = true then A ρ' D else B ρ' D) D.ex
theorem PUS.ifS {c : TT} {t u : TS} {T : FT} {A B : FS} (w : PUT G E c T) (a : PUS G E t A) (b : PUS G E u B) : PUS G E (tIfS c t u) (F_if T A B) where
  run := fun S h => w.run S (w.mono (fun d ρ' k H' S' e => by
    cases d with
    | true => rw [if_pos rfl] at k ⊢; exact a.run S' (a.mono (kD_ex e) k)
    | false => rw [if_neg Bool.false_ne_true] at k ⊢; exact b.run S' (b.mono (kD_ex e) k)) (fun _ x => x) h)
  mono := fun m h => w.mono (fun d ρ' k => by
    cases d with
    | true => rw [if_pos rfl] at k ⊢; exact a.mono m k
    | false => rw [if_neg Bool.false_ne_true] at k ⊢; exact b.mono m k) m.ex h
abbrev F_drop (F : FE) : FS := fun ρ D => F ρ (fun _ ρ' => D.nx ρ') D.ex
theorem PUS.drop {t : TE} {F : FE} (a : PU G E t F) : PUS G E (tDrop t) (F_drop F) where
  run := fun S h => a.run S (a.mono (fun d ρ' k v H' S' e _ => k _ H' S' e) (fun _ x => x) h)
  mono := fun m h => a.mono (fun _ _ k => m.nx _ k) m.ex h
theorem PUG.name {i : Nat} : PUG G (gName i) (fun d ρ N => N (ρ.set i (.val d))) where
  run := fun S hv h => h _ _ (S.put rfl (.val hv)) (put_ex rfl)
  mono := fun m h => m _ h
abbrev F_asg (F : FE) (g : FG) : FS := fun ρ D => F ρ (fun d ρ' => g d ρ' D.nx) D.ex
theorem PUS.asg {t : TE} {F : FE} {g : TG} {γ : FG} (a : PU G E t F) (b : PUG G g γ) : PUS G E (tAsg t g) (F_asg F γ) where
  run := fun S h => a.run S (a.mono (fun d ρ' k v H' S' e hv => b.run S' hv (b.mono (fun ρ2 k2 => kN_ex e k2) k)) (fun _ x => x) h)
  mono := fun m h => a.mono (fun _ _ k => b.mono m.nx k) m.ex h
abbrev F_set (i : Nat) (F : FE) : FS := fun ρ D => F ρ (fun d ρ' => D.nx (ρ'.set i (.val d))) D.ex
theorem PUS.set {t : TE} {F : FE} {i : Nat} (a : PU G E t F) : PUS G E (tAsg t (gName i)) (F_set i F) := PUS.asg a PUG.name
abbrev F_setF (i : Nat) (F : FA) : FS := fun ρ D => F ρ (fun l ρ' => D.nx (ρ'.set i (.own l))) D.ex
theorem set_none {α : Type} {l : List α} {i : Nat} {x : α} (h : ¬ i < l.length) : l.set i x = l := by
  apply List.ext_getElem?
  intro j
  by_cases e : i = j
  · subst e
    rw [List.getElem?_eq_none (by rw [List.length_set]; omega), List.getElem?_eq_none (by omega)]
  · rw [List.getElem?_set_ne e]
theorem PUS.setF {t : TE} {F : FA} {i : Nat} (a : PUF G E t F) : PUS G E (tAsg t (gName i)) (F_setF i F) where
  run := fun S h => a.run S (a.mono (fun l ρ' k p vs H' S' e h1 h2 h3 h4 => by
    by_cases hi : i < ρ'.length
    · exact k _ H' (S'.take hi h3 h4 h1 h2) (e.trans (take_ex S' hi))
    · have e1 : ρ'.set i (.own l) = ρ' := set_none hi
      rw [e1] at k
      unfold gName
      dsimp only
      rw [set_none (by rw [S'.len]; exact hi)]
      exact k _ H' S'.back (e.trans out_ex)) (fun _ x => x) h)
  mono := fun m h => a.mono (fun _ _ k => m.nx _ k) m.ex h
abbrev F_nil : FA := fun ρ K _ => K [] ρ
theorem PUA.nil : PUA G E tNil F_nil := ⟨fun S h => h _ _ S (Ex.refl _) .nil, fun m _ h => m _ _ h⟩
abbrev F_cons (F : FE) (R : FA) : FA := fun ρ K X => F ρ (fun d ρ1 => R ρ1 (fun ds ρ2 => K (d :: ds) ρ2) X) X
theorem PUA.cons {t : TE} {r : TA} {F : FE} {R : FA} (a : PU G E t F) (b : PUA G E r R) : PUA G E (tCons t r) (F_cons F R) where
  run := fun S h => a.run S (a.mono (fun d ρ1 k v H1 S1 e1 hv => b.run S1 (b.mono (fun ds ρ2 k2 vs H2 S2 e2 hs => k2 (v :: vs) H2 S2 (e1.trans e2) (.cons (hv.mono e2) hs)) (fun _ x => x) k)) (fun _ x => x) h)
  mono := fun m x h => a.mono (fun _ _ k => b.mono (fun _ _ k => m _ _ k) x k) x h
abbrev O2 := Dt → Dt → (Dt → Prop) → Prop
structure RD (G : Gs) (r : R2) (g : O2) : Prop where
  run : ∀ {X : Addr → Prop} {H : Hp} {x y : V} {d e : Dt} {Q : VK}, (∀ a, X a → LstAt H a) → DtV G (cut X H) x d → DtV G (cut X H) y e → g d e (fun z => ∀ v H', Ex H H' → DtV G (cut X H') v z → Q v H') → r x y H Q
  mono : ∀ {d e : Dt} {K K' : Dt → Prop}, (∀ z, K z → K' z) → g d e K → g d e K'
abbrev F_op (g : O2) (A B : FE) : FE := fun ρ K X => A ρ (fun d ρ1 => B ρ1 (fun e ρ2 => g d e (fun z => K z ρ2)) X) X
theorem PU.op {r : R2} {g : O2} {ta tb : TE} {A B : FE} (R : RD G r g) (a : PU G E ta A) (b : PU G E tb B) : PU G E (tOp r ta tb) (F_op g A B) where
  run := fun S h => a.run S (a.mono (fun d ρ1 k v H1 S1 e1 hv => b.run S1 (b.mono (fun e ρ2 k2 w H2 S2 e2 hw => R.run (fun p hp => S2.lstAt hp) (hv.mono e2) hw (R.mono (fun z k3 u H3 e3 hu => k3 u H3 (S2.grow e3) ((e1.trans e2).trans (cut_grow e3)) hu) k2)) (fun _ x => x) k)) (fun _ x => x) h)
  mono := fun m x h => a.mono (fun _ _ k => b.mono (fun _ _ k => R.mono (fun _ k => m _ _ k) k) x k) x h
structure RL (G : Gs) (r : R2) (g : Dt → Dt → (List Dt → Prop) → Prop) : Prop where
  run : ∀ {X : Addr → Prop} {H : Hp} {x y : V} {d e : Dt} {Q : VK}, (∀ a, X a → LstAt H a) → DtV G (cut X H) x d → DtV G (cut X H) y e → g d e (fun l => ∀ p vs H', H p = none → Ex H H' → H' p = some (.lst vs) → DtVs G (cut X H) vs l → Q (.ref p) H') → r x y H Q
  mono : ∀ {d e : Dt} {K K' : List Dt → Prop}, (∀ z, K z → K' z) → g d e K → g d e K'
theorem St.new {f : Fr} {σ : L2.St} {H H' : Hp} {ρ : Fm.Env} (S : St G f σ H ρ) {p : Addr} {vs : List V} {l : List Dt} (hp : H p = none) (e : Ex H H') (h : H' p = some (.lst vs)) (hr : DtVs G (cut (Xs f σ ρ) H) vs l) :
    St G (f.out p) σ H' ρ ∧ Ex (cut (Xs f σ ρ) H) (cut (Xs (f.out p) σ ρ) H') ∧ (f.P p ∨ f.H0 p = none) ∧ ¬ f.X0 p ∧ DtVs G (cut (Xs (f.out p) σ ρ) H') vs l :=
  ⟨S.outNew hp e ⟨_, h⟩, newOut_ex hp e, .inr (S.fresh hp).1, (S.fresh hp).2.1, hr.mono (newOut_ex hp e)⟩
abbrev F_opL (g : Dt → Dt → (List Dt → Prop) → Prop) (A B : FE) : FA := fun ρ K X => A ρ (fun d ρ1 => B ρ1 (fun e ρ2 => g d e (fun z => K z ρ2)) X) X
theorem PUF.op {r : R2} {g : Dt → Dt → (List Dt → Prop) → Prop} {ta tb : TE} {A B : FE} (R : RL G r g) (a : PU G E ta A) (b : PU G E tb B) : PUF G E (tOp r ta tb) (F_opL g A B) where
  run := fun S h => a.run S (a.mono (fun d ρ1 k v H1 S1 e1 hv => b.run S1 (b.mono (fun e ρ2 k2 w H2 S2 e2 hw => R.run (fun p hp => S2.lstAt hp) (hv.mono e2) hw (R.mono (fun z k3 p vs H3 h1 h2 h3 h4 => by
    obtain ⟨q1, q2, q3, q4, q5⟩ := S2.new h1 h2 h3 h4
    exact k3 p vs H3 q1 ((e1.trans e2).trans q2) q3 q4 h3 q5) k2)) (fun _ x => x) k)) (fun _ x => x) h)
  mono := fun m x h => a.mono (fun _ _ k => b.mono (fun _ _ k => R.mono (fun _ k => m _ _ k) k) x k) x h
abbrev O1 := Dt → (Dt → Prop) → Prop
structure UD (G : Gs) (r : V → Hp → VK → Prop) (g : O1) : Prop where
  run : ∀ {X : Addr → Prop} {H : Hp} {x : V} {d : Dt} {Q : VK}, (∀ a, X a → LstAt H a) → DtV G (cut X H) x d → g d (fun z => ∀ v H', Ex H H' → DtV G (cut X H') v z → Q v H') → r x H Q
  mono : ∀ {d : Dt} {K K' : Dt → Prop}, (∀ z, K z → K' z) → g d K → g d K'
abbrev F_un (g : O1) (A : FE) : FE := fun ρ K X => A ρ (fun d ρ1 => g d (fun z => K z ρ1)) X
theorem PU.un {r : V → Hp → VK → Prop} {g : O1} {ta : TE} {A : FE} (R : UD G r g) (a : PU G E ta A) : PU G E (tUn r ta) (F_un g A) where
  run := fun S h => a.run S (a.mono (fun d ρ1 k v H1 S1 e1 hv => R.run (fun p hp => S1.lstAt hp) hv (R.mono (fun z k3 u H3 e3 hu => k3 u H3 (S1.grow e3) (e1.trans (cut_grow e3)) hu) k)) (fun _ x => x) h)
  mono := fun m x h => a.mono (fun _ _ k => R.mono (fun _ k => m _ _ k) k) x h
abbrev ON := List Dt → (Dt → Prop) → Prop
structure CD (G : Gs) (r : List V → Hp → VK → Prop) (g : ON) : Prop where
  run : ∀ {X : Addr → Prop} {H : Hp} {xs : List V} {ds : List Dt} {Q : VK}, (∀ a, X a → LstAt H a) → DtVs G (cut X H) xs ds → g ds (fun z => ∀ v H', Ex H H' → DtV G (cut X H') v z → Q v H') → r xs H Q
  mono : ∀ {ds : List Dt} {K K' : Dt → Prop}, (∀ z, K z → K' z) → g ds K → g ds K'
abbrev F_cb (g : ON) (A : FA) : FE := fun ρ K X => A ρ (fun ds ρ1 => g ds (fun z => K z ρ1)) X
theorem PU.cbn {r : List V → Hp → VK → Prop} {g : ON} {ta : TA} {A : FA} (R : CD G r g) (a : PUA G E ta A) : PU G E (tCB r ta) (F_cb g A) where
  run := fun S h => a.run S (a.mono (fun d ρ1 k v H1 S1 e1 hv => R.run (fun p hp => S1.lstAt hp) hv (R.mono (fun z k3 u H3 e3 hu => k3 u H3 (S1.grow e3) (e1.trans (cut_grow e3)) hu) k)) (fun _ x => x) h)
  mono := fun m x h => a.mono (fun _ _ k => R.mono (fun _ k => m _ _ k) k) x h
structure CL (G : Gs) (r : List V → Hp → VK → Prop) (g : List Dt → (List Dt → Prop) → Prop) : Prop where
  run : ∀ {X : Addr → Prop} {H : Hp} {xs : List V} {ds : List Dt} {Q : VK}, (∀ a, X a → LstAt H a) → DtVs G (cut X H) xs ds → g ds (fun l => ∀ p vs H', H p = none → Ex H H' → H' p = some (.lst vs) → DtVs G (cut X H) vs l → Q (.ref p) H') → r xs H Q
  mono : ∀ {ds : List Dt} {K K' : List Dt → Prop}, (∀ z, K z → K' z) → g ds K → g ds K'
abbrev F_cbL (g : List Dt → (List Dt → Prop) → Prop) (A : FA) : FA := fun ρ K X => A ρ (fun ds ρ1 => g ds (fun z => K z ρ1)) X
theorem PUF.cbn {r : List V → Hp → VK → Prop} {g : List Dt → (List Dt → Prop) → Prop} {ta : TA} {A : FA} (R : CL G r g) (a : PUA G E ta A) : PUF G E (tCB r ta) (F_cbL g A) where
  run := fun S h => a.run S (a.mono (fun d ρ1 k v H1 S1 e1 hv => R.run (fun p hp => S1.lstAt hp) hv (R.mono (fun z k3 p vs H3 h1 h2 h3 h4 => by
    obtain ⟨q1, q2, q3, q4, q5⟩ := S1.new h1 h2 h3 h4
    exact k3 p vs H3 q1 (e1.trans q2) q3 q4 h3 q5) k)) (fun _ x => x) h)
  mono := fun m x h => a.mono (fun _ _ k => R.mono (fun _ k => m _ _ k) k) x h
abbrev F_tup (A : FA) : FE := fun ρ K X => A ρ (fun ds ρ' => ds.length ≤ 1000 ∧ K (.tup ds) ρ') X
theorem PU.tup {t : TA} {A : FA} (a : PUA G E t A) : PU G E (tTup t) (F_tup A) where
  run := fun S h => a.run S (a.mono (fun ds ρ' k vs H' S' e hv => ⟨Nat.le_trans (Nat.le_of_eq hv.length) (Nat.le_trans k.1 (by decide)), fun p hp => k.2 _ _ (S'.grow (Ex.new hp)) (e.trans (cut_grow (Ex.new hp))) (.tup (cut_some.mpr ⟨(S'.fresh hp).2.2, upd_same⟩) (hv.mono (cut_grow (Ex.new hp))))⟩) (fun _ x => x) h)
  mono := fun m x h => a.mono (fun _ _ k => ⟨k.1, m _ _ k.2⟩) x h
abbrev F_lst (A : FA) : FA := fun ρ K X => A ρ (fun ds ρ' => ds.length ≤ 1000 ∧ K ds ρ') X
theorem PUF.lst {t : TA} {A : FA} (a : PUA G E t A) : PUF G E (tLst t) (F_lst A) where
  run := fun S h => a.run S (a.mono (fun ds ρ' k vs H' S' e hv => ⟨Nat.le_trans (Nat.le_of_eq hv.length) (Nat.le_trans k.1 (by decide)), fun p hp => by
    obtain ⟨q1, q2, q3, q4, q5⟩ := S'.new (H' := upd H' p (.lst vs)) hp (Ex.new hp) upd_same hv
    exact k.2 p vs _ q1 (e.trans q2) q3 q4 upd_same q5⟩) (fun _ x => x) h)
  mono := fun m x h => a.mono (fun _ _ k => ⟨k.1, m _ _ k.2⟩) x h
abbrev F_test (A : FE) : FT := fun ρ K X => A ρ (fun d ρ' => ∃ b, d = .bl b ∧ K b ρ') X
theorem PUT.test {t : TE} {A : FE} (a : PU G E t A) : PUT G E (tTest t) (F_test A) where
  run := fun S h => a.run S (a.mono (fun d ρ' ⟨b, hd, k⟩ v H' S' e hv => by subst hd; cases hv; exact ⟨b, rfl, k H' S' e⟩) (fun _ x => x) h)
  mono := fun m x h => a.mono (fun _ _ ⟨b, hd, k⟩ => ⟨b, hd, m _ _ k⟩) x h
theorem PUT.b {t : TE} {A : FE} (a : PU G E t A) : PUT G E (tB t) (F_test A) where
  run := fun S h => a.run S (a.mono (fun d ρ' ⟨b, hd, k⟩ v H' S' e hv => by subst hd; cases hv; exact ⟨b, rfl, k H' S' e⟩) (fun _ x => x) h)
  mono := fun m x h => a.mono (fun _ _ ⟨b, hd, k⟩ => ⟨b, hd, m _ _ k⟩) x h
theorem kB_ex {f : Fr} {σ : L2.St} {H H1 : Hp} {ρ ρ1 : Fm.Env} {W : Bool → Hp → Prop} (e : Ex (cut (Xs f σ ρ) H) (cut (Xs f σ ρ1) H1)) {b : Bool} {ρ' : Fm.Env} (h : kB G f σ H ρ W b ρ') : kB G f σ H1 ρ1 W b ρ' := fun H' S e2 => h H' S (e.trans e2)
theorem kV_ex {f : Fr} {σ : L2.St} {H H1 : Hp} {ρ ρ1 : Fm.Env} {W : VK} (e : Ex (cut (Xs f σ ρ) H) (cut (Xs f σ ρ1) H1)) {b : Dt} {ρ' : Fm.Env} (h : kV G f σ H ρ W b ρ') : kV G f σ H1 ρ1 W b ρ' := fun v H' S e2 => h v H' S (e.trans e2)
abbrev F_not (T : FT) : FT := fun ρ K X => T ρ (fun b ρ' => K (!b) ρ') X
theorem PUT.not {t : TT} {T : FT} (a : PUT G E t T) : PUT G E (tNot t) (F_not T) where
  run := fun S h => a.run S (a.mono (fun b ρ' k H' S' e => k H' S' e) (fun _ x => x) h)
  mono := fun m x h => a.mono (fun _ _ k => m _ _ k) x h
abbrev F_and (T U : FT) : FT := fun ρ K X => T ρ (fun b ρ' => if b = true then U ρ' K X else K false ρ') X
theorem PUT.and {t u : TT} {T U : FT} (a : PUT G E t T) (b : PUT G E u U) : PUT G E (tAnd t u) (F_and T U) where
  run := fun S h => a.run S (a.mono (fun c ρ' k H' S' e => by
    cases c with
    | true => rw [if_pos rfl] at k ⊢; exact b.run S' (b.mono (fun _ _ k => kB_ex e k) (fun _ x => x) k)
    | false => rw [if_neg Bool.false_ne_true] at k ⊢; exact k H' S' e) (fun _ x => x) h)
  mono := fun m x h => a.mono (fun c _ k => by
    cases c with
    | true => rw [if_pos rfl] at k ⊢; exact b.mono m x k
    | false => rw [if_neg Bool.false_ne_true] at k ⊢; exact m _ _ k) x h
abbrev F_or (T U : FT) : FT := fun ρ K X => T ρ (fun b ρ' => if b = true then K true ρ' else U ρ' K X) X
theorem PUT.or {t u : TT} {T U : FT} (a : PUT G E t T) (b : PUT G E u U) : PUT G E (tOr t u) (F_or T U) where
  run := fun S h => a.run S (a.mono (fun c ρ' k H' S' e => by
    cases c with
    | true => rw [if_pos rfl] at k ⊢; exact k H' S' e
    | false => rw [if_neg Bool.false_ne_true] at k ⊢; exact b.run S' (b.mono (fun _ _ k => kB_ex e k) (fun _ x => x) k)) (fun _ x => x) h)
  mono := fun m x h => a.mono (fun c _ k => by
    cases c with
    | true => rw [if_pos rfl] at k ⊢; exact m _ _ k
    | false => rw [if_neg Bool.false_ne_true] at k ⊢; exact b.mono m x k) x h
abbrev F_ife (T : FT) (A B : FE) : FE := fun ρ K X => T ρ (fun b ρ' => if b = true then A ρ' K X else B ρ' K X) X
theorem PU.ife {c : TT} {ta tb : TE} {T : FT} {A B : FE} (w : PUT G E c T) (a : PU G E ta A) (b : PU G E tb B) : PU G E (tIf c ta tb) (F_ife T A B) where
  run := fun S h => w.run S (w.mono (fun d ρ' k H' S' e => by
    cases d with
    | true => rw [if_pos rfl] at k ⊢; exact a.run S' (a.mono (fun _ _ k => kV_ex e k) (fun _ x => x) k)
    | false => rw [if_neg Bool.false_ne_true] at k ⊢; exact b.run S' (b.mono (fun _ _ k => kV_ex e k) (fun _ x => x) k)) (fun _ x => x) h)
  mono := fun m x h => w.mono (fun d ρ' k => by
    cases d with
    | true => rw [if_pos rfl] at k ⊢; exact a.mono m x k
    | false => rw [if_neg Bool.false_ne_true] at k ⊢; exact b.mono m x k) x h
abbrev F_andV (A B : FE) : FE := fun ρ K X => A ρ (fun d ρ1 => ∃ b, d = .bl b ∧ if b = true then B ρ1 K X else K (.bl false) ρ1) X
theorem PU.andV {ta tb : TE} {A B : FE} (a : PU G E ta A) (b : PU G E tb B) : PU G E (tAndV ta tb) (F_andV A B) where
  run := fun S h => a.run S (a.mono (fun d ρ' ⟨c, hd, k⟩ v H' S' e hv => by
    subst hd; cases hv
    refine ⟨c, rfl, ?_⟩
    cases c with
    | true => rw [if_pos rfl] at k ⊢; exact b.run S' (b.mono (fun _ _ k => kV_ex e k) (fun _ x => x) k)
    | false => rw [if_neg Bool.false_ne_true] at k ⊢; exact k _ H' S' e (.bl false)) (fun _ x => x) h)
  mono := fun m x h => a.mono (fun d _ ⟨c, hd, k⟩ => ⟨c, hd, by
    cases c with
    | true => rw [if_pos rfl] at k ⊢; exact b.mono m x k
    | false => rw [if_neg Bool.false_ne_true] at k ⊢; exact m _ _ k⟩) x h
end
end Fm

set_option maxHeartbeats 2000000
namespace Fm
open PySem PySem.Spec PyProof.Rows L2
section
variable {G : Gs} {E : XK} {K : PySem.W.Frag}
structure Wk (G : Gs) (J : It) (items : List Dt) (Hc : Hp) : Prop where
  go : ∀ i Y H, Ex Hc (cut Y H) → i < items.length → J.go i H
  stop : ∀ Y H, Ex Hc (cut Y H) → J.stop items.length H
  yld : ∀ i Y H x H' d, Ex Hc (cut Y H) → (∀ a, Y a → H a ≠ none) → J.yld i H x H' → items[i]? = some d → Ex H H' ∧ DtV G (cut Y H') x d
abbrev FI := FA
structure PUI (G : Gs) (E : XK) (w : TI) (F : FI) : Prop where
  run : ∀ {f : Fr} {σ : L2.St} {H : Hp} {ρ : Fm.Env} {R : It → Hp → Prop}, St G f σ H ρ → F ρ (fun items ρ' => ∀ J H', St G f σ H' ρ' → Ex (cut (Xs f σ ρ) H) (cut (Xs f σ ρ') H') → Wk G J items (cut (Xs f σ ρ') H') → R J H') (kX G f E) → w σ H R
  mono : ∀ {ρ : Fm.Env} {K K' : List Dt → Fm.Env → Prop} {X X' : Er → Prop}, (∀ d ρ', K d ρ' → K' d ρ') → (∀ e, X e → X' e) → F ρ K X → F ρ K' X'
theorem Wk.list {p : Addr} {vs : List V} {l : List Dt} {Hc : Hp} (h : Hc p = some (.lst vs)) (r : DtVs G Hc vs l) : Wk G (Itl K p) l Hc where
  go := fun i Y H e hi => by
    have hp : H p = some (.lst vs) := (cut_some.mp (e _ _ h)).2
    have hl : i < vs.length := by rw [r.length]; exact hi
    exact ⟨vs, vs[i], SqL.of hp, List.getElem?_eq_getElem hl⟩
  stop := fun Y H e => ⟨vs, SqL.of (cut_some.mp (e _ _ h)).2, Nat.le_of_eq r.length⟩
  yld := fun i Y H x H' d e _ y hd => by
    obtain ⟨rfl, hx⟩ := y
    obtain ⟨v, hv, dv⟩ := r.atR hd
    have := hx vs (SqL.of (cut_some.mp (e _ _ h)).2)
    rw [hv] at this
    cases this
    exact ⟨Ex.refl _, dv.mono e⟩
theorem Wk.tup {p : Addr} {vs : List V} {l : List Dt} {Hc : Hp} (h : Hc p = some (.tup vs)) (r : DtVs G Hc vs l) : Wk G (Itt K p) l Hc where
  go := fun i Y H e hi => by
    have hp : H p = some (.tup vs) := (cut_some.mp (e _ _ h)).2
    have hl : i < vs.length := by rw [r.length]; exact hi
    exact ⟨vs, vs[i], SqT.of hp, List.getElem?_eq_getElem hl⟩
  stop := fun Y H e => ⟨vs, SqT.of (cut_some.mp (e _ _ h)).2, Nat.le_of_eq r.length⟩
  yld := fun i Y H x H' d e _ y hd => by
    obtain ⟨rfl, hx⟩ := y
    obtain ⟨v, hv, dv⟩ := r.atR hd
    have := hx vs (SqT.of (cut_some.mp (e _ _ h)).2)
    rw [hv] at this
    cases this
    exact ⟨Ex.refl _, dv.mono e⟩
def rngL (lo : Int) (n : Nat) : List Dt := (List.range n).map fun (k : Nat) => Dt.int (lo + (k : Int))
theorem Wk.rng {lo : Int} {n : Nat} {Hc : Hp} : Wk G (Itr lo n) (rngL lo n) Hc where
  go := fun i Y H e hi => by unfold rngL at hi; rw [List.length_map, List.length_range] at hi; exact hi
  stop := fun Y H e => by show n ≤ (rngL lo n).length; unfold rngL; rw [List.length_map, List.length_range]; exact Nat.le_refl _
  yld := fun i Y H x H' d e _ y hd => by
    obtain ⟨rfl, rfl⟩ := y
    unfold rngL at hd
    rw [List.getElem?_map] at hd
    cases h : (List.range n)[i]? with
    | none => rw [h] at hd; cases hd
    | some k =>
      rw [h] at hd
      injection hd with hd
      have : k = i := by
        obtain ⟨hl, e⟩ := List.getElem?_eq_some_iff.mp h
        rw [← e, List.getElem_range]
      subst this
      subst hd
      exact ⟨Ex.refl _, .int _⟩
theorem Wk.enum {p : Addr} {vs : List V} {l : List Dt} {Hc : Hp} (h : Hc p = some (.lst vs)) (r : DtVs G Hc vs l) : Wk G (Ite K p) (l.zipIdx.map fun e => Dt.tup [.int (e.2 : Int), e.1]) Hc where
  go := fun i Y H e hi => by
    have hp : H p = some (.lst vs) := (cut_some.mp (e _ _ h)).2
    have hl : i < vs.length := by rw [r.length]; rw [List.length_map, List.length_zipIdx] at hi; exact hi
    exact ⟨vs, vs[i], SqL.of hp, List.getElem?_eq_getElem hl⟩
  stop := fun Y H e => ⟨vs, SqL.of (cut_some.mp (e _ _ h)).2, by rw [List.length_map, List.length_zipIdx]; exact Nat.le_of_eq r.length⟩
  yld := fun i Y H x H' d e hY y hd => by
    obtain ⟨T, y, rfl, hT, rfl, hx⟩ := y
    rw [List.getElem?_map, List.getElem?_zipIdx] at hd
    cases hl : l[i]? with
    | none => rw [hl] at hd; cases hd
    | some d0 =>
      rw [hl] at hd
      injection hd with hd
      subst hd
      obtain ⟨v, hv, dv⟩ := r.atR hl
      have := hx vs (SqL.of (cut_some.mp (e _ _ h)).2)
      rw [hv] at this
      cases this
      refine ⟨Ex.new hT, .tup (cut_some.mpr ⟨fun w => hY T w hT, upd_same⟩) (.cons ?_ (.cons ((dv.mono e).mono (cut_grow (Ex.new hT))) .nil))⟩
      show DtV G _ _ (.int ((0 + i : Nat) : Int))
      rw [Nat.zero_add]
      exact .int _
theorem Wk.zip {p q : Addr} {vs ws : List V} {l m : List Dt} {Hc : Hp} (h : Hc p = some (.lst vs)) (r : DtVs G Hc vs l) (h2 : Hc q = some (.lst ws)) (r2 : DtVs G Hc ws m) : Wk G (Itz K p q) ((l.zip m).map fun e => Dt.tup [e.1, e.2]) Hc where
  go := fun i Y H e hi => by
    rw [List.length_map, List.length_zip] at hi
    have hl : i < vs.length := by rw [r.length]; omega
    have hl2 : i < ws.length := by rw [r2.length]; omega
    exact ⟨vs, ws, vs[i], ws[i], SqL.of (cut_some.mp (e _ _ h)).2, SqL.of (cut_some.mp (e _ _ h2)).2, List.getElem?_eq_getElem hl, List.getElem?_eq_getElem hl2⟩
  stop := fun Y H e => ⟨vs, ws, SqL.of (cut_some.mp (e _ _ h)).2, SqL.of (cut_some.mp (e _ _ h2)).2, by rw [List.length_map, List.length_zip, r.length, r2.length]; omega⟩
  yld := fun i Y H x H' d e hY y hd => by
    obtain ⟨T, y, z, rfl, hT, rfl, hx, hz⟩ := y
    rw [List.getElem?_map] at hd
    cases hl : (l.zip m)[i]? with
    | none => rw [hl] at hd; cases hd
    | some d0 =>
      rw [hl] at hd
      injection hd with hd
      subst hd
      obtain ⟨k1, k2⟩ := List.getElem?_zip_eq_some.mp hl
      obtain ⟨v, hv, dv⟩ := r.atR k1
      obtain ⟨w, hw, dw⟩ := r2.atR k2
      have a1 := hx vs (SqL.of (cut_some.mp (e _ _ h)).2)
      have a2 := hz ws (SqL.of (cut_some.mp (e _ _ h2)).2)
      rw [hv] at a1; rw [hw] at a2
      cases a1; cases a2
      exact ⟨Ex.new hT, .tup (cut_some.mpr ⟨fun w => hY T w hT, upd_same⟩) (.cons ((dv.mono e).mono (cut_grow (Ex.new hT))) (.cons ((dw.mono e).mono (cut_grow (Ex.new hT))) .nil))⟩
abbrev F_rng1 (A : FA) : FI := fun ρ K X => A ρ (fun ds ρ' => ∃ j : Int, ds = [.int j] ∧ (-(2 ^ 62) ≤ j ∧ j < 2 ^ 62) ∧ K (rngL 0 j.toNat) ρ') X
theorem PUI.rng1 {t : TA} {A : FA} (a : PUA G E t A) : PUI G E (iRng1 t) (F_rng1 A) where
  run := fun S h => a.run S (a.mono (fun ds ρ' ⟨j, hd, ⟨h1, h2⟩, k⟩ vs H' S' e hv => by
    subst hd
    cases hv with
    | cons h r => cases h; cases r; exact ⟨j, rfl, h1, h2, k _ H' S' e Wk.rng⟩) (fun _ x => x) h)
  mono := fun m x h => a.mono (fun _ _ ⟨j, hd, hb, k⟩ => ⟨j, hd, hb, m _ _ k⟩) x h
abbrev F_rng2 (A : FA) : FI := fun ρ K X => A ρ (fun ds ρ' => ∃ i j : Int, ds = [.int i, .int j] ∧ (-(2 ^ 62) ≤ i ∧ i < 2 ^ 62 ∧ -(2 ^ 62) ≤ j ∧ j < 2 ^ 62) ∧ K (rngL i (j - i).toNat) ρ') X
theorem PUI.rng2 {t : TA} {A : FA} (a : PUA G E t A) : PUI G E (iRng2 t) (F_rng2 A) where
  run := fun S h => a.run S (a.mono (fun ds ρ' ⟨i, j, hd, hb, k⟩ vs H' S' e hv => by
    subst hd
    cases hv with
    | cons h r => cases h; cases r with
      | cons h r => cases h; cases r; exact ⟨i, j, rfl, hb, k _ H' S' e Wk.rng⟩) (fun _ x => x) h)
  mono := fun m x h => a.mono (fun _ _ ⟨i, j, hd, hb, k⟩ => ⟨i, j, hd, hb, m _ _ k⟩) x h
abbrev F_iter (A : FE) : FI := fun ρ K X => A ρ (fun d ρ' => ∃ l, d = .lst l ∧ K l ρ') X
theorem PUI.list {t : TE} {A : FE} (a : PU G E t A) : PUI G E (iList K t) (F_iter A) where
  run := fun S h => a.run S (a.mono (fun ds ρ' ⟨l, hd, k⟩ v H' S' e hv => by
    subst hd
    cases hv with
    | lst hp r => exact ⟨_, rfl, ⟨_, SqL.of (cut_some.mp hp).2⟩, k _ H' S' e (Wk.list hp r)⟩) (fun _ x => x) h)
  mono := fun m x h => a.mono (fun _ _ ⟨l, hd, k⟩ => ⟨l, hd, m _ _ k⟩) x h
abbrev F_iterT (A : FE) : FI := fun ρ K X => A ρ (fun d ρ' => ∃ l, d = .tup l ∧ K l ρ') X
theorem PUI.tup {t : TE} {A : FE} (a : PU G E t A) : PUI G E (iTup K t) (F_iterT A) where
  run := fun S h => a.run S (a.mono (fun ds ρ' ⟨l, hd, k⟩ v H' S' e hv => by
    subst hd
    cases hv with
    | tup hp r => exact ⟨_, rfl, ⟨_, SqT.of (cut_some.mp hp).2⟩, k _ H' S' e (Wk.tup hp r)⟩) (fun _ x => x) h)
  mono := fun m x h => a.mono (fun _ _ ⟨l, hd, k⟩ => ⟨l, hd, m _ _ k⟩) x h
abbrev F_enum (A : FA) : FI := fun ρ K X => A ρ (fun ds ρ' => ∃ l, ds = [.lst l] ∧ K (l.zipIdx.map fun e => Dt.tup [.int (e.2 : Int), e.1]) ρ') X
theorem PUI.enum {t : TA} {A : FA} (a : PUA G E t A) : PUI G E (iEnum K t) (F_enum A) where
  run := fun S h => a.run S (a.mono (fun ds ρ' ⟨l, hd, k⟩ v H' S' e hv => by
    subst hd
    cases hv with
    | cons h r => cases r; cases h with
      | lst hp r => exact ⟨_, _, rfl, SqL.of (cut_some.mp hp).2, k _ H' S' e (Wk.enum hp r)⟩) (fun _ x => x) h)
  mono := fun m x h => a.mono (fun _ _ ⟨l, hd, k⟩ => ⟨l, hd, m _ _ k⟩) x h
abbrev F_zip (A : FA) : FI := fun ρ K X => A ρ (fun ds ρ' => ∃ l m, ds = [.lst l, .lst m] ∧ K ((l.zip m).map fun e => Dt.tup [e.1, e.2]) ρ') X
theorem PUI.zip {t : TA} {A : FA} (a : PUA G E t A) : PUI G E (iZip K t) (F_zip A) where
  run := fun S h => a.run S (a.mono (fun ds ρ' ⟨l, m, hd, k⟩ v H' S' e hv => by
    subst hd
    cases hv with
    | cons h r => cases r with
      | cons h2 r => cases r; cases h with
        | lst hp r => cases h2 with
          | lst hp2 r2 => exact ⟨_, _, _, _, rfl, SqL.of (cut_some.mp hp).2, SqL.of (cut_some.mp hp2).2, k _ H' S' e (Wk.zip hp r hp2 r2)⟩) (fun _ x => x) h)
  mono := fun m x h => a.mono (fun _ _ ⟨l, n, hd, k⟩ => ⟨l, n, hd, m _ _ k⟩) x h
def forP (g : FG) (B : FS) : List Dt → FS
  | [], ρ, D => D.nx ρ
  | d :: ds, ρ, D => g d ρ fun ρ1 => B ρ1 { D with nx := fun ρ' => forP g B ds ρ' D, ct := fun ρ' => forP g B ds ρ' D, bk := D.nx }
theorem forP_mono {tg : TG} {tb : TS} {g : FG} {B : FS} (gp : PUG G tg g) (b : PUS G E tb B) : ∀ (ds : List Dt) {ρ : Fm.Env} {D D' : DE}, D.Le D' → forP g B ds ρ D → forP g B ds ρ D'
  | [], _, _, _, m, h => m.nx _ h
  | d :: ds, _, D, D', m, h => gp.mono (fun ρ1 k => b.mono (D := { D with nx := fun ρ' => forP g B ds ρ' D, ct := fun ρ' => forP g B ds ρ' D, bk := D.nx }) (D' := { D' with nx := fun ρ' => forP g B ds ρ' D', ct := fun ρ' => forP g B ds ρ' D', bk := D'.nx })
      ⟨fun ρ' k => forP_mono gp b ds m k, m.rt, m.rl, fun ρ' k => m.nx _ k, fun ρ' k => forP_mono gp b ds m k, m.ex⟩ k) h
abbrev F_for (I : FI) (g : FG) (B : FS) : FS := fun ρ D => I ρ (fun items ρ' => forP g B items ρ' D) D.ex
theorem PUS.for {w : TI} {tg : TG} {tb : TS} {I : FI} {g : FG} {B : FS} (i : PUI G E w I) (gp : PUG G tg g) (b : PUS G E tb B) : PUS G E (tFor w tg tb) (F_for I g B) where
  run := fun {f σ H ρ D} S h => i.run S (i.mono (fun items ρ' k J H' S' e wk => by
    refine ⟨fun i m σ1 H1 => m = items.length - i ∧ i ≤ items.length ∧ ∃ ρ1, St G f σ1 H1 ρ1 ∧ Ex (cut (Xs f σ ρ') H') (cut (Xs f σ1 ρ1) H1) ∧ forP g B (items.drop i) ρ1 (kD G E f σ1 H1 ρ1 D), ⟨_, rfl, Nat.zero_le _, ρ', S', Ex.refl _, forP_mono gp b _ (kD_ex e) k⟩, ?_⟩
    rintro i m σ1 H1 ⟨rfl, hi, ρ1, S1, e1, k1⟩
    by_cases hl : i = items.length
    · subst hl
      rw [List.drop_length] at k1
      exact .inl ⟨wk.stop _ _ e1, k1 _ _ S1 (Ex.refl _)⟩
    · have hlt : i < items.length := by omega
      refine .inr ⟨wk.go i _ _ e1 hlt, fun σ2 H2 => ∃ ρ2, St G f σ2 H2 ρ2 ∧ Ex (cut (Xs f σ ρ') H') (cut (Xs f σ2 ρ2) H2) ∧ forP g B (items.drop (i + 1)) ρ2 (kD G E f σ2 H2 ρ2 D), fun σ2 H2 q => ⟨items.length - (i + 1), by omega, rfl, by omega, q⟩, fun x H2 y => ?_⟩
      obtain ⟨ex, hv⟩ := wk.yld i _ _ x H2 items[i] e1 (fun a ha => S1.dom ha) y (List.getElem?_eq_getElem hlt)
      rw [tkT (List.getElem?_eq_getElem hlt)] at k1
      have S2 := S1.grow ex
      refine gp.run S2 hv (gp.mono (fun ρ2 k2 σ3 H3 S3 e3 => b.run S3 (b.mono ?_ k2)) k1)
      have e13 := (cut_grow ex).trans e3
      have st : ∀ ρ4, forP g B (items.drop (i + 1)) ρ4 (kD G E f σ1 H1 ρ1 D) → kN G f σ3 H3 ρ2 (fun σ2 H2 => ∃ ρ2, St G f σ2 H2 ρ2 ∧ Ex (cut (Xs f σ ρ') H') (cut (Xs f σ2 ρ2) H2) ∧ forP g B (items.drop (i + 1)) ρ2 (kD G E f σ2 H2 ρ2 D)) ρ4 :=
        fun ρ4 k4 σ5 H5 S5 e5 => ⟨ρ4, S5, (e1.trans e13).trans e5, forP_mono gp b _ (kD_ex (e13.trans e5)) k4⟩
      exact ⟨st, fun _ _ h => h, fun _ _ h => h, fun ρ4 k4 => kN_ex e13 k4, st, fun _ h => h⟩) (fun _ x => x) h)
  mono := fun m h => i.mono (fun _ _ k => forP_mono gp b _ m k) m.ex h
def Fr.base (f : Fr) (σ : L2.St) (H : Hp) (ρ : Fm.Env) : Fr := ⟨H, fun a => f.P a ∨ Own σ ρ a, f.X0⟩
theorem St.base {f : Fr} {σ : L2.St} {H : Hp} {ρ : Fm.Env} (S : St G f σ H ρ) : St G (f.base σ H ρ) σ H ρ where
  len := S.len
  fr := fun _ _ _ h => h
  sl := S.sl
  uq := S.uq
  nw := fun p h => .inl (.inr h)
  x0 := S.x0
  pd := fun p h => h.elim (S.pd p) fun w => S.dom (.inr w)
theorem St.unbase {f : Fr} {σ σ' : L2.St} {H H' : Hp} {ρ ρ' : Fm.Env} (S : St G f σ H ρ) (S2 : St G (f.base σ H ρ) σ' H' ρ') : St G f σ' H' ρ' where
  len := S2.len
  fr := fun a o n h => S2.fr a o (fun w => w.elim n fun w => (S.nw a w).elim n fun z => by rw [z] at h; cases h) (S.fr a o n h)
  sl := S2.sl
  uq := S2.uq
  nw := fun p h => (S2.nw p h).elim (fun w => w.elim .inl (S.nw p)) fun w => .inr (S.fresh w).1
  x0 := S2.x0
  pd := fun p h => S2.pd p (.inl h)
theorem St.updOut {f : Fr} {σ : L2.St} {H : Hp} {ρ : Fm.Env} (S : St G f σ H ρ) {D : Addr} {ws : List V} (hx : f.X0 D) (hn : f.H0 D = none) : St G f σ (upd H D (.lst ws)) ρ where
  len := S.len
  fr := fun a u n h => by
    rw [upd_ne (ne_of_none h hn)]
    exact S.fr a u n h
  sl := fun i s h => by
    have hd : Xs f σ ρ D := .inl hx
    rw [cut_upd hd]
    refine (S.sl i s h).mono (Ex.refl _) fun p vs hl hs hp => ?_
    have : p ≠ D := by
      rintro rfl
      exact (S.x0 p hx).2 ⟨i, s, h, hl, jn.mp hs⟩
    rw [upd_ne this]
    exact hp
  uq := S.uq
  nw := S.nw
  x0 := fun p h => ⟨by
    by_cases e : p = D
    · subst e; exact ⟨_, upd_same⟩
    · exact (S.x0 p h).1.imp fun vs h => by rw [upd_ne e]; exact h, (S.x0 p h).2⟩
  pd := fun p h => by
    by_cases e : p = D
    · subst e; rw [upd_same]; simp
    · rw [upd_ne e]; exact S.pd p h
def slotAt (ρ : Fm.Env) (i : Nat) : Slot := (ρ[i]?).getD .un
theorem St.slot {f : Fr} {σ : L2.St} {H : Hp} {ρ : Fm.Env} (S : St G f σ H ρ) (i : Nat) : SlR G (cut (Xs f σ ρ) H) H (σ[i]?.join) (slotAt ρ i) := by
  unfold slotAt
  cases h : ρ[i]? with
  | none => exact .un
  | some s => exact S.sl i s h
theorem set_join {σ : L2.St} {i : Nat} {o : Option V} : (σ.set i o).set i (σ[i]?.join) = σ := by
  apply List.ext_getElem?
  intro j
  by_cases e : i = j
  · subst e
    by_cases hl : i < σ.length
    · rw [List.getElem?_set_self (by rw [List.length_set]; exact hl), List.getElem?_eq_getElem hl]
      rfl
    · rw [List.getElem?_eq_none (by rw [List.length_set, List.length_set]; omega), List.getElem?_eq_none (by omega)]
  · rw [List.getElem?_set_ne e, List.getElem?_set_ne e]
theorem St.home {f : Fr} {σ : L2.St} {H H' : Hp} {ρ ρ' : Fm.Env} {i : Nat} {o : Option V} (S : St G f σ H ρ) (hs : (slotAt ρ i).lists = false) (S2 : St G f (σ.set i o) H' ρ') (e : Ex (cut (Xs f σ ρ) H) (cut (Xs f (σ.set i o) ρ') H')) :
    St G f σ H' (ρ'.set i (slotAt ρ i)) ∧ Ex (cut (Xs f (σ.set i o) ρ') H') (cut (Xs f σ (ρ'.set i (slotAt ρ i))) H') := by
  have h := (S.slot i).mono e (H' := H') fun p vs hl _ _ => by rw [hs] at hl; cases hl
  have S3 := S2.put (i := i) hs h
  have e3 := put_ex (f := f) (σ := σ.set i o) (H := H') (ρ := ρ') (i := i) (o := σ[i]?.join) (s := slotAt ρ i) hs
  rw [set_join] at S3 e3
  exact ⟨S3, e3⟩
def lcP (i : Nat) (T : FT) (B : FE) : List Dt → List Dt → Fm.Env → (List Dt → Fm.Env → Prop) → Prop
  | [], acc, ρ, K => K acc ρ
  | d :: ds, acc, ρ, K => acc.length < 100000 ∧ (slotAt ρ i).lists = false ∧ T (ρ.set i (.val d)) (fun b ρ2 => if b = true then B ρ2 (fun y ρ3 => lcP i T B ds (acc ++ [y]) (ρ3.set i (slotAt ρ i)) K) (fun _ => False) else lcP i T B ds acc (ρ2.set i (slotAt ρ i)) K) (fun _ => False)
theorem lcP_mono {i : Nat} {tt : TT} {te : TE} {T : FT} {B : FE} {E1 E2 : XK} (w : PUT G E1 tt T) (b : PU G E2 te B) : ∀ (ds acc : List Dt) {ρ : Fm.Env} {K K' : List Dt → Fm.Env → Prop}, (∀ l ρ, K l ρ → K' l ρ) → lcP i T B ds acc ρ K → lcP i T B ds acc ρ K'
  | [], _, _, _, _, m, h => m _ _ h
  | d :: ds, acc, _, _, _, m, h => ⟨h.1, h.2.1, w.mono (fun c ρ2 k => by
      cases c with
      | true => rw [if_pos rfl] at k ⊢; exact b.mono (fun y ρ3 k => lcP_mono w b ds _ m k) (fun _ x => x) k
      | false => rw [if_neg Bool.false_ne_true] at k ⊢; exact lcP_mono w b ds _ m k) (fun _ x => x) h.2.2⟩
abbrev F_lc (i : Nat) (I : FI) (T : FT) (B : FE) : FA := fun ρ K X => I ρ (fun items ρ' => lcP i T B items [] ρ' K) X
theorem wipe1 {σ : L2.St} {i : Nat} {v : V} : wipe ((wipe σ [i]).set i (some v)) [i] = wipe σ [i] := by
  show ((σ.set i none).set i (some v)).set i none = σ.set i none
  rw [List.set_set, List.set_set]
theorem PUF.lc {w : TI} {tt : TT} {te : TE} {I : FI} {T : FT} {B : FE} {i : Nat} {E1 E2 : XK} (ip : PUI G E w I) (wt : PUT G E1 tt T) (b : PU G E2 te B) : PUF G E (tLc w (gName i) tt te [i]) (F_lc i I T B) where
  run := fun {f σ H ρ Q} S h => ip.run S (ip.mono (fun items ρ' k J H' S' e wk D hD => by
    have exD : Ex H' (upd H' D (.lst [])) := Ex.new hD
    obtain ⟨q1, q2, q3, q4, q5⟩ := S'.new (H' := upd H' D (.lst [])) hD exD upd_same .nil
    refine ⟨fun j m H1 => m = items.length - j ∧ j ≤ items.length ∧ ∃ ρ1 acc vs, St G (f.out D) σ H1 ρ1 ∧ Ex (cut (Xs f σ ρ') H') (cut (Xs (f.out D) σ ρ1) H1) ∧ H1 D = some (.lst vs) ∧ DtVs G (cut (Xs (f.out D) σ ρ1) H1) vs acc ∧ lcP i T B (items.drop j) acc ρ1 (kF G f σ H ρ Q), ⟨_, rfl, Nat.zero_le _, ρ', [], [], q1, q2, upd_same, .nil, k⟩, ?_⟩
    rintro j m H1 ⟨rfl, hj, ρ1, acc, vs, S1, e1, hd1, hr1, k1⟩
    by_cases hl : j = items.length
    · subst hl
      rw [List.drop_length] at k1
      exact .inl ⟨wk.stop _ _ e1, k1 D vs H1 S1 (e.trans e1) q3 q4 hd1 hr1⟩
    · have hlt : j < items.length := by omega
      refine .inr ⟨wk.go j _ _ e1 hlt, fun H2 => ∃ ρ2 acc vs, St G (f.out D) σ H2 ρ2 ∧ Ex (cut (Xs f σ ρ') H') (cut (Xs (f.out D) σ ρ2) H2) ∧ H2 D = some (.lst vs) ∧ DtVs G (cut (Xs (f.out D) σ ρ2) H2) vs acc ∧ lcP i T B (items.drop (j + 1)) acc ρ2 (kF G f σ H ρ Q), fun H2 q => ⟨items.length - (j + 1), by omega, rfl, by omega, q⟩, fun x H2 y => ?_⟩
      obtain ⟨ex, hv⟩ := wk.yld j _ _ x H2 items[j] e1 (fun a ha => S1.dom ha) y (List.getElem?_eq_getElem hlt)
      rw [tkT (List.getElem?_eq_getElem hlt)] at k1
      obtain ⟨kl, ks, kt⟩ := k1
      have S2 := S1.grow ex
      have hD2 : H2 D = some (.lst vs) := ex _ _ hd1
      refine ⟨wipe1, ?_⟩
      have es : (wipe σ [i]).set i (some x) = σ.set i (some x) := by
        show (σ.set i none).set i (some x) = σ.set i (some x)
        rw [List.set_set]
      rw [es]
      have S3 : St G (f.out D) (σ.set i (some x)) H2 (ρ1.set i (.val items[j])) := S2.put rfl (.val hv)
      have e3 : Ex (cut (Xs (f.out D) σ ρ1) H1) (cut (Xs (f.out D) (σ.set i (some x)) (ρ1.set i (.val items[j]))) H2) := (cut_grow ex).trans (put_ex rfl)
      have hnP : ¬ f.P D := fun w => S'.pd D w hD
      have hnO : ¬ Own (σ.set i (some x)) (ρ1.set i (.val items[j])) D := (S3.x0 D (.inr rfl)).2
      have hnB : ¬ ((f.out D).base (σ.set i (some x)) H2 (ρ1.set i (.val items[j]))).P D := fun w => w.elim hnP hnO
      refine wt.run S3.base (wt.mono (fun c ρ4 k4 H4 S4 e4 => ?_) (fun e he => he.elim) kt)
      cases c with
      | false =>
        dsimp only
        rw [if_neg Bool.false_ne_true] at k4 ⊢
        obtain ⟨S6, e6⟩ := S1.home ks (S3.unbase S4) (e3.trans e4)
        have e16 := (e3.trans e4).trans e6
        exact ⟨_, acc, vs, S6, e1.trans e16, S4.fr D _ hnB hD2, hr1.mono e16, k4⟩
      | true =>
        dsimp only
        rw [if_pos rfl] at k4 ⊢
        refine b.run S4 (b.mono (fun y ρ5 k5 v5 H5 S5 e5 hv5 => ?_) (fun e he => he.elim) k4)
        obtain ⟨S6, e6⟩ := S1.home ks (S3.unbase S5) ((e3.trans e4).trans e5)
        have e16 := ((e3.trans e4).trans e5).trans e6
        have nx : f.H0 D = none := (S'.fresh hD).1
        have xc : cut (Xs (f.out D) σ (ρ5.set i (slotAt ρ1 i))) (upd H5 D (.lst (vs ++ [v5]))) = cut (Xs (f.out D) σ (ρ5.set i (slotAt ρ1 i))) H5 := cut_upd (.inl (.inr rfl))
        refine ⟨vs, S5.fr D _ hnB hD2, Nat.lt_of_le_of_lt (m := 100000) (by rw [hr1.length]; omega) (by decide), _, _, _, S6.updOut (.inr rfl) nx, ?_, upd_same, ?_, k5⟩
        · rw [xc]; exact e1.trans e16
        · rw [xc]; exact (hr1.mono e16).app (.cons (hv5.mono e6) .nil)) (fun _ x => x) h)
  mono := fun m x h => ip.mono (fun _ _ k => lcP_mono wt b _ _ m k) x h
end
end Fm

set_option maxHeartbeats 2000000
namespace Fm
open PySem PySem.Spec PyProof.Rows L2
structure FD where
  pre : List Dt → Prop
  post : List Dt → Dt → Prop
def spV (G : Gs) (F : FD) : Sp := fun vs H Q _ => ∃ (ds : List Dt) (X : Addr → Prop), DtVs G (cut X H) vs ds ∧ (∀ a, X a → LstAt H a) ∧ F.pre ds ∧ ∀ d v H', F.post ds d → Ex H H' → DtV G (cut X H') v d → Q v H'
def spL (G : Gs) (F : FD) : Sp := fun vs H Q _ => ∃ (ds : List Dt) (X : Addr → Prop), DtVs G (cut X H) vs ds ∧ (∀ a, X a → LstAt H a) ∧ F.pre ds ∧ ∀ l p us H', F.post ds (.lst l) → H p = none → Ex H H' → H' p = some (.lst us) → DtVs G (cut (fun a => X a ∨ a = p) H') us l → Q (.ref p) H'
def spT (G : Gs) (F : FD) : Sp := fun vs H Q _ => ∃ (p : Addr) (us : List V) (ds : List Dt) (X : Addr → Prop), vs = .ref p :: us ∧ TapeAt H p ∧ X p ∧ DtVs G (cut X H) us ds ∧ (∀ a, X a → LstAt H a) ∧ F.pre ds ∧ ∀ d v H', F.post ds d → Mo p H H' → TapeAt H' p → DtV G (cut X H') v d → Q v H'
def spTL (G : Gs) (F : FD) : Sp := fun vs H Q _ => ∃ (p : Addr) (us : List V) (ds : List Dt) (X : Addr → Prop), vs = .ref p :: us ∧ TapeAt H p ∧ X p ∧ DtVs G (cut X H) us ds ∧ (∀ a, X a → LstAt H a) ∧ F.pre ds ∧ ∀ l q ws H', F.post ds (.lst l) → H q = none → Mo p H H' → TapeAt H' p → H' q = some (.lst ws) → DtVs G (cut (fun a => X a ∨ a = q) H') ws l → Q (.ref q) H'
section
variable {G : Gs} {E E' : XK} {K : PySem.W.Frag}
abbrev F_call (F : FD) (A : FA) : FE := fun ρ K X => A ρ (fun ds ρ' => F.pre ds ∧ ∀ d, F.post ds d → K d ρ') X
theorem PU.call {F : FD} {t : TA} {A : FA} (a : PUA G E t A) : PU G E (tCall (spV G F) [] E' t) (F_call F A) where
  run := fun {f σ H ρ Q} S h => a.run S (a.mono (fun ds ρ' k vs H' S' e hv => by
    dsimp only
    rw [List.append_nil]
    exact ⟨ds, Xs f σ ρ', hv, fun a ha => S'.lstAt ha, k.1, fun d v H2 hp ex hd => k.2 d hp v H2 (S'.grow ex) (e.trans (cut_grow ex)) hd⟩) (fun _ x => x) h)
  mono := fun m x h => a.mono (fun _ _ k => ⟨k.1, fun d hp => m _ _ (k.2 d hp)⟩) x h
abbrev F_callL (F : FD) (A : FA) : FA := fun ρ K X => A ρ (fun ds ρ' => F.pre ds ∧ ∀ l, F.post ds (.lst l) → K l ρ') X
theorem PUF.call {F : FD} {t : TA} {A : FA} (a : PUA G E t A) : PUF G E (tCall (spL G F) [] E' t) (F_callL F A) where
  run := fun {f σ H ρ Q} S h => a.run S (a.mono (fun ds ρ' k vs H' S' e hv => by
    dsimp only
    rw [List.append_nil]
    refine ⟨ds, Xs f σ ρ', hv, fun a ha => S'.lstAt ha, k.1, fun l p us H2 hp hn ex hl hd => ?_⟩
    exact k.2 l hp p us H2 (S'.outNew hn ex ⟨_, hl⟩) (e.trans (newOut_ex hn ex)) (.inr (S'.fresh hn).1) (S'.fresh hn).2.1 hl (hd.mono (cut_le fun a h => xs_out.mp h))) (fun _ x => x) h)
  mono := fun m x h => a.mono (fun _ _ k => ⟨k.1, fun d hp => m _ _ (k.2 d hp)⟩) x h
theorem St.tp {f : Fr} {σ : L2.St} {H : Hp} {ρ : Fm.Env} {i : Nat} {p : Addr} (S : St G f σ H ρ) (h : ρ[i]? = some (.tape p)) : σ[i]? = some (some (.ref p)) ∧ TapeAt H p ∧ Own σ ρ p := by
  have := S.sl i _ h
  generalize e : σ[i]?.join = o at this
  cases this with
  | tape ht => exact ⟨jn.mp e, ht, ⟨i, _, h, rfl, jn.mp e⟩⟩
theorem St.tape {f : Fr} {σ : L2.St} {H H' : Hp} {ρ : Fm.Env} {i : Nat} {p : Addr} (S : St G f σ H ρ) (h : ρ[i]? = some (.tape p)) (m : Mo p H H') (t : TapeAt H' p) : St G f σ H' ρ ∧ Ex (cut (Xs f σ ρ) H) (cut (Xs f σ ρ) H') := by
  obtain ⟨h1, h2, h3⟩ := S.tp h
  have ex : Ex (cut (Xs f σ ρ) H) (cut (Xs f σ ρ) H') := cut_ex fun a o n e => ⟨n, m a o e fun w => n (w ▸ .inr h3)⟩
  refine ⟨⟨S.len, fun a o n e => ?_, fun j s hj => ?_, S.uq, S.nw, fun q hq => ⟨?_, (S.x0 q hq).2⟩, fun q hq => ?_⟩, ex⟩
  · refine m a o (S.fr a o n e) ?_
    rintro rfl
    rcases S.nw a h3 with w | w
    · exact n w
    · rw [w] at e; cases e
  · by_cases hij : j = i
    · subst hij
      rw [h] at hj
      cases hj
      rw [jn.mpr h1]
      exact .tape t
    · refine (S.sl j s hj).mono ex fun q vs hs hq hv => m q _ hv ?_
      rintro rfl
      exact hij (S.uq j i s _ q hj hs (jn.mp hq) h rfl h1)
  · have : q ≠ p := fun w => (S.x0 q hq).2 (w ▸ h3)
    exact (S.x0 q hq).1.imp fun vs h => m q _ h this
  · by_cases e : q = p
    · subst e
      obtain ⟨_, _, _, _, _, z⟩ := t
      rw [z]; simp
    · cases e2 : H q with
      | none => exact absurd e2 (S.pd q hq)
      | some o => rw [m q o e2 e]; simp
end
end Fm

set_option maxHeartbeats 2000000
namespace Fm
open PySem PySem.Spec PyProof.Rows L2
def env0 (n : Nat) (ds : List Dt) : Fm.Env := ds.map .val ++ List.replicate (n - ds.length) .un
def endV (F : FD) (ds : List Dt) : DE where
  nx := fun _ => F.post ds .non
  rt := fun d _ => F.post ds d
  rl := fun l _ => F.post ds (.lst l)
def endL (F : FD) (ds : List Dt) : DE where
  nx := fun _ => False
  rt := fun d _ => False
  rl := fun l _ => F.post ds (.lst l)
def endT (F : FD) (p : Addr) (ds : List Dt) : DE where
  nx := fun ρ => ρ[0]? = some (.tape p) ∧ F.post ds .non
  rt := fun d ρ => ρ[0]? = some (.tape p) ∧ F.post ds d
  rl := fun l ρ => ρ[0]? = some (.tape p) ∧ F.post ds (.lst l)
def endTL (F : FD) (p : Addr) (ds : List Dt) : DE where
  nx := fun _ => False
  rt := fun d _ => False
  rl := fun l ρ => ρ[0]? = some (.tape p) ∧ F.post ds (.lst l)
section
variable {G : Gs} {E E2 : XK} {K : PySem.W.Frag} {H : Hp} {vs : List V} {ds : List Dt} {Q : VK} {N : List Str} {X : Addr → Prop}
theorem start_at {i : Nat} {s : Slot} : (env0 N.length ds)[i]? = some s → vs.length = ds.length → (s = .un ∨ ∃ v d, s = .val d ∧ vs[i]? = some v ∧ ds[i]? = some d ∧ (L2.start N vs)[i]? = some (some v)) := by
  intro h hl
  unfold env0 at h
  by_cases hi : i < ds.length
  · rw [List.getElem?_append_left (by rw [List.length_map]; exact hi), List.getElem?_map, List.getElem?_eq_getElem hi] at h
    injection h with h
    subst h
    right
    have hv : i < vs.length := by omega
    refine ⟨vs[i], ds[i], rfl, List.getElem?_eq_getElem hv, List.getElem?_eq_getElem hi, ?_⟩
    unfold L2.start
    rw [List.getElem?_append_left (by rw [List.length_map]; exact hv), List.getElem?_map, List.getElem?_eq_getElem hv]
    rfl
  · rw [List.getElem?_append_right (by rw [List.length_map]; omega)] at h
    rw [List.getElem?_replicate] at h
    split at h
    · cases h; exact .inl rfl
    · cases h
theorem start_len (hl : vs.length = ds.length) : (L2.start N vs).length = (env0 N.length ds).length := by
  unfold L2.start env0
  rw [List.length_append, List.length_append, List.length_map, List.length_map, List.length_replicate, List.length_replicate, hl]
theorem start_St (hv : DtVs G (cut X H) vs ds) (hx : ∀ a, X a → LstAt H a) : St G ⟨H, fun _ => False, X⟩ (L2.start N vs) H (env0 N.length ds) := by
  have hl := hv.length
  have no : ∀ p, ¬ Own (L2.start N vs) (env0 N.length ds) p := by
    rintro p ⟨i, s, h1, h2, _⟩
    rcases start_at (N := N) h1 hl with rfl | ⟨v, d, rfl, _⟩ <;> cases h2
  have xx : Xs ⟨H, fun _ => False, X⟩ (L2.start N vs) (env0 N.length ds) = X := by
    funext a
    exact propext ⟨fun w => w.elim id fun w => absurd w (no a), .inl⟩
  refine ⟨start_len hl, fun _ _ _ h => h, fun i s h => ?_, fun i j s t p h1 h2 h3 => absurd ⟨i, s, h1, h2, h3⟩ (no p), fun p h => absurd h (no p), fun p h => ⟨hx p h, no p⟩, fun p h => h.elim⟩
  rw [xx]
  rcases start_at (N := N) h hl with rfl | ⟨v, d, rfl, h1, h2, h3⟩
  · exact .un
  · rw [jn.mpr h3]
    obtain ⟨d', e1, e2⟩ := hv.at h1
    rw [h2] at e1
    cases e1
    exact .val e2
theorem spV.def {F : FD} {t : TS} {B : FS} (U : PUS G E t B) (h : ∀ ds, F.pre ds → B (env0 N.length ds) (endV F ds)) (hs : spV G F vs H Q E2) : t { nx := fun _ H' => Q .non H', rt := Q } (L2.start N vs) H := by
  obtain ⟨ds, X, hv, hx, hp, q⟩ := hs
  refine U.run (start_St hv hx) (U.mono (D := endV F ds) ⟨fun ρ' k σ' H' S e => q .non .non H' k ?_ .non, fun d ρ' k v σ' H' S hd => q d v H' k ?_ ?_, fun l ρ' k p us σ' H' S h1 h2 h3 h4 => q (.lst l) _ H' k ?_ ?_, fun _ w => w.elim, fun _ w => w.elim, fun _ w => w.elim⟩ (h ds hp))
  · exact fun a o ha => S.fr a o id ha
  · exact fun a o ha => S.fr a o id ha
  · exact hd.mono (cut_le fun a ha => .inl ha)
  · exact fun a o ha => S.fr a o id ha
  · refine .lst (cut_some.mpr ⟨h2, h3⟩) (h4.mono (cut_le fun a ha => .inl (.inl ha)))
theorem spL.def {F : FD} {t : TS} {B : FS} (U : PUS G E t B) (h : ∀ ds, F.pre ds → B (env0 N.length ds) (endL F ds)) (hs : spL G F vs H Q E2) : t { nx := fun _ H' => Q .non H', rt := Q } (L2.start N vs) H := by
  obtain ⟨ds, X, hv, hx, hp, q⟩ := hs
  refine U.run (start_St hv hx) (U.mono (D := endL F ds) ⟨fun _ w => w.elim, fun _ _ w => w.elim, fun l ρ' k p us σ' H' S h1 h2 h3 h4 => q l p us H' k (h1.elim False.elim id) ?_ h3 ?_, fun _ w => w.elim, fun _ w => w.elim, fun _ w => w.elim⟩ (h ds hp))
  · exact fun a o ha => S.fr a o id ha
  · refine h4.mono (cut_le fun a ha => ?_)
    rcases ha with ha | ha
    · exact .inl (.inl ha)
    · exact .inl (.inr ha)
def env1 (p : Addr) (n : Nat) (ds : List Dt) : Fm.Env := .tape p :: env0 (n - 1) ds
theorem start1_St {p : Addr} {N : List Str} (hn : 1 ≤ N.length) (hv : DtVs G (cut X H) vs ds) (hx : ∀ a, X a → LstAt H a) (ht : TapeAt H p) (hp : X p) : St G ⟨H, fun a => a = p, fun a => X a ∧ a ≠ p⟩ (L2.start N (.ref p :: vs)) H (env1 p N.length ds) := by
  obtain ⟨n0, N', rfl⟩ : ∃ n0 N', N = n0 :: N' := by cases N with | nil => simp at hn | cons a b => exact ⟨a, b, rfl⟩
  have es : L2.start (n0 :: N') (.ref p :: vs) = some (.ref p) :: L2.start N' vs := by
    unfold L2.start
    rw [List.map_cons, List.cons_append, List.length_cons, List.length_cons, Nat.add_sub_add_right]
  have ee : env1 p (n0 :: N').length ds = .tape p :: env0 N'.length ds := by
    unfold env1
    rw [List.length_cons, Nat.add_sub_cancel]
  rw [es, ee]
  have hl := hv.length
  have own : ∀ q, Own (some (.ref p) :: L2.start N' vs) (.tape p :: env0 N'.length ds) q ↔ q = p := by
    intro q
    constructor
    · rintro ⟨i, s, h1, h2, h3⟩
      cases i with
      | zero => simp at h3; exact h3.symm
      | succ i =>
        rw [List.getElem?_cons_succ] at h1
        rcases start_at (N := N') h1 hl with rfl | ⟨v, d, rfl, _⟩ <;> cases h2
    · rintro rfl
      exact ⟨0, _, rfl, rfl, rfl⟩
  have xx : Xs ⟨H, fun a => a = p, fun a => X a ∧ a ≠ p⟩ (some (.ref p) :: L2.start N' vs) (.tape p :: env0 N'.length ds) = X := by
    funext a
    refine propext ⟨fun w => w.elim (·.1) fun w => ((own a).mp w) ▸ hp, fun w => ?_⟩
    by_cases e : a = p
    · exact .inr ((own a).mpr e)
    · exact .inl ⟨w, e⟩
  refine ⟨by rw [List.length_cons, List.length_cons, start_len hl], fun _ _ _ h => h, fun i s h => ?_, fun i j s t q h1 h2 h3 h4 h5 h6 => ?_, fun q h => .inl ((own q).mp h), fun q h => ⟨hx q h.1, fun w => h.2 ((own q).mp w)⟩, fun q h => ?_⟩
  · rw [xx]
    cases i with
    | zero => simp at h; subst h; exact .tape ht
    | succ i =>
      rw [List.getElem?_cons_succ] at h ⊢
      rcases start_at (N := N') h hl with rfl | ⟨v, d, rfl, h1, h2, h3⟩
      · exact .un
      · rw [jn.mpr h3]
        obtain ⟨d', e1, e2⟩ := hv.at h1
        rw [h2] at e1
        cases e1
        exact .val e2
  · have z : ∀ {i : Nat} {s : Slot}, (Slot.tape p :: env0 N'.length ds)[i]? = some s → s.lists = true → i = 0 := by
      intro i s h1 h2
      cases i with
      | zero => rfl
      | succ i =>
        rw [List.getElem?_cons_succ] at h1
        rcases start_at (vs := vs) (N := N') h1 hl with rfl | ⟨v, d, rfl, _⟩ <;> cases h2
    rw [z h1 h2, z h4 h5]
  · have e : q = p := h
    subst e
    obtain ⟨_, _, _, _, _, w⟩ := ht
    rw [w]; simp
theorem tape_end {f : Fr} {σ : L2.St} {ρ : Fm.Env} {p : Addr} {H' : Hp} (S : St G f σ H' ρ) (h : ρ[0]? = some (.tape p)) : TapeAt H' p := (S.tp h).2.1
theorem spT.def {F : FD} {t : TS} {B : FS} (U : PUS G E t B) (hn : 1 ≤ N.length) (h : ∀ p ds, F.pre ds → B (env1 p N.length ds) (endT F p ds)) (hs : spT G F vs H Q E2) : t { nx := fun _ H' => Q .non H', rt := Q } (L2.start N vs) H := by
  obtain ⟨p, us, ds, X, rfl, ht, xp, hv, hx, hp, q⟩ := hs
  have back : ∀ {σ' : L2.St} {ρ' : Fm.Env} {H' : Hp}, St G ⟨H, fun a => a = p, fun a => X a ∧ a ≠ p⟩ σ' H' ρ' → ρ'[0]? = some (.tape p) → ∀ a, X a → Xs ⟨H, fun a => a = p, fun a => X a ∧ a ≠ p⟩ σ' ρ' a := fun S h0 a ha => by
    by_cases e : a = p
    · exact .inr (e ▸ (S.tp h0).2.2)
    · exact .inl ⟨ha, e⟩
  refine U.run (start1_St hn hv hx ht xp) (U.mono (D := endT F p ds) ⟨fun ρ' k σ' H' S e => q .non .non H' k.2 ?_ (tape_end S k.1) .non, fun d ρ' k v σ' H' S hd => q d v H' k.2 ?_ (tape_end S k.1) ?_, fun l ρ' k r ws σ' H' S h1 h2 h3 h4 => q (.lst l) _ H' k.2 ?_ (tape_end S k.1) ?_, fun _ w => w.elim, fun _ w => w.elim, fun _ w => w.elim⟩ (h p ds hp))
  · exact fun a o ha n => S.fr a o n ha
  · exact fun a o ha n => S.fr a o n ha
  · exact hd.mono (cut_le (back S k.1))
  · exact fun a o ha n => S.fr a o n ha
  · have hnr : r ≠ p := by
      rintro rfl
      exact (S.x0 r (.inr rfl)).2 (S.tp k.1).2.2
    refine .lst (cut_some.mpr ⟨fun w => h2 ⟨w, hnr⟩, h3⟩) (h4.mono (cut_le fun a ha => xs_out.mpr (.inl (back S.back k.1 a ha))))
theorem spTL.def {F : FD} {t : TS} {B : FS} (U : PUS G E t B) (hn : 1 ≤ N.length) (h : ∀ p ds, F.pre ds → B (env1 p N.length ds) (endTL F p ds)) (hs : spTL G F vs H Q E2) : t { nx := fun _ H' => Q .non H', rt := Q } (L2.start N vs) H := by
  obtain ⟨p, us, ds, X, rfl, ht, xp, hv, hx, hp, q⟩ := hs
  have back : ∀ {σ' : L2.St} {ρ' : Fm.Env} {H' : Hp}, St G ⟨H, fun a => a = p, fun a => X a ∧ a ≠ p⟩ σ' H' ρ' → ρ'[0]? = some (.tape p) → ∀ a, X a → Xs ⟨H, fun a => a = p, fun a => X a ∧ a ≠ p⟩ σ' ρ' a := fun S h0 a ha => by
    by_cases e : a = p
    · exact .inr (e ▸ (S.tp h0).2.2)
    · exact .inl ⟨ha, e⟩
  refine U.run (start1_St hn hv hx ht xp) (U.mono (D := endTL F p ds) ⟨fun _ w => w.elim, fun _ _ w => w.elim, fun l ρ' k r ws σ' H' S h1 h2 h3 h4 => ?_, fun _ w => w.elim, fun _ w => w.elim, fun _ w => w.elim⟩ (h p ds hp))
  have hnr : r ≠ p := by
    rintro rfl
    exact (S.x0 r (.inr rfl)).2 (S.tp k.1).2.2
  refine q l r ws H' k.2 (h1.elim (fun w => absurd w hnr) id) (fun a o ha n => S.fr a o n ha) (tape_end S k.1) h3 (h4.mono (cut_le fun a ha => ?_))
  rcases ha with ha | ha
  · exact xs_out.mpr (.inl (back S.back k.1 a ha))
  · exact xs_out.mpr (.inr ha)
end
end Fm

set_option maxHeartbeats 2000000
namespace Fm
open PySem PySem.Spec PyProof.Rows L2
section
variable {G : Gs} {E E2 : XK} {K : PySem.W.Frag}
theorem dint {X : Addr → Prop} {H : Hp} {x : V} {i : Int} (h : DtV G (cut X H) x (.int i)) : x = .int i := by cases h; rfl
theorem RD.i0 {g : Int → Int → Int} : RD G (rI0 fun i j => .int (g i j)) (fun d e K => ∃ i j, d = .int i ∧ e = .int j ∧ K (.int (g i j))) where
  run := fun _ h1 h2 ⟨i, j, e1, e2, k⟩ => by subst e1; subst e2; exact ⟨i, j, dint h1, dint h2, k _ _ (Ex.refl _) (.int _)⟩
  mono := fun m ⟨i, j, e1, e2, k⟩ => ⟨i, j, e1, e2, m _ k⟩
theorem RD.b0 {g : Int → Int → Bool} : RD G (rI0 fun i j => .bl (g i j)) (fun d e K => ∃ i j, d = .int i ∧ e = .int j ∧ K (.bl (g i j))) where
  run := fun _ h1 h2 ⟨i, j, e1, e2, k⟩ => by subst e1; subst e2; exact ⟨i, j, dint h1, dint h2, k _ _ (Ex.refl _) (.bl _)⟩
  mono := fun m ⟨i, j, e1, e2, k⟩ => ⟨i, j, e1, e2, m _ k⟩
theorem RD.i {C : Int → Int → Prop} {g : Int → Int → Int} : RD G (rI C fun i j => .int (g i j)) (fun d e K => ∃ i j, d = .int i ∧ e = .int j ∧ C i j ∧ K (.int (g i j))) where
  run := fun _ h1 h2 ⟨i, j, e1, e2, c, k⟩ => by subst e1; subst e2; exact ⟨i, j, dint h1, dint h2, c, k _ _ (Ex.refl _) (.int _)⟩
  mono := fun m ⟨i, j, e1, e2, c, k⟩ => ⟨i, j, e1, e2, c, m _ k⟩
theorem UD.neg : UD G (rU fun i => .int (-i)) (fun d K => ∃ i, d = .int i ∧ K (.int (-i))) where
  run := fun _ h1 ⟨i, e1, k⟩ => by subst e1; exact ⟨i, dint h1, k _ _ (Ex.refl _) (.int _)⟩
  mono := fun m ⟨i, e1, k⟩ => ⟨i, e1, m _ k⟩
def eqS : Dt → Dt → Option Bool
  | .int i, .int j => some (decide (i = j))
  | .str i, .str j => some (decide (i = j))
  | .bl i, .bl j => some (decide (i = j))
  | .non, .non => some true
  | .int _, .non => some false
  | .non, .int _ => some false
  | .int _, .str _ => some false
  | .str _, .int _ => some false
  | _, _ => none
theorem eqS_ok {X : Addr → Prop} {H : Hp} {x y : V} {d e : Dt} {b : Bool} (h1 : DtV G (cut X H) x d) (h2 : DtV G (cut X H) y e) (h : eqS d e = some b) : scal x y = true ∧ decide (x = y) = b := by
  unfold eqS at h
  split at h <;> first
    | (cases h; done)
    | (injection h with h; subst h; cases h1; cases h2; exact ⟨rfl, by first | rfl | (rw [decide_eq_decide]; simp)⟩)
theorem RD.eq : RD G rEq (fun d e K => ∃ b, eqS d e = some b ∧ K (.bl b)) where
  run := fun _ h1 h2 ⟨b, e1, k⟩ => by
    obtain ⟨a1, a2⟩ := eqS_ok h1 h2 e1
    exact ⟨a1, by rw [a2]; exact k _ _ (Ex.refl _) (.bl _)⟩
  mono := fun m ⟨b, e1, k⟩ => ⟨b, e1, m _ k⟩
theorem RD.ne : RD G rNe (fun d e K => ∃ b, eqS d e = some b ∧ K (.bl (!b))) where
  run := fun _ h1 h2 ⟨b, e1, k⟩ => by
    obtain ⟨a1, a2⟩ := eqS_ok h1 h2 e1
    exact ⟨a1, by rw [a2]; exact k _ _ (Ex.refl _) (.bl _)⟩
  mono := fun m ⟨b, e1, k⟩ => ⟨b, e1, m _ k⟩
theorem DtV.ratv {H : Hp} {x : V} {q : Rat} (h : DtV G H x (.rat q)) : RatV G.R H x q := by cases h; assumption
theorem RatV.cut {X : Addr → Prop} {C : Addr} {H : Hp} {x : V} {q : Rat} (h : RatV C (cut X H) x q) : RatV C H x q := h.mono cut_H
theorem NumV.cut {X : Addr → Prop} {C : Addr} {H : Hp} {x : V} {q : Rat} (h : NumV C (cut X H) x q) : NumV C H x q := h.mono cut_H
theorem RatV.out {X : Addr → Prop} {C : Addr} {H H' : Hp} {x : V} {q : Rat} (hl : ∀ a, X a → LstAt H a) (e : Ex H H') (h : RatV C H' x q) : RatV C (Fm.cut X H') x q := by
  obtain ⟨p, rfl, dx, hp⟩ := h
  refine ⟨p, rfl, dx, cut_some.mpr ⟨fun w => ?_, hp⟩⟩
  obtain ⟨vs, hv⟩ := hl p w
  rw [e _ _ hv] at hp
  cases hp

abbrev O_num2 (g : Rat → Rat → Rat) : O2 := fun d e K => ∃ p, d = .rat p ∧ e.isNum = true ∧ Sz 3000 p ∧ Sz 3000 e.num ∧ K (.rat (g p e.num))
theorem RD.num2 {g : Rat → Rat → Rat} : RD G (rOwn G.R (spNum2 G.R g) E) (O_num2 g) where
  run := fun hx h1 h2 ⟨p, e1, en, s1, s2, k⟩ => by
    subst e1
    exact g_num2 h1.ratv.cut (h2.num en).cut s1 s2 (by decide) fun u H' ex hu => k u H' ex (.rat (hu.out hx ex))
  mono := fun m ⟨p, e1, en, s1, s2, k⟩ => ⟨p, e1, en, s1, s2, m _ k⟩
abbrev O_rel2 (g : Rat → Rat → Bool) : O2 := fun d e K => ∃ p, d = .rat p ∧ e.isNum = true ∧ Sz 3000 p ∧ Sz 3000 e.num ∧ K (.bl (g p e.num))
theorem RD.rel2 {g : Rat → Rat → Bool} (R : RC K G.R) : RD G (rCmpOwn K G.R (spRel2 G.R g) E) (O_rel2 g) where
  run := fun hx h1 h2 ⟨p, e1, en, s1, s2, k⟩ => by
    subst e1
    exact g_rel2 R h1.ratv.cut (h2.num en).cut s1 s2 (by decide) fun H' ex => k _ H' ex (.bl _)
  mono := fun m ⟨p, e1, en, s1, s2, k⟩ => ⟨p, e1, en, s1, s2, m _ k⟩
def Dt.kind : Dt → Bool
  | .scl _ => false
  | _ => true
def Dt.ty (G : Gs) : Dt → Value
  | .non => .type "NoneType"
  | .bl _ => .type "bool"
  | .int _ => .type "int"
  | .str _ => .type "str"
  | .rat _ => .ref G.R
  | .lst _ => .type "list"
  | .tup _ => .type "tuple"
  | .dic _ => .type "dict"
  | .scl _ => .ref G.S
theorem Dt.kty (d : Dt) (h : d.kind = true) : KTy G.R (d.ty G) := by
  cases d with
  | non => exact .non
  | bl => exact .bool
  | int => exact .int
  | str => exact .str
  | rat => exact .own
  | lst => exact .list
  | tup => exact .tuple
  | dic => exact .dict
  | scl => cases h
theorem DtV.tyx (R : RC K G.R) (RS : SC K G.S G.R) {H : Hp} {v : V} {d : Dt} (h : DtV G H v d) : TyX K H v (d.ty G) := by
  cases h with
  | non => exact .base .non
  | bl b => exact .base (.bl b)
  | int i => exact .base (.int i)
  | str s => exact .base (.str s)
  | rat h => exact ty_rat R h
  | lst h _ => exact .base (.lst h)
  | tup h _ => exact .base (.tup h)
  | dic h _ => exact .base (.dK h)
  | scl h _ _ => exact ty_sc R RS h
theorem DtV.tyk (R : RC K G.R) {H : Hp} {v : V} {d : Dt} (h : DtV G H v d) (hk : d.kind = true) : TyX K H v (d.ty G) := by
  cases h with
  | non => exact .base .non
  | bl b => exact .base (.bl b)
  | int i => exact .base (.int i)
  | str s => exact .base (.str s)
  | rat h => exact ty_rat R h
  | lst h _ => exact .base (.lst h)
  | tup h _ => exact .base (.tup h)
  | dic h _ => exact .base (.dK h)
  | scl h _ _ => cases hk
theorem DtV.whole {X : Addr → Prop} {H : Hp} {v : V} {d : Dt} (h : DtV G (cut X H) v d) : DtV G H v d := h.mono cut_H
theorem Dt.ty_num (d : Dt) (hk : d.kind = true) : (d.ty G == .ref G.R || d.ty G == .type "int") = d.isNum := by
  cases d <;> first | cases hk; done | simp [Dt.ty, Dt.isNum]
abbrev O_eqR : O2 := fun d e K => ∃ p, d = .rat p ∧ e.kind = true ∧ Sz 3000 e.num ∧ K (.bl (e.isNum && decide (p = e.num)))
theorem RD.eqR (R : RC K G.R) : RD G (rCmpOwn K G.R (spEqV K G.R) E) O_eqR where
  run := fun {X H x y d e Q} hx h1 h2 ⟨p, e1, hk, s2, k⟩ => by
    subst e1
    cases hn : e.isNum with
    | true => exact g_eqN R h1.ratv.cut (h2.num hn).cut s2 (by decide) fun H' ex => k _ H' ex (by rw [hn]; exact .bl _)
    | false => exact g_eqO R h1.ratv.cut (h2.whole.tyk R hk) (e.kty hk) (by rw [e.ty_num hk, hn]) fun H' ex => k _ H' ex (by rw [hn]; exact .bl _)
  mono := fun m ⟨p, e1, hk, s2, k⟩ => ⟨p, e1, hk, s2, m _ k⟩
abbrev O_neR : O2 := fun d e K => ∃ p, d = .rat p ∧ e.isNum = true ∧ Sz 3000 e.num ∧ K (.bl (!decide (p = e.num)))
theorem RD.neR (R : RC K G.R) : RD G (rNeOwn K G.R (spEqV K G.R) E) O_neR where
  run := fun hx h1 h2 ⟨p, e1, hn, s2, k⟩ => by
    subst e1
    exact g_neN R h1.ratv.cut (h2.num hn).cut s2 (by decide) fun H' ex => k _ H' ex (.bl _)
  mono := fun m ⟨p, e1, hn, s2, k⟩ => ⟨p, e1, hn, s2, m _ k⟩
theorem RD.or {r1 r2 : R2} {g1 g2 : O2} (a : RD G r1 g1) (b : RD G r2 g2) : RD G (fun x y H Q => r1 x y H Q ∨ r2 x y H Q) (fun d e K => g1 d e K ∨ g2 d e K) where
  run := fun hx h1 h2 h => h.imp (a.run hx h1 h2) (b.run hx h1 h2)
  mono := fun m h => h.imp (a.mono m) (b.mono m)
abbrev O_negR : O1 := fun d K => ∃ p, d = .rat p ∧ Sz 3000 p ∧ K (.rat (-p))
theorem UD.negR : UD G (rOwnU G.R (spNum1 G.R (- ·)) E) O_negR where
  run := fun hx h1 ⟨p, e1, s1, k⟩ => by
    subst e1
    exact g_neg h1.ratv.cut s1 (by decide) fun u H' ex hu => k u H' ex (.rat (hu.out hx ex))
  mono := fun m ⟨p, e1, s1, k⟩ => ⟨p, e1, s1, m _ k⟩
abbrev F_fld (g : Rat → Int) (A : FE) : FE := fun ρ K X => A ρ (fun d ρ1 => ∃ p, d = .rat p ∧ K (.int (g p)) ρ1) X
theorem PU.top {t : TE} {A : FE} (R : RC K G.R) (a : PU G E t A) : PU G E (tFld K t "top") (F_fld Rat.num A) where
  run := fun S h => a.run S (a.mono (fun d ρ1 ⟨p, hd, k⟩ v H1 S1 e1 hv => by subst hd; exact g_top R.cl R.nT hv.ratv.cut (k _ _ S1 e1 (.int _))) (fun _ x => x) h)
  mono := fun m x h => a.mono (fun _ _ ⟨p, hd, k⟩ => ⟨p, hd, m _ _ k⟩) x h
theorem PU.bottom {t : TE} {A : FE} (R : RC K G.R) (a : PU G E t A) : PU G E (tFld K t "bottom") (F_fld (fun q => (q.den : Int)) A) where
  run := fun S h => a.run S (a.mono (fun d ρ1 ⟨p, hd, k⟩ v H1 S1 e1 hv => by subst hd; exact g_bottom R.cl R.nB hv.ratv.cut (k _ _ S1 e1 (.int _))) (fun _ x => x) h)
  mono := fun m x h => a.mono (fun _ _ ⟨p, hd, k⟩ => ⟨p, hd, m _ _ k⟩) x h
abbrev F_mkR (A : FA) : FE := fun ρ K X => A ρ (fun ds ρ1 => ∃ t b, ds = [.int t, .int b] ∧ b ≠ 0 ∧ t.natAbs < 2 ^ 8000 ∧ b.natAbs < 2 ^ 8000 ∧ K (.rat (Rat.divInt t b)) ρ1) X
theorem PU.mkR {t : TA} {A : FA} (a : PUA G E t A) : PU G E (tMake G.R (spInit G.R) [] E2 t) (F_mkR A) where
  run := fun S h => a.run S (a.mono (fun ds ρ1 ⟨t, b, hd, h0, h1, h2, k⟩ vs H1 S1 e1 hv => by
    subst hd
    cases hv with
    | cons x r => cases x; cases r with
      | cons x r => cases x; cases r; exact use_initW (k := 8000) h0 h1 h2 (Nat.le_refl _) fun p H2 ex hr => k _ _ (S1.grow ex) (e1.trans (cut_grow ex)) (.rat (hr.out (fun a ha => S1.lstAt ha) ex))) (fun _ x => x) h)
  mono := fun m x h => a.mono (fun _ _ ⟨t, b, hd, h0, h1, h2, k⟩ => ⟨t, b, hd, h0, h1, h2, m _ _ k⟩) x h
abbrev F_mkR1 (A : FA) : FE := fun ρ K X => A ρ (fun ds ρ1 => ∃ t : Int, ds = [.int t] ∧ t.natAbs < 2 ^ 8000 ∧ K (.rat (t : Rat)) ρ1) X
theorem PU.mkR1 {t : TA} {A : FA} (a : PUA G E t A) : PU G E (tMake G.R (spInit G.R) [.int 1] E2 t) (F_mkR1 A) where
  run := fun S h => a.run S (a.mono (fun ds ρ1 ⟨t, hd, h1, k⟩ vs H1 S1 e1 hv => by
    subst hd
    cases hv with
    | cons x r => cases x; cases r; exact use_initW (k := 8000) (by decide) h1 (Nat.lt_of_lt_of_le (by decide : 1 < 2 ^ 1) (Nat.pow_le_pow_right (by decide) (by decide))) (Nat.le_refl _) fun p H2 ex hr => k _ _ (S1.grow ex) (e1.trans (cut_grow ex)) (.rat (by rw [← int_divInt]; exact hr.out (fun a ha => S1.lstAt ha) ex))) (fun _ x => x) h)
  mono := fun m x h => a.mono (fun _ _ ⟨t, hd, h1, k⟩ => ⟨t, hd, h1, m _ _ k⟩) x h
abbrev F_over (A : FE) (B : FA) : FE := fun ρ K X => A ρ (fun d ρ1 => ∃ p, d = .rat p ∧ B ρ1 (fun ds ρ2 => ∃ e, ds = [e] ∧ e.isNum = true ∧ e.num ≠ 0 ∧ Sz 3000 p ∧ Sz 3000 e.num ∧ K (.rat (p / e.num)) ρ2) X) X
theorem PU.over {ta : TE} {t : TA} {A : FE} {B : FA} (a : PU G E ta A) (b : PUA G E t B) : PU G E (tMeth G.R "over" (spOver G.R) [] E2 ta t) (F_over A B) where
  run := fun S h => by
    refine a.run S (a.mono (fun d ρ1 ⟨p, hd, k⟩ v H1 S1 e1 hv => ?_) (fun _ x => x) h)
    subst hd
    refine g_methR hv.ratv.cut (by decide +kernel) (by decide +kernel) ?_
    refine b.run S1 (b.mono (fun ds ρ2 ⟨e, hd, hn, h0, z1, z2, k⟩ vs H2 S2 e2 hvs => ?_) (fun _ x => x) k)
    subst hd
    cases hvs with
    | cons hy r =>
      cases r
      exact ⟨_, _, p, e.num, 3000, rfl, (hv.mono e2).ratv.cut, (hy.num hn).cut, h0, z1, z2, Nat.le_refl _, fun u H3 ex hu => k u H3 (S2.grow ex) ((e1.trans e2).trans (cut_grow ex)) (.rat (hu.out (fun a ha => S2.lstAt ha) ex))⟩
  mono := fun m x h => a.mono (fun _ _ ⟨p, hd, k⟩ => ⟨p, hd, b.mono (fun _ _ ⟨e, he, h1, h2, h3, h4, k⟩ => ⟨e, he, h1, h2, h3, h4, m _ _ k⟩) x k⟩) x h
theorem RD.ixL : RD G (rIxL K) (fun d e K => ∃ l i x, d = .lst l ∧ e = .int i ∧ atI l i = some x ∧ K x) where
  run := fun hx h1 h2 ⟨l, i, x, e1, e2, hi, k⟩ => by
    subst e1; subst e2
    cases h1 with
    | lst hp r =>
      cases h2
      unfold atI at hi
      rw [← r.length] at hi
      cases hj : ixN _ i with
      | none => rw [hj] at hi; cases hi
      | some j =>
        rw [hj] at hi
        obtain ⟨v, hv, dv⟩ := r.atR hi
        exact ⟨_, _, i, v, rfl, rfl, SqL.of (cut_some.mp hp).2, by unfold atI; rw [hj]; exact hv, k v _ (Ex.refl _) dv⟩
  mono := fun m ⟨l, i, x, e1, e2, hi, k⟩ => ⟨l, i, x, e1, e2, hi, m _ k⟩
theorem RD.ixT : RD G (rIxT K) (fun d e K => ∃ l i x, d = .tup l ∧ e = .int i ∧ atI l i = some x ∧ K x) where
  run := fun hx h1 h2 ⟨l, i, x, e1, e2, hi, k⟩ => by
    subst e1; subst e2
    cases h1 with
    | tup hp r =>
      cases h2
      unfold atI at hi
      rw [← r.length] at hi
      cases hj : ixN _ i with
      | none => rw [hj] at hi; cases hi
      | some j =>
        rw [hj] at hi
        obtain ⟨v, hv, dv⟩ := r.atR hi
        exact ⟨_, _, i, v, rfl, rfl, SqT.of (cut_some.mp hp).2, by unfold atI; rw [hj]; exact hv, k v _ (Ex.refl _) dv⟩
  mono := fun m ⟨l, i, x, e1, e2, hi, k⟩ => ⟨l, i, x, e1, e2, hi, m _ k⟩
abbrev F_ixO (i : Nat) (A : FE) : FE := fun ρ K X => (∃ l0, ρ[i]? = some (.own l0)) ∧ A ρ (fun d ρ1 => ∃ l j x, ρ1[i]? = some (.own l) ∧ d = .int j ∧ atI l j = some x ∧ K x ρ1) X
theorem PU.ixO {i : Nat} {t : TE} {A : FE} (a : PU G E t A) : PU G E (tOp (rIxL K) (tVar i) t) (F_ixO i A) where
  run := fun S ⟨⟨l0, h0⟩, h⟩ => by
    obtain ⟨p, vs0, q1, _⟩ := S.own h0
    refine ⟨_, q1, a.run S (a.mono (fun d ρ1 ⟨l, j, x, h1, hd, hi, k⟩ v H1 S1 e1 hv => ?_) (fun _ x => x) h)⟩
    subst hd
    cases hv
    obtain ⟨p', vs, w1, _, w3, w4⟩ := S1.own h1
    rw [q1] at w1
    injection w1 with w1; injection w1 with w1; injection w1 with w1; subst w1
    unfold atI at hi
    rw [← w4.length] at hi
    cases hj : ixN vs.length j with
    | none => rw [hj] at hi; cases hi
    | some n =>
      rw [hj] at hi
      obtain ⟨v, hv, dv⟩ := w4.atR hi
      exact ⟨_, vs, j, v, rfl, rfl, SqL.of w3, by unfold atI; rw [hj]; exact hv, k v _ S1 e1 dv⟩
  mono := fun m x ⟨h0, h⟩ => ⟨h0, a.mono (fun _ _ ⟨l, j, y, h1, hd, hi, k⟩ => ⟨l, j, y, h1, hd, hi, m _ _ k⟩) x h⟩
theorem CD.len : CD G (rLenQ K) (fun ds K => ∃ l, (ds = [.lst l] ∨ ds = [.tup l]) ∧ K (.int (l.length : Int))) where
  run := fun hx h ⟨l, hd, k⟩ => by
    rcases hd with rfl | rfl
    · cases h with
      | cons h r => cases r; cases h with
        | lst hp r => exact ⟨_, _, rfl, .inl (SqL.of (cut_some.mp hp).2), by rw [r.length]; exact k _ _ (Ex.refl _) (.int _)⟩
    · cases h with
      | cons h r => cases r; cases h with
        | tup hp r => exact ⟨_, _, rfl, .inr (SqT.of (cut_some.mp hp).2), by rw [r.length]; exact k _ _ (Ex.refl _) (.int _)⟩
  mono := fun m ⟨l, hd, k⟩ => ⟨l, hd, m _ k⟩
abbrev F_lenO (i : Nat) : FE := fun ρ K _ => ∃ l, ρ[i]? = some (.own l) ∧ K (.int (l.length : Int)) ρ
theorem PU.lenO {i : Nat} : PU G E (tCB (rLenQ K) (tCons (tVar i) tNil)) (F_lenO i) where
  run := fun S ⟨l, h, k⟩ => by
    obtain ⟨p, vs, w1, _, w3, w4⟩ := S.own h
    exact ⟨_, w1, p, vs, rfl, .inl (SqL.of w3), by rw [w4.length]; exact k _ _ S (Ex.refl _) (.int _)⟩
  mono := fun m x ⟨l, h, k⟩ => ⟨l, h, m _ _ k⟩
abbrev F_app (i : Nat) (A : FE) : FS := fun ρ D => (∃ l0, ρ[i]? = some (.own l0)) ∧ A ρ (fun d ρ1 => ∃ l, ρ1[i]? = some (.own l) ∧ l.length ≤ 100000 ∧ D.nx (ρ1.set i (.own (l ++ [d])))) D.ex
theorem PUS.app {i : Nat} {t : TE} {A : FE} (a : PU G E t A) : PUS G E (tDrop (tBM K "list" rAppend (tVar i) (tCons t tNil))) (F_app i A) where
  run := fun S ⟨⟨l0, h0⟩, h⟩ => by
    obtain ⟨p, vs0, q1, _, q3, _⟩ := S.own h0
    refine ⟨_, q1, tyL q3, a.run S (a.mono (fun d ρ1 ⟨l, h1, hl, k⟩ v H1 S1 e1 hv => ?_) (fun _ x => x) h)⟩
    obtain ⟨p', vs, w1, _, w3, w4⟩ := S1.own h1
    rw [q1] at w1
    injection w1 with w1; injection w1 with w1; injection w1 with w1; subst w1
    obtain ⟨S2, e2⟩ := S1.mut h1 q1 (w4.app (.cons hv .nil))
    refine ⟨p, vs, v, rfl, rfl, w3, Nat.lt_of_le_of_lt (m := 100000) (by rw [w4.length]; exact hl) (by decide), ?_⟩
    exact k _ _ S2 (e1.trans e2)
  mono := fun m ⟨h0, h⟩ => ⟨h0, a.mono (fun _ _ ⟨l, h1, hl, k⟩ => ⟨l, h1, hl, m.nx _ k⟩) m.ex h⟩
abbrev F_clr (i : Nat) : FS := fun ρ D => ∃ l, ρ[i]? = some (.own l) ∧ D.nx (ρ.set i (.own []))
theorem PUS.clr {i : Nat} : PUS G E (tDrop (tBM0 K "list" rClear (tVar i))) (F_clr i) where
  run := fun S ⟨l, h, k⟩ => by
    obtain ⟨p, vs, q1, _, q3, _⟩ := S.own h
    obtain ⟨S2, e2⟩ := S.mut (vs := []) h q1 .nil
    exact ⟨_, q1, tyL q3, p, vs, rfl, rfl, q3, k _ _ S2 e2⟩
  mono := fun m ⟨l, h, k⟩ => ⟨l, h, m.nx _ k⟩
theorem RL.cat : RL G rCat (fun d e K => ∃ l n, d = .lst l ∧ e = .lst n ∧ l.length + n.length ≤ 1000 ∧ K (l ++ n)) where
  run := fun hx h1 h2 ⟨l, n, e1, e2, hl, k⟩ => by
    subst e1; subst e2
    cases h1 with
    | lst hp r => cases h2 with
      | lst hp2 r2 =>
        refine ⟨_, _, _, _, rfl, rfl, (cut_some.mp hp).2, (cut_some.mp hp2).2, Nat.le_trans (m := 1000) (by rw [r.length, r2.length]; exact hl) (by decide), fun p hn => ?_⟩
        exact k p _ _ hn (Ex.new hn) upd_same (r.app r2)
  mono := fun m ⟨l, n, e1, e2, hl, k⟩ => ⟨l, n, e1, e2, hl, m _ k⟩
theorem DtVs.rep {H : Hp} {vs : List V} {ds : List Dt} (r : DtVs G H vs ds) : ∀ n : Nat, DtVs G H (List.replicate n vs).flatten (List.replicate n ds).flatten
  | 0 => .nil
  | n + 1 => by rw [List.replicate_succ, List.replicate_succ, List.flatten_cons, List.flatten_cons]; exact r.app (r.rep n)
theorem RL.rep : RL G rRep (fun d e K => ∃ l k, d = .lst l ∧ e = .int ((k : Nat) : Int) ∧ k ≤ 1000 ∧ l.length * k ≤ 1000 ∧ K (List.replicate k l).flatten) where
  run := fun hx h1 h2 ⟨l, n, e1, e2, hn, hl, k⟩ => by
    subst e1; subst e2
    cases h1 with
    | lst hp r => cases h2 with
      | int =>
        refine ⟨_, _, _, rfl, rfl, (cut_some.mp hp).2, by omega, by omega, Nat.le_trans (m := 1000) (by rw [r.length, Int.toNat_natCast]; exact hl) (by decide), fun p hp2 => ?_⟩
        refine k p _ _ hp2 (Ex.new hp2) upd_same ?_
        rw [Int.toNat_natCast]
        exact r.rep n
  mono := fun m ⟨l, n, e1, e2, hn, hl, k⟩ => ⟨l, n, e1, e2, hn, hl, m _ k⟩
theorem CL.list : CL G (fun xs H Q => ∃ p ys, xs = [V.ref p] ∧ (SqL K H p ys ∨ SqT K H p ys) ∧ ∀ l, H l = none → Q (.ref l) (upd H l (.lst ys))) (fun ds K => ∃ l, (ds = [.lst l] ∨ ds = [.tup l]) ∧ K l) where
  run := fun hx h ⟨l, hd, k⟩ => by
    rcases hd with rfl | rfl
    · cases h with
      | cons h r => cases r; cases h with
        | lst hp r => exact ⟨_, _, rfl, .inl (SqL.of (cut_some.mp hp).2), fun p hn => k p _ _ hn (Ex.new hn) upd_same r⟩
    · cases h with
      | cons h r => cases r; cases h with
        | tup hp r => exact ⟨_, _, rfl, .inr (SqT.of (cut_some.mp hp).2), fun p hn => k p _ _ hn (Ex.new hn) upd_same r⟩
  mono := fun m ⟨l, hd, k⟩ => ⟨l, hd, m _ k⟩
def cutG {α : Type} (xs : List α) (lo hi : Option Int) : List α := (xs.drop (HT.sIx xs.length 0 lo)).take (HT.sIx xs.length xs.length hi - HT.sIx xs.length 0 lo)
theorem DtVs.cut {H : Hp} {vs : List V} {ds : List Dt} (h : DtVs G H vs ds) (lo hi : Option Int) : DtVs G H (cutV vs lo hi) (cutG ds lo hi) := by
  unfold cutV cutG
  rw [h.length]
  exact (h.drop _).take _
abbrev FO := Fm.Env → (Option Int → Fm.Env → Prop) → (Er → Prop) → Prop
structure PUO (G : Gs) (E : XK) (t : L2.St → Hp → (Option Int → Hp → Prop) → Prop) (F : FO) : Prop where
  run : ∀ {f : Fr} {σ : L2.St} {H : Hp} {ρ : Fm.Env} {W : Option Int → Hp → Prop}, St G f σ H ρ → F ρ (fun b ρ' => ∀ H', St G f σ H' ρ' → Ex (Fm.cut (Xs f σ ρ) H) (Fm.cut (Xs f σ ρ') H') → W b H') (kX G f E) → t σ H W
  mono : ∀ {ρ : Fm.Env} {K K' : Option Int → Fm.Env → Prop} {X X' : Er → Prop}, (∀ d ρ', K d ρ' → K' d ρ') → (∀ e, X e → X' e) → F ρ K X → F ρ K' X'
abbrev F_onone : FO := fun ρ K _ => K none ρ
theorem PUO.none : PUO G E tNoPart F_onone := ⟨fun S h => h _ S (Ex.refl _), fun m _ h => m _ _ h⟩
abbrev F_osome (A : FE) : FO := fun ρ K X => A ρ (fun d ρ' => ∃ i, d = .int i ∧ K (some i) ρ') X
theorem PUO.some {t : TE} {A : FE} (a : PU G E t A) : PUO G E (tPart t) (F_osome A) where
  run := fun S h => a.run S (a.mono (fun d ρ' ⟨i, hd, k⟩ v H' S' e hv => by subst hd; cases hv; exact ⟨i, rfl, k H' S' e⟩) (fun _ x => x) h)
  mono := fun m x h => a.mono (fun _ _ ⟨i, hd, k⟩ => ⟨i, hd, m _ _ k⟩) x h
abbrev F_slice (A : FE) (L U : FO) : FA := fun ρ K X => A ρ (fun d ρ1 => L ρ1 (fun lo ρ2 => U ρ2 (fun hi ρ3 => ∃ l, d = .lst l ∧ K (cutG l lo hi) ρ3) X) X) X
theorem PUF.slice {te : TE} {tl th : L2.St → Hp → (Option Int → Hp → Prop) → Prop} {A : FE} {L U : FO} (a : PU G E te A) (b : PUO G E tl L) (c : PUO G E th U) : PUF G E (tSl (rSlL K) te tl th) (F_slice A L U) where
  run := fun S h => a.run S (a.mono (fun d ρ1 k v H1 S1 e1 hv => b.run S1 (b.mono (fun lo ρ2 k H2 S2 e2 => c.run S2 (c.mono (fun hi ρ3 ⟨l, hd, kk⟩ H3 S3 e3 => by
    have hv3 := (hv.mono e2).mono e3
    rw [hd] at hv3
    cases hv3 with
    | lst hp r =>
      refine ⟨_, _, rfl, SqL.of (cut_some.mp hp).2, fun p hn => ?_⟩
      obtain ⟨q1, q2, q3, q4, q5⟩ := S3.new (H' := upd H3 p (.lst (cutV _ lo hi))) hn (Ex.new hn) upd_same (r.cut lo hi)
      exact kk p _ _ q1 (((e1.trans e2).trans e3).trans q2) q3 q4 upd_same q5) (fun _ x => x) k)) (fun _ x => x) k)) (fun _ x => x) h)
  mono := fun m x h => a.mono (fun _ _ k => b.mono (fun _ _ k => c.mono (fun _ _ ⟨l, hd, k⟩ => ⟨l, hd, m _ _ k⟩) x k) x k) x h
theorem CD.all : CD G (rAll K) (fun ds K => ∃ bs : List Bool, ds = [.lst (bs.map .bl)] ∧ K (.bl (bs.all id))) where
  run := fun hx h ⟨l, hd, k⟩ => by
    subst hd
    cases h with
    | cons h r => cases r; cases h with
      | lst hp r => exact ⟨_, l, rfl, by rw [← r.bls]; exact SqL.of (cut_some.mp hp).2, k _ _ (Ex.refl _) (.bl _)⟩
  mono := fun m ⟨l, hd, k⟩ => ⟨l, hd, m _ k⟩
theorem CD.sum : CD G (rSum K) (fun ds K => ∃ is : List Int, ds = [.lst (is.map .int)] ∧ K (.int is.sum)) where
  run := fun hx h ⟨l, hd, k⟩ => by
    subst hd
    cases h with
    | cons h r => cases r; cases h with
      | lst hp r => exact ⟨_, l, rfl, by rw [← r.ints]; exact SqL.of (cut_some.mp hp).2, k _ _ (Ex.refl _) (.int _)⟩
  mono := fun m ⟨l, hd, k⟩ => ⟨l, hd, m _ k⟩
theorem CD.abs : CD G rAbsI (fun ds K => ∃ i, ds = [.int i] ∧ K (.int (i.natAbs : Int))) where
  run := fun hx h ⟨l, hd, k⟩ => by
    subst hd
    cases h with
    | cons h r => cases r; cases h; exact g_absI (k _ _ (Ex.refl _) (.int _))
  mono := fun m ⟨l, hd, k⟩ => ⟨l, hd, m _ k⟩
theorem CD.int : CD G rIntI (fun ds K => (∃ i, ds = [.int i] ∧ K (.int i)) ∨ ∃ b : Bool, ds = [.bl b] ∧ K (.int (if b then 1 else 0))) where
  run := fun hx h k => by
    rcases k with ⟨i, hd, k⟩ | ⟨i, hd, k⟩
    · subst hd
      cases h with
      | cons h r => cases r; cases h; exact .inl ⟨i, rfl, k _ _ (Ex.refl _) (.int _)⟩
    · subst hd
      cases h with
      | cons h r => cases r; cases h; exact .inr ⟨i, rfl, k _ _ (Ex.refl _) (.int _)⟩
  mono := fun m h => h.imp (fun ⟨i, hd, k⟩ => ⟨i, hd, m _ k⟩) fun ⟨i, hd, k⟩ => ⟨i, hd, m _ k⟩
theorem CD.max : CD G rMaxI (fun ds K => ∃ i j, ds = [.int i, .int j] ∧ K (.int (if j > i then j else i))) where
  run := fun hx h ⟨i, j, hd, k⟩ => by
    subst hd
    cases h with
    | cons h r => cases h; cases r with
      | cons h r => cases h; cases r; exact ⟨i, j, rfl, k _ _ (Ex.refl _) (.int _)⟩
  mono := fun m ⟨i, j, hd, k⟩ => ⟨i, j, hd, m _ k⟩
theorem CD.min : CD G rMinI (fun ds K => ∃ i j, ds = [.int i, .int j] ∧ K (.int (if j < i then j else i))) where
  run := fun hx h ⟨i, j, hd, k⟩ => by
    subst hd
    cases h with
    | cons h r => cases h; cases r with
      | cons h r => cases h; cases r; exact ⟨i, j, rfl, k _ _ (Ex.refl _) (.int _)⟩
  mono := fun m ⟨i, j, hd, k⟩ => ⟨i, j, hd, m _ k⟩
abbrev F_isi (g : Dt → Option Bool) (A : FE) : FE := fun ρ K X => A ρ (fun d ρ1 => ∃ b, g d = some b ∧ K (.bl b) ρ1) X
theorem PU.isi {t : TE} {A : FE} {c : V} {u : Value} {g : Dt → Option Bool} (hc : ClsV c u) (hg : ∀ H v d b, DtV G H v d → g d = some b → ∃ ty, TyX K H v ty ∧ PySem.W.kitOne K ty u = some b) (a : PU G E t A) : PU G E (tCB (rIsi K) (tCons t (tCons (tC c) tNil))) (F_isi g A) where
  run := fun S h => a.run S (a.mono (fun d ρ1 ⟨b, hb, k⟩ v H1 S1 e1 hv => by
    obtain ⟨ty, h1, h2⟩ := hg _ _ _ _ hv.whole hb
    exact g_isi h1 hc h2 (k _ _ S1 e1 (.bl _))) (fun _ x => x) h)
  mono := fun m x h => a.mono (fun _ _ ⟨b, hb, k⟩ => ⟨b, hb, m _ _ k⟩) x h
theorem PU.isiT {t : TE} {A : FE} {c1 c2 : V} {u1 u2 : Value} {g : Dt → Option Bool} (hc1 : ClsV c1 u1) (hc2 : ClsV c2 u2) (hg : ∀ H v d b, DtV G H v d → g d = some b → ∃ ty, TyX K H v ty ∧ PySem.W.kitAny K ty [u1, u2] = some b) (a : PU G E t A) :
    PU G E (tCB (rIsiT K) (tCons t (tCons (tTup (tCons (tC c1) (tCons (tC c2) tNil))) tNil))) (F_isi g A) where
  run := fun S h => a.run S (a.mono (fun d ρ1 ⟨b, hb, k⟩ v H1 S1 e1 hv => by
    refine ⟨len_lit rfl, fun p hp => ?_⟩
    have ex : Ex H1 (upd H1 p (.tup [c1, c2])) := Ex.new hp
    obtain ⟨ty, h1, h2⟩ := hg _ _ _ _ (hv.whole.mono ex) hb
    exact g_isiT upd_same (.cons hc1 (.cons hc2 .nil)) h1 h2 (k _ _ (S1.grow ex) (e1.trans (cut_grow ex)) (.bl _))) (fun _ x => x) h)
  mono := fun m x h => a.mono (fun _ _ ⟨b, hb, k⟩ => ⟨b, hb, m _ _ k⟩) x h
theorem RD.isN : RD G (fun x y H Q => y = .non ∧ Q (.bl (decide (x = .non))) H) (fun d e K => e = .non ∧ K (.bl (match d with | .non => true | _ => false))) where
  run := fun hx h1 h2 ⟨e2, k⟩ => by
    subst e2
    cases h2
    refine ⟨rfl, ?_⟩
    cases h1 with
    | non => exact k _ _ (Ex.refl _) (.bl _)
    | rat h => obtain ⟨p, rfl, _⟩ := h; exact k _ _ (Ex.refl _) (.bl _)
    | _ => exact k _ _ (Ex.refl _) (.bl _)
  mono := fun m ⟨e2, k⟩ => ⟨e2, m _ k⟩
def Dt.nums : List Dt → Bool := fun l => l.all Dt.isNum
theorem DtVs.numsV {H : Hp} : ∀ {vs : List V} {l : List Dt}, DtVs G H vs l → l.all Dt.isNum = true → NumsV G.R H vs (l.map Dt.num)
  | _, _, .nil, _ => .nil
  | _, _, .cons h r, n => by
    rw [List.all_cons, Bool.and_eq_true] at n
    exact .cons (h.num n.1) (r.numsV n.2)
abbrev O_lsR (ne : Bool) : O2 := fun d e K => ∃ qs l, d = .lst (qs.map .rat) ∧ e = .lst l ∧ l.all Dt.isNum = true ∧ (∀ x ∈ l, Sz 3000 x.num) ∧ K (.bl (if ne = true then !decide (qs = l.map Dt.num) else decide (qs = l.map Dt.num)))
theorem RD.lsR {ne : Bool} : RD G (rLsR G.R ne) (O_lsR ne) where
  run := fun hx h1 h2 ⟨qs, l, e1, e2, hn, sz, k⟩ => by
    subst e1; subst e2
    cases h1 with
    | lst hp r => cases h2 with
      | lst hp2 r2 => exact ⟨_, _, _, _, qs, l.map Dt.num, rfl, rfl, (cut_some.mp hp).2, (cut_some.mp hp2).2, (r.rats.mono cut_H), ((r2.numsV hn).mono cut_H), fun c hc => by
          obtain ⟨x, hx, rfl⟩ := List.mem_map.mp hc
          exact sz x hx, fun H' ex => k _ H' ex (.bl _)⟩
  mono := fun m ⟨qs, l, e1, e2, hn, sz, k⟩ => ⟨qs, l, e1, e2, hn, sz, m _ k⟩
end
end Fm

set_option maxHeartbeats 2000000
namespace Fm
open PySem PySem.Spec PyProof.Rows L2
section
variable {G : Gs} {E E2 : XK} {K : PySem.W.Frag}
theorem PUG.pair {i j : Nat} : PUG G (gTup K 2 (gCons (gName i) (gCons (gName j) gNil))) (fun d ρ N => ∃ a b, d = .tup [a, b] ∧ N ((ρ.set i (.val a)).set j (.val b))) where
  run := fun {f σ H ρ N v d} S hv ⟨a, b, hd, h⟩ => by
    subst hd
    cases hv with
    | tup hp r => cases r with
      | cons h1 r => cases r with
        | cons h2 r =>
          cases r
          rename_i p v1 v2
          have S1 : St G f (σ.set i (some v1)) H (ρ.set i (.val a)) := S.put rfl (.val h1)
          have e1 : Ex (cut (Xs f σ ρ) H) (cut (Xs f (σ.set i (some v1)) (ρ.set i (.val a))) H) := put_ex rfl
          have S2 := S1.put (i := j) rfl (.val (h2.mono e1))
          exact ⟨_, _, rfl, SqT.of (cut_some.mp hp).2, rfl, _, _, rfl, _, _, rfl, rfl, h _ _ S2 (e1.trans (put_ex rfl))⟩
  mono := fun m ⟨a, b, hd, h⟩ => ⟨a, b, hd, m _ h⟩
theorem PUT.yes : PUT G E tYes (fun ρ K _ => K true ρ) := ⟨fun S h => h _ S (Ex.refl _), fun m _ h => m _ _ h⟩
abbrev F_yes : FT := fun ρ K _ => K true ρ
theorem set_set_ne {α : Type} {l : List α} {i j : Nat} {a b : α} (h : i ≠ j) : (l.set i a).set j b = (l.set j b).set i a := by
  apply List.ext_getElem?
  intro k
  by_cases e : j = k
  · subst e
    by_cases hl : j < l.length
    · rw [List.getElem?_set_self (by rw [List.length_set]; exact hl), List.getElem?_set_ne h, List.getElem?_set_self hl]
    · rw [List.getElem?_eq_none (by rw [List.length_set, List.length_set]; omega), List.getElem?_eq_none (by rw [List.length_set, List.length_set]; omega)]
  · rw [List.getElem?_set_ne e]
    by_cases e2 : i = k
    · subst e2
      by_cases hl : i < l.length
      · rw [List.getElem?_set_self hl, List.getElem?_set_self (by rw [List.length_set]; exact hl)]
      · rw [List.getElem?_eq_none (by rw [List.length_set]; omega), List.getElem?_eq_none (by rw [List.length_set, List.length_set]; omega)]
    · rw [List.getElem?_set_ne e2, List.getElem?_set_ne e2, List.getElem?_set_ne e]
theorem wipe2 {σ : L2.St} {i j : Nat} {v w : V} (h : i ≠ j) : wipe (((wipe σ [i, j]).set i (some v)).set j (some w)) [i, j] = wipe σ [i, j] := by
  show (((((σ.set j none).set i none).set i (some v)).set j (some w)).set j none).set i none = (σ.set j none).set i none
  rw [List.set_set, List.set_set, set_set_ne (i := i) (j := j) h, List.set_set, List.set_set]
theorem wipe2s {σ : L2.St} {i j : Nat} {v w : V} (h : i ≠ j) : ((wipe σ [i, j]).set i (some v)).set j (some w) = (σ.set i (some v)).set j (some w) := by
  show (((σ.set j none).set i none).set i (some v)).set j (some w) = (σ.set i (some v)).set j (some w)
  rw [List.set_set, set_set_ne (i := i) (j := j) h, List.set_set, set_set_ne (i := j) (j := i) (Ne.symm h)]
def lcP2 (i j : Nat) (T : FT) (B : FE) : List Dt → List Dt → Fm.Env → (List Dt → Fm.Env → Prop) → Prop
  | [], acc, ρ, K => K acc ρ
  | d :: ds, acc, ρ, K => acc.length < 100000 ∧ (slotAt ρ i).lists = false ∧ (slotAt ρ j).lists = false ∧ ∃ x y, d = .tup [x, y] ∧ T ((ρ.set i (.val x)).set j (.val y)) (fun b ρ2 => if b = true then B ρ2 (fun z ρ3 => lcP2 i j T B ds (acc ++ [z]) ((ρ3.set j (slotAt ρ j)).set i (slotAt ρ i)) K) (fun _ => False) else lcP2 i j T B ds acc ((ρ2.set j (slotAt ρ j)).set i (slotAt ρ i)) K) (fun _ => False)
theorem lcP2_mono {i j : Nat} {tt : TT} {te : TE} {T : FT} {B : FE} {E1 E2 : XK} (w : PUT G E1 tt T) (b : PU G E2 te B) : ∀ (ds acc : List Dt) {ρ : Fm.Env} {K K' : List Dt → Fm.Env → Prop}, (∀ l ρ, K l ρ → K' l ρ) → lcP2 i j T B ds acc ρ K → lcP2 i j T B ds acc ρ K'
  | [], _, _, _, _, m, h => m _ _ h
  | d :: ds, acc, _, _, _, m, ⟨h1, h2, h3, x, y, hd, h⟩ => ⟨h1, h2, h3, x, y, hd, w.mono (fun c ρ2 k => by
      cases c with
      | true => rw [if_pos rfl] at k ⊢; exact b.mono (fun y ρ3 k => lcP2_mono w b ds _ m k) (fun _ x => x) k
      | false => rw [if_neg Bool.false_ne_true] at k ⊢; exact lcP2_mono w b ds _ m k) (fun _ x => x) h⟩
abbrev F_lc2 (i j : Nat) (I : FI) (T : FT) (B : FE) : FA := fun ρ K X => I ρ (fun items ρ' => lcP2 i j T B items [] ρ' K) X
theorem slotAt_set {ρ : Fm.Env} {i j : Nat} {s : Slot} (h : i ≠ j) : slotAt (ρ.set i s) j = slotAt ρ j := by
  unfold slotAt
  rw [List.getElem?_set_ne h]
theorem PUF.lc2 {w : TI} {tt : TT} {te : TE} {I : FI} {T : FT} {B : FE} {i j : Nat} {E1 E2 : XK} (hij : i ≠ j) (ip : PUI G E w I) (wt : PUT G E1 tt T) (b : PU G E2 te B) : PUF G E (tLc w (gTup K 2 (gCons (gName i) (gCons (gName j) gNil))) tt te [i, j]) (F_lc2 i j I T B) where
  run := fun {f σ H ρ Q} S h => ip.run S (ip.mono (fun items ρ' k J H' S' e wk D hD => by
    have exD : Ex H' (upd H' D (.lst [])) := Ex.new hD
    obtain ⟨q1, q2, q3, q4, q5⟩ := S'.new (H' := upd H' D (.lst [])) hD exD upd_same .nil
    refine ⟨fun c m H1 => m = items.length - c ∧ c ≤ items.length ∧ ∃ ρ1 acc vs, St G (f.out D) σ H1 ρ1 ∧ Ex (cut (Xs f σ ρ') H') (cut (Xs (f.out D) σ ρ1) H1) ∧ H1 D = some (.lst vs) ∧ DtVs G (cut (Xs (f.out D) σ ρ1) H1) vs acc ∧ lcP2 i j T B (items.drop c) acc ρ1 (kF G f σ H ρ Q), ⟨_, rfl, Nat.zero_le _, ρ', [], [], q1, q2, upd_same, .nil, k⟩, ?_⟩
    rintro c m H1 ⟨rfl, hj, ρ1, acc, vs, S1, e1, hd1, hr1, k1⟩
    by_cases hl : c = items.length
    · subst hl
      rw [List.drop_length] at k1
      exact .inl ⟨wk.stop _ _ e1, k1 D vs H1 S1 (e.trans e1) q3 q4 hd1 hr1⟩
    · have hlt : c < items.length := by omega
      refine .inr ⟨wk.go c _ _ e1 hlt, fun H2 => ∃ ρ2 acc vs, St G (f.out D) σ H2 ρ2 ∧ Ex (cut (Xs f σ ρ') H') (cut (Xs (f.out D) σ ρ2) H2) ∧ H2 D = some (.lst vs) ∧ DtVs G (cut (Xs (f.out D) σ ρ2) H2) vs acc ∧ lcP2 i j T B (items.drop (c + 1)) acc ρ2 (kF G f σ H ρ Q), fun H2 q => ⟨items.length - (c + 1), by omega, rfl, by omega, q⟩, fun x H2 y => ?_⟩
      obtain ⟨ex, hv⟩ := wk.yld c _ _ x H2 items[c] e1 (fun a ha => S1.dom ha) y (List.getElem?_eq_getElem hlt)
      rw [tkT (List.getElem?_eq_getElem hlt)] at k1
      obtain ⟨kl, ks, ks2, x1, x2, hd, kt⟩ := k1
      rw [hd] at hv
      have S2 := S1.grow ex
      have hD2 : H2 D = some (.lst vs) := ex _ _ hd1
      cases hv with
      | tup hp r => cases r with
        | cons hx1 r => cases r with
          | cons hx2 r =>
            cases r
            rename_i p v1 v2
            refine ⟨p, [v1, v2], rfl, SqT.of (cut_some.mp hp).2, rfl, _, _, rfl, _, _, rfl, rfl, ?_⟩
            refine ⟨wipe2 hij, ?_⟩
            rw [wipe2s hij]
            have Si : St G (f.out D) (σ.set i (some v1)) H2 (ρ1.set i (.val x1)) := S2.put rfl (.val hx1)
            have ei : Ex (cut (Xs (f.out D) σ ρ1) H2) (cut (Xs (f.out D) (σ.set i (some v1)) (ρ1.set i (.val x1))) H2) := put_ex rfl
            have S3 : St G (f.out D) ((σ.set i (some v1)).set j (some v2)) H2 ((ρ1.set i (.val x1)).set j (.val x2)) := Si.put rfl (.val (hx2.mono ei))
            have ej : Ex (cut (Xs (f.out D) (σ.set i (some v1)) (ρ1.set i (.val x1))) H2) (cut (Xs (f.out D) ((σ.set i (some v1)).set j (some v2)) ((ρ1.set i (.val x1)).set j (.val x2))) H2) := put_ex rfl
            have e3 := ((cut_grow ex).trans ei).trans ej
            have hnP : ¬ f.P D := fun w => S'.pd D w hD
            have hnO : ¬ Own ((σ.set i (some v1)).set j (some v2)) ((ρ1.set i (.val x1)).set j (.val x2)) D := (S3.x0 D (.inr rfl)).2
            have hnB : ¬ ((f.out D).base ((σ.set i (some v1)).set j (some v2)) H2 ((ρ1.set i (.val x1)).set j (.val x2))).P D := fun w => w.elim hnP hnO
            have sj : slotAt (ρ1.set i (.val x1)) j = slotAt ρ1 j := slotAt_set hij
            have ksj : (slotAt (ρ1.set i (.val x1)) j).lists = false := by rw [sj]; exact ks2
            refine wt.run S3.base (wt.mono (fun b1 ρ4 k4 H4 S4 e4 => ?_) (fun e he => he.elim) kt)
            cases b1 with
            | false =>
              dsimp only
              rw [if_neg Bool.false_ne_true] at k4 ⊢
              obtain ⟨S5, e5⟩ := Si.home ksj (S3.unbase S4) (ej.trans e4)
              obtain ⟨S6, e6⟩ := S1.home ks S5 ((((cut_grow ex).trans ei).trans (ej.trans e4)).trans e5)
              rw [sj] at S6 e6 e5
              have e16 := ((e3.trans e4).trans e5).trans e6
              exact ⟨_, acc, vs, S6, e1.trans e16, S4.fr D _ hnB hD2, hr1.mono e16, k4⟩
            | true =>
              dsimp only
              rw [if_pos rfl] at k4 ⊢
              refine b.run S4 (b.mono (fun y ρ5 k5 v5 H5 S5 e5 hv5 => ?_) (fun e he => he.elim) k4)
              obtain ⟨S7, e7⟩ := Si.home ksj (S3.unbase S5) (ej.trans (e4.trans e5))
              obtain ⟨S6, e6⟩ := S1.home ks S7 ((((cut_grow ex).trans ei).trans (ej.trans (e4.trans e5))).trans e7)
              rw [sj] at S6 e6 e7
              have e16 := (((e3.trans e4).trans e5).trans e7).trans e6
              have nx : f.H0 D = none := (S'.fresh hD).1
              have xc : cut (Xs (f.out D) σ ((ρ5.set j (slotAt ρ1 j)).set i (slotAt ρ1 i))) (upd H5 D (.lst (vs ++ [v5]))) = cut (Xs (f.out D) σ ((ρ5.set j (slotAt ρ1 j)).set i (slotAt ρ1 i))) H5 := cut_upd (.inl (.inr rfl))
              refine ⟨vs, S5.fr D _ hnB hD2, Nat.lt_of_le_of_lt (m := 100000) (by rw [hr1.length]; omega) (by decide), _, _, _, S6.updOut (.inr rfl) nx, ?_, upd_same, ?_, k5⟩
              · rw [xc]; exact e1.trans e16
              · rw [xc]; exact (hr1.mono e16).app (.cons (hv5.mono (e7.trans e6)) .nil)) (fun _ x => x) h)
  mono := fun m x h => ip.mono (fun _ _ k => lcP2_mono wt b _ _ m k) x h
theorem lcP_map {i : Nat} {B : FE} {g : Dt → Dt} : ∀ (ds acc : List Dt) {ρ : Fm.Env} {K : List Dt → Fm.Env → Prop}, (slotAt ρ i).lists = false → acc.length + ds.length ≤ 100000 → ρ.set i (slotAt ρ i) = ρ →
    (∀ d ∈ ds, ∀ K' : Dt → Fm.Env → Prop, K' (g d) (ρ.set i (.val d)) → B (ρ.set i (.val d)) K' (fun _ => False)) → K (acc ++ ds.map g) ρ → lcP i F_yes B ds acc ρ K
  | [], acc, ρ, K, _, _, _, _, h => by rw [List.map_nil, List.append_nil] at h; exact h
  | d :: ds, acc, ρ, K, hs, hl, hr, hb, h => by
    rw [List.length_cons] at hl
    refine ⟨by omega, hs, ?_⟩
    show (if true = true then _ else _)
    rw [if_pos rfl]
    refine hb d (List.mem_cons_self ..) _ ?_
    rw [List.set_set, hr]
    refine lcP_map ds (acc ++ [g d]) hs (by rw [List.length_append]; simp; omega) hr (fun e he => hb e (List.mem_cons_of_mem _ he)) ?_
    rw [List.append_assoc]
    exact h
theorem slot_back {ρ : Fm.Env} {i : Nat} : ρ.set i (slotAt ρ i) = ρ := by
  unfold slotAt
  by_cases h : i < ρ.length
  · rw [List.getElem?_eq_getElem h]
    simp
  · exact set_none h
theorem lcP2_map {i j : Nat} {B : FE} {g : Dt → Dt → Dt} (hij : i ≠ j) : ∀ (ds : List (Dt × Dt)) (acc : List Dt) {ρ : Fm.Env} {K : List Dt → Fm.Env → Prop}, (slotAt ρ i).lists = false → (slotAt ρ j).lists = false → acc.length + ds.length ≤ 100000 →
    (∀ d ∈ ds, ∀ K' : Dt → Fm.Env → Prop, K' (g d.1 d.2) ((ρ.set i (.val d.1)).set j (.val d.2)) → B ((ρ.set i (.val d.1)).set j (.val d.2)) K' (fun _ => False)) → K (acc ++ ds.map fun e => g e.1 e.2) ρ → lcP2 i j F_yes B (ds.map fun e => Dt.tup [e.1, e.2]) acc ρ K
  | [], acc, ρ, K, _, _, _, _, h => by rw [List.map_nil, List.append_nil] at h; exact h
  | d :: ds, acc, ρ, K, hs, hs2, hl, hb, h => by
    rw [List.length_cons] at hl
    refine ⟨by omega, hs, hs2, _, _, rfl, ?_⟩
    show (if true = true then _ else _)
    rw [if_pos rfl]
    refine hb d (List.mem_cons_self ..) _ ?_
    have e : (((ρ.set i (Slot.val d.1)).set j (Slot.val d.2)).set j (slotAt ρ j)).set i (slotAt ρ i) = ρ := by
      rw [List.set_set, set_set_ne (i := i) (j := j) hij, List.set_set, set_set_ne (i := j) (j := i) (Ne.symm hij), slot_back, slot_back]
    rw [e]
    refine lcP2_map hij ds (acc ++ [g d.1 d.2]) hs hs2 (by rw [List.length_append]; simp; omega) (fun e he => hb e (List.mem_cons_of_mem _ he)) ?_
    rw [List.append_assoc]
    exact h
end
end Fm

set_option maxHeartbeats 2000000
namespace Fm
open PySem PySem.Spec PyProof.Rows L2
section
variable {G : Gs} {E E2 : XK} {K : PySem.W.Frag}
theorem St.move {f : Fr} {σ : L2.St} {H : Hp} {ρ : Fm.Env} {i : Nat} {p : Addr} {l : List Dt} (S : St G f σ H ρ) (h : ρ[i]? = some (.own l)) (hp : σ[i]? = some (some (.ref p))) : St G (f.out p) σ H (ρ.set i .un) := by
  have hi : i < ρ.length := by
    by_cases hl : i < ρ.length
    · exact hl
    · rw [List.getElem?_eq_none (by omega)] at h; cases h
  have oi : Own σ ρ p := ⟨i, _, h, rfl, hp⟩
  have oo : ∀ a, Own σ (ρ.set i .un) a → Own σ ρ a ∧ a ≠ p := by
    rintro a ⟨j, t, h1, h2, h3⟩
    by_cases e : i = j
    · subst e
      rw [List.getElem?_set_self hi] at h1
      cases h1; cases h2
    · rw [List.getElem?_set_ne e] at h1
      refine ⟨⟨j, t, h1, h2, h3⟩, ?_⟩
      rintro rfl
      exact e (S.uq i j _ t _ h rfl hp h1 h2 h3)
  have xx : ∀ a, Xs (f.out p) σ (ρ.set i .un) a → Xs f σ ρ a := fun a w => by
    rcases w with (w | w) | w
    · exact .inl w
    · subst w; exact .inr oi
    · exact .inr (oo a w).1
  refine ⟨by rw [List.length_set]; exact S.len, S.fr, fun j t hj => ?_, fun a b s1 t1 q h1 h2 h3 h4 h5 h6 => ?_, fun q hq => S.nw q (oo q hq).1, fun q hq => ?_, S.pd⟩
  · by_cases hij : i = j
    · subst hij
      rw [List.getElem?_set_self hi] at hj
      cases hj
      exact .un
    · rw [List.getElem?_set_ne hij] at hj
      exact (S.sl j t hj).mono (cut_le xx) fun _ _ _ _ h => h
  · have fix : ∀ {c : Nat} {u : Slot}, (ρ.set i .un)[c]? = some u → u.lists = true → ρ[c]? = some u := by
      intro c u hc hu
      by_cases e : i = c
      · subst e
        rw [List.getElem?_set_self hi] at hc; cases hc; cases hu
      · rw [List.getElem?_set_ne e] at hc; exact hc
    exact S.uq a b s1 t1 q (fix h1 h2) h2 h3 (fix h4 h5) h5 h6
  · rcases hq with hq | hq
    · exact ⟨(S.x0 q hq).1, fun w => (S.x0 q hq).2 (oo q w).1⟩
    · subst hq
      exact ⟨Own.lt S oi, fun w => (oo q w).2 rfl⟩
theorem move_ex {f : Fr} {σ : L2.St} {H : Hp} {ρ : Fm.Env} {i : Nat} {p : Addr} {l : List Dt} (h : ρ[i]? = some (.own l)) (hp : σ[i]? = some (some (.ref p))) : Ex (cut (Xs f σ ρ) H) (cut (Xs (f.out p) σ (ρ.set i .un)) H) := by
  refine cut_le fun a w => ?_
  rcases w with (w | w) | ⟨j, t, h1, h2, h3⟩
  · exact .inl w
  · subst w; exact .inr ⟨i, _, h, rfl, hp⟩
  · by_cases e : i = j
    · subst e
      by_cases hl : i < ρ.length
      · rw [List.getElem?_set_self hl] at h1; cases h1; cases h2
      · rw [List.getElem?_eq_none (by rw [List.length_set]; omega)] at h1; cases h1
    · rw [List.getElem?_set_ne e] at h1
      exact .inr ⟨j, t, h1, h2, h3⟩
abbrev F_mv (i : Nat) : FA := fun ρ K _ => ∃ l, ρ[i]? = some (.own l) ∧ K l (ρ.set i .un)
theorem PUF.mv {i : Nat} : PUF G E (tVar i) (F_mv i) where
  run := fun S ⟨l, h, k⟩ => by
    obtain ⟨p, vs, h1, h2, h3, h4⟩ := S.own h
    exact ⟨_, h1, k p vs _ (S.move h h1) (move_ex h h1) (S.nw p h2) (fun w => (S.x0 p w).2 h2) h3 (h4.mono (move_ex h h1))⟩
  mono := fun m _ ⟨d, h, k⟩ => ⟨d, h, m _ _ k⟩
abbrev F_par (i j : Nat) (A B : FE) : FS := fun ρ D => A ρ (fun d ρ1 => B ρ1 (fun e ρ2 => D.nx ((ρ2.set i (.val d)).set j (.val e))) D.ex) D.ex
theorem PUS.par {i j : Nat} {ta tb : TE} {A B : FE} (a : PU G E ta A) (b : PU G E tb B) : PUS G E (tPar i j (tCons ta (tCons tb tNil))) (F_par i j A B) where
  run := fun {f σ H ρ D} S h => a.run S (a.mono (fun d ρ1 k v H1 S1 e1 hv => b.run S1 (b.mono (fun e ρ2 k2 w H2 S2 e2 hw => by
    have S3 : St G f (σ.set i (some v)) H2 (ρ2.set i (.val d)) := S2.put rfl (.val (hv.mono e2))
    have e3 : Ex (cut (Xs f σ ρ2) H2) (cut (Xs f (σ.set i (some v)) (ρ2.set i (.val d))) H2) := put_ex rfl
    exact ⟨_, _, rfl, k2 _ _ (S3.put rfl (.val (hw.mono e3))) (((e1.trans e2).trans e3).trans (put_ex rfl))⟩) (fun _ x => x) k)) (fun _ x => x) h)
  mono := fun m h => a.mono (fun _ _ k => b.mono (fun _ _ k => m.nx _ k) m.ex k) m.ex h
abbrev F_iterV (i : Nat) : FI := fun ρ K _ => ∃ l, (ρ[i]? = some (.val (.lst l)) ∨ ρ[i]? = some (.val (.tup l))) ∧ K l ρ
theorem PUI.seqV {i : Nat} : PUI G E (fun σ H R => iList K (tVar i) σ H R ∨ iTup K (tVar i) σ H R) (F_iterV i) where
  run := fun S ⟨l, h, k⟩ => by
    rcases h with h | h
    · obtain ⟨v, h1, h2⟩ := S.val h
      cases h2 with
      | lst hp r => exact .inl ⟨_, h1, _, rfl, ⟨_, SqL.of (cut_some.mp hp).2⟩, k _ _ S (Ex.refl _) (Wk.list hp r)⟩
    · obtain ⟨v, h1, h2⟩ := S.val h
      cases h2 with
      | tup hp r => exact .inr ⟨_, h1, _, rfl, ⟨_, SqT.of (cut_some.mp hp).2⟩, k _ _ S (Ex.refl _) (Wk.tup hp r)⟩
  mono := fun m _ ⟨l, h, k⟩ => ⟨l, h, m _ _ k⟩
theorem PUF.revL {t : TE} {A : FE} (a : PU G E t A) : PUF G E (tRevL K t) (fun ρ K X => A ρ (fun d ρ1 => ∃ l, d = .lst l ∧ K l.reverse ρ1) X) where
  run := fun S h => a.run S (a.mono (fun d ρ1 ⟨l, hd, k⟩ v H1 S1 e1 hv => by
    subst hd
    cases hv with
    | lst hp r =>
      refine ⟨_, _, rfl, SqL.of (cut_some.mp hp).2, fun p hn => ?_⟩
      obtain ⟨q1, q2, q3, q4, q5⟩ := S1.new (H' := upd H1 p (.lst _)) hn (Ex.new hn) upd_same r.rev
      exact k p _ _ q1 (e1.trans q2) q3 q4 upd_same q5) (fun _ x => x) h)
  mono := fun m x h => a.mono (fun _ _ ⟨l, hd, k⟩ => ⟨l, hd, m _ _ k⟩) x h
theorem CD.tuple : CD G (fun xs H Q => ∃ p ys, xs = [V.ref p] ∧ ((SqL K H p ys ∧ ∀ l, H l = none → Q (.ref l) (upd H l (.tup ys))) ∨ (SqT K H p ys ∧ Q (.ref p) H))) (fun ds K => ∃ l, (ds = [.lst l] ∨ ds = [.tup l]) ∧ K (.tup l)) where
  run := fun {X H xs ds Q} hx h ⟨l, hd, k⟩ => by
    rcases hd with rfl | rfl
    · cases h with
      | cons h r => cases r; cases h with
        | lst hp r =>
          refine ⟨_, _, rfl, .inl ⟨SqL.of (cut_some.mp hp).2, fun p hn => ?_⟩⟩
          have np : ¬ X p := fun w => (hx p w).ne hn
          exact k _ _ (Ex.new hn) (.tup (cut_some.mpr ⟨np, upd_same⟩) (r.mono (cut_grow (Ex.new hn))))
    · cases h with
      | cons h r => cases r; cases h with
        | tup hp r => exact ⟨_, _, rfl, .inr ⟨SqT.of (cut_some.mp hp).2, k _ _ (Ex.refl _) (.tup hp r)⟩⟩
  mono := fun m ⟨l, hd, k⟩ => ⟨l, hd, m _ k⟩
abbrev F_asr (A : FA) : FE := fun ρ K X => A ρ (fun ds ρ1 => ∃ d, ds = [d] ∧ d.isNum = true ∧ Sz 3000 d.num ∧ K (.rat d.num) ρ1) X
theorem PU.asr {t : TA} {A : FA} (a : PUA G E t A) : PU G E (tCall (spAsRatio G.R) [] E2 t) (F_asr A) where
  run := fun S h => a.run S (a.mono (fun ds ρ1 ⟨d, hd, hn, hs, k⟩ vs H1 S1 e1 hv => by
    subst hd
    cases hv with
    | cons h r =>
      cases r
      exact use_asr (h.num hn).cut hs (by decide) fun u H2 ex hu => k u H2 (S1.grow ex) (e1.trans (cut_grow ex)) (.rat (hu.out (fun a ha => S1.lstAt ha) ex))) (fun _ x => x) h)
  mono := fun m x h => a.mono (fun _ _ ⟨d, hd, hn, hs, k⟩ => ⟨d, hd, hn, hs, m _ _ k⟩) x h
abbrev F_isnum (A : FA) : FE := fun ρ K X => A ρ (fun ds ρ1 => ∃ d, ds = [d] ∧ d.kind = true ∧ K (.bl d.isNum) ρ1) X
theorem PU.isnum {t : TA} {A : FA} (R : RC K G.R) (a : PUA G E t A) : PU G E (tCall (spNumber K G.R) [] E2 t) (F_isnum A) where
  run := fun S h => a.run S (a.mono (fun ds ρ1 ⟨d, hd, hn, k⟩ vs H1 S1 e1 hv => by
    subst hd
    cases hv with
    | cons h r =>
      cases r
      exact ⟨_, _, rfl, h.whole.tyk R hn, d.kty hn, fun H2 ex => by rw [d.ty_num hn]; exact k _ H2 (S1.grow ex) (e1.trans (cut_grow ex)) (.bl _)⟩) (fun _ x => x) h)
  mono := fun m x h => a.mono (fun _ _ ⟨d, hd, hn, k⟩ => ⟨d, hd, hn, m _ _ k⟩) x h
def Dt.isInt : Dt → Bool
  | .int _ => true
  | _ => false
abbrev F_iswh (A : FA) : FE := fun ρ K X => A ρ (fun ds ρ1 => ∃ d, ds = [d] ∧ d.kind = true ∧ K (.bl d.isInt) ρ1) X
theorem PU.iswh {t : TA} {A : FA} (R : RC K G.R) (a : PUA G E t A) : PU G E (tCall (spWhole K G.R) [] E2 t) (F_iswh A) where
  run := fun S h => a.run S (a.mono (fun ds ρ1 ⟨d, hd, hn, k⟩ vs H1 S1 e1 hv => by
    subst hd
    cases hv with
    | cons h r =>
      cases r
      refine ⟨_, _, rfl, h.whole.tyk R hn, d.kty hn, fun H2 ex => ?_⟩
      have e : (d.ty G == .type "int") = d.isInt := by cases d <;> first | rfl | simp [Dt.ty, Dt.isInt]
      rw [e]
      exact k _ H2 (S1.grow ex) (e1.trans (cut_grow ex)) (.bl _)) (fun _ x => x) h)
  mono := fun m x h => a.mono (fun _ _ ⟨d, hd, hn, k⟩ => ⟨d, hd, hn, m _ _ k⟩) x h
abbrev F_pick (i : Nat) (A : FA) : FE := fun ρ K X => ∃ p, ρ[i]? = some (.tape p) ∧ A ρ (fun ds ρ' => ρ'[i]? = some (.tape p) ∧ ∃ m : Nat, ds = [.int (m : Int)] ∧ 0 < m ∧ m < 2 ^ 90 ∧ ∀ k : Nat, k < m → K (.int (k : Int)) ρ') X
theorem PU.pick {i : Nat} {t : TA} {A : FA} (a : PUA G E t A) : PU G E (tCall spPick [] E2 (tCons (tVar i) t)) (F_pick i A) where
  run := fun {f σ H ρ Q} S ⟨p, hp, h⟩ => by
    obtain ⟨h1, _, _⟩ := S.tp hp
    refine ⟨_, h1, a.run S (a.mono (fun ds ρ' ⟨k1, m, hd, m0, m1, k⟩ vs H' S' e hv => ?_) (fun _ x => x) h)⟩
    subst hd
    cases hv with
    | cons hm r =>
      cases hm
      cases r
      obtain ⟨_, h2, h3⟩ := S'.tp k1
      refine use_pick (by omega) (by omega) h2 fun d H2 d0 dm mo t => ?_
      obtain ⟨S2, e2⟩ := S'.tape k1 mo t
      have hk := k d.toNat (by omega) (.int d) H2 S2 (e.trans e2)
      rw [Int.toNat_of_nonneg d0] at hk
      exact hk (.int d)
  mono := fun m x ⟨p, hp, h⟩ => ⟨p, hp, a.mono (fun _ _ ⟨k1, n, hd, m0, m1, k⟩ => ⟨k1, n, hd, m0, m1, fun c hc => m _ _ (k c hc)⟩) x h⟩
end
end Fm

set_option maxHeartbeats 2000000
namespace Fm
open PySem PySem.Spec PyProof.Rows L2
theorem forP_from {g : FG} {B : FS} {items : List Dt} {D : DE} (I : Nat → Fm.Env → Prop)
    (hs : ∀ i d ρ (K : Fm.Env → Prop), items[i]? = some d → I i ρ → (∀ ρ', I (i + 1) ρ' → K ρ') → g d ρ (fun ρ1 => B ρ1 { D with nx := K, ct := K, bk := D.nx })) (hd : ∀ ρ, I items.length ρ → D.nx ρ) :
    ∀ (k i : Nat) ρ, items.length - i = k → i ≤ items.length → I i ρ → forP g B (items.drop i) ρ D
  | 0, i, ρ, hk, hi, h => by
    have e : i = items.length := by omega
    subst e
    rw [List.drop_length]
    exact hd ρ h
  | k + 1, i, ρ, hk, hi, h => by
    have hl : i < items.length := by omega
    rw [tkT (List.getElem?_eq_getElem hl)]
    exact hs i _ ρ _ (List.getElem?_eq_getElem hl) h fun ρ' h' => forP_from I hs hd k (i + 1) ρ' (by omega) (by omega) h'
theorem forP_inv {g : FG} {B : FS} {items : List Dt} {ρ : Fm.Env} {D : DE} (I : Nat → Fm.Env → Prop) (h0 : I 0 ρ)
    (hs : ∀ i d ρ (K : Fm.Env → Prop), items[i]? = some d → I i ρ → (∀ ρ', I (i + 1) ρ' → K ρ') → g d ρ (fun ρ1 => B ρ1 { D with nx := K, ct := K, bk := D.nx })) (hd : ∀ ρ, I items.length ρ → D.nx ρ) : forP g B items ρ D :=
  forP_from I hs hd _ 0 ρ rfl (Nat.zero_le _) h0
theorem rngL_len (lo : Int) (n : Nat) : (rngL lo n).length = n := by unfold rngL; rw [List.length_map, List.length_range]
theorem rngL_at {lo : Int} {n i : Nat} {d : Dt} (h : (rngL lo n)[i]? = some d) : d = .int (lo + (i : Int)) ∧ i < n := by
  unfold rngL at h
  rw [List.getElem?_map] at h
  cases e : (List.range n)[i]? with
  | none => rw [e] at h; cases h
  | some k =>
    rw [e] at h
    injection h with h
    obtain ⟨hl, e2⟩ := List.getElem?_eq_some_iff.mp e
    rw [List.getElem_range] at e2
    subst e2
    rw [List.length_range] at hl
    exact ⟨h.symm, hl⟩
theorem forP_rng {g : FG} {B : FS} {j : Int} {n : Nat} {ρ : Fm.Env} {D : DE} (I : Nat → Fm.Env → Prop) (hj : j.toNat = n) (h0 : I 0 ρ)
    (hs : ∀ i ρ (K : Fm.Env → Prop), i < n → I i ρ → (∀ ρ', I (i + 1) ρ' → K ρ') → g (.int (i : Int)) ρ (fun ρ1 => B ρ1 { D with nx := K, ct := K, bk := D.nx })) (hd : ∀ ρ, I n ρ → D.nx ρ) : forP g B (rngL 0 j.toNat) ρ D := by
  refine forP_inv I h0 (fun i d ρ K hi h hK => ?_) (fun ρ h => hd ρ (by rw [rngL_len, hj] at h; exact h))
  obtain ⟨rfl, hl⟩ := rngL_at hi
  rw [Int.zero_add]
  exact hs i ρ K (by omega) h hK
theorem lcP_inv {i : Nat} {T : FT} {B : FE} {items : List Dt} {K : List Dt → Fm.Env → Prop} (I : Nat → List Dt → Fm.Env → Prop)
    (hs : ∀ c d acc ρ (K1 : Nat → List Dt → Fm.Env → Prop), items[c]? = some d → I c acc ρ → (∀ acc' ρ', I (c + 1) acc' ρ' → K1 0 acc' ρ') → acc.length < 100000 ∧ (slotAt ρ i).lists = false ∧
      T (ρ.set i (.val d)) (fun b ρ2 => if b = true then B ρ2 (fun y ρ3 => K1 0 (acc ++ [y]) (ρ3.set i (slotAt ρ i))) (fun _ => False) else K1 0 acc (ρ2.set i (slotAt ρ i))) (fun _ => False))
    (hd : ∀ acc ρ, I items.length acc ρ → K acc ρ) : ∀ (k c : Nat) acc ρ, items.length - c = k → c ≤ items.length → I c acc ρ → lcP i T B (items.drop c) acc ρ K
  | 0, c, acc, ρ, hk, hi, h => by
    have e : c = items.length := by omega
    subst e
    rw [List.drop_length]
    exact hd acc ρ h
  | k + 1, c, acc, ρ, hk, hi, h => by
    have hl : c < items.length := by omega
    rw [tkT (List.getElem?_eq_getElem hl)]
    exact hs c _ acc ρ (fun _ acc' ρ' => lcP i T B (items.drop (c + 1)) acc' ρ' K) (List.getElem?_eq_getElem hl) h fun acc' ρ' h' => lcP_inv I hs hd k (c + 1) acc' ρ' (by omega) (by omega) h'
theorem lcP_by {i : Nat} {T : FT} {B : FE} {items : List Dt} {ρ : Fm.Env} {K : List Dt → Fm.Env → Prop} (I : Nat → List Dt → Fm.Env → Prop) (h0 : I 0 [] ρ)
    (hs : ∀ c d acc ρ (K1 : Nat → List Dt → Fm.Env → Prop), items[c]? = some d → I c acc ρ → (∀ acc' ρ', I (c + 1) acc' ρ' → K1 0 acc' ρ') → acc.length < 100000 ∧ (slotAt ρ i).lists = false ∧
      T (ρ.set i (.val d)) (fun b ρ2 => if b = true then B ρ2 (fun y ρ3 => K1 0 (acc ++ [y]) (ρ3.set i (slotAt ρ i))) (fun _ => False) else K1 0 acc (ρ2.set i (slotAt ρ i))) (fun _ => False))
    (hd : ∀ acc ρ, I items.length acc ρ → K acc ρ) : lcP i T B items [] ρ K := lcP_inv I hs hd _ 0 [] ρ rfl (Nat.zero_le _) h0
theorem ite_t {A B : Prop} (h : A) : if true = true then A else B := by rw [if_pos rfl]; exact h
theorem ite_f {A B : Prop} (h : B) : if false = true then A else B := by rw [if_neg Bool.false_ne_true]; exact h
theorem sz_le' {a b : Nat} {q : Rat} (h : Sz a q) (e : a ≤ b) : Sz b q := ⟨Nat.lt_of_lt_of_le h.1 (Nat.pow_le_pow_right (by decide) e), Nat.lt_of_lt_of_le h.2 (Nat.pow_le_pow_right (by decide) e)⟩
theorem lt8 {n k : Nat} (h : n < 2 ^ k) (hk : k ≤ 8000) : n < 2 ^ 8000 := Nat.lt_of_lt_of_le h (Nat.pow_le_pow_right (by decide) hk)
theorem Sz.mul' {a b : Nat} {p q : Rat} (hp : Sz a p) (hq : Sz b q) : Sz (a + b) (p * q) := by
  have h := Rat.mul_def p q
  have hn : (p * q).num.natAbs ≤ p.num.natAbs * q.num.natAbs := by
    rw [Rat.num_mul]
    refine Nat.le_trans (Nat.le_of_eq (Int.natAbs_ediv_of_dvd ?_)) ?_
    · exact Int.natAbs_dvd_natAbs.mp (by simpa [Int.natAbs_mul] using Nat.gcd_dvd_left _ _)
    · rw [Int.natAbs_mul]; exact Nat.div_le_self _ _
  have hd : (p * q).den ≤ p.den * q.den := by
    rw [Rat.den_mul]
    exact Nat.div_le_self _ _
  refine ⟨Nat.lt_of_le_of_lt hn ?_, Nat.lt_of_le_of_lt hd ?_⟩
  · rw [Nat.pow_add]; exact Nat.mul_lt_mul'' hp.1 hq.1
  · rw [Nat.pow_add]; exact Nat.mul_lt_mul'' hp.2 hq.2
end Fm
namespace Fm
theorem Sz.add' {a b : Nat} {p q : Rat} (hp : Sz a p) (hq : Sz b q) : Sz (a + b + 1) (p + q) := by
  have h := Sz.add (sz_le' hp (Nat.le_max_left a b)) (sz_le' hq (Nat.le_max_right a b))
  have e := add_divInt p q
  have hb : ((p.den : Int) * (q.den : Int)) ≠ 0 := dd_ne p q
  have hle := num_le (t := p.num * q.den + q.num * p.den) hb
  rw [e] at hle
  have h1 : (p.num * q.den).natAbs < 2 ^ a * 2 ^ b := by rw [Int.natAbs_mul, Int.natAbs_natCast]; exact Nat.mul_lt_mul'' hp.1 hq.2
  have h2 : (q.num * p.den).natAbs < 2 ^ a * 2 ^ b := by rw [Int.natAbs_mul, Int.natAbs_natCast, Nat.mul_comm]; exact Nat.mul_lt_mul'' hp.2 hq.1
  have h3 := Int.natAbs_add_le (p.num * q.den) (q.num * p.den)
  have h4 : ((p.den : Int) * (q.den : Int)).natAbs < 2 ^ a * 2 ^ b := by rw [Int.natAbs_mul, Int.natAbs_natCast, Int.natAbs_natCast]; exact Nat.mul_lt_mul'' hp.2 hq.2
  refine ⟨?_, ?_⟩
  · rw [Nat.pow_succ, Nat.pow_add]; omega
  · rw [Nat.pow_succ, Nat.pow_add]; omega
theorem Sz.zero {k : Nat} (h : 1 ≤ k) : Sz k 0 := ⟨Nat.pos_of_ne_zero (by simp), Nat.lt_of_lt_of_le (by decide : (0 : Rat).den < 2 ^ 1) (Nat.pow_le_pow_right (by decide) h)⟩
theorem Sz.one {k : Nat} (h : 1 ≤ k) : Sz k 1 := ⟨Nat.lt_of_lt_of_le (by decide : (1 : Rat).num.natAbs < 2 ^ 1) (Nat.pow_le_pow_right (by decide) h), Nat.lt_of_lt_of_le (by decide : (1 : Rat).den < 2 ^ 1) (Nat.pow_le_pow_right (by decide) h)⟩
theorem Sz.pow {k : Nat} {q : Rat} (h : Sz k q) : ∀ n : Nat, Sz (k * n + 1) (q ^ n)
  | 0 => by rw [Rat.pow_zero]; exact Sz.one (by omega)
  | n + 1 => by
    rw [Rat.pow_succ]
    exact sz_le' ((Sz.pow h n).mul' h) (by rw [Nat.mul_succ]; omega)
end Fm
namespace Fm
open PySem PySem.Spec PyProof.Rows L2
theorem lcP_fm {i : Nat} {T : FT} {B : FE} {p : Dt → Bool} {g : Dt → Dt} : ∀ (ds acc : List Dt) {ρ : Fm.Env} {K : List Dt → Fm.Env → Prop}, (slotAt ρ i).lists = false → acc.length + ds.length ≤ 100000 →
    (∀ d ∈ ds, ∀ K' : Bool → Fm.Env → Prop, K' (p d) (ρ.set i (.val d)) → T (ρ.set i (.val d)) K' (fun _ => False)) → (∀ d ∈ ds, p d = true → ∀ K' : Dt → Fm.Env → Prop, K' (g d) (ρ.set i (.val d)) → B (ρ.set i (.val d)) K' (fun _ => False)) →
    K (acc ++ (ds.filter p).map g) ρ → lcP i T B ds acc ρ K
  | [], acc, ρ, K, _, _, _, _, h => by rw [List.filter_nil, List.map_nil, List.append_nil] at h; exact h
  | d :: ds, acc, ρ, K, hs, hl, ht, hb, h => by
    rw [List.length_cons] at hl
    refine ⟨by omega, hs, ht d (List.mem_cons_self ..) _ ?_⟩
    cases hp : p d with
    | true =>
      refine ite_t (hb d (List.mem_cons_self ..) hp _ ?_)
      rw [List.set_set, slot_back]
      refine lcP_fm ds (acc ++ [g d]) hs (by rw [List.length_append]; simp; omega) (fun e he => ht e (List.mem_cons_of_mem _ he)) (fun e he => hb e (List.mem_cons_of_mem _ he)) ?_
      rw [List.filter_cons_of_pos hp, List.map_cons] at h
      rw [List.append_assoc]
      exact h
    | false =>
      refine ite_f ?_
      rw [List.set_set, slot_back]
      refine lcP_fm ds acc hs (by omega) (fun e he => ht e (List.mem_cons_of_mem _ he)) (fun e he => hb e (List.mem_cons_of_mem _ he)) ?_
      rw [List.filter_cons_of_neg (by rw [hp]; simp)] at h
      exact h
end Fm

set_option maxHeartbeats 2000000
namespace Fm
open PySem PySem.Spec PyProof.Rows L2
structure FX where
  pre : List Dt → Prop
  post : List Dt → Dt → Prop
  err : List Dt → Er → Prop
def eX (G : Gs) (H : Hp) (X : Addr → Prop) (E : XK) : Er → Prop
  | .bare c => ∀ H', Ex H H' → E (.ref c) none H'
  | .own c n d => ∀ v dd H', Ex H H' → DtV G (cut X H') v d → H' dd = some (.xd [(n, v)]) → H dd = none → E (.ref c) (some dd) H'
def spX (G : Gs) (F : FX) : Sp := fun vs H Q E => ∃ (ds : List Dt) (X : Addr → Prop), DtVs G (cut X H) vs ds ∧ (∀ a, X a → LstAt H a) ∧ F.pre ds ∧ (∀ d v H', F.post ds d → Ex H H' → DtV G (cut X H') v d → Q v H') ∧ ∀ e, F.err ds e → eX G H X E e
def spXL (G : Gs) (F : FX) : Sp := fun vs H Q E => ∃ (ds : List Dt) (X : Addr → Prop), DtVs G (cut X H) vs ds ∧ (∀ a, X a → LstAt H a) ∧ F.pre ds ∧ (∀ l p us H', F.post ds (.lst l) → H p = none → Ex H H' → H' p = some (.lst us) → DtVs G (cut (fun a => X a ∨ a = p) H') us l → Q (.ref p) H') ∧ ∀ e, F.err ds e → eX G H X E e
section
variable {G : Gs} {E : XK} {K : PySem.W.Frag}
theorem eX_of {f : Fr} {σ : L2.St} {H : Hp} {ρ : Fm.Env} (S : St G f σ H ρ) : ∀ {e : Er}, kX G f E e → eX G H (Xs f σ ρ) E e
  | .bare c, h => fun H' ex => h H' fun a o n ha => ex _ _ (S.fr a o n ha)
  | .own c n d, h => fun v dd H' ex hv hd hn => h v dd H' (fun a o n ha => ex _ _ (S.fr a o n ha)) (hv.mono (cut_le fun a ha => .inl ha)) hd (S.fresh hn).1
abbrev F_callX (F : FX) (A : FA) : FE := fun ρ K X => A ρ (fun ds ρ' => F.pre ds ∧ (∀ d, F.post ds d → K d ρ') ∧ ∀ e, F.err ds e → X e) X
theorem PU.callX {F : FX} {t : TA} {A : FA} (a : PUA G E t A) : PU G E (tCallS (spX G F) (WE (fun cls d _ H => E cls d H)) t) (F_callX F A) where
  run := fun {f σ H ρ Q} S h => a.run S (a.mono (fun ds ρ' k vs H' S' e hv => ⟨ds, Xs f σ ρ', hv, fun a ha => S'.lstAt ha, k.1, fun d v H2 hp ex hd => k.2.1 d hp v H2 (S'.grow ex) (e.trans (cut_grow ex)) hd, fun er he => eX_of S' (k.2.2 er he)⟩) (fun _ x => x) h)
  mono := fun m x h => a.mono (fun _ _ k => ⟨k.1, fun d hp => m _ _ (k.2.1 d hp), fun e he => x e (k.2.2 e he)⟩) x h
abbrev F_callXL (F : FX) (A : FA) : FA := fun ρ K X => A ρ (fun ds ρ' => F.pre ds ∧ (∀ l, F.post ds (.lst l) → K l ρ') ∧ ∀ e, F.err ds e → X e) X
theorem PUF.callX {F : FX} {t : TA} {A : FA} (a : PUA G E t A) : PUF G E (tCallS (spXL G F) (WE (fun cls d _ H => E cls d H)) t) (F_callXL F A) where
  run := fun {f σ H ρ Q} S h => a.run S (a.mono (fun ds ρ' k vs H' S' e hv => ⟨ds, Xs f σ ρ', hv, fun a ha => S'.lstAt ha, k.1, fun l p us H2 hp hn ex hl hd =>
    k.2.1 l hp p us H2 (S'.outNew hn ex ⟨_, hl⟩) (e.trans (newOut_ex hn ex)) (.inr (S'.fresh hn).1) (S'.fresh hn).2.1 hl (hd.mono (cut_le fun a h => xs_out.mp h)), fun er he => eX_of S' (k.2.2 er he)⟩) (fun _ x => x) h)
  mono := fun m x h => a.mono (fun _ _ k => ⟨k.1, fun d hp => m _ _ (k.2.1 d hp), fun e he => x e (k.2.2 e he)⟩) x h
abbrev F_raise (C : Addr) (fld : Str) (A : FE) : FS := fun ρ D => A ρ (fun d _ => D.ex (.own C fld d)) D.ex
theorem PUS.raise {C : Addr} {fld : Str} {t : TE} {A : FE} (a : PU G E t A) : PUS G E (fun _ σ H => tMkO C (spBadInit fld C) [] (tCons t tNil) σ H fun cls d H' => E cls d H') (F_raise C fld A) where
  run := fun {f σ H ρ D} S h => a.run S (a.mono (fun d ρ' k v H1 S1 e1 hv => g_oex fun dd H2 hn ex hx => k v dd H2 (fun a o n ha => ex _ _ (S1.fr a o n ha)) (hv.mono ((cut_le fun a ha => .inl ha : Ex (cut (Xs f σ ρ') H1) (cut f.X0 H1)).trans (cut_grow ex))) hx (S1.fresh hn).1) (fun _ x => x) h)
  mono := fun m h => a.mono (fun _ _ k => m.ex _ k) m.ex h
def endX (F : FX) (ds : List Dt) : DE where
  nx := fun _ => F.post ds .non
  rt := fun d _ => F.post ds d
  rl := fun l _ => F.post ds (.lst l)
  ex := F.err ds
def endXL (F : FX) (ds : List Dt) : DE where
  nx := fun _ => False
  rt := fun d _ => False
  rl := fun l _ => F.post ds (.lst l)
  ex := F.err ds
theorem kX_of {H : Hp} {X : Addr → Prop} : ∀ {e : Er}, eX G H X E e → kX G ⟨H, fun _ => False, X⟩ E e
  | .bare c, h => fun H' kp => h H' fun a o ha => kp a o id ha
  | .own c n d, h => fun v dd H' kp hv hd hn => h v dd H' (fun a o ha => kp a o id ha) hv hd hn
theorem spX.def {F : FX} {t : TS} {B : FS} {N : List Str} {vs : List V} {H : Hp} {Q : VK} (U : PUS G E t B) (h : ∀ ds, F.pre ds → B (env0 N.length ds) (endX F ds)) (hs : spX G F vs H Q E) : t { nx := fun _ H' => Q .non H', rt := Q } (L2.start N vs) H := by
  obtain ⟨ds, X, hv, hx, hp, q, qe⟩ := hs
  refine U.run (start_St hv hx) (U.mono (D := endX F ds) ⟨fun ρ' k σ' H' S e => q .non .non H' k ?_ .non, fun d ρ' k v σ' H' S hd => q d v H' k ?_ ?_, fun l ρ' k p us σ' H' S h1 h2 h3 h4 => q (.lst l) _ H' k ?_ ?_, fun _ w => w.elim, fun _ w => w.elim, fun e he => kX_of (qe e he)⟩ (h ds hp))
  · exact fun a o ha => S.fr a o id ha
  · exact fun a o ha => S.fr a o id ha
  · exact hd.mono (cut_le fun a ha => .inl ha)
  · exact fun a o ha => S.fr a o id ha
  · refine .lst (cut_some.mpr ⟨h2, h3⟩) (h4.mono (cut_le fun a ha => .inl (.inl ha)))
theorem spXL.def {F : FX} {t : TS} {B : FS} {N : List Str} {vs : List V} {H : Hp} {Q : VK} (U : PUS G E t B) (h : ∀ ds, F.pre ds → B (env0 N.length ds) (endXL F ds)) (hs : spXL G F vs H Q E) : t { nx := fun _ H' => Q .non H', rt := Q } (L2.start N vs) H := by
  obtain ⟨ds, X, hv, hx, hp, q, qe⟩ := hs
  refine U.run (start_St hv hx) (U.mono (D := endXL F ds) ⟨fun _ w => w.elim, fun _ _ w => w.elim, fun l ρ' k p us σ' H' S h1 h2 h3 h4 => q l p us H' k (h1.elim False.elim id) ?_ h3 ?_, fun _ w => w.elim, fun _ w => w.elim, fun e he => kX_of (qe e he)⟩ (h ds hp))
  · exact fun a o ha => S.fr a o id ha
  · refine h4.mono (cut_le fun a ha => ?_)
    rcases ha with ha | ha
    · exact .inl (.inl ha)
    · exact .inl (.inr ha)
end
end Fm

set_option maxHeartbeats 2000000
namespace Fm
open PySem PySem.Spec PyProof.Rows L2
structure Leg (prog : Program) (w : World) (i l : Addr) (xs : Array Value) (S : Heap → Nat → Prop) (R : Heap → Prop) : Prop where
  next : ∀ {A : Around} {E : Value → Shared → Prop} {s : Shared} {k : Nat} {x : Value} {Q : Value → Shared → Prop}, S s.heap k → R s.heap → xs[k]? = some x → (∀ g, S g (k + 1) → Heap.SameBut i s.heap g → Q x { s with heap := g }) → wpAny (model prog w) A (Builtin.SmallTypes.nextOf (.ref i)) Q E s
  stop : ∀ {A : Around} {E : Value → Shared → Prop} {s : Shared} {k : Nat} {Q : Value → Shared → Prop}, A.handled = none → S s.heap k → R s.heap → xs[k]? = none → (∀ g e, Heap.ExtBut i s.heap g → (∃ o, g.get? e = some o ∧ o.cls = .type "StopIteration") → E (.ref e) { s with heap := g }) → wpAny (model prog w) A (Builtin.SmallTypes.nextOf (.ref i)) Q E s
  its : ∀ {h g : Heap} {k : Nat}, S h k → (∀ o, h.get? i = some o → g.get? i = some o) → S g k
  src : ∀ {h g : Heap}, R h → (∀ o, h.get? l = some o → g.get? l = some o) → R g
theorem Leg.list {prog : Program} {w : World} {i l : Addr} {xs : Array Value} : Leg prog w i l xs (fun h k => h.IsListIter i l k) (fun h => h.IsList l xs) :=
  ⟨fun a b c d => wpAny_nextOf_list_item a b c d, fun a b c d e => wpAny_nextOf_list_end a b c d e, fun a e => a.at e, fun ⟨o, h, r⟩ e => ⟨o, e o h, r⟩⟩
theorem Leg.tup {prog : Program} {w : World} {i l : Addr} {xs : Array Value} : Leg prog w i l xs (fun h k => h.IsTupleIter i l k) (fun h => h.IsTuple l xs) :=
  ⟨fun a b c d => RZ.nextOf_tuple_item a b c d, fun a b c d e => RZ.nextOf_tuple_end a b c d e, fun a e => a.at e, fun ⟨o, h, r⟩ e => ⟨o, e o h, r⟩⟩
section
variable {prog : Program} {w : World} {A : Around} {E : Value → Shared → Prop} {s : Shared} {z T O i j l m : Addr} {p q : Nat} {xs ys : Array Value} {x y a b : Value} {S1 S2 : Heap → Nat → Prop} {R1 R2 : Heap → Prop}
theorem zipL_item {Q : Value → Shared → Prop} (L1 : Leg prog w i l xs S1 R1) (L2 : Leg prog w j m ys S2 R2) (D : ZipApart z T O i j l m) (hz : IsZip s.heap z T O .none) (hT : PySem.IsPair s.heap T (.ref i) (.ref j)) (hO : PySem.IsPair s.heap O a b) (s1 : S1 s.heap p) (s2 : S2 s.heap q) (r1 : R1 s.heap) (r2 : R2 s.heap) (hx : xs[p]? = some x) (hy : ys[q]? = some y)
    (fin : ∀ g, IsZip g z T O (rawInt s.heap.objs.size) → PySem.IsPair g O x y → S1 g (p + 1) → S2 g (q + 1) → PySem.IsPair g s.heap.objs.size x y → g.objs.size = s.heap.objs.size + 1 → (∀ c o, c ≠ z → c ≠ O → c ≠ i → c ≠ j → s.heap.get? c = some o → g.get? c = some o) → Q (.ref s.heap.objs.size) { s with heap := g }) :
    wpAny (model prog w) A (Builtin.«zip.__next__» ⟨[.ref z], []⟩) (fun f s' => ∃ v, f = .done (.ret v) ∧ Q v s') E s := by
  (show wpAny _ _ (field (.ref z) 2 >>= _) _ _ _); (refine wpAny_bind (wpAny_field hz rfl (x := .bool false) rfl ?_)); (show wpAny _ _ (field (.ref z) 3 >>= _) _ _ _); (refine wpAny_bind (wpAny_field hz rfl (x := .ref T) rfl ?_))
  (refine wpAny_bind (wpAny_seqItems hT rfl ?_)); (show wpAny _ _ (Builtin.SmallTypes.ownedTupleIsFree (.ref z) >>= _) _ _ _); refine wpAny_bind ?_
  (unfold Builtin.SmallTypes.ownedTupleIsFree); (refine wpAny_bind (wpAny_field hz rfl (x := .none) rfl (wpAny_pure ?_))); simp only [if_true]; refine wpAny_bind (wpAny_rule ?_)
  (refine wpAny_bind (wpAny_field hz rfl (x := .ref O) rfl ?_)); (refine wpAny_bind (wpAny_setField_rec hz (by simp) fun g1 (z1 : IsZip g1 z T O .ellipsis) k1 => ?_)); refine wpAny_bind ?_
  simp only [List.zipIdx_cons, List.zipIdx_nil, List.forIn_cons, List.forIn_nil]; (refine wpAny_bind (wpAny_bind (wpAny_onRaise ?_))); (show wpAny _ _ (Builtin.SmallTypes.nextOf (.ref i) >>= _) _ _ _)
  have e1 := k1.extBut
  (refine wpAny_bind (L1.next (L1.its s1 fun o => e1 _ o D.i1z) (L1.src r1 fun o => e1 _ o D.l1z) hx fun g2 t1 k2 => wpAny_pure ?_))
  have e2 := k2.extBut
  have O2 : PySem.IsPair g2 O a b := e2 _ _ D.TOi1 (e1 _ _ D.TOz hO)
  (refine wpAny_bind (wpAny_seqItems O2 rfl ?_)); (refine wpAny_bind (wpAny_updateSeq_pair O2 fun g3 (O3 : PySem.IsPair g3 O x b) k3 => ?_)); (refine wpAny_bind (wpAny_letGo (wpAny_pure ?_)))
  have e3 := k3.extBut
  (refine wpAny_bind (wpAny_bind (wpAny_onRaise ?_))); (show wpAny _ _ (Builtin.SmallTypes.nextOf (.ref j) >>= _) _ _ _)
  have c2 : ∀ o, s.heap.get? j = some o → g3.get? j = some o := fun o h => e3 _ o D.TOi2.symm (e2 _ o D.i12.symm (e1 _ o D.i2z h))
  have c3 : ∀ o, s.heap.get? m = some o → g3.get? m = some o := fun o h => e3 _ o D.l2TO (e2 _ o D.l2i1 (e1 _ o D.l2z h))
  (refine wpAny_bind (L2.next (L2.its s2 c2) (L2.src r2 c3) hy fun g4 t2 k4 => wpAny_pure ?_))
  have e4 := k4.extBut
  have O4 : PySem.IsPair g4 O x b := e4 _ _ D.TOi2 O3
  (refine wpAny_bind (wpAny_seqItems O4 rfl ?_)); (refine wpAny_bind (wpAny_updateSeq_pair O4 fun g5 (O5 : PySem.IsPair g5 O x y) k5 => ?_)); (refine wpAny_bind (wpAny_letGo (wpAny_pure (wpAny_pure ?_))))
  have e5 := k5.extBut
  (refine wpAny_bind (wpAny_seqItems O5 rfl ?_)); refine wpAny_bind (wpAny_newTuple ?_)
  have sz : g5.objs.size = s.heap.objs.size := k5.1.trans (k4.1.trans (k3.1.trans (k2.1.trans k1.1)))
  have z5 : IsZip g5 z T O .ellipsis := e5 _ _ D.TOz.symm (e4 _ _ D.i2z.symm (e3 _ _ D.TOz.symm (e2 _ _ D.i1z.symm z1)))
  have all : ∀ c o, c ≠ z → c ≠ O → c ≠ i → c ≠ j → s.heap.get? c = some o → g5.get? c = some o := fun c o n1 n2 n3 n4 h => e5 _ _ n2 (e4 _ _ n4 (e3 _ _ n2 (e2 _ _ n3 (e1 _ _ n1 h))))
  have u1 : S1 g5 (p + 1) := L1.its t1 fun o h => e5 _ o D.TOi1.symm (e4 _ o D.i12 (e3 _ o D.TOi1.symm h))
  have u2 : S2 g5 (q + 1) := L2.its t2 fun o h => e5 _ o D.TOi2.symm h
  have zl : z < g5.objs.size := Heap.lt_size z5
  (show wpAny _ _ (Builtin.SmallTypes.ownedTupleHandOut (.ref z) (.ref g5.objs.size) >>= _) _ _ _); refine wpAny_bind ?_; unfold Builtin.SmallTypes.ownedTupleHandOut
  have z6 : IsZip (g5.push { cls := .type "tuple", data := .seq #[x, y] }) z T O .ellipsis := Heap.get?_push_of_some _ z5
  (refine wpAny_bind (wpAny_setField_rec z6 (by simp) fun g7 (z7 : IsZip g7 z T O (rawInt g5.objs.size)) k7 => ?_)); (refine wpAny_setField_rec z7 (by simp) fun g8 (z8 : IsZip g8 z T O (rawInt g5.objs.size)) k8 => ?_)
  have up : ∀ c o, c ≠ z → g5.get? c = some o → g8.get? c = some o := fun c o n h => k8.extBut _ _ n (k7.extBut _ _ n (Heap.get?_push_of_some _ h))
  have T8 : PySem.IsPair g8 g5.objs.size x y := k8.extBut _ _ (Nat.ne_of_gt zl) (k7.extBut _ _ (Nat.ne_of_gt zl) (Heap.get?_push_size _ rfl))
  have sz8 : g8.objs.size = g5.objs.size + 1 := k8.1.trans (k7.1.trans (Heap.size_push ..))
  rw [sz] at z8 T8 sz8
  refine wpAny_pure ⟨_, rfl, ?_⟩
  (show Q (.ref g5.objs.size) _); rw [sz]
  exact fin g8 z8 (up _ _ D.TOz O5) (L1.its u1 fun o => up _ o D.i1z) (L2.its u2 fun o => up _ o D.i2z) T8 sz8 fun c o n1 n2 n3 n4 h => up c o n1 (all c o n1 n2 n3 n4 h)
theorem zipL_end {Q : Fin → Shared → Prop} (hh : A.handled = none) (L1 : Leg prog w i l xs S1 R1) (L2 : Leg prog w j m ys S2 R2) (D : ZipApart z T O i j l m) (hz : IsZip s.heap z T O .none) (hT : PySem.IsPair s.heap T (.ref i) (.ref j)) (hO : PySem.IsPair s.heap O a b) (s1 : S1 s.heap p) (s2 : S2 s.heap q) (r1 : R1 s.heap) (r2 : R2 s.heap) (en : xs[p]? = none ∨ ys[q]? = none)
    (fin : ∀ g e, (∀ c o, c ≠ z → c ≠ O → c ≠ i → c ≠ j → s.heap.get? c = some o → g.get? c = some o) → (∃ o, g.get? e = some o ∧ o.cls = .type "StopIteration") → E (.ref e) { s with heap := g }) : wpAny (model prog w) A (Builtin.«zip.__next__» ⟨[.ref z], []⟩) Q E s := by
  (show wpAny _ _ (field (.ref z) 2 >>= _) _ _ _); (refine wpAny_bind (wpAny_field hz rfl (x := .bool false) rfl ?_)); (show wpAny _ _ (field (.ref z) 3 >>= _) _ _ _); (refine wpAny_bind (wpAny_field hz rfl (x := .ref T) rfl ?_))
  (refine wpAny_bind (wpAny_seqItems hT rfl ?_)); (show wpAny _ _ (Builtin.SmallTypes.ownedTupleIsFree (.ref z) >>= _) _ _ _); refine wpAny_bind ?_
  (unfold Builtin.SmallTypes.ownedTupleIsFree); (refine wpAny_bind (wpAny_field hz rfl (x := .none) rfl (wpAny_pure ?_))); simp only [if_true]; refine wpAny_bind (wpAny_rule ?_)
  (refine wpAny_bind (wpAny_field hz rfl (x := .ref O) rfl ?_)); (refine wpAny_bind (wpAny_setField_rec hz (by simp) fun g1 (z1 : IsZip g1 z T O .ellipsis) k1 => ?_)); refine wpAny_bind ?_
  simp only [List.zipIdx_cons, List.zipIdx_nil, List.forIn_cons, List.forIn_nil]; (refine wpAny_bind (wpAny_bind (wpAny_onRaise ?_))); (show wpAny _ _ (Builtin.SmallTypes.nextOf (.ref i) >>= _) _ _ _)
  have e1 := k1.extBut
  cases hx : xs[p]? with
  | none =>
    refine wpAny_bind (L1.stop hh (L1.its s1 fun o => e1 _ o D.i1z) (L1.src r1 fun o => e1 _ o D.l1z) hx fun g2 e k2 he => ?_)
    obtain ⟨oe, h1, h2⟩ := he
    have z2 : IsZip g2 z T O .ellipsis := k2 _ _ D.i1z.symm z1
    have ne : e ≠ z := fun c => by rw [c, z2] at h1; cases h1; simp at h2
    exact wpAny_setField_rec z2 (by simp) fun g3 _ k3 => fin g3 e (fun c o n1 _ n3 _ h => k3.extBut _ _ n1 (k2 _ _ n3 (e1 _ _ n1 h))) ⟨oe, k3.extBut _ _ ne h1, h2⟩
  | some x =>
    have hy : ys[q]? = none := en.elim (fun h => by rw [hx] at h; cases h) id
    refine wpAny_bind (L1.next (L1.its s1 fun o => e1 _ o D.i1z) (L1.src r1 fun o => e1 _ o D.l1z) hx fun g2 t1 k2 => wpAny_pure ?_)
    have e2 := k2.extBut
    have O2 : PySem.IsPair g2 O a b := e2 _ _ D.TOi1 (e1 _ _ D.TOz hO)
    (refine wpAny_bind (wpAny_seqItems O2 rfl ?_)); (refine wpAny_bind (wpAny_updateSeq_pair O2 fun g3 (O3 : PySem.IsPair g3 O x b) k3 => ?_)); (refine wpAny_bind (wpAny_letGo (wpAny_pure ?_)))
    have e3 := k3.extBut
    (refine wpAny_bind (wpAny_bind (wpAny_onRaise ?_))); (show wpAny _ _ (Builtin.SmallTypes.nextOf (.ref j) >>= _) _ _ _)
    have c2 : ∀ o, s.heap.get? j = some o → g3.get? j = some o := fun o h => e3 _ o D.TOi2.symm (e2 _ o D.i12.symm (e1 _ o D.i2z h))
    have c3 : ∀ o, s.heap.get? m = some o → g3.get? m = some o := fun o h => e3 _ o D.l2TO (e2 _ o D.l2i1 (e1 _ o D.l2z h))
    refine wpAny_bind (L2.stop hh (L2.its s2 c2) (L2.src r2 c3) hy fun g4 e k4 he => ?_)
    obtain ⟨oe, h1, h2⟩ := he
    have z4 : IsZip g4 z T O .ellipsis := k4 _ _ D.i2z.symm (e3 _ _ D.TOz.symm (e2 _ _ D.i1z.symm z1))
    have ne : e ≠ z := fun c => by rw [c, z4] at h1; cases h1; simp at h2
    exact wpAny_setField_rec z4 (by simp) fun g5 _ k5 => fin g5 e (fun c o n1 n2 n3 n4 h => k5.extBut _ _ n1 (k4 _ _ n4 (e3 _ _ n2 (e2 _ _ n3 (e1 _ _ n1 h))))) ⟨oe, k5.extBut _ _ ne h1, h2⟩
theorem nextZ_item {Q : Option Value → Shared → Prop} (L1 : Leg prog w i l xs S1 R1) (L2 : Leg prog w j m ys S2 R2) (D : ZipApart z T O i j l m) (hz : IsZip s.heap z T O .none) (hT : PySem.IsPair s.heap T (.ref i) (.ref j)) (hO : PySem.IsPair s.heap O a b) (s1 : S1 s.heap p) (s2 : S2 s.heap q) (r1 : R1 s.heap) (r2 : R2 s.heap) (hx : xs[p]? = some x) (hy : ys[q]? = some y)
    (fin : ∀ g, IsZip g z T O (rawInt s.heap.objs.size) → PySem.IsPair g O x y → S1 g (p + 1) → S2 g (q + 1) → PySem.IsPair g s.heap.objs.size x y → g.objs.size = s.heap.objs.size + 1 → (∀ c o, c ≠ z → c ≠ O → c ≠ i → c ≠ j → s.heap.get? c = some o → g.get? c = some o) → Q (some (.ref s.heap.objs.size)) { s with heap := g }) :
    wpAny (model prog w) A (pyNext (.ref z)) Q E s := by
  have ty : s.TypeIs (.ref z) "zip" := ⟨_, hz, rfl⟩
  unfold pyNext; exact wpAny_bind (wpAny_attempt (wpAny_callSpecial?_slot (name := Str.ofString "__next__") ty F.slot_zip_next (wpAny_call_entry F.slot_zip_next ty F.entry_zip_next (zipL_item L1 L2 D hz hT hO s1 s2 r1 r2 hx hy fun g b1 b2 b3 b4 b5 b6 b7 => wpAny_pure (fin g b1 b2 b3 b4 b5 b6 b7)) (F.args_zip_next_1 _))))
theorem nextZ_end {Q : Option Value → Shared → Prop} (hh : A.handled = none) (L1 : Leg prog w i l xs S1 R1) (L2 : Leg prog w j m ys S2 R2) (D : ZipApart z T O i j l m) (hz : IsZip s.heap z T O .none) (hT : PySem.IsPair s.heap T (.ref i) (.ref j)) (hO : PySem.IsPair s.heap O a b) (s1 : S1 s.heap p) (s2 : S2 s.heap q) (r1 : R1 s.heap) (r2 : R2 s.heap) (en : xs[p]? = none ∨ ys[q]? = none)
    (fin : ∀ g, (∀ c o, c ≠ z → c ≠ O → c ≠ i → c ≠ j → s.heap.get? c = some o → g.get? c = some o) → Q none { s with heap := g }) : wpAny (model prog w) A (pyNext (.ref z)) Q E s := by
  have ty : s.TypeIs (.ref z) "zip" := ⟨_, hz, rfl⟩
  unfold pyNext; refine wpAny_bind (wpAny_attempt (wpAny_callSpecial?_slot (name := Str.ofString "__next__") ty F.slot_zip_next (wpAny_call_entry F.slot_zip_next ty F.entry_zip_next (zipL_end hh L1 L2 D hz hT hO s1 s2 r1 r2 en fun g e hk he => ?_) (F.args_zip_next_1 _))))
  obtain ⟨o, h1, h2⟩ := he
  exact wpAny_bind (wpAny_isInstance (T := "StopIteration") (b := true) ⟨o, h1, h2⟩ isSubtype_stop (wpAny_pure (fin _ hk)))
end
def zh1 (t : String) (h : Heap) (l : Addr) : Heap := h.push { cls := .type t, data := .fields #[.ref l, .int 0 0] }
def zh3 (t u : String) (h : Heap) (l m : Addr) : Heap := (zh1 u (zh1 t h l) m).push { cls := .type "tuple", data := .seq #[.ref h.objs.size, .ref (zh1 t h l).objs.size] }
def zh4 (t u : String) (h : Heap) (l m : Addr) : Heap := (zh3 t u h l m).push { cls := .type "tuple", data := .seq #[.none, .none] }
def zh5 (t u : String) (h : Heap) (l m : Addr) : Heap := (zh4 t u h l m).push { cls := .type "zip", data := .fields #[.none, .bool false, .bool false, .ref (zh1 u (zh1 t h l) m).objs.size, .ref (zh3 t u h l m).objs.size] }
theorem newZ_LT (l m : Addr) (xs ys : Array Value) : Meets (Builtin.«zip.__new__» ⟨[.type "zip", .ref l, .ref m], []⟩) (fun _ R s => s.heap.IsList l xs ∧ s.heap.IsTuple m ys ∧ R (.ok (.ret (.ref (zh4 "list_iterator" "tuple_iterator" s.heap l m).objs.size))) { s with heap := zh5 "list_iterator" "tuple_iterator" s.heap l m }) :=
  .of_wp fun prog w A R s h => by
    (obtain ⟨hp, g, d, tk, os⟩ := s); (obtain ⟨a1, a2, h⟩ := h); have hsub := sub_zip
    have k1 : Heap.IsList (Shared.heap ⟨hp, g, d, tk, os⟩) l xs := a1
    have k2 : Heap.IsTuple (Shared.heap ⟨hp.push { cls := .type "list_iterator", data := .fields #[.ref l, .int 0 0] }, g, d, tk, os⟩) m ys := Heap.IsTuple.push a2 _
    wp_walk using wpAny_pyIter_list k1, wpAny_pyIter_tuple k2
    exact ⟨_, rfl, h⟩
theorem newZ_TL (l m : Addr) (xs ys : Array Value) : Meets (Builtin.«zip.__new__» ⟨[.type "zip", .ref l, .ref m], []⟩) (fun _ R s => s.heap.IsTuple l xs ∧ s.heap.IsList m ys ∧ R (.ok (.ret (.ref (zh4 "tuple_iterator" "list_iterator" s.heap l m).objs.size))) { s with heap := zh5 "tuple_iterator" "list_iterator" s.heap l m }) :=
  .of_wp fun prog w A R s h => by
    (obtain ⟨hp, g, d, tk, os⟩ := s); (obtain ⟨a1, a2, h⟩ := h); have hsub := sub_zip
    have k1 : Heap.IsTuple (Shared.heap ⟨hp, g, d, tk, os⟩) l xs := a1
    have k2 : Heap.IsList (Shared.heap ⟨hp.push { cls := .type "tuple_iterator", data := .fields #[.ref l, .int 0 0] }, g, d, tk, os⟩) m ys := Heap.IsList.push a2 _
    wp_walk using wpAny_pyIter_tuple k1, wpAny_pyIter_list k2
    exact ⟨_, rfl, h⟩
theorem zh_facts {t u : String} (h : Heap) (l m : Addr) : (zh4 t u h l m).objs.size = h.objs.size + 4 ∧ IsZip (zh5 t u h l m) (h.objs.size + 4) (h.objs.size + 2) (h.objs.size + 3) .none ∧ PySem.IsPair (zh5 t u h l m) (h.objs.size + 2) (.ref h.objs.size) (.ref (h.objs.size + 1)) ∧ PySem.IsPair (zh5 t u h l m) (h.objs.size + 3) .none .none ∧
    (zh5 t u h l m).get? h.objs.size = some { cls := .type t, data := .fields #[.ref l, .int 0 0] } ∧ (zh5 t u h l m).get? (h.objs.size + 1) = some { cls := .type u, data := .fields #[.ref m, .int 0 0] } ∧ (zh5 t u h l m).objs.size = h.objs.size + 5 ∧ ∀ c o, h.get? c = some o → (zh5 t u h l m).get? c = some o := by
  have n1 : (zh1 t h l).objs.size = h.objs.size + 1 := Heap.size_push ..
  have n2 : (zh1 u (zh1 t h l) m).objs.size = h.objs.size + 2 := (Heap.size_push ..).trans (by rw [n1])
  have n3 : (zh3 t u h l m).objs.size = h.objs.size + 3 := (Heap.size_push ..).trans (by rw [n2])
  have n4 : (zh4 t u h l m).objs.size = h.objs.size + 4 := (Heap.size_push ..).trans (by rw [n3])
  have n5 : (zh5 t u h l m).objs.size = h.objs.size + 5 := (Heap.size_push ..).trans (by rw [n4])
  have f5 : (zh5 t u h l m).get? (zh4 t u h l m).objs.size = some { cls := .type "zip", data := .fields #[.none, .bool false, .bool false, .ref (zh1 u (zh1 t h l) m).objs.size, .ref (zh3 t u h l m).objs.size] } := Heap.get?_push_size _ rfl
  have f4 : (zh5 t u h l m).get? (zh3 t u h l m).objs.size = some { cls := .type "tuple", data := .seq #[.none, .none] } := Heap.get?_push_of_some _ (Heap.get?_push_size _ rfl)
  have f3 : (zh5 t u h l m).get? (zh1 u (zh1 t h l) m).objs.size = some { cls := .type "tuple", data := .seq #[.ref h.objs.size, .ref (zh1 t h l).objs.size] } := Heap.get?_push_of_some _ (Heap.get?_push_of_some _ (Heap.get?_push_size _ rfl))
  have f2 : (zh5 t u h l m).get? (zh1 t h l).objs.size = some { cls := .type u, data := .fields #[.ref m, .int 0 0] } := Heap.get?_push_of_some _ (Heap.get?_push_of_some _ (Heap.get?_push_of_some _ (Heap.get?_push_size _ rfl)))
  have f1 : (zh5 t u h l m).get? h.objs.size = some { cls := .type t, data := .fields #[.ref l, .int 0 0] } := Heap.get?_push_of_some _ (Heap.get?_push_of_some _ (Heap.get?_push_of_some _ (Heap.get?_push_of_some _ (Heap.get?_push_size _ rfl))))
  rw [n4, n2, n3] at f5
  rw [n3] at f4
  rw [n2, n1] at f3
  rw [n1] at f2
  exact ⟨n4, f5, f3, f4, f1, f2, n5, fun c o e => Heap.get?_push_of_some _ (Heap.get?_push_of_some _ (Heap.get?_push_of_some _ (Heap.get?_push_of_some _ (Heap.get?_push_of_some _ e))))⟩
section
variable {prog : Program} {w : World} {A : Around} {E : Value → Shared → Prop} {s : Shared} {l m : Addr} {xs ys : Array Value} {Q : Value → Shared → Prop}
theorem callZ_LT (h1 : s.heap.IsList l xs) (h2 : s.heap.IsTuple m ys) (fin : ∀ g, IsZip g (s.heap.objs.size + 4) (s.heap.objs.size + 2) (s.heap.objs.size + 3) .none → PySem.IsPair g (s.heap.objs.size + 2) (.ref s.heap.objs.size) (.ref (s.heap.objs.size + 1)) → PySem.IsPair g (s.heap.objs.size + 3) .none .none → g.IsListIter s.heap.objs.size l 0 → g.IsTupleIter (s.heap.objs.size + 1) m 0 → g.objs.size = s.heap.objs.size + 5 →
    (∀ c o, s.heap.get? c = some o → g.get? c = some o) → Q (.ref (s.heap.objs.size + 4)) { s with heap := g }) : wpAny (model prog w) A (call (.type "zip") [.ref l, .ref m]) Q E s := by
  refine callType_new F.called_zip (by decide) (F.typeCall_zip_2 _ _) (F.newCall_zip_2 _ _) (fun obj => F.args_object_init_3 obj _ _) F.entry_zip_new (newZ_LT l m xs ys) ⟨h1, h2, ?_⟩
  obtain ⟨n4, f5, f3, f4, f1, f2, n5, kp⟩ := zh_facts (t := "list_iterator") (u := "tuple_iterator") s.heap l m
  rw [n4]
  exact ⟨⟨_, f5, rfl⟩, fin _ f5 f3 f4 ⟨_, f1, rfl, rfl⟩ ⟨_, f2, rfl, rfl⟩ n5 kp⟩
theorem callZ_TL (h1 : s.heap.IsTuple l xs) (h2 : s.heap.IsList m ys) (fin : ∀ g, IsZip g (s.heap.objs.size + 4) (s.heap.objs.size + 2) (s.heap.objs.size + 3) .none → PySem.IsPair g (s.heap.objs.size + 2) (.ref s.heap.objs.size) (.ref (s.heap.objs.size + 1)) → PySem.IsPair g (s.heap.objs.size + 3) .none .none → g.IsTupleIter s.heap.objs.size l 0 → g.IsListIter (s.heap.objs.size + 1) m 0 → g.objs.size = s.heap.objs.size + 5 →
    (∀ c o, s.heap.get? c = some o → g.get? c = some o) → Q (.ref (s.heap.objs.size + 4)) { s with heap := g }) : wpAny (model prog w) A (call (.type "zip") [.ref l, .ref m]) Q E s := by
  refine callType_new F.called_zip (by decide) (F.typeCall_zip_2 _ _) (F.newCall_zip_2 _ _) (fun obj => F.args_object_init_3 obj _ _) F.entry_zip_new (newZ_TL l m xs ys) ⟨h1, h2, ?_⟩
  obtain ⟨n4, f5, f3, f4, f1, f2, n5, kp⟩ := zh_facts (t := "tuple_iterator") (u := "list_iterator") s.heap l m
  rw [n4]
  exact ⟨⟨_, f5, rfl⟩, fin _ f5 f3 f4 ⟨_, f1, rfl, rfl⟩ ⟨_, f2, rfl, rfl⟩ n5 kp⟩
end
def ItzX (q1 q2 : Hp → List V → Prop) : It :=
  ⟨fun i H => ∃ (xs ys : List V) (x y : V), q1 H xs ∧ q2 H ys ∧ xs[i]? = some x ∧ ys[i]? = some y, fun i H v H' => ∃ T x y, v = .ref T ∧ H T = none ∧ H' = upd H T (.tup [x, y]) ∧ (∀ xs, q1 H xs → xs[i]? = some x) ∧ ∀ ys, q2 H ys → ys[i]? = some y,
    fun i H => ∃ xs ys : List V, q1 H xs ∧ q2 H ys ∧ (xs.length ≤ i ∨ ys.length ≤ i)⟩
structure Src (l i : Addr) (q : PySem.W.Frag → Hp → List V → Prop) (S : Heap → Nat → Prop) (R : Array Value → Heap → Prop) : Prop where
  leg : ∀ {prog : Program} {w : World} {xs : Array Value}, Leg prog w i l xs S (R xs)
  at_ : ∀ {X : Cx} {pins : List (Addr × Obj)} {σ : L2.St} {H : Hp} {s : Shared} {xs : List V}, L2.Inv X pins σ H s → q X.K H xs → ∃ us : List Value, Vals xs us ∧ R us.toArray s.heap
  inj : ∀ {X : Cx} {pins : List (Addr × Obj)} {σ : L2.St} {H : Hp} {s : Shared} {xs ys : List V}, L2.Inv X pins σ H s → q X.K H xs → q X.K H ys → xs = ys
  obj : ∀ {h : Heap} {k : Nat}, S h k → ∃ o, h.get? i = some o ∧ ∀ v, o.data ≠ .cell v
  lt : ∀ {h : Heap} {k : Nat}, S h k → i < h.objs.size
theorem Src.list {l i : Addr} : Src l i (fun K H xs => SqL K H l xs) (fun h k => h.IsListIter i l k) (fun xs h => h.IsList l xs) :=
  ⟨Leg.list, fun I h => by obtain ⟨us, r, pl, _⟩ := I.list h; exact ⟨us, r, pl.isList⟩, fun I a b => I.list_inj a b, fun ⟨o, e, _, d⟩ => ⟨o, e, fun v q => by rw [d] at q; cases q⟩, fun ⟨_, e, _⟩ => Heap.lt_size e⟩
theorem Src.tup {l i : Addr} : Src l i (fun K H xs => SqT K H l xs) (fun h k => h.IsTupleIter i l k) (fun xs h => h.IsTuple l xs) :=
  ⟨Leg.tup, fun I h => by obtain ⟨us, r, pl, _⟩ := I.tuple h; exact ⟨us, r, pl⟩, fun I a b => I.tuple_inj a b, fun ⟨o, e, _, d⟩ => ⟨o, e, fun v q => by rw [d] at q; cases q⟩, fun ⟨_, e, _⟩ => Heap.lt_size e⟩
theorem five {z T O i j c : Addr} (h : c ∈ [z, T, O, i, j]) : c = z ∨ c = T ∨ c = O ∨ c = i ∨ c = j := by simpa using h
theorem turn_zipX {P : Program} {w : World} {K : PySem.W.Frag} {elts : List Expr} {kk : Nat} {tpos : Pos} {l m z T O i j : Addr} {q1 q2 : PySem.W.Frag → Hp → List V → Prop} {S1 S2 : Heap → Nat → Prop} {R1 R2 : Array Value → Heap → Prop} (A1 : Src l i q1 S1 R1) (A2 : Src m j q2 S2 R2) (D : ZipApart z T O i j l m) :
    L2.Turn P w K (.Tuple elts kk tpos) (ItzX (q1 K) (q2 K)) [z, T, O, i, j] z (fun k h => IsZip h z T O .none ∧ PySem.IsPair h T (.ref i) (.ref j) ∧ (∃ x y, PySem.IsPair h O x y) ∧ S1 h k ∧ S2 h k) where
  mem := List.mem_cons_self ..
  obj := fun k h ⟨hz, hT, ⟨x, y, hO⟩, t1, t2⟩ c hc => by
    rcases five hc with rfl | rfl | rfl | rfl | rfl
    · exact ⟨_, hz, fun v => nofun⟩
    · exact ⟨_, hT, fun v => nofun⟩
    · exact ⟨_, hO, fun v => nofun⟩
    · exact A1.obj t1
    · exact A2.obj t2
  keep := fun k h g ⟨hz, hT, ⟨x, y, hO⟩, t1, t2⟩ kp => ⟨kp z (by simp) _ hz, kp T (by simp) _ hT, ⟨x, y, kp O (by simp) _ hO⟩, (A1.leg (prog := P) (w := w) (xs := #[])).its t1 fun o => kp i (by simp) o, (A2.leg (prog := P) (w := w) (xs := #[])).its t2 fun o => kp j (by simp) o⟩
  item := by
    rintro X rfl rfl rfl hc k pins s σ H E I hf ⟨hz, hT, ⟨x0, y0, hO⟩, t1, t2⟩ ⟨xs, ys, x, y, hqx, hqy, hx, hy⟩
    obtain ⟨us, ru, p1⟩ := A1.at_ I hqx
    obtain ⟨ws, rw_, p2⟩ := A2.at_ I hqy
    obtain ⟨u, hu, r1⟩ := ru.get hx
    obtain ⟨v, hv, r2⟩ := rw_.get hy
    have zl : z < s.heap.objs.size := Heap.lt_size hz
    refine nextZ_item A1.leg A2.leg D hz hT hO t1 t2 p1 p2 (x := u) (y := v) (by simpa using hu) (by simpa using hv) fun g z1 O1 u1 u2 hN sz kp => ⟨_, rfl, wpAny_letOwnedTupleGo_zip (s := { s with heap := g }) z1 fun g2 z2 sb => ?_⟩
    have N2 : g2.get? s.heap.objs.size = some { cls := .type "tuple", data := .seq #[u, v] } := (sb.2 _ (Nat.ne_of_gt zl)).trans hN
    have new : ObjOk X.prog X.w (upd H s.heap.objs.size (.tup [x, y])) g2 s.heap.objs.size (.tup [x, y]) := ⟨by show 2 ≤ sizeLine; decide, [u, v], .cons r1 (.cons r2 .nil), ⟨_, N2, rfl, _, rfl⟩⟩
    have out : ∀ c, c ∉ [z, T, O, i, j] → c ≠ z ∧ c ≠ T ∧ c ≠ O ∧ c ≠ i ∧ c ≠ j := fun c h => by simpa using h
    have J : L2.Inv X pins σ (upd H s.heap.objs.size (.tup [x, y])) { s with heap := g2 } := I.turnedNew (t' := s.toks) (ch := [z, T, O, i, j]) (fun c o hb e => (sb.2 c (out c hb).1).trans (kp c o (out c hb).1 (out c hb).2.2.1 (out c hb).2.2.2.1 (out c hb).2.2.2.2 e)) hf (Nat.le_refl _) new
    refine ⟨.ref s.heap.objs.size, _, J, rfl, ⟨_, x, y, rfl, I.hok.fresh (Nat.le_refl _), rfl, fun a ha => by rw [A1.inj I ha hqx]; exact hx, fun a ha => by rw [A2.inj I ha hqy]; exact hy⟩, ⟨z2, (sb.2 _ D.TIz).trans (kp _ _ D.TIz D.TITO D.TIi1 D.TIi2 hT), ⟨u, v, (sb.2 _ D.TOz).trans O1⟩, ?_, ?_⟩, fun c hcm => ?_⟩
    · exact (A1.leg (prog := X.prog) (w := X.w) (xs := #[])).its u1 fun o e => (sb.2 _ D.i1z).trans e
    · exact (A2.leg (prog := X.prog) (w := X.w) (xs := #[])).its u2 fun o e => (sb.2 _ D.i2z).trans e
    · have lt : c < s.heap.objs.size := by
        rcases five hcm with rfl | rfl | rfl | rfl | rfl
        · exact zl
        · exact Heap.lt_size hT
        · exact Heap.lt_size hO
        · exact A1.lt t1
        · exact A2.lt t2
      rw [upd_ne (Nat.ne_of_lt lt)]
      exact (hf c hcm).1
  done := by
    rintro X rfl rfl rfl hc k pins s σ H E I hf ⟨hz, hT, ⟨x0, y0, hO⟩, t1, t2⟩ ⟨xs, ys, hqx, hqy, en⟩
    obtain ⟨us, ru, p1⟩ := A1.at_ I hqx
    obtain ⟨ws, rw_, p2⟩ := A2.at_ I hqy
    have l1 := ru.length
    have l2 := rw_.length
    have he : us.toArray[k]? = none ∨ ws.toArray[k]? = none := en.imp (fun h => by simp; omega) fun h => by simp; omega
    have out : ∀ c, c ∉ [z, T, O, i, j] → c ≠ z ∧ c ≠ T ∧ c ≠ O ∧ c ≠ i ∧ c ≠ j := fun c h => by simpa using h
    exact nextZ_end (I.ok.hd hc) A1.leg A2.leg D hz hT hO t1 t2 p1 p2 he fun g kp => ⟨rfl, I.turnedL (t' := s.toks) (ch := [z, T, O, i, j]) (fun c o hb e => kp c o (out c hb).1 (out c hb).2.2.1 (out c hb).2.2.2.1 (out c hb).2.2.2.2 e) hf⟩
  self := fun A k s Q E st h => wpAny_pyIter_zip st.1 h
def iZipX (K : PySem.W.Frag) (ta : TA) : TI := fun σ H R => ta σ H fun vs H1 => ∃ a b xs ys, vs = [.ref a, .ref b] ∧ ((SqL K H1 a xs ∧ SqL K H1 b ys ∧ R (Itz K a b) H1) ∨ (SqT K H1 a xs ∧ SqT K H1 b ys ∧ R (RZ.ItzT K a b) H1) ∨
  (SqL K H1 a xs ∧ SqT K H1 b ys ∧ R (ItzX (fun H xs => SqL K H a xs) (fun H xs => SqT K H b xs)) H1) ∨ (SqT K H1 a xs ∧ SqL K H1 b ys ∧ R (ItzX (fun H xs => SqT K H a xs) (fun H xs => SqL K H b xs)) H1))
theorem pi_zipX {X : Cx} {e e2 : Expr} {ta : TA} {p pos tpos : Pos} {elts : List Expr} {kk : Nat} (hg : Gl X "zip") (hm : X.mg "zip" = none) (ha : PA X [e, e2] ta) (hs : starEach [e, e2] X.env = (false, eval e X.env) :: starEach [e2] X.env := by rfl) (hpl : (backTo pos (starEach [e2] X.env)).any (·.1) = false := by rfl) :
    PI X (.Tuple elts kk tpos) (.Call (.Name "zip" p) [e, e2] [] pos) (iZipX X.K ta) := by
  refine ⟨fun pins s σ H R I h => Call_ (ld_blt I hg hm PyProof.Rows.boot_zip (PyProof.Rows.callWith_type1 (thn (ha.run pos pins s σ H _ I h) fun us s1 ⟨vs, H1, I1, r1, q1⟩ => ?_) hs hpl))⟩
  obtain ⟨a, b, xs, ys, rfl, q1⟩ := q1
  obtain ⟨u1, u2, rfl, rr1, rr2⟩ := vals2 r1
  cases rr1
  cases rr2
  have fr : ∀ c, c ∈ [s1.heap.objs.size + 4, s1.heap.objs.size + 2, s1.heap.objs.size + 3, s1.heap.objs.size, s1.heap.objs.size + 1] → L2.FpOk X pins H1 c := fun c hcm => by
    have le : s1.heap.objs.size ≤ c := by rcases five hcm with rfl | rfl | rfl | rfl | rfl <;> omega
    exact I1.fpOk le (I1.hok.fresh le)
  rcases q1 with ⟨hx, hy, q⟩ | ⟨hx, hy, q⟩ | ⟨hx, hy, q⟩ | ⟨hx, hy, q⟩
  · obtain ⟨i1, v1, p1, _⟩ := I1.list hx
    obtain ⟨i2, v2, p2, _⟩ := I1.list hy
    exact call_zip_2 p1.isList p2.isList fun g hz hT hO t1 t2 _ kp => wpAny_pyIter_zip hz ⟨_, _, _, _, H1, rfl, I1.kept (t' := s1.toks) kp, turn_zip (PySem.W.ktu_apart s1.heap.objs.size a b p1.lt p2.lt), ⟨hz, hT, ⟨_, _, hO⟩, t1, t2⟩, fr, q⟩
  · obtain ⟨i1, v1, p1, _⟩ := I1.tuple hx
    obtain ⟨i2, v2, p2, _⟩ := I1.tuple hy
    have l1 : a < s1.heap.objs.size := by obtain ⟨o, e, _⟩ := p1; exact Heap.lt_size e
    have l2 : b < s1.heap.objs.size := by obtain ⟨o, e, _⟩ := p2; exact Heap.lt_size e
    exact RZ.call_zipT p1 p2 fun g hz hT hO t1 t2 _ kp => wpAny_pyIter_zip hz ⟨_, _, _, _, H1, rfl, I1.kept (t' := s1.toks) kp, RZ.turn_zipT (PySem.W.ktu_apart s1.heap.objs.size a b l1 l2), ⟨hz, hT, ⟨_, _, hO⟩, t1, t2⟩, fr, q⟩
  · obtain ⟨i1, v1, p1, _⟩ := I1.list hx
    obtain ⟨i2, v2, p2, _⟩ := I1.tuple hy
    have l2 : b < s1.heap.objs.size := by obtain ⟨o, e, _⟩ := p2; exact Heap.lt_size e
    exact callZ_LT p1.isList p2 fun g hz hT hO t1 t2 _ kp => wpAny_pyIter_zip hz ⟨_, _, _, _, H1, rfl, I1.kept (t' := s1.toks) kp, turn_zipX (q1 := fun K H xs => SqL K H a xs) (q2 := fun K H xs => SqT K H b xs) Src.list Src.tup (PySem.W.ktu_apart s1.heap.objs.size a b p1.lt l2), ⟨hz, hT, ⟨_, _, hO⟩, t1, t2⟩, fr, q⟩
  · obtain ⟨i1, v1, p1, _⟩ := I1.tuple hx
    obtain ⟨i2, v2, p2, _⟩ := I1.list hy
    have l1 : a < s1.heap.objs.size := by obtain ⟨o, e, _⟩ := p1; exact Heap.lt_size e
    exact callZ_TL p1 p2.isList fun g hz hT hO t1 t2 _ kp => wpAny_pyIter_zip hz ⟨_, _, _, _, H1, rfl, I1.kept (t' := s1.toks) kp, turn_zipX (q1 := fun K H xs => SqT K H a xs) (q2 := fun K H xs => SqL K H b xs) Src.tup Src.list (PySem.W.ktu_apart s1.heap.objs.size a b l1 p2.lt), ⟨hz, hT, ⟨_, _, hO⟩, t1, t2⟩, fr, q⟩
end Fm

set_option maxHeartbeats 2000000
namespace Fm
open PySem PySem.Spec PyProof.Rows L2
section
variable {prog : Program} {w : World} {A : Around} {E : Value → Shared → Prop} {s : Shared} {e j l : Addr} {p : Nat} {xs : Array Value} {x old : Value} {S1 : Heap → Nat → Prop} {R1 : Heap → Prop}
end
end Fm
namespace Fm
open PySem PySem.Spec PyProof.Rows L2
end Fm
namespace Fm
open PySem PySem.Spec PyProof.Rows L2
section
variable {prog : Program} {w : World} {A : Around} {E : Value → Shared → Prop} {s : Shared}
end
end Fm

set_option maxHeartbeats 2000000
namespace Fm
open PySem PySem.Spec PyProof.Rows L2
def Dt.seq (d : Dt) (l : List Dt) : Prop := d = .lst l ∨ d = .tup l
section
variable {G : Gs} {E : XK} {K : PySem.W.Frag}
structure Rd1 (G : Gs) (q : Hp → List V → Prop) (vs : List V) (l : List Dt) (Hc : Hp) : Prop where
  has : ∀ Y H, Ex Hc (cut Y H) → q H vs
  dv : DtVs G Hc vs l
theorem Rd1.list {p : Addr} {vs : List V} {l : List Dt} {Hc : Hp} (h : Hc p = some (.lst vs)) (r : DtVs G Hc vs l) : Rd1 G (fun H xs => SqL K H p xs) vs l Hc := ⟨fun Y H e => SqL.of (cut_some.mp (e _ _ h)).2, r⟩
theorem Rd1.tup {p : Addr} {vs : List V} {l : List Dt} {Hc : Hp} (h : Hc p = some (.tup vs)) (r : DtVs G Hc vs l) : Rd1 G (fun H xs => SqT K H p xs) vs l Hc := ⟨fun Y H e => SqT.of (cut_some.mp (e _ _ h)).2, r⟩
theorem Wk.zipQ {q1 q2 : Hp → List V → Prop} {vs ws : List V} {l m : List Dt} {Hc : Hp} {J : It} (a : Rd1 G q1 vs l Hc) (b : Rd1 G q2 ws m Hc)
    (hg : ∀ i H, (∃ (xs ys : List V) (x y : V), q1 H xs ∧ q2 H ys ∧ xs[i]? = some x ∧ ys[i]? = some y) → J.go i H) (hs : ∀ i H, (∃ xs ys : List V, q1 H xs ∧ q2 H ys ∧ (xs.length ≤ i ∨ ys.length ≤ i)) → J.stop i H)
    (hy : ∀ i H v H', J.yld i H v H' → ∃ T x y, v = .ref T ∧ H T = none ∧ H' = upd H T (.tup [x, y]) ∧ (∀ xs, q1 H xs → xs[i]? = some x) ∧ ∀ ys, q2 H ys → ys[i]? = some y) : Wk G J ((l.zip m).map fun e => Dt.tup [e.1, e.2]) Hc where
  go := fun i Y H e hi => by
    rw [List.length_map, List.length_zip] at hi
    have hl : i < vs.length := by rw [a.dv.length]; omega
    have hl2 : i < ws.length := by rw [b.dv.length]; omega
    exact hg i H ⟨vs, ws, vs[i], ws[i], a.has Y H e, b.has Y H e, List.getElem?_eq_getElem hl, List.getElem?_eq_getElem hl2⟩
  stop := fun Y H e => hs _ H ⟨vs, ws, a.has Y H e, b.has Y H e, by rw [List.length_map, List.length_zip, a.dv.length, b.dv.length]; omega⟩
  yld := fun i Y H x H' d e hY y hd => by
    obtain ⟨T, y, z, rfl, hT, rfl, hx, hz⟩ := hy i H x H' y
    rw [List.getElem?_map] at hd
    cases hl : (l.zip m)[i]? with
    | none => rw [hl] at hd; cases hd
    | some d0 =>
      rw [hl] at hd
      injection hd with hd
      subst hd
      obtain ⟨k1, k2⟩ := List.getElem?_zip_eq_some.mp hl
      obtain ⟨v, hv, dv⟩ := a.dv.atR k1
      obtain ⟨w, hw, dw⟩ := b.dv.atR k2
      have a1 := hx vs (a.has Y H e)
      have a2 := hz ws (b.has Y H e)
      rw [hv] at a1; rw [hw] at a2
      cases a1; cases a2
      exact ⟨Ex.new hT, .tup (cut_some.mpr ⟨fun w => hY T w hT, upd_same⟩) (.cons ((dv.mono e).mono (cut_grow (Ex.new hT))) (.cons ((dw.mono e).mono (cut_grow (Ex.new hT))) .nil))⟩
abbrev F_zipX (A : FA) : FI := fun ρ K X => A ρ (fun ds ρ' => ∃ d1 d2 l m, ds = [d1, d2] ∧ d1.seq l ∧ d2.seq m ∧ K ((l.zip m).map fun e => Dt.tup [e.1, e.2]) ρ') X
theorem PUI.zipX {t : TA} {A : FA} (a : PUA G E t A) : PUI G E (iZipX K t) (F_zipX A) where
  run := fun S h => a.run S (a.mono (fun ds ρ' ⟨d1, d2, l, m, hd, s1, s2, k⟩ v H' S' e hv => by
    subst hd
    cases hv with
    | cons h1 r => cases r with
      | cons h2 r =>
        cases r
        rcases s1 with rfl | rfl <;> rcases s2 with rfl | rfl
        · cases h1 with
          | lst hp r => cases h2 with
            | lst hp2 r2 => exact ⟨_, _, _, _, rfl, .inl ⟨SqL.of (cut_some.mp hp).2, SqL.of (cut_some.mp hp2).2, k _ H' S' e (Wk.zipQ (Rd1.list (K := K) hp r) (Rd1.list (K := K) hp2 r2) (fun _ _ h => h) (fun _ _ h => h) fun _ _ _ _ h => h)⟩⟩
        · cases h1 with
          | lst hp r => cases h2 with
            | tup hp2 r2 => exact ⟨_, _, _, _, rfl, .inr (.inr (.inl ⟨SqL.of (cut_some.mp hp).2, SqT.of (cut_some.mp hp2).2, k _ H' S' e (Wk.zipQ (Rd1.list (K := K) hp r) (Rd1.tup (K := K) hp2 r2) (fun _ _ h => h) (fun _ _ h => h) fun _ _ _ _ h => h)⟩))⟩
        · cases h1 with
          | tup hp r => cases h2 with
            | lst hp2 r2 => exact ⟨_, _, _, _, rfl, .inr (.inr (.inr ⟨SqT.of (cut_some.mp hp).2, SqL.of (cut_some.mp hp2).2, k _ H' S' e (Wk.zipQ (Rd1.tup (K := K) hp r) (Rd1.list (K := K) hp2 r2) (fun _ _ h => h) (fun _ _ h => h) fun _ _ _ _ h => h)⟩))⟩
        · cases h1 with
          | tup hp r => cases h2 with
            | tup hp2 r2 => exact ⟨_, _, _, _, rfl, .inr (.inl ⟨SqT.of (cut_some.mp hp).2, SqT.of (cut_some.mp hp2).2, k _ H' S' e (Wk.zipQ (Rd1.tup (K := K) hp r) (Rd1.tup (K := K) hp2 r2) (fun _ _ h => h) (fun _ _ h => h) fun _ _ _ _ h => h)⟩)⟩) (fun _ x => x) h)
  mono := fun m x h => a.mono (fun _ _ ⟨d1, d2, l, n, hd, s1, s2, k⟩ => ⟨d1, d2, l, n, hd, s1, s2, m _ _ k⟩) x h
end
end Fm

set_option maxHeartbeats 2000000
namespace Fm
open PySem PySem.Spec PyProof.Rows L2
def Dt.tag : Dt → Da
  | .non => .non
  | .bl b => .bl b
  | .int i => .int i
  | .str s => .str s
  | .rat q => .rat q
  | .lst _ => .lst []
  | .tup _ => .tup []
  | .dic _ => .dic []
  | .scl _ => .non
def Dt.isLT : Dt → Bool
  | .lst _ => true
  | .tup _ => true
  | _ => false
def Dt.isRat : Dt → Bool
  | .rat _ => true
  | _ => false
def Dt.isLst : Dt → Bool
  | .lst _ => true
  | _ => false
def Dt.isDic : Dt → Bool
  | .dic _ => true
  | _ => false
section
variable {G : Gs} {E : XK} {K : PySem.W.Frag}
theorem Dt.tag_ty {d : Dt} (h : d.kind = true) : d.ty G = d.tag.ty G.R := by cases d <;> first | rfl | cases h
def onKind (g : Dt → Bool) (d : Dt) : Option Bool := if d.kind = true then some (g d) else none
theorem onKind_some {g : Dt → Bool} {d : Dt} {b : Bool} (h : onKind g d = some b) : d.kind = true ∧ g d = b := by
  unfold onKind at h
  by_cases hk : d.kind = true
  · rw [if_pos hk] at h; exact ⟨hk, by simpa using h⟩
  · rw [if_neg hk] at h; cases h
theorem onKind_of {g : Dt → Bool} {d : Dt} (h : d.kind = true) : onKind g d = some (g d) := by unfold onKind; rw [if_pos h]
theorem PU.isLT {t : TE} {A : FE} (R : RC K G.R) (R2 : RC2 K G.R) (a : PU G E t A) : PU G E (tCB (rIsiT K) (tCons t (tCons (tTup (tCons (tC (.ty "list")) (tCons (tC (.ty "tuple")) tNil))) tNil))) (F_isi (onKind Dt.isLT) A) :=
  PU.isiT (.ty _) (.ty _) (fun H v d b hv hb => by
    obtain ⟨hk, rfl⟩ := onKind_some hb
    refine ⟨_, hv.tyk R hk, ?_⟩
    rw [Dt.tag_ty hk, kit_lt R2]
    cases d <;> first | rfl | cases hk) a
theorem PU.isRat {t : TE} {A : FE} (R : RC K G.R) (a : PU G E t A) : PU G E (tCB (rIsi K) (tCons t (tCons (tC (.ref G.R)) tNil))) (F_isi (onKind Dt.isRat) A) :=
  PU.isi (.own _) (fun H v d b hv hb => by
    obtain ⟨hk, rfl⟩ := onKind_some hb
    refine ⟨_, hv.tyk R hk, ?_⟩
    rw [Dt.tag_ty hk, kit_rat R]
    cases d <;> first | (simp [Dt.tag, Da.ty, Dt.isRat]; done) | cases hk) a
theorem PU.isLst {t : TE} {A : FE} (R : RC K G.R) (R2 : RC2 K G.R) (a : PU G E t A) : PU G E (tCB (rIsi K) (tCons t (tCons (tC (.ty "list")) tNil))) (F_isi (onKind Dt.isLst) A) :=
  PU.isi (.ty _) (fun H v d b hv hb => by
    obtain ⟨hk, rfl⟩ := onKind_some hb
    refine ⟨_, hv.tyk R hk, ?_⟩
    rw [Dt.tag_ty hk, kit_lst R2]
    cases d <;> first | rfl | cases hk) a
theorem PU.isDic {t : TE} {A : FE} (R : RC K G.R) (R2 : RC2 K G.R) (a : PU G E t A) : PU G E (tCB (rIsi K) (tCons t (tCons (tC (.ty "dict")) tNil))) (F_isi (onKind Dt.isDic) A) :=
  PU.isi (.ty _) (fun H v d b hv hb => by
    obtain ⟨hk, rfl⟩ := onKind_some hb
    refine ⟨_, hv.tyk R hk, ?_⟩
    rw [Dt.tag_ty hk, kit_dic R2]
    cases d <;> first | rfl | cases hk) a
structure RC4 (K : PySem.W.Frag) (C : Addr) : Prop where
  bl : PySem.W.subIn K (.ref C) (.type "bool") = some false
mutual
def Dt.py : Dt → Option PyData
  | .non => some .none
  | .bl b => some (.bool b)
  | .int i => some (.int i)
  | .str s => some (.str s)
  | .lst l => (pyL l).map PyData.list
  | .tup l => (pyL l).map PyData.tuple
  | _ => none
def pyL : List Dt → Option (List PyData)
  | [] => some []
  | d :: r => match d.py, pyL r with
    | some x, some y => some (x :: y)
    | _, _ => none
end
mutual
theorem DtV.dp {H : Hp} : ∀ {v : V} {d : Dt} {y : PyData}, DtV G H v d → d.py = some y → Dp K H v y
  | _, _, _, .non, h => by unfold Dt.py at h; cases h; exact .non
  | _, _, _, .bl b, h => by unfold Dt.py at h; cases h; exact .bl b
  | _, _, _, .int i, h => by unfold Dt.py at h; cases h; exact .int i
  | _, _, _, .str s, h => by unfold Dt.py at h; cases h; exact .str s
  | _, _, _, .rat _, h => by unfold Dt.py at h; cases h
  | _, _, _, .lst hp r, h => by
    unfold Dt.py at h
    cases e : pyL _ with
    | none => rw [e] at h; cases h
    | some ys => rw [e] at h; cases h; exact .lst (SqL.of hp) (DtVs.dp r e)
  | _, _, _, .tup hp r, h => by
    unfold Dt.py at h
    cases e : pyL _ with
    | none => rw [e] at h; cases h
    | some ys => rw [e] at h; cases h; exact .tup (SqT.of hp) (DtVs.dp r e)
  | _, _, _, .dic _ _, h => by unfold Dt.py at h; cases h
  | _, _, _, .scl _ _ _, h => by unfold Dt.py at h; cases h
theorem DtVs.dp {H : Hp} : ∀ {vs : List V} {ds : List Dt} {ys : List PyData}, DtVs G H vs ds → pyL ds = some ys → DpAll K H vs ys
  | _, _, _, .nil, h => by unfold pyL at h; cases h; exact .nil
  | _, _, _, .cons h1 r, h => by
    unfold pyL at h
    split at h
    · rename_i x y e1 e2
      cases h
      exact .cons (DtV.dp h1 e1) (DtVs.dp r e2)
    · cases h
end
abbrev O_eqD (ne : Bool) : O2 := fun d e K => ∃ x y, d.py = some x ∧ e.py = some y ∧ SeqAt.shaped x = true ∧ SeqAt.shaped y = true ∧ K (.bl (if ne = true then !PyData.eqv x y else PyData.eqv x y))
theorem RD.neD : RD G (rNeD K) (O_eqD true) where
  run := fun hx h1 h2 ⟨x, y, e1, e2, s1, s2, k⟩ => ⟨x, y, DtV.dp h1.whole e1, DtV.dp h2.whole e2, s1, s2, k _ _ (Ex.refl _) (.bl _)⟩
  mono := fun m ⟨x, y, e1, e2, s1, s2, k⟩ => ⟨x, y, e1, e2, s1, s2, m _ k⟩
end
end Fm

set_option maxHeartbeats 2000000
namespace Fm
open PySem PySem.Spec PyProof.Rows L2
def Dt.items : Dt → List Dt
  | .lst l => l
  | .tup l => l
  | _ => []
def Dt.numsB (d : Dt) : Bool := d.isLT && d.items.all Dt.isNum
theorem Dt.seq_items {d : Dt} {l : List Dt} (h : d.seq l) : d.items = l ∧ d.isLT = true := by rcases h with rfl | rfl <;> exact ⟨rfl, rfl⟩
theorem Dt.seq_of {d : Dt} (h : d.isLT = true) : d.seq d.items := by cases d <;> first | exact .inl rfl | exact .inr rfl | cases h
structure Dt.Ok (k : Nat) (d : Dt) : Prop where
  kd : d.kind = true
  ik : ∀ x ∈ d.items, x.kind = true
  len : d.items.length ≤ 1000
  sz : ∀ x ∈ d.items, Sz k x.num
def nums (l : List Dt) : List Rat := l.map Dt.num
def fdNums : FD where
  pre := fun ds => ∃ d, ds = [d] ∧ d.kind = true ∧ (∀ x ∈ d.items, x.kind = true) ∧ d.items.length ≤ 1000
  post := fun ds r => ∃ d, ds = [d] ∧ r = .bl d.numsB
theorem sumR_nil : sumR [] = 0 := rfl
theorem sumR_snoc (l : List Rat) (q : Rat) : sumR (l ++ [q]) = sumR l + q := by unfold sumR; rw [List.foldl_append]; rfl
theorem foldl_sz {k : Nat} : ∀ (l : List Rat) (acc : Rat) (c : Nat), Sz c acc → (∀ q ∈ l, Sz k q) → Sz ((k + 1) * l.length + c) (l.foldl (· + ·) acc)
  | [], acc, c, h, _ => by simpa using h
  | q :: l, acc, c, h, hq => by
    refine sz_le' (foldl_sz l (acc + q) (c + k + 1) (h.add' (hq q (by simp))) fun x hx => hq x (List.mem_cons_of_mem _ hx)) ?_
    rw [List.length_cons, Nat.mul_succ]
    omega
theorem sumR_sz {k : Nat} (l : List Rat) (h : ∀ q ∈ l, Sz k q) : Sz ((k + 1) * l.length + 1) (sumR l) := foldl_sz l 0 1 (Sz.zero (by omega)) h
def fdTotal : FD where
  pre := fun ds => ∃ d l k, ds = [d] ∧ d.seq l ∧ l.all Dt.isNum = true ∧ (∀ x ∈ l, Sz k x.num) ∧ (k + 1) * (l.length + 1) ≤ 3000
  post := fun ds r => ∃ d l, ds = [d] ∧ d.seq l ∧ r = .rat (sumR (nums l))
def dotR (ps qs : List Rat) : Rat := sumR ((ps.zip qs).map fun e => e.1 * e.2)
def fdWeighed : FD where
  pre := fun ds => ∃ d e l m k, ds = [d, e] ∧ d.seq l ∧ e.seq m ∧ l.all Dt.isNum = true ∧ m.all Dt.isNum = true ∧ (∀ x ∈ l, Sz k x.num) ∧ (∀ x ∈ m, Sz k x.num) ∧ (k + k + 1) * (l.length + 1) ≤ 3000
  post := fun ds r => ∃ d e l m, ds = [d, e] ∧ d.seq l ∧ e.seq m ∧ r = .rat (dotR (nums l) (nums m))
theorem allNum_mem {l : List Dt} (h : l.all Dt.isNum = true) {x : Dt} (hx : x ∈ l) : x.isNum = true := List.all_eq_true.mp h x hx
theorem num_kind {d : Dt} (h : d.isNum = true) : d.kind = true := by cases d <;> first | rfl | cases h
theorem len_small {k n : Nat} (h : (k + 1) * (n + 1) ≤ 3000) : n ≤ 3000 := by
  have : n + 1 ≤ (k + 1) * (n + 1) := Nat.le_mul_of_pos_left _ (by omega)
  omega
end Fm
namespace Fm
open PySem PySem.Spec PyProof.Rows L2
def curveB (d : Dt) (n : Nat) : Bool := d.numsB && decide (d.items.length = n)
def lotB (d : Dt) (n : Nat) : Bool := curveB d n && d.items.all (fun x => decide (0 ≤ x.num.num)) && decide (sumR (nums d.items) = 1)
theorem numsB_all {d : Dt} (h : d.numsB = true) : d.seq d.items ∧ d.items.all Dt.isNum = true := by
  unfold Dt.numsB at h
  rw [Bool.and_eq_true] at h
  exact ⟨Dt.seq_of h.1, h.2⟩
theorem curveB_all {d : Dt} {n : Nat} (h : curveB d n = true) : d.seq d.items ∧ d.items.all Dt.isNum = true ∧ d.items.length = n := by
  unfold curveB at h
  rw [Bool.and_eq_true] at h
  exact ⟨(numsB_all h.1).1, (numsB_all h.1).2, of_decide_eq_true h.2⟩
theorem lotB_all {d : Dt} {n : Nat} (h : lotB d n = true) : d.seq d.items ∧ d.items.all Dt.isNum = true ∧ d.items.length = n ∧ (∀ x ∈ d.items, 0 ≤ x.num.num) ∧ sumR (nums d.items) = 1 := by
  unfold lotB at h
  rw [Bool.and_eq_true, Bool.and_eq_true] at h
  obtain ⟨⟨h1, h2⟩, h3⟩ := h
  obtain ⟨a, b, c⟩ := curveB_all h1
  exact ⟨a, b, c, fun x hx => of_decide_eq_true (List.all_eq_true.mp h2 x hx), of_decide_eq_true h3⟩
def fdShares : FD where
  pre := fun ds => ∃ (d : Dt) (n : Nat), ds = [d, .int (n : Int)] ∧ n ≤ 8 ∧ d.Ok 45
  post := fun ds r => ∃ (d : Dt) (n : Nat), ds = [d, .int (n : Int)] ∧ r = .bl (lotB d n)
def fdCurve : FD where
  pre := fun ds => ∃ qs d, ds = [.scl qs, d] ∧ qs.length ≤ 8 ∧ d.Ok 45
  post := fun ds r => ∃ qs d, ds = [.scl qs, d] ∧ r = .bl (curveB d qs.length)
def fdLot : FD where
  pre := fun ds => ∃ qs d, ds = [.scl qs, d] ∧ qs.length ≤ 8 ∧ d.Ok 45
  post := fun ds r => ∃ qs d, ds = [.scl qs, d] ∧ r = .bl (lotB d qs.length)
def fxCheckLot (C : Addr) : FX where
  pre := fun ds => ∃ qs d, ds = [.scl qs, d] ∧ qs.length ≤ 8 ∧ d.Ok 45
  post := fun ds _ => ∃ qs d, ds = [.scl qs, d] ∧ lotB d qs.length = true
  err := fun ds e => ∃ qs d, ds = [.scl qs, d] ∧ lotB d qs.length = false ∧ e = .own C "given" d
def fxCheckCurve (C : Addr) : FX where
  pre := fun ds => ∃ qs d, ds = [.scl qs, d] ∧ qs.length ≤ 8 ∧ d.Ok 45
  post := fun ds _ => ∃ qs d, ds = [.scl qs, d] ∧ curveB d qs.length = true
  err := fun ds e => ∃ qs d, ds = [.scl qs, d] ∧ curveB d qs.length = false ∧ e = .own C "given" d
def Dt.nat : Dt → Nat
  | .int i => i.toNat
  | _ => 0
end Fm
namespace Fm
open PySem PySem.Spec PyProof.Rows L2
theorem seq_arg {d : Dt} {l : List Dt} (h : d.seq l) : [d] = [Dt.lst l] ∨ [d] = [Dt.tup l] := h.imp (fun h => congrArg (fun x => [x]) h) (fun h => congrArg (fun x => [x]) h)
theorem seq_slot {d : Dt} {l : List Dt} (h : d.seq l) : some (Slot.val d) = some (Slot.val (.lst l)) ∨ some (Slot.val d) = some (Slot.val (.tup l)) := h.imp (fun h => congrArg (fun x => some (Slot.val x)) h) (fun h => congrArg (fun x => some (Slot.val x)) h)
theorem ite_b {b : Bool} {A B : Prop} (h1 : b = true → A) (h2 : b = false → B) : if b = true then A else B := g_ite h1 h2
theorem ite_ne {i j : Int} {A B : Prop} (h1 : i ≠ j → A) (h2 : i = j → B) : if (!decide (i = j)) = true then A else B := by
  by_cases h : i = j
  · rw [decide_eq_true h]; exact ite_f (h2 h)
  · rw [decide_eq_false h]; exact ite_t (h1 h)
theorem ite_d {p : Prop} [Decidable p] {A B : Prop} (h1 : p → A) (h2 : ¬ p → B) : if decide p = true then A else B := g_dec h1 h2
theorem seq_inj {d : Dt} {l m : List Dt} (h : d.seq l) (h2 : d.seq m) : l = m := (Dt.seq_items h).1.symm.trans (Dt.seq_items h2).1
end Fm
namespace Fm
open PySem PySem.Spec PyProof.Rows L2
end Fm
namespace Fm
open PySem PySem.Spec PyProof.Rows L2
end Fm

set_option maxHeartbeats 2000000
namespace Fm
open PySem PySem.Spec PyProof.Rows L2
section
variable {G : Gs} {E E2 : XK} {K : PySem.W.Frag}
theorem DtV.scale {H : Hp} {v : V} {qs : List Rat} (h : DtV G H v (.scl qs)) : ∃ p, v = .ref p ∧ ScaleAt G.S G.R H p qs := by
  cases h with
  | scl h hm r => exact ⟨_, rfl, _, _, _, h, hm, r⟩
theorem ScaleAt.dt {H : Hp} {p : Addr} {qs : List Rat} (h : ScaleAt G.S G.R H p qs) : DtV G H (.ref p) (.scl qs) := by
  obtain ⟨dx, m, rs, h1, h2, h3⟩ := h
  exact .scl h1 h2 h3
abbrev F_lenS (A : FE) : FE := fun ρ K X => A ρ (fun d ρ1 => ∃ qs, d = .scl qs ∧ qs.length ≤ 1000 ∧ K (.int (qs.length : Int)) ρ1) X
theorem PU.lenS {t : TE} {A : FE} (a : PU G E t A) : PU G E (tCB (rLenOwn G.S (spLenS G.S G.R) E2) (tCons t tNil)) (F_lenS A) where
  run := fun S h => a.run S (a.mono (fun d ρ1 ⟨qs, hd, hl, k⟩ v H1 S1 e1 hv => by
    subst hd
    obtain ⟨p, rfl, hs⟩ := hv.whole.scale
    obtain ⟨dx, m, rs, h1, h2, h3⟩ := id hs
    refine ⟨p, dx, _, rfl, h1, p, qs, rfl, hs, fun H2 ex => ⟨qs.length, rfl, by omega, k _ H2 (S1.grow ex) (e1.trans (cut_grow ex)) (.int _)⟩⟩) (fun _ x => x) h)
  mono := fun m x h => a.mono (fun _ _ ⟨qs, hd, hl, k⟩ => ⟨qs, hd, hl, m _ _ k⟩) x h
abbrev F_marks (A : FE) : FA := fun ρ K X => A ρ (fun d ρ1 => ∃ qs, d = .scl qs ∧ K (qs.map .rat) ρ1) X
theorem PUF.marks {t : TE} {A : FE} (a : PU G E t A) : PUF G E (tMeth G.S "marks" (spMarksS G.S G.R) [] E2 t tNil) (F_marks A) where
  run := fun S h => a.run S (a.mono (fun d ρ1 ⟨qs, hd, k⟩ v H1 S1 e1 hv => by
    subst hd
    obtain ⟨p, rfl, hs⟩ := hv.whole.scale
    obtain ⟨dx, m, rs, h1, h2, h3⟩ := id hs
    refine ⟨p, dx, _, rfl, h1, marks_no m (by decide +kernel), p, qs, rfl, hs, fun l rs2 H2 hl ex hl2 hr => ?_⟩
    have q1 := S1.outNew hl ex ⟨_, hl2⟩
    refine k l rs2 H2 q1 (e1.trans (newOut_ex hl ex)) (.inr (S1.fresh hl).1) (S1.fresh hl).2.1 hl2 ?_
    refine RatsV.dt (Paired.mapP hr fun v q r => r.out (fun b hb => q1.lstAt hb) (Ex.refl _))) (fun _ x => x) h)
  mono := fun m x h => a.mono (fun _ _ ⟨qs, hd, k⟩ => ⟨qs, hd, m _ _ k⟩) x h
def numDa : Dt → Da
  | .int i => .int i
  | .rat q => .rat q
  | _ => .non
theorem numDa_num {d : Dt} (h : d.isNum = true) : (numDa d).isNum = true ∧ (numDa d).num = d.num := by cases d <;> first | exact ⟨rfl, rfl⟩ | cases h
theorem DtV.numDa {H : Hp} {v : V} {d : Dt} (h : DtV G H v d) (n : d.isNum = true) : DaV G.R H v (Fm.numDa d) := by
  cases h with
  | int i => exact .int i
  | rat h => exact .rat h
  | _ => cases n
theorem DtVs.numDa {H : Hp} : ∀ {vs : List V} {l : List Dt}, DtVs G H vs l → l.all Dt.isNum = true → DaVs G.R H vs (l.map Fm.numDa)
  | _, _, .nil, _ => .nil
  | _, _, .cons h r, n => by
    rw [List.all_cons, Bool.and_eq_true] at n
    exact .cons (h.numDa n.1) (r.numDa n.2)
theorem numDa_fine {d : Dt} (n : d.isNum = true) (s : Sz 1500 d.num) : (numDa d).fine = true := by
  cases d with
  | int i =>
    unfold numDa Da.fine
    have := s.1
    refine decide_eq_true ?_
    show i.natAbs < 2 ^ 1500
    have e : ((Dt.int i).num).num = i := rfl
    rw [e] at this
    exact this
  | rat q =>
    unfold numDa Da.fine
    rw [Bool.and_eq_true]
    exact ⟨decide_eq_true s.1, decide_eq_true s.2⟩
  | _ => cases n
theorem fineL_of {l : List Da} (h : ∀ d ∈ l, d.fine = true) : fineL l = true := by
  induction l with
  | nil => rfl
  | cons d l ih =>
    unfold fineL
    rw [Bool.and_eq_true]
    exact ⟨h d (by simp), ih fun x hx => h x (List.mem_cons_of_mem _ hx)⟩
theorem numDa_nums {l : List Dt} (h : l.all Dt.isNum = true) : (l.map numDa).all Da.isNum = true ∧ (l.map numDa).map Da.num = nums l := by
  constructor
  · rw [List.all_map]
    exact List.all_eq_true.mpr fun x hx => (numDa_num (allNum_mem h hx)).1
  · unfold nums
    rw [List.map_map]
    exact List.map_congr_left fun x hx => (numDa_num (allNum_mem h hx)).2
abbrev F_mkS (A : FA) : FE := fun ρ K X => A ρ (fun ds ρ1 => ∃ d l, ds = [d] ∧ d.seq l ∧ l.all Dt.isNum = true ∧ (∀ x ∈ l, Sz 200 x.num) ∧ 1 ≤ l.length ∧ l.length ≤ 8 ∧ (nums l).Nodup ∧ K (.scl (isort (nums l))) ρ1) X
theorem PU.mkS {t : TA} {A : FA} {B : Addr} (a : PUA G E t A) : PU G E (tMake G.S (spScaleInit G.S G.R B) [] E2 t) (F_mkS A) where
  run := fun {f σ H ρ Q} S h => a.run S (a.mono (fun ds ρ1 ⟨d, l, hd, hs, hn, hz, l1, l8, nd, k⟩ vs H1 S1 e1 hv => by
    subst hd
    cases hv with
    | cons hv r =>
      cases r
      intro x dx hx hdx hne
      have ex0 : Ex H1 (upd (upd H1 dx (.own x)) x (.ins G.S dx [])) := fun b o hb => by
        rw [upd_ne (ne_of_none hb hx), upd_ne (ne_of_none hb hdx)]; exact hb
      obtain ⟨n1, n2⟩ := numDa_nums hn
      have fl : fineL (l.map numDa) = true := fineL_of fun d hd => by
        obtain ⟨y, hy, rfl⟩ := List.mem_map.mp hd
        exact numDa_fine (allNum_mem hn hy) (sz_le' (hz y hy) (by decide))
      have clb : climbB (isort (nums l)) = true := (dst_climb (nums l)).1.mp (by rw [dst_isort nd, isort_len]; exact Nat.le_refl _)
      have val : ∀ (da : Da), (da = .lst (l.map numDa) ∨ da = .tup (l.map numDa)) → ValsOf da (isort (nums l)) := fun da hda => ⟨_, hda, n1, by rw [List.length_map]; exact l1, by rw [List.length_map]; exact l8, by rw [n2], clb⟩
      have fin : ∀ (v : V) (da : Da), (da = .lst (l.map numDa) ∨ da = .tup (l.map numDa)) → da.fine = true → DaV G.R H1 v da → spScaleInit G.S G.R B [.ref x, v] (upd (upd H1 dx (.own x)) x (.ins G.S dx [])) (fun v H2 => v = .non ∧ Q (.ref x) H2) E2 := fun v da hda fd hvd =>
        ⟨x, dx, v, da, rfl, hvd.mono ex0, fd, upd_same, fun qs hq m rs H2 hm keep hx2 hm2 hr2 => by
          have eq : qs = isort (nums l) := by
            obtain ⟨ds2, h1, _, _, _, h5, _⟩ := hq
            have : ds2 = l.map numDa := by rcases hda with rfl | rfl <;> rcases h1 with h1 | h1 <;> first | (injection h1 with h1; exact h1.symm) | cases h1
            rw [h5, this, n2]
          subst eq
          have ex : Ex H1 H2 := fun b o hb => keep b o (ex0 _ _ hb) (ne_of_none hb hx)
          have S2 := S1.grow ex
          have hm1 : H1 m = none := ex0.free hm
          refine ⟨rfl, k _ H2 S2 (e1.trans (cut_grow ex)) (.scl (cut_some.mpr ⟨(S1.fresh hx).2.2, hx2⟩) (cut_some.mpr ⟨(S1.fresh hm1).2.2, hm2⟩) (Paired.mapP hr2 fun v q r => r.out (fun b hb => S2.lstAt hb) (Ex.refl _)))⟩, fun h => absurd (val da hda) (h _)⟩
      have dec : decide ((l.map numDa).length ≤ 1000) = true := decide_eq_true (by rw [List.length_map]; omega)
      rcases hs with rfl | rfl
      · cases hv.whole with
        | lst hp r => exact fin _ _ (.inl rfl) (by unfold Da.fine; rw [dec, fl]; rfl) (.lst hp (r.numDa hn))
      · cases hv.whole with
        | tup hp r => exact fin _ _ (.inr rfl) (by unfold Da.fine; rw [dec, fl]; rfl) (.tup hp (r.numDa hn))) (fun _ x => x) h)
  mono := fun m x h => a.mono (fun _ _ ⟨d, l, hd, hs, hn, hz, l1, l8, nd, k⟩ => ⟨d, l, hd, hs, hn, hz, l1, l8, nd, m _ _ k⟩) x h
end
end Fm

set_option maxHeartbeats 4000000
namespace Kx
open PySem PySem.Spec PyProof.Rows L2 Fm
section
variable {P : Program} {w : World} {K : PySem.W.Frag} {mg : Str → Option Value} {base : Heap} {a : Ad}
abbrev Ad.G (a : Ad) : Gs := ⟨a.C_Scale, a.C_Ratio⟩
theorem ok_are_numbers (T : Tx K mg a) : FnOk P w K mg base CX0 4 a.f_are_numbers a.d_are_numbers P_are_numbers (spV a.G fdNums) := by
  refine def_ok0 T.F_are_numbers sc_are_numbers (fun vs H Q E h => ?_) (fun cdv A outer s H vs Q E hr h => ?_)
  · obtain ⟨ds, X, hv, _, ⟨d, rfl, _⟩, _⟩ := h
    exact hv.length
  · refine ⟨_, (pss_one (ps_ret (pe_and (pe_callB call_isiT (by rfl) T.b_isinstance (by decide +kernel) (pa_cons (pv 0) (pa_cons (pe_tup (pa_cons (pe_bltn (v := .ty "list") (by rfl) T.b_list (by decide +kernel) rfl) (pa_cons (pe_bltn (v := .ty "tuple") (by rfl) T.b_tuple (by decide +kernel) rfl) pa_nil))) pa_nil))) (pe_one (pe_callB (cr_all rfl) (by rfl) T.b_all (by decide +kernel) (pa_cons (pe_lc (own := [("item", 1)]) (g := (gName 1)) (tt := tYes) rfl sc_are_numbers.nd (pi_seq (pv 0)) (blkOk_by (N := N_are_numbers) (sc := defScope s_are_numbers) (by decide +kernel)) (fun _ _ _ _ _ => pg_name (i := 1) sc_are_numbers.nd rfl (Or.inl rfl)) (fun _ _ _ _ _ => pts_nil) (fun _ _ _ _ _ => (pe_call (ok_is_number T) (hr.mono (by decide)) (by rfl) T.g_is_number T.F_is_number.kp (bd_is_number T) .nil pass0 (pa_cons (pv 1) pa_nil)))) pa_nil)))))), ?_⟩
    refine spV.def (G := a.G) (E := E0) (PUS.ret (PU.andV (PU.isLT T.R T.R2 (PU.var (i := 0))) (PU.cbn CD.all (PUA.cons (PUF.toV (PUF.lc (i := 1) (E1 := E0) (E2 := E0) (PUI.seqV (i := 0)) PUT.yes (PU.isnum T.R (PUA.cons (PU.var (i := 1)) PUA.nil)))) PUA.nil)))) (fun ds hp => ?_) h
    obtain ⟨d, rfl, hk, hi, hl⟩ := hp
    refine ⟨d, rfl, _, onKind_of hk, _, rfl, ?_⟩
    cases hlt : d.isLT with
    | false => exact ite_f ⟨d, rfl, by unfold Dt.numsB; rw [hlt]; rfl⟩
    | true =>
      refine ite_t ⟨d.items, ?_, lcP_map (g := fun x => .bl x.isNum) _ _ rfl (by simp; omega) rfl (fun x hx K hK => ⟨x, rfl, x, rfl, hi x hx, hK⟩) ?_⟩
      · rcases Dt.seq_of hlt with e | e
        · exact .inl (by show some (Slot.val d) = _; rw [← e])
        · exact .inr (by show some (Slot.val d) = _; rw [← e])
      · refine ⟨d.items.map Dt.isNum, ?_, d, rfl, ?_⟩
        · rw [List.nil_append, List.map_map]; rfl
        · unfold Dt.numsB; rw [hlt, List.all_map]; rfl
theorem ok_total (T : Tx K mg a) : FnOk P w K mg base CX0 5 a.f_total a.d_total P_total (spV a.G fdTotal) := by
  refine def_ok0 T.F_total sc_total (fun vs H Q E h => ?_) (fun cdv A outer s H vs Q E hr h => ?_)
  · obtain ⟨ds, X, hv, _, ⟨d, l, k, rfl, _⟩, _⟩ := h
    exact hv.length
  · refine ⟨_, (pss_cons (ps_set (i := 1) sc_total.nd rfl (Or.inl rfl) (pe_make T.mk_Ratio (ok_Ratio_init T) (hr.mono (by decide)) (by rfl) T.g_Ratio (bd1_Ratio_init T).choose_spec.2 (bd1_Ratio_init T).choose_spec.1 pass0 (pa_cons pe_int pa_nil))) (pss_cons (ps_for PassesOwn.never rfl (pi_seq (pv 0)) (pg_name (i := 2) sc_total.nd rfl (Or.inl rfl)) (pss_one (ps_set (i := 1) sc_total.nd rfl (Or.inl rfl) (pe_op (op_own T.o_add (ok_Ratio_add T) (hr.mono (by decide)) (bd_Ratio_add T) pass0) (pv 1) (pv 2))))) (pss_one (ps_ret (pv 1))))), ?_⟩
    refine spV.def (G := a.G) (E := E0) (PUS.seq (PUS.set (i := 1) (PU.mkR1 (PUA.cons PU.ci PUA.nil))) (PUS.seq (PUS.for (PUI.seqV (i := 0)) (PUG.name (i := 2)) (PUS.set (i := 1) (PU.op RD.num2 (PU.var (i := 1)) (PU.var (i := 2))))) (PUS.ret (PU.var (i := 1))))) (fun ds hp => ?_) h
    obtain ⟨d, l, k, rfl, hs, hn, hz, hk⟩ := hp
    have hl := len_small hk
    refine ⟨0, rfl, lt8 (k := 1) (by decide) (by decide), l, ?_, ?_⟩
    · rcases hs with rfl | rfl
      · exact .inl rfl
      · exact .inr rfl
    refine forP_inv (fun i ρ => ∃ u, ρ = [.val d, .val (.rat (sumR ((nums l).take i))), u]) ⟨_, rfl⟩ (fun i x ρ K hx hI hK => ?_) (fun ρ hI => ?_)
    · obtain ⟨u, rfl⟩ := hI
      have hm := List.mem_of_getElem? hx
      have hxn : (nums l)[i]? = some x.num := by unfold nums; rw [List.getElem?_map, hx]; rfl
      refine ⟨_, rfl, _, rfl, _, rfl, allNum_mem hn hm, ?_, sz_le' (hz x hm) ?_, hK _ ⟨_, by rw [sumR_take hxn]; rfl⟩⟩
      · have hi : i < l.length := (List.getElem?_eq_some_iff.mp hx).1
        refine sz_le' (sumR_sz (k := k) _ fun q hq => ?_) ?_
        · obtain ⟨y, hy, rfl⟩ := List.mem_map.mp (List.mem_of_mem_take hq)
          exact hz y hy
        · rw [List.length_take]
          have : (k + 1) * min i (nums l).length ≤ (k + 1) * l.length := Nat.mul_le_mul_left _ (by omega)
          rw [Nat.mul_succ] at hk
          omega
      · have : k + 1 ≤ (k + 1) * (l.length + 1) := Nat.le_mul_of_pos_right _ (by omega)
        omega
    · obtain ⟨u, rfl⟩ := hI
      refine ⟨_, rfl, d, l, rfl, hs, ?_⟩
      rw [List.take_of_length_le (by unfold nums; rw [List.length_map]; exact Nat.le_refl _)]
theorem ok_weighed (T : Tx K mg a) : FnOk P w K mg base CX0 6 a.f_weighed a.d_weighed P_weighed (spV a.G fdWeighed) := by
  refine def_ok0 T.F_weighed sc_weighed (fun vs H Q E h => ?_) (fun cdv A outer s H vs Q E hr h => ?_)
  · obtain ⟨ds, X, hv, _, ⟨d1, d2, l1, l2, k, rfl, _⟩, _⟩ := h
    exact hv.length
  · refine ⟨_, (pss_one (ps_ret (pe_call (ok_total T) (hr.mono (by decide)) (by rfl) T.g_total T.F_total.kp (bd_total T) .nil pass0 (pa_cons (pe_lc (own := [("number", 2), ("weight", 3)]) (g := (gTup K 2 (gCons (gName 2) (gCons (gName 3) gNil)))) (tt := tYes) rfl sc_weighed.nd (pi_zipX (by rfl) T.b_zip (pa_cons (pv 0) (pa_cons (pv 1) pa_nil))) (blkOk_by (N := N_weighed) (sc := defScope s_weighed) (by decide +kernel)) (fun _ _ _ _ _ => by exact (pg_tup rfl (pgs_cons (pg_name (i := 2) sc_weighed.nd rfl (Or.inl rfl)) (pgs_cons (pg_name (i := 3) sc_weighed.nd rfl (Or.inl rfl)) pgs_nil)))) (fun _ _ _ _ _ => pts_nil) (fun _ _ _ _ _ => (pe_op (op_own T.o_mul (ok_Ratio_mul T) (hr.mono (by decide)) (bd_Ratio_mul T) pass0) (pe_call (ok_as_ratio T) (hr.mono (by decide)) (by rfl) T.g_as_ratio T.F_as_ratio.kp (bd_as_ratio T) .nil pass0 (pa_cons (pv 2) pa_nil)) (pv 3)))) pa_nil)))), ?_⟩
    refine spV.def (G := a.G) (E := E0) (PUS.ret (PU.call (PUA.cons (PUF.toV (PUF.lc2 (i := 2) (j := 3) (E1 := E0) (E2 := E0) (by decide) (PUI.zipX (PUA.cons (PU.var (i := 0)) (PUA.cons (PU.var (i := 1)) PUA.nil))) PUT.yes (PU.op RD.num2 (PU.asr (PUA.cons (PU.var (i := 2)) PUA.nil)) (PU.var (i := 3))))) PUA.nil))) (fun ds hp => ?_) h
    obtain ⟨d, e, l, m, k, rfl, hs, hs2, hn, hn2, hz, hz2, hk⟩ := hp
    have hl := len_small hk
    refine ⟨_, rfl, _, rfl, _, _, l, m, rfl, hs, hs2, ?_⟩
    refine lcP2_map (g := fun x y => .rat (x.num * y.num)) (by decide) _ _ rfl rfl (by simp; omega) (fun x hx K hK => ?_) ?_
    · have h1 := (List.of_mem_zip hx).1
      have h2 := (List.of_mem_zip hx).2
      have kb : k ≤ 3000 := by
        have : k + k + 1 ≤ (k + k + 1) * (l.length + 1) := Nat.le_mul_of_pos_right _ (by omega)
        omega
      exact ⟨_, rfl, _, rfl, allNum_mem hn h1, sz_le' (hz _ h1) kb, _, rfl, _, rfl, allNum_mem hn2 h2, sz_le' (hz _ h1) kb, sz_le' (hz2 _ h2) kb, hK⟩
    · refine ⟨⟨_, _, k + k, rfl, .inl rfl, ?_, fun x hx => ?_, ?_⟩, fun r hr => ?_⟩
      · rw [List.nil_append, List.all_map]
        exact List.all_eq_true.mpr fun _ _ => rfl
      · rw [List.nil_append] at hx
        obtain ⟨y, hy, rfl⟩ := List.mem_map.mp hx
        exact (hz _ (List.of_mem_zip hy).1).mul' (hz2 _ (List.of_mem_zip hy).2)
      · rw [List.nil_append, List.length_map, List.length_zip]
        exact Nat.le_trans (Nat.mul_le_mul_left _ (by omega)) hk
      · obtain ⟨d', l', e1, h2, rfl⟩ := hr
        refine ⟨d, e, l, m, rfl, hs, hs2, ?_⟩
        injection e1 with e1
        subst e1
        have e3 := (Dt.seq_items h2).1
        subst e3
        unfold dotR nums
        congr 2
        simp [Dt.items, List.map_map, List.zip_map, Function.comp_def, Dt.num]
theorem ok_are_shares (T : Tx K mg a) : FnOk P w K mg base CX0 6 a.f_are_shares a.d_are_shares P_are_shares (spV a.G fdShares) := by
  refine def_ok0 T.F_are_shares sc_are_shares (fun vs H Q E h => ?_) (fun cdv A outer s H vs Q E hr h => ?_)
  · obtain ⟨ds, X, hv, _, ⟨d, n, rfl, _⟩, _⟩ := h
    exact hv.length
  · refine ⟨_, (pss_cons (ps_if (PW.pt (pw_or (pt_not (pt_val (pe_call (ok_are_numbers T) (hr.mono (by decide)) (by rfl) T.g_are_numbers T.F_are_numbers.kp (bd_are_numbers T) .nil pass0 (pa_cons (pv 0) pa_nil)))) (pw_or1 (pt_cmpR op_ne (pe_callB call_lenQ (by rfl) T.b_len (by decide +kernel) (pa_cons (pv 0) pa_nil)) (pv 1) (nomark _))))) (pss_one (ps_ret pe_bl)) pss_nil) (pss_one (ps_ret (pe_and (pe_callB (cr_all rfl) (by rfl) T.b_all (by decide +kernel) (pa_cons (pe_lc (own := [("share", 2)]) (g := (gName 2)) (tt := tYes) rfl sc_are_shares.nd (pi_seq (pv 0)) (blkOk_by (N := N_are_shares) (sc := defScope s_are_shares) (by decide +kernel)) (fun _ _ _ _ _ => pg_name (i := 2) sc_are_shares.nd rfl (Or.inl rfl)) (fun _ _ _ _ _ => pts_nil) (fun _ _ _ _ _ => (pe_cmpR op_le pe_int (pe_fldV (K := K) rfl (pe_call (ok_as_ratio T) (hr.mono (by decide)) (by rfl) T.g_as_ratio T.F_as_ratio.kp (bd_as_ratio T) .nil pass0 (pa_cons (pv 2) pa_nil)) rfl) (nomark _)))) pa_nil)) (pe_one (pe_cmpR (op_cmp (fun _ _ => rfl) T.p_eq (ok_Ratio_eq T) (hr.mono (by decide)) (bd_Ratio_eq T) pass0) (pe_call (ok_total T) (hr.mono (by decide)) (by rfl) T.g_total T.F_total.kp (bd_total T) .nil pass0 (pa_cons (pv 0) pa_nil)) pe_int (nomark _))))))), ?_⟩
    refine spV.def (G := a.G) (E := E0) (PUS.seq (PUS.ifS (PUT.or (PUT.not (PUT.b (PU.call (PUA.cons (PU.var (i := 0)) PUA.nil)))) (PUT.test (PU.op RD.ne (PU.cbn CD.len (PUA.cons (PU.var (i := 0)) PUA.nil)) (PU.var (i := 1))))) (PUS.ret PU.cb) PUS.next) (PUS.ret (PU.andV (PU.cbn CD.all (PUA.cons (PUF.toV (PUF.lc (i := 2) (E1 := E0) (E2 := E0) (PUI.seqV (i := 0)) PUT.yes (PU.op RD.b0 PU.ci (PU.top T.R (PU.asr (PUA.cons (PU.var (i := 2)) PUA.nil)))))) PUA.nil)) (PU.op (RD.eqR T.R) (PU.call (PUA.cons (PU.var (i := 0)) PUA.nil)) PU.ci)))) (fun ds hp => ?_) h
    obtain ⟨d, n, rfl, hn, ok⟩ := hp
    refine ⟨_, rfl, ⟨d, rfl, ok.kd, ok.ik, ok.len⟩, ?_⟩
    rintro _ ⟨_, e, rfl⟩
    cases e
    refine ⟨_, rfl, ?_⟩
    cases hb : d.numsB with
    | false => exact ite_t (ite_t ⟨d, n, rfl, by unfold lotB curveB; rw [hb]; rfl⟩)
    | true =>
      obtain ⟨hs, hal⟩ := numsB_all hb
      refine ite_f ⟨_, rfl, _, seq_arg hs, _, rfl, _, rfl, _, rfl, ite_ne (fun hne => ?_) (fun hl => ?_)⟩
      · exact ⟨d, n, rfl, by unfold lotB curveB; rw [decide_eq_false (by omega)]; simp⟩
      · have hl : d.items.length = n := by omega
        have hc : curveB d n = true := by unfold curveB; rw [hb, decide_eq_true hl]; rfl
        refine ⟨d.items, seq_slot hs, lcP_map (g := fun x => .bl (decide (0 ≤ x.num.num))) _ _ rfl (by simp; have := ok.len; omega) rfl (fun x hx K hK => ?_) ?_⟩
        · exact ⟨_, rfl, x, rfl, allNum_mem hal hx, sz_le' (ok.sz x hx) (by decide), _, rfl, 0, _, rfl, rfl, hK⟩
        · rw [List.nil_append]
          refine ⟨d.items.map fun x => decide (0 ≤ x.num.num), by rw [List.map_map]; rfl, _, rfl, ?_⟩
          rw [List.all_map]
          refine ite_b (fun ha => ?_) (fun ha => ⟨d, n, rfl, by unfold lotB; rw [hc, show (d.items.all fun x => decide (0 ≤ x.num.num)) = false from ha]; rfl⟩)
          refine ⟨_, rfl, ⟨d, d.items, 45, rfl, hs, hal, fun x hx => ok.sz x hx, by rw [hl]; omega⟩, ?_⟩
          rintro _ ⟨d', l', e, hs', rfl⟩
          cases e
          rw [seq_inj hs' hs]
          refine ⟨_, rfl, rfl, sz_int (w := 1) (by decide) (by decide), d, n, rfl, ?_⟩
          unfold lotB
          rw [hc, show (d.items.all fun x => decide (0 ≤ x.num.num)) = true from ha]
          rfl
theorem ok_is_curve (T : Tx K mg a) : FnOk P w K mg base CX0 5 a.f_is_curve a.d_is_curve P_is_curve (spV a.G fdCurve) := by
  refine def_ok0 T.F_is_curve sc_is_curve (fun vs H Q E h => ?_) (fun cdv A outer s H vs Q E hr h => ?_)
  · obtain ⟨ds, X, hv, _, ⟨qs, d, rfl, _⟩, _⟩ := h
    exact hv.length
  · refine ⟨_, (pss_one (ps_ret (pe_and (pe_call (ok_are_numbers T) (hr.mono (by decide)) (by rfl) T.g_are_numbers T.F_are_numbers.kp (bd_are_numbers T) .nil pass0 (pa_cons (pv 1) pa_nil)) (pe_one (pe_cmpR op_eq (pe_callB call_lenQ (by rfl) T.b_len (by decide +kernel) (pa_cons (pv 1) pa_nil)) (pe_callB (cr_lenOwn T.ln_Scale T.lf_Scale (ok_Scale_len T) (hr.mono (by decide)) (bd_Scale_len T) pass0) (by rfl) T.b_len (by decide +kernel) (pa_cons (pv 0) pa_nil)) (nomark _)))))), ?_⟩
    refine spV.def (G := a.G) (E := E0) (PUS.ret (PU.andV (PU.call (PUA.cons (PU.var (i := 1)) PUA.nil)) (PU.op RD.eq (PU.cbn CD.len (PUA.cons (PU.var (i := 1)) PUA.nil)) (PU.lenS (PU.var (i := 0)))))) (fun ds hp => ?_) h
    obtain ⟨qs, d, rfl, hq, ok⟩ := hp
    refine ⟨_, rfl, ⟨d, rfl, ok.kd, ok.ik, ok.len⟩, ?_⟩
    rintro _ ⟨_, e, rfl⟩
    cases e
    refine ⟨_, rfl, ite_b (fun hb => ?_) (fun hb => ⟨qs, d, rfl, by unfold curveB; rw [hb]; rfl⟩)⟩
    obtain ⟨hs, hal⟩ := numsB_all hb
    refine ⟨_, rfl, _, seq_arg hs, _, rfl, qs, rfl, by omega, _, rfl, qs, d, rfl, ?_⟩
    unfold curveB
    rw [hb, Bool.true_and]
    congr 1
    exact decide_eq_decide.mpr Int.natCast_inj
theorem ok_is_lot (T : Tx K mg a) : FnOk P w K mg base CX0 7 a.f_is_lot a.d_is_lot P_is_lot (spV a.G fdLot) := by
  refine def_ok0 T.F_is_lot sc_is_lot (fun vs H Q E h => ?_) (fun cdv A outer s H vs Q E hr h => ?_)
  · obtain ⟨ds, X, hv, _, ⟨qs, d, rfl, _⟩, _⟩ := h
    exact hv.length
  · refine ⟨_, (pss_one (ps_ret (pe_call (ok_are_shares T) (hr.mono (by decide)) (by rfl) T.g_are_shares T.F_are_shares.kp (bd_are_shares T) .nil pass0 (pa_cons (pv 1) (pa_cons (pe_callB (cr_lenOwn T.ln_Scale T.lf_Scale (ok_Scale_len T) (hr.mono (by decide)) (bd_Scale_len T) pass0) (by rfl) T.b_len (by decide +kernel) (pa_cons (pv 0) pa_nil)) pa_nil))))), ?_⟩
    refine spV.def (G := a.G) (E := E0) (PUS.ret (PU.call (PUA.cons (PU.var (i := 1)) (PUA.cons (PU.lenS (PU.var (i := 0))) PUA.nil)))) (fun ds hp => ?_) h
    obtain ⟨qs, d, rfl, hq, ok⟩ := hp
    refine ⟨_, rfl, _, rfl, qs, rfl, by omega, ⟨d, _, rfl, hq, ok⟩, ?_⟩
    rintro _ ⟨d', n', e, rfl⟩
    injection e with e1 e2
    injection e2 with e2 _
    injection e2 with e2
    have e3 : n' = qs.length := by omega
    subst e1
    subst e3
    exact ⟨qs, _, rfl, rfl⟩
theorem ok_check_lot (T : Tx K mg a) : FnOk P w K mg base (L2N.CX P w) 8 a.f_check_lot a.d_check_lot P_check_lot (spX a.G (fxCheckLot a.C_BadLot)) := by
  refine T.F_check_lot.ok sc_check_lot (fun vs H Q E h => ?_) (fun cdv A outer s H vs Q E hr h => ?_)
  · obtain ⟨ds, X, hv, _, ⟨qs, d, rfl, _⟩, _⟩ := h
    exact hv.length
  · refine ⟨_, (pss_one (ps_if (pt_not (pt_val (pe_call (ok_is_lot T) (hr.mono (by decide)) (by rfl) T.g_is_lot T.F_is_lot.kp (bd_is_lot T) .nil pass0 (pa_cons (pv 0) (pa_cons (pv 1) pa_nil))))) (pss_one (L2N.ps_raise rfl (L2N.takes_of rfl rfl rfl rfl) (pmk_oexN T.oc_BadLot T.fi_BadLot T.ti_BadLot (ok_BadLot_init T) (hr.mono (by decide)) (bd_BadLot_init T) .nil pass0 (by rfl) T.g_BadLot (pa_cons (pv 1) pa_nil)))) pss_nil)), ?_⟩
    refine spX.def (G := a.G) (E := E) (PUS.ifS (PUT.not (PUT.b (PU.call (PUA.cons (PU.var (i := 0)) (PUA.cons (PU.var (i := 1)) PUA.nil))))) (PUS.raise (PU.var (i := 1))) PUS.next) (fun ds hp => ?_) h
    obtain ⟨qs, d, rfl, hq, ok⟩ := hp
    refine ⟨_, rfl, _, rfl, ⟨qs, d, rfl, hq, ok⟩, ?_⟩
    rintro _ ⟨qs', d', e, rfl⟩
    cases e
    refine ⟨_, rfl, ?_⟩
    cases hb : lotB d qs.length with
    | true => exact ite_f ⟨qs, d, rfl, hb⟩
    | false => exact ite_t ⟨_, rfl, qs, d, rfl, hb, rfl⟩
end
end Kx


set_option maxHeartbeats 2000000
namespace Fm
open PySem PySem.Spec PyProof.Rows L2
def fdMeanL : FD where
  pre := fun ds => ∃ ps qs : List Rat, ∃ k m : Nat, ds = [.lst (ps.map .rat), .lst (qs.map .rat)] ∧ ps.length = qs.length ∧ (∀ p ∈ ps, Sz k p) ∧ (∀ q ∈ qs, Sz m q) ∧ (k + m + 1) * (ps.length + 1) ≤ 3000
  post := fun ds d => ∃ ps qs : List Rat, ds = [.lst (ps.map .rat), .lst (qs.map .rat)] ∧ d = .rat (dotR ps qs)
def LotR (n : Nat) (ps : List Rat) : Prop := ps.length = n ∧ (∀ p ∈ ps, 0 ≤ p) ∧ sumR ps = 1 ∧ ∀ p ∈ ps, Sz 10 p
def LatC (q : Rat) : Prop := ∃ n : Int, q = Rat.divInt n 6 ∧ n.natAbs ≤ 2 ^ 10
theorem dotR_take {ps qs : List Rat} (hl : ps.length = qs.length) {i : Nat} (hi : i < ps.length) : dotR (ps.take (i + 1)) (qs.take (i + 1)) = dotR (ps.take i) (qs.take i) + ps[i] * qs[i]'(hl ▸ hi) := by
  have e1 : ps.take (i + 1) = ps.take i ++ [ps[i]] := by rw [List.take_succ_eq_append_getElem hi]
  have e2 : qs.take (i + 1) = qs.take i ++ [qs[i]'(hl ▸ hi)] := by rw [List.take_succ_eq_append_getElem (hl ▸ hi)]
  unfold dotR
  rw [e1, e2, List.zip_append (by rw [List.length_take, List.length_take]; omega), List.map_append, List.zip_cons_cons, List.zip_nil_left, List.map_singleton, sumR_snoc]
theorem divInt_same {S : Int} (hS : S ≠ 0) (a u : Int) : Rat.divInt a S + Rat.divInt u S = Rat.divInt (a + u) S := by
  rw [Rat.divInt_add_divInt _ _ hS hS, Rat.divInt_eq_divInt_iff (Int.mul_ne_zero hS hS) hS, ← Int.add_mul, Int.mul_assoc]
def natS (us : List Nat) : Int := (us.map fun (u : Nat) => (u : Int)).sum
theorem natS_cons (u : Nat) (us : List Nat) : natS (u :: us) = (u : Int) + natS us := by unfold natS; rw [List.map_cons, List.sum_cons]
theorem units_sum {S : Int} (hS : S ≠ 0) : ∀ (us : List Nat) (a : Int), (us.map fun (u : Nat) => Rat.divInt (u : Int) S).foldl (· + ·) (Rat.divInt a S) = Rat.divInt (a + natS us) S
  | [], a => by
    rw [List.map_nil, List.foldl_nil]
    show _ = Rat.divInt (a + 0) S
    rw [Int.add_zero]
  | u :: us, a => by
    rw [List.map_cons, List.foldl_cons, divInt_same hS, units_sum hS us, natS_cons, Int.add_assoc]
theorem natS_pos : ∀ us : List Nat, 0 ≤ natS us
  | [] => by show (0 : Int) ≤ 0; decide
  | u :: us => by rw [natS_cons]; have := natS_pos us; omega
theorem natS_ge : ∀ {us : List Nat} {u : Nat}, u ∈ us → (u : Int) ≤ natS us
  | v :: us, u, h => by
    rw [natS_cons]
    have := natS_pos us
    rcases List.mem_cons.mp h with rfl | h
    · omega
    · have := natS_ge h; omega
theorem natS_le {k : Nat} : ∀ {us : List Nat}, (∀ u ∈ us, u ≤ k) → natS us ≤ ((k * us.length : Nat) : Int)
  | [], _ => by show (0 : Int) ≤ _; omega
  | u :: us, h => by
    rw [natS_cons, List.length_cons, Nat.mul_succ]
    have := natS_le (us := us) fun x hx => h x (List.mem_cons_of_mem _ hx)
    have := h u (List.mem_cons_self ..)
    omega
theorem lotR_units {us : List Nat} (h5 : ∀ u ∈ us, u ≤ 5) (hl : us.length ≤ 8) {v : Nat} (hv : v ∈ us) (h1 : 1 ≤ v) : LotR us.length (us.map fun (u : Nat) => Rat.divInt (u : Int) (natS us)) := by
  have g := natS_ge hv
  have l := natS_le h5
  generalize hS : natS us = S at g l
  refine ⟨List.length_map .., fun p hp => ?_, ?_, fun p hp => ?_⟩
  · obtain ⟨u, _, rfl⟩ := List.mem_map.mp hp
    have := (divInt_le (p := 0) (q := 1) (r := (u : Int)) (s := S) (by decide) (by omega)).mpr (by omega)
    rwa [Rat.zero_divInt] at this
  · have e := units_sum (S := S) (by omega) us 0
    rw [Rat.zero_divInt, hS, Int.zero_add] at e
    unfold sumR
    rw [e, ← show Rat.divInt 1 1 = (1 : Rat) from int_divInt 1]
    exact (divInt_eq (by omega) (by decide)).mpr (by omega)
  · obtain ⟨u, hu, rfl⟩ := List.mem_map.mp hp
    have := h5 u hu
    exact Sz.divInt (by omega) (by omega) (by omega)
theorem at_ints (l : List Int) {k : Nat} (h : k < l.length) : ∃ u ∈ l, atI (l.map Dt.int) (k : Int) = some (.int u) :=
  ⟨l[k], List.getElem_mem h, atI_nat (by rw [List.getElem?_map, List.getElem?_eq_getElem h]; rfl)⟩
theorem rats_inj : ∀ {ps qs : List Rat}, ps.map Dt.rat = qs.map Dt.rat → ps = qs
  | [], [], _ => rfl
  | p :: ps, q :: qs, h => by
    rw [List.map_cons, List.map_cons] at h
    injection h with h1 h2
    injection h1 with h1
    rw [h1, rats_inj h2]
theorem latC_of {a u : Int} (ha : a.natAbs ≤ 100) (hu : u = 1 ∨ u = 1 ∨ u = 2 ∨ u = 3) : LatC (Rat.divInt a u) := by
  have e : (2 : Nat) ^ 10 = 1024 := by decide
  rcases hu with rfl | rfl | rfl | rfl
  · exact ⟨a * 6, (divInt_eq (by decide) (by decide)).mpr (by omega), by omega⟩
  · exact ⟨a * 6, (divInt_eq (by decide) (by decide)).mpr (by omega), by omega⟩
  · exact ⟨a * 3, (divInt_eq (by decide) (by decide)).mpr (by omega), by omega⟩
  · exact ⟨a * 2, (divInt_eq (by decide) (by decide)).mpr (by omega), by omega⟩
def LatQ (D : Int) (n b : Nat) (q : Rat) : Prop := ∃ A : Int, q = Rat.divInt A (D ^ n) ∧ A.natAbs ≤ 2 ^ b
def LatV (qs : List Rat) : Prop := ∃ D : Int, (1 ≤ D ∧ D ≤ 2 ^ 6) ∧ ∀ q ∈ qs, LatQ D 1 19 q
def fdGiven : FD where
  pre := fun ds => ∃ qs : List Rat, ds = [.lst (qs.map .rat)] ∧ qs.length ≤ 1000
  post := fun ds d => ∃ qs : List Rat, ∃ l : List Dt, ds = [.lst (qs.map .rat)] ∧ d.seq l ∧ l.all Dt.isNum = true ∧ nums l = qs
theorem whole_num {q : Rat} (h : ((q.den : Nat) : Int) = 1) : ((q.num : Int) : Rat) = q := by
  have h : q.den = 1 := by omega
  exact Rat.ext rfl h.symm
theorem nums_rats (qs : List Rat) : nums (qs.map Dt.rat) = qs := by unfold nums; rw [List.map_map]; exact List.map_id' qs
theorem nums_snoc (l : List Dt) (x : Dt) : nums (l ++ [x]) = nums l ++ [x.num] := by unfold nums; rw [List.map_append]; rfl
theorem nums_take (l : List Dt) {i : Nat} {x : Dt} (h : l[i]? = some x) : nums (l.take (i + 1)) = nums (l.take i) ++ [x.num] := by rw [take_succ_get h, nums_snoc]
end Fm

set_option maxHeartbeats 2000000
namespace Fm
open PySem PySem.Spec PyProof.Rows L2
theorem ofString_ok (s : String) : PyData.strOk (Str.ofString s) = true := by
  rw [Str.ofString_eq_toList]
  unfold PyData.strOk
  simp only [Array.all_eq_true]
  intro i h
  simp only [List.getElem_toArray, List.getElem_map, decide_eq_true_eq]
  have := (s.toList[i]'(by simpa using h)).valid
  show (s.toList[i]'(by simpa using h)).val.toNat < 0x110000
  rcases this with h | h
  · exact Nat.lt_of_lt_of_le h (by decide)
  · exact h.2
mutual
theorem sh_lay : ∀ d : Da, d.fine = true → d.sh.canLay0 = true
  | .non, _ => ofString_ok _
  | .bl _, _ => ofString_ok _
  | .int _, _ => ofString_ok _
  | .str s, h => by
    unfold Da.fine fineS at h
    simp only [Bool.and_eq_true] at h
    exact h.1.2
  | .rat q, _ => by
    simp only [Da.sh, PyData.canLay0, PyData.canLayAll0, Bool.and_true, Bool.true_and]
    exact ofString_ok _
  | .lst l, h => by
    unfold Da.fine at h
    rw [Bool.and_eq_true] at h
    simp only [Da.sh, PyData.canLay0, PyData.canLayAll0, Bool.and_true, shL_lay l h.2]
    exact ofString_ok _
  | .tup l, h => by
    unfold Da.fine at h
    rw [Bool.and_eq_true] at h
    simp only [Da.sh, PyData.canLay0, PyData.canLayAll0, Bool.and_true, shL_lay l h.2]
    exact ofString_ok _
  | .dic l, h => by
    unfold Da.fine at h
    rw [Bool.and_eq_true] at h
    simp only [Da.sh, PyData.canLay0, PyData.canLayAll0, Bool.and_true, shD_lay l h.2]
    exact ofString_ok _
theorem shL_lay : ∀ l : List Da, fineL l = true → PyData.canLayAll0 (shL l) = true
  | [], _ => rfl
  | d :: r, h => by
    unfold fineL at h
    rw [Bool.and_eq_true] at h
    simp only [shL, PyData.canLayAll0, sh_lay d h.1, shL_lay r h.2, Bool.and_true]
theorem shD_lay : ∀ l : List (Str × Da), fineD l = true → PyData.canLayAll0 (shD l) = true
  | [], _ => rfl
  | (s, d) :: r, h => by
    unfold fineD at h
    simp only [Bool.and_eq_true] at h
    have hs : PyData.strOk (reprText s) = true := by
      have := h.1.1.1
      unfold fineS at this
      simp only [Bool.and_eq_true] at this
      exact this.1.2
    simp only [shD, PyData.canLayAll0, PyData.canLay0, sh_lay d h.1.1.2, shD_lay r h.2, Bool.and_true]
    exact hs
end
mutual
theorem sh_depth : ∀ d : Da, d.sh.depth ≤ 3 * d.dp + 3
  | .non => by simp only [Da.sh, PyData.depth, Da.dp]; omega
  | .bl _ => by simp only [Da.sh, PyData.depth, Da.dp]; omega
  | .int _ => by simp only [Da.sh, PyData.depth, Da.dp]; omega
  | .str s => by simp only [Da.sh, PyData.depth, Da.dp]; omega
  | .rat q => by simp only [Da.sh, PyData.depth, PyData.depthAll, Da.dp]; omega
  | .lst l => by have := shL_depth l; simp only [Da.sh, PyData.depth, PyData.depthAll, Da.dp]; omega
  | .tup l => by have := shL_depth l; simp only [Da.sh, PyData.depth, PyData.depthAll, Da.dp]; omega
  | .dic l => by have := shD_depth l; simp only [Da.sh, PyData.depth, PyData.depthAll, Da.dp]; omega
theorem shL_depth : ∀ l : List Da, PyData.depthAll (shL l) ≤ 3 * dpL l + 3
  | [] => by simp [shL, PyData.depthAll]
  | d :: r => by have h1 := sh_depth d; have h2 := shL_depth r; simp only [shL, PyData.depthAll, dpL]; omega
theorem shD_depth : ∀ l : List (Str × Da), PyData.depthAll (shD l) ≤ 3 * dpD l + 4
  | [] => by simp [shD, PyData.depthAll]
  | (s, d) :: r => by have h1 := sh_depth d; have h2 := shD_depth r; simp only [shD, PyData.depthAll, PyData.depth, dpD]; omega
end
section
variable {K : PySem.W.Frag} {H : Hp} {Q : VK} {p r : Addr} {u v : V} {wd : Str} {d : Da}
end
end Fm

set_option maxHeartbeats 2000000
namespace Fm
open PySem PySem.Spec PyProof.Rows L2
open L2H (FnH RoomH HotC Hot1 cxH pe_callH)
section
variable {X : Cx} {CX : CXT} {k n : Nat} {f C : Addr} {fd : FuncData} {ps ks : List Str} {sp : Sp} {E : L2.St → XK} {x m : Str} {p pos apos : Pos} {e o : Expr} {es : List Expr} {kws : List Keyword} {t tk : TA} {ta : TE}
end
section
variable {G : Gs} {E : XK}
end
mutual
def Dt.da : Dt → Da
  | .non => .non
  | .bl b => .bl b
  | .int i => .int i
  | .str s => .str s
  | .rat q => .rat q
  | .lst l => .lst (daL l)
  | .tup l => .tup (daL l)
  | .dic l => .dic (daK l)
  | .scl _ => .non
def daL : List Dt → List Da
  | [] => []
  | d :: r => d.da :: daL r
def daK : List (Str × Dt) → List (Str × Da)
  | [] => []
  | (s, d) :: r => (s, d.da) :: daK r
end
mutual
def Dt.flat : Dt → Bool
  | .lst l => flatL l
  | .tup l => flatL l
  | .dic l => flatK l
  | .scl _ => false
  | _ => true
def flatL : List Dt → Bool
  | [] => true
  | d :: r => d.flat && flatL r
def flatK : List (Str × Dt) → Bool
  | [] => true
  | (_, d) :: r => d.flat && flatK r
end
mutual
theorem DtV.toDa {G : Gs} {H : Hp} : ∀ {v : V} {d : Dt}, DtV G H v d → d.flat = true → DaV G.R H v d.da
  | _, _, .non, _ => .non
  | _, _, .bl b, _ => .bl b
  | _, _, .int i, _ => .int i
  | _, _, .str s, _ => .str s
  | _, _, .rat h, _ => .rat h
  | _, _, .lst h r, f => .lst h (DtVs.toDa r (by unfold Dt.flat at f; exact f))
  | _, _, .tup h r, f => .tup h (DtVs.toDa r (by unfold Dt.flat at f; exact f))
  | _, _, .dic h r, f => .dic h (DtKs.toDa r (by unfold Dt.flat at f; exact f))
  | _, _, .scl _ _ _, f => by unfold Dt.flat at f; cases f
theorem DtVs.toDa {G : Gs} {H : Hp} : ∀ {vs : List V} {ds : List Dt}, DtVs G H vs ds → flatL ds = true → DaVs G.R H vs (daL ds)
  | _, _, .nil, _ => .nil
  | _, _, .cons h r, f => by
    unfold flatL at f
    rw [Bool.and_eq_true] at f
    exact .cons (DtV.toDa h f.1) (DtVs.toDa r f.2)
theorem DtKs.toDa {G : Gs} {H : Hp} : ∀ {vs : List (Key × V)} {ds : List (Str × Dt)}, DtKs G H vs ds → flatK ds = true → DaKs G.R H vs (daK ds)
  | _, _, .nil, _ => .nil
  | _, _, .cons h r, f => by
    unfold flatK at f
    rw [Bool.and_eq_true] at f
    exact .cons (DtV.toDa h f.1) (DtKs.toDa r f.2)
end
mutual
def ofPy : PyData → Dt
  | .none => .non
  | .bool b => .bl b
  | .int i => .int i
  | .str s => .str s
  | .list l => .lst (ofPyL l)
  | .tuple l => .tup (ofPyL l)
  | .dict _ => .non
def ofPyL : List PyData → List Dt
  | [] => []
  | d :: r => ofPy d :: ofPyL r
end
mutual
theorem DpN.dt {G : Gs} {X : Addr → Prop} {H0 H : Hp} (hx : ∀ a, X a → H0 a ≠ none) : ∀ {v : V} {y : PyData}, DpN H0 H v y → DtV G (cut X H) v (ofPy y)
  | _, _, .int i => .int i
  | _, _, .str s => .str s
  | _, _, .lst n h r => .lst (cut_some.mpr ⟨fun z => hx _ z n, h⟩) (DpNs.dt hx r)
  | _, _, .tup n h r => .tup (cut_some.mpr ⟨fun z => hx _ z n, h⟩) (DpNs.dt hx r)
theorem DpNs.dt {G : Gs} {X : Addr → Prop} {H0 H : Hp} (hx : ∀ a, X a → H0 a ≠ none) : ∀ {vs : List V} {ys : List PyData}, DpNs H0 H vs ys → DtVs G (cut X H) vs (ofPyL ys)
  | _, _, .nil => .nil
  | _, _, .cons h r => .cons (DpN.dt hx h) (DpNs.dt hx r)
end
mutual
theorem py_sh : ∀ d : Da, (ofPy d.sh).py = some d.sh
  | .non => rfl
  | .bl _ => rfl
  | .int _ => rfl
  | .str _ => rfl
  | .rat _ => rfl
  | .lst l => by simp only [Da.sh, ofPy, ofPyL, Dt.py, pyL, py_shL l, Option.map_some]
  | .tup l => by simp only [Da.sh, ofPy, ofPyL, Dt.py, pyL, py_shL l, Option.map_some]
  | .dic l => by simp only [Da.sh, ofPy, ofPyL, Dt.py, pyL, py_shD l, Option.map_some]
theorem py_shL : ∀ l : List Da, pyL (ofPyL (shL l)) = some (shL l)
  | [] => rfl
  | d :: r => by simp only [shL, ofPyL, pyL, py_sh d, py_shL r]
theorem py_shD : ∀ l : List (Str × Da), pyL (ofPyL (shD l)) = some (shD l)
  | [] => rfl
  | (s, d) :: r => by simp only [shD, ofPyL, ofPy, pyL, Dt.py, py_sh d, py_shD r, Option.map_some]
end
structure Dt.Fine (d : Dt) : Prop where
  flat : d.flat = true
  fine : d.da.fine = true
  dp : d.da.dp < 6
end Fm

set_option maxHeartbeats 2000000
namespace Fm
open PySem PySem.Spec PyProof.Rows L2
def kW (G : Gs) (U : WX) (f : Fr) (σ : L2.St) (H : Hp) (ρ : Fm.Env) (D : Ends) : DE :=
  { kD G (fun c d H => U c d σ H) f σ H ρ D with nx := fun ρ' => ∀ H', St G f σ H' ρ' → Ex (cut (Xs f σ ρ) H) (cut (Xs f σ ρ') H') → D.nx σ H' }
structure PVS (G : Gs) (U : WX) (t : TS) (F : FS) : Prop where
  run : ∀ {f : Fr} {σ : L2.St} {H : Hp} {ρ : Fm.Env} {D : Ends}, St G f σ H ρ → F ρ (kW G U f σ H ρ D) → t D σ H
  mono : ∀ {ρ : Fm.Env} {D D' : DE}, D.Le D' → F ρ D → F ρ D'
section
variable {G : Gs} {U : WX} {K : PySem.W.Frag}
theorem kW_ex {f : Fr} {σ : L2.St} {H H1 : Hp} {ρ ρ1 : Fm.Env} {D : Ends} (e : Ex (cut (Xs f σ ρ) H) (cut (Xs f σ ρ1) H1)) : (kW G U f σ H ρ D).Le (kW G U f σ H1 ρ1 D) :=
  ⟨fun _ h H' S e2 => h H' S (e.trans e2), fun _ _ h => h, fun _ _ h => h, fun _ h => kN_ex e h, fun _ h => kN_ex e h, fun _ h => h⟩
theorem PVS.next : PVS G U tNext F_next where
  run := fun S h => h _ S (Ex.refl _)
  mono := fun m h => m.nx _ h
theorem PVS.seq {t u : TS} {A B : FS} (a : PVS G U t A) (b : PVS G U u B) : PVS G U (tSeq t u) (F_seq A B) where
  run := fun {f σ H ρ D} S h => a.run (D := { D with nx := u D }) S (a.mono (D := { kW G U f σ H ρ D with nx := fun ρ' => B ρ' (kW G U f σ H ρ D) }) ⟨fun ρ' k H' S' e => b.run S' (b.mono (kW_ex e) k), fun _ _ k => k, fun _ _ k => k, fun _ k => k, fun _ k => k, fun _ k => k⟩ h)
  mono := fun {ρ D D'} m h => a.mono (D := { D with nx := fun ρ' => B ρ' D }) (D' := { D' with nx := fun ρ' => B ρ' D' }) ⟨fun ρ' k => b.mono m k, m.rt, m.rl, m.bk, m.ct, m.ex⟩ h
theorem PVS.ifS {c : TT} {t u : TS} {T : FT} {A B : FS} (w : ∀ E, PUT G E c T) (a : PVS G U t A) (b : PVS G U u B) : PVS G U (tIfS c t u) (F_if T A B) where
  run := fun {f σ H ρ D} S h => (w (fun c d H => U c d σ H)).run S ((w E0).mono (fun d ρ' k H' S' e => by
    cases d with
    | true => rw [if_pos rfl] at k ⊢; exact a.run S' (a.mono (kW_ex e) k)
    | false => rw [if_neg Bool.false_ne_true] at k ⊢; exact b.run S' (b.mono (kW_ex e) k)) (fun _ x => x) h)
  mono := fun m h => (w E0).mono (fun d ρ' k => by
    cases d with
    | true => rw [if_pos rfl] at k ⊢; exact a.mono m k
    | false => rw [if_neg Bool.false_ne_true] at k ⊢; exact b.mono m k) m.ex h
theorem PVS.retXL {Fx : FX} {t : TA} {A : FA} (a : ∀ E, PUA G E t A) : PVS G U (tRet (tCallS (spXL G Fx) (WE U) t)) (F_ret (F_toV (F_callXL Fx A))) where
  run := fun {f σ H ρ D} S h => (PUS.ret (PUF.toV (PUF.callX (E := fun c d H => U c d σ H) (a _)))).run (D := D) S h
  mono := fun m h => (PUS.ret (PUF.toV (PUF.callX (E := E0) (a _)))).mono m h
def catches (K : PySem.W.Frag) : List (Str × Addr) → Addr → (Str → Prop) → Prop
  | [], _, _ => False
  | (w, C) :: r, c, k => ∃ b, PySem.W.exmOne K (.ref c) (.ref C) = some b ∧ (b = true → c = C ∧ k w) ∧ (b = false → catches K r c k)
variable {vs : List V} {H : Hp} {Q : VK} {E2 : XK} {N : List Str}
end
end Fm

set_option maxHeartbeats 2000000
namespace Fm
open PySem PySem.Spec PyProof.Rows L2
section
variable {G : Gs} {E : XK} {K : PySem.W.Frag} {f : Fr} {σ : L2.St} {H H1 H2 : Hp} {ρ ρ2 : Fm.Env}
def subF (f : Fr) (σ : L2.St) (ρ : Fm.Env) (H : Hp) : Fr := ⟨H, fun a => Own σ ρ a, f.X0⟩
theorem lst_some {p : Addr} (h : LstAt H p) : H p ≠ none := by obtain ⟨_, e⟩ := h; rw [e]; exact fun z => nomatch z
theorem St.sub (S : St G f σ H ρ) : St G (subF f σ ρ H) σ H ρ where
  len := S.len
  fr := fun a o _ h => h
  sl := S.sl
  uq := S.uq
  nw := fun q h => .inl h
  x0 := S.x0
  pd := fun q h => lst_some (S.lstAt (.inr h))
theorem St.supK (S : St G f σ H ρ) (k : Kp (subF f σ ρ H) H2) : Kp f H2 := fun a o np h0 =>
  k a o (fun own => (S.nw a own).elim np fun n => by rw [n] at h0; cases h0) (S.fr a o np h0)
theorem CD.str : CD G rStrI (fun ds Kk => ∃ i : Int, ds = [.int i] ∧ i.natAbs < 2 ^ 200 ∧ Kk (.str (toString i))) where
  run := fun hx h ⟨i, hd, hi, k⟩ => by
    subst hd
    cases h with
    | cons h r => cases r; cases h; exact ⟨i, rfl, fine_int (decide_eq_true (Nat.lt_of_lt_of_le hi (Nat.pow_le_pow_right (by decide) (by decide)))), k _ _ (Ex.refl _) (.str _)⟩
  mono := fun m ⟨i, hd, hi, k⟩ => ⟨i, hd, hi, m _ k⟩
theorem merge_nodup : ∀ (more acc : List (Key × V)), ((acc ++ more).map (·.1)).Nodup → L2.mergeK acc more = acc ++ more
  | [], acc, _ => by rw [List.append_nil]; rfl
  | e :: r, acc, h => by
    have hp : putK acc e.1 e.2 = acc ++ [e] := by
      unfold putK
      rw [if_neg]
      intro hany
      obtain ⟨x, hx, hk⟩ := List.any_eq_true.mp hany
      have hk := of_decide_eq_true hk
      rw [List.map_append, List.nodup_append] at h
      exact h.2.2 x.1 (List.mem_map.mpr ⟨x, hx, rfl⟩) e.1 (List.mem_map.mpr ⟨e, List.mem_cons_self, rfl⟩) hk
    show L2.mergeK (putK acc e.1 e.2) r = _
    rw [hp, merge_nodup r (acc ++ [e]) (by rw [List.append_assoc]; exact h), List.append_assoc]
    rfl
theorem dt_pairs {H : Hp} {X : Addr → Prop} : ∀ {kds : List (Str × Dt)} {xs : List V}, DtVs G (cut X H) xs (kds.map fun e => Dt.tup [.str e.1, e.2]) → ∃ (ps : List Addr) (kvs : List (Key × V)), xs = ps.map V.ref ∧ Paired (fun p kv => SqT K H p [L2.kV kv.1, kv.2]) ps kvs ∧ DtKs G (cut X H) kvs kds
  | [], _, .nil => ⟨[], [], rfl, .nil, .nil⟩
  | (s, d) :: r, _, .cons (.tup hp (.cons (.str _) (.cons hd .nil))) t => by
    obtain ⟨ps, kvs, e, q, ks⟩ := dt_pairs t
    exact ⟨_ :: ps, (.inr s, _) :: kvs, by rw [e]; rfl, .cons (SqT.of (cut_some.mp hp).2) q, .cons hd ks⟩
theorem DtKs.keys {H : Hp} : ∀ {kvs : List (Key × V)} {kds : List (Str × Dt)}, DtKs G H kvs kds → kvs.map (·.1) = kds.map fun e => (.inr e.1 : Key)
  | _, _, .nil => rfl
  | _, _, .cons h r => by rw [List.map_cons, List.map_cons, r.keys]
theorem CD.dict : CD G (fun xs H Q => ∃ (a : Addr) (ps : List Addr) (kvs : List (Key × V)), xs = [.ref a] ∧ SqL K H a (ps.map V.ref) ∧ Paired (fun p kv => SqT K H p [L2.kV kv.1, kv.2]) ps kvs ∧ ∀ p, H p = none → Q (.ref p) (upd H p (.dK (L2.mergeK [] kvs)))) (fun ds Kk => ∃ kds : List (Str × Dt), ds = [.lst (kds.map fun e => .tup [.str e.1, e.2])] ∧ (kds.map (·.1)).Nodup ∧ Kk (.dic kds)) where
  run := fun {X H xs ds Q} hx h ⟨kds, hd, hn, k⟩ => by
    subst hd
    cases h with
    | cons h r =>
      cases r
      cases h with
      | lst hp r =>
        obtain ⟨ps, kvs, e, q, ks⟩ := dt_pairs (K := K) r
        subst e
        refine ⟨_, ps, kvs, rfl, SqL.of (cut_some.mp hp).2, q, fun p hpn => ?_⟩
        have hkn : ((([] : List (Key × V)) ++ kvs).map fun e => e.1).Nodup := by
          rw [List.nil_append, ks.keys]
          have e : (kds.map fun e => (.inr e.1 : Key)) = (kds.map (·.1)).map fun s => (.inr s : Key) := by rw [List.map_map]; rfl
          rw [e]
          exact List.Pairwise.map _ (fun x y (hxy : x ≠ y) h => hxy (by injection h)) hn
        rw [merge_nodup kvs [] hkn, List.nil_append]
        have ex : Ex H (upd H p (.dK kvs)) := Ex.new hpn
        exact k _ _ ex (.dic (cut_some.mpr ⟨fun z => lst_some (hx _ z) hpn, upd_same⟩) (ks.mono (cut_grow ex)))
  mono := fun m ⟨l, hd, hn, k⟩ => ⟨l, hd, hn, m _ k⟩
end
structure ItOk (d : Dt) : Prop where
  kd : d.kind = true
  sz : Sz 45 d.num
  fl : d.flat = true
  fi : d.da.fine = true
  dp : d.da.dp < 4
theorem ltF {n k : Nat} (h : n < 2 ^ k) (hk : k ≤ 1500) : n < 2 ^ 1500 := Nat.lt_of_lt_of_le h (Nat.pow_le_pow_right (by decide) hk)
theorem ItOk.rat {q : Rat} {k : Nat} (h : Sz k q) (hk : k ≤ 45) : ItOk (.rat q) := ⟨rfl, sz_le' h hk, rfl, by
  show (decide (q.num.natAbs < 2 ^ 1500) && decide (q.den < 2 ^ 1500)) = true
  rw [decide_eq_true (ltF h.1 (by omega)), decide_eq_true (ltF h.2 (by omega))]
  rfl, by show 0 < 4; decide⟩
theorem ItOk.int {i : Int} (h : i.natAbs < 2 ^ 45) : ItOk (.int i) := ⟨rfl, sz_int h (by decide), rfl, decide_eq_true (ltF h (by decide)), by show 0 < 4; decide⟩
theorem daL_length : ∀ l : List Dt, (daL l).length = l.length
  | [] => rfl
  | _ :: r => congrArg Nat.succ (daL_length r)
theorem flatL_of : ∀ {l : List Dt}, (∀ x ∈ l, x.flat = true) → flatL l = true
  | [], _ => rfl
  | d :: r, h => by unfold flatL; rw [h d (by simp), flatL_of fun x hx => h x (List.mem_cons_of_mem _ hx)]; rfl
theorem fineL_dt : ∀ {l : List Dt}, (∀ x ∈ l, x.da.fine = true) → fineL (daL l) = true
  | [], _ => rfl
  | d :: r, h => by unfold daL fineL; rw [h d (by simp), fineL_dt fun x hx => h x (List.mem_cons_of_mem _ hx)]; rfl
theorem dpL_of {n : Nat} : ∀ {l : List Dt}, (∀ x ∈ l, x.da.dp ≤ n) → dpL (daL l) ≤ n
  | [], _ => Nat.zero_le _
  | d :: r, h => by
    unfold daL dpL
    have := h d (by simp)
    have := dpL_of (l := r) fun x hx => h x (List.mem_cons_of_mem _ hx)
    omega
theorem fine_lst {l : List Dt} (h : ∀ x ∈ l, x.flat = true ∧ x.da.fine = true ∧ x.da.dp < 5) (hl : l.length ≤ 1000) : (Dt.lst l).Fine :=
  ⟨flatL_of fun x hx => (h x hx).1, by
    show (decide ((daL l).length ≤ 1000) && fineL (daL l)) = true
    rw [fineL_dt fun x hx => (h x hx).2.1, decide_eq_true (by rw [daL_length]; exact hl)]
    rfl, by
    show dpL (daL l) + 1 < 6
    have := dpL_of (n := 4) fun x hx => Nat.le_of_lt_succ (h x hx).2.2
    omega⟩
theorem fine_tup {l : List Dt} (h : ∀ x ∈ l, x.flat = true ∧ x.da.fine = true ∧ x.da.dp < 5) (hl : l.length ≤ 1000) : (Dt.tup l).Fine :=
  ⟨flatL_of fun x hx => (h x hx).1, by
    show (decide ((daL l).length ≤ 1000) && fineL (daL l)) = true
    rw [fineL_dt fun x hx => (h x hx).2.1, decide_eq_true (by rw [daL_length]; exact hl)]
    rfl, by
    show dpL (daL l) + 1 < 6
    have := dpL_of (n := 4) fun x hx => Nat.le_of_lt_succ (h x hx).2.2
    omega⟩
theorem fine_of_items {d : Dt} {l : List Dt} (hs : d.seq l) (h : ∀ x ∈ l, ItOk x) (hl : l.length ≤ 1000) : d.Ok 45 ∧ d.Fine := by
  have h2 : ∀ x ∈ l, x.flat = true ∧ x.da.fine = true ∧ x.da.dp < 5 := fun x hx => ⟨(h x hx).fl, (h x hx).fi, Nat.lt_succ_of_lt (h x hx).dp⟩
  rcases hs with rfl | rfl
  · exact ⟨⟨rfl, fun x hx => (h x hx).kd, hl, fun x hx => (h x hx).sz⟩, fine_lst h2 hl⟩
  · exact ⟨⟨rfl, fun x hx => (h x hx).kd, hl, fun x hx => (h x hx).sz⟩, fine_tup h2 hl⟩
theorem at_rats (ps : List Rat) {k : Nat} (h : k < ps.length) : atI (ps.map Dt.rat) (k : Int) = some (.rat ps[k]) := atI_nat (by rw [List.getElem?_map, List.getElem?_eq_getElem h]; rfl)
theorem sz_neg' {k : Nat} {q : Rat} (h : Sz k q) : Sz k (-q) := ⟨by show (-q.num).natAbs < _; rw [Int.natAbs_neg]; exact h.1, h.2⟩
theorem Sz.sub' {a b : Nat} {p q : Rat} (hp : Sz a p) (hq : Sz b q) : Sz (a + b + 1) (p - q) := by rw [Rat.sub_eq_add_neg]; exact hp.add' (sz_neg' hq)
theorem at_all {l : List Dt} {Q : Dt → Prop} (h : ∀ x ∈ l, Q x) {k : Nat} (hk : k < l.length) : ∃ x, atI l (k : Int) = some x ∧ Q x := ⟨l[k], atI_nat (List.getElem?_eq_getElem hk), h _ (List.getElem_mem hk)⟩
theorem cutG_sub (l : List Dt) (lo hi : Option Int) : (cutG l lo hi).Sublist l := (List.take_sublist _ _).trans (List.drop_sublist _ _)
theorem cutG_mem {l : List Dt} {lo hi : Option Int} {x : Dt} (h : x ∈ cutG l lo hi) : x ∈ l := (cutG_sub l lo hi).mem h
theorem cutG_len (l : List Dt) (lo hi : Option Int) : (cutG l lo hi).length ≤ l.length := (cutG_sub l lo hi).length_le
theorem okFine_bare {d : Dt} (h : ItOk d) (hi : d.items = []) : d.Ok 45 ∧ d.Fine :=
  ⟨⟨h.kd, (by rw [hi]; exact (fun _ h => nomatch h)), (by rw [hi]; exact Nat.zero_le _), (by rw [hi]; exact (fun _ h => nomatch h))⟩, ⟨h.fl, h.fi, Nat.lt_of_lt_of_le h.dp (by decide)⟩⟩
end Fm

set_option maxHeartbeats 2000000
namespace Fm
open PySem PySem.Spec PyProof.Rows L2
section
variable {G : Gs} {E : XK} {K : PySem.W.Frag} {f : Fr} {σ : L2.St} {H H1 H2 : Hp} {ρ ρ2 : Fm.Env}
theorem CD.repr : CD G rReprF (fun ds Kk => ∃ b : Bool, ds = [.bl b] ∧ Kk (.str ((if b then "True" else "False" : String) : Str))) where
  run := fun hx h ⟨b, hd, k⟩ => by
    subst hd
    cases h with
    | cons h r => cases r; cases h; exact .inr (.inl ⟨b, rfl, k _ _ (Ex.refl _) (.str _)⟩)
  mono := fun m ⟨b, hd, k⟩ => ⟨b, hd, m _ k⟩
end
def intsL (is : List Nat) : List Dt := is.map fun (i : Nat) => Dt.int (i : Int)
theorem py_ints : ∀ is : List Nat, pyL (intsL is) = some (is.map fun (i : Nat) => PyData.int (i : Int))
  | [] => rfl
  | i :: r => by
    show pyL (Dt.int (i : Int) :: intsL r) = _
    unfold pyL
    rw [py_ints r]
    rfl
theorem lay_ints : ∀ is : List Nat, PyData.canLayAll0 (is.map fun (i : Nat) => PyData.int (i : Int)) = true
  | [] => rfl
  | i :: r => by rw [List.map_cons]; simp only [PyData.canLayAll0, PyData.canLay0, Bool.true_and, lay_ints r]
theorem depth_ints : ∀ is : List Nat, PyData.depthAll (is.map fun (i : Nat) => PyData.int (i : Int)) ≤ 3
  | [] => by simp [PyData.depthAll]
  | i :: r => by have := depth_ints r; rw [List.map_cons]; simp only [PyData.depthAll, PyData.depth]; omega
theorem ints_lay (is : List Nat) : PyData.canLay0 (.list (is.map fun (i : Nat) => PyData.int (i : Int))) = true := by simp only [PyData.canLay0, lay_ints]
theorem ints_shaped (is : List Nat) : SeqAt.shaped (.list (is.map fun (i : Nat) => PyData.int (i : Int))) = true := by
  show (PyData.canLay0 _ && decide (PyData.depth _ ≤ 64)) = true
  rw [ints_lay, Bool.true_and]
  have := depth_ints is
  exact decide_eq_true (by simp only [PyData.depth]; omega)
theorem ints_py (is : List Nat) : (Dt.lst (intsL is)).py = some (.list (is.map fun (i : Nat) => PyData.int (i : Int))) := by unfold Dt.py; rw [py_ints]; rfl
theorem ints_ne {is : List Nat} {Kk : Dt → Prop} (k : Kk (.bl false)) : O_eqD true (.lst (intsL is)) (.lst (intsL is)) Kk :=
  ⟨_, _, ints_py is, ints_py is, ints_shaped is, ints_shaped is, by rw [if_pos rfl, SeqAt.eqv_refl _ (ints_lay is)]; exact k⟩
structure GivenOk (d : Dt) (ps : List Rat) : Prop where
  sq : d.seq d.items
  al : d.items.all Dt.isNum = true
  nu : nums d.items = ps
  ok : d.Ok 45
  fine : d.Fine
  dp : d.da.dp < 5
theorem GivenOk.curve {d : Dt} {ps : List Rat} (h : GivenOk d ps) : curveB d ps.length = true := by
  have hl : d.items.length = ps.length := by have := congrArg List.length h.nu; unfold nums at this; rwa [List.length_map] at this
  unfold curveB Dt.numsB
  rw [(Dt.seq_items h.sq).2, h.al, decide_eq_true hl]
  rfl
theorem GivenOk.lot {d : Dt} {ps : List Rat} {n : Nat} (h : GivenOk d ps) (hl : LotR n ps) : lotB d n = true := by
  obtain ⟨h1, h2, h3, _⟩ := hl
  unfold lotB
  rw [← h1, h.curve, h.nu, decide_eq_true h3, show (d.items.all fun x => decide (0 ≤ x.num.num)) = true from List.all_eq_true.mpr fun x hx => decide_eq_true (Rat.num_nonneg.mpr (h2 _ (by rw [← h.nu]; exact List.mem_map.mpr ⟨x, hx, rfl⟩)))]
  rfl
theorem GivenOk.pair {d e : Dt} {ps qs : List Rat} (h1 : GivenOk d ps) (h2 : GivenOk e qs) : (Dt.lst [d, e]).Fine :=
  fine_lst (fun x hx => by
    rcases List.mem_cons.mp hx with rfl | hx
    · exact ⟨h1.fine.flat, h1.fine.fine, h1.dp⟩
    · rw [List.mem_singleton.mp hx]; exact ⟨h2.fine.flat, h2.fine.fine, h2.dp⟩) (by show 2 ≤ 1000; decide)
end Fm

set_option maxHeartbeats 2000000
namespace Fm
open PySem PySem.Spec PyProof.Rows L2
theorem PUS.go {G : Gs} {E : XK} {t : TS} {F : FS} {f : Fr} {σ : L2.St} {H : Hp} {ρ : Fm.Env} {Dd : Ends} {D : DE} (U : PUS G E t F) (S : St G f σ H ρ) (le : D.Le (kD G E f σ H ρ Dd)) (h : F ρ D) : t Dd σ H := U.run S (U.mono le h)
end Fm
namespace Fm
open PySem PySem.Spec PyProof.Rows L2
end Fm

set_option maxHeartbeats 2000000
namespace Fm
open PySem PySem.Spec PyProof.Rows L2
end Fm

set_option maxHeartbeats 2000000
namespace Fm
open PySem PySem.Spec PyProof.Rows L2
section
variable {G : Gs} {E : XK} {K : PySem.W.Frag} {f : Fr} {σ σ2 : L2.St} {H H1 H2 : Hp} {ρ ρ2 : Fm.Env}
def Slot.isList : Slot → Bool
  | .own _ => true
  | .lock _ => true
  | _ => false
theorem St.sup' {Y : Addr → Prop} (S : St G f σ H ρ) (S2 : St G ⟨H, fun a => Own σ ρ a, Y⟩ σ2 H2 ρ2) : St G ⟨f.H0, f.P, Y⟩ σ2 H2 ρ2 where
  len := S2.len
  fr := fun a o np h0 => S2.fr a o (fun own => (S.nw a own).elim np fun n => by rw [n] at h0; cases h0) (S.fr a o np h0)
  sl := S2.sl
  uq := S2.uq
  nw := fun q h => by
    rcases S2.nw q h with h1 | h1
    · exact S.nw q h1
    · by_cases hp : f.P q
      · exact .inl hp
      · refine .inr ?_
        show f.H0 q = none
        cases e : f.H0 q with
        | none => rfl
        | some o =>
          have := S.fr q o hp e
          rw [show H q = none from h1] at this
          cases this
  x0 := S2.x0
  pd := fun q h => by
    cases e : H q with
    | none => exact absurd e (S.pd q h)
    | some o =>
      by_cases own : Own σ ρ q
      · exact S2.pd q own
      · have h2 : H2 q = some o := S2.fr q o own e
        rw [h2]
        exact fun z => nomatch z
theorem kX_sub' (S : St G f σ H ρ) : ∀ e, kX G f E e → kX G (subF f σ ρ H) E e
  | .bare c, h => fun H' k => h H' (S.supK k)
  | .own c n d, h => fun v dd H' k hv hd hn => h v dd H' (S.supK k) hv hd (by
      by_cases hp : f.P dd
      · exact absurd hn (S.pd dd hp)
      · cases e : f.H0 dd with
        | none => rfl
        | some o =>
          have := S.fr dd o hp e
          rw [show H dd = none from hn] at this
          cases this)
theorem PVS.ret {U : WX} {t : TE} {F : FE} (a : ∀ E, PU G E t F) : PVS G U (tRet t) (F_ret F) where
  run := fun {f σ H ρ D} S h => (PUS.ret (a (fun c d H => U c d σ H))).run (D := D) S h
  mono := fun m h => (PUS.ret (a E0)).mono m h
theorem PVS.retF {U : WX} {t : TE} {F : FA} (a : ∀ E, PUF G E t F) : PVS G U (tRet t) (F_retF F) where
  run := fun {f σ H ρ D} S h => (PUS.retF (a (fun c d H => U c d σ H))).run (D := D) S h
  mono := fun m h => (PUS.retF (a E0)).mono m h
theorem PVS.retXLF {U : WX} {Fx : FX} {t : TA} {A : FA} (a : ∀ E, PUA G E t A) : PVS G U (tRet (tCallS (spXL G Fx) (WE U) t)) (F_retF (F_callXL Fx A)) where
  run := fun {f σ H ρ D} S h => (PUS.retF (PUF.callX (E := fun c d H => U c d σ H) (a _))).run (D := D) S h
  mono := fun m h => (PUS.retF (PUF.callX (E := E0) (a _))).mono m h
theorem PVS.drop {U : WX} {t : TE} {F : FE} (a : ∀ E, PU G E t F) : PVS G U (tDrop t) (F_drop F) where
  run := fun {f σ H ρ D} S h => (a (fun c d H => U c d σ H)).run S ((a E0).mono (fun d ρ' k v H' S' e _ => k H' S' e) (fun _ x => x) h)
  mono := fun m h => (a E0).mono (fun _ _ k => m.nx _ k) m.ex h
variable {vs : List V} {Q : VK} {E2 : XK} {N : List Str}
end
end Fm

set_option maxHeartbeats 2000000
namespace Fm
open PySem PySem.Spec PyProof.Rows L2 SX
mutual
def Dt.txl : Dt → List Nat
  | .non => [78, 111, 110, 101]
  | .bl b => if b then [84, 114, 117, 101] else [70, 97, 108, 115, 101]
  | .int i => txN i
  | .str s => TL.tl (reprText s)
  | .rat q => [60] ++ txR q ++ [62]
  | .lst l => [91] ++ TL.joinL [44, 32] (txls l) ++ [93]
  | .tup l => [40] ++ TL.joinL [44, 32] (txls l) ++ [44, 41]
  | .dic _ => []
  | .scl _ => []
def txls : List Dt → List (List Nat)
  | [] => []
  | d :: l => d.txl :: txls l
end
theorem txls_map : ∀ l : List Dt, txls l = l.map Dt.txl
  | [] => by unfold txls; rfl
  | d :: l => by unfold txls; rw [txls_map l]; rfl
def Dt.shw : Nat → Dt → Prop
  | 0, _ => False
  | _ + 1, .non => True
  | _ + 1, .bl _ => True
  | _ + 1, .int i => i.natAbs < 10 ^ 60
  | _ + 1, .str s => (∀ c ∈ TL.tl (reprText s), c < 256) ∧ (TL.tl (reprText s)).length ≤ 150
  | _ + 1, .rat q => q.num.natAbs < 10 ^ 60 ∧ q.den < 10 ^ 60
  | n + 1, .lst l => l.length ≤ 30 ∧ ∀ d ∈ l, Dt.shw n d
  | n + 1, .tup l => l.length ≤ 30 ∧ ∀ d ∈ l, Dt.shw n d
  | _ + 1, .dic _ => False
  | _ + 1, .scl _ => False
theorem joinL_len (s : List Nat) {B : Nat} : ∀ l : List (List Nat), (∀ x ∈ l, x.length ≤ B) → (TL.joinL s l).length ≤ l.length * (B + s.length)
  | [], _ => by unfold TL.joinL; simp
  | [p], h => by
    unfold TL.joinL
    have := h p (List.mem_singleton.mpr rfl)
    simp
    omega
  | p :: q :: l, h => by
    unfold TL.joinL
    have h1 := h p (List.mem_cons_self ..)
    have h2 := joinL_len s (q :: l) fun x hx => h x (List.mem_cons_of_mem _ hx)
    simp only [List.length_append, List.length_cons] at h2 ⊢
    have e : (l.length + 1 + 1) * (B + s.length) = (l.length + 1) * (B + s.length) + (B + s.length) := Nat.succ_mul ..
    omega
theorem joinL_256 {s : List Nat} (hs : ∀ c ∈ s, c < 256) : ∀ l : List (List Nat), (∀ x ∈ l, ∀ c ∈ x, c < 256) → ∀ c ∈ TL.joinL s l, c < 256
  | [], _ => by unfold TL.joinL; intro c h; cases h
  | [p], h => by unfold TL.joinL; exact h p (List.mem_singleton.mpr rfl)
  | p :: q :: l, h => by
    unfold TL.joinL
    intro c hc
    rcases List.mem_append.mp hc with hc | hc
    · exact h p (List.mem_cons_self ..) c hc
    rcases List.mem_append.mp hc with hc | hc
    · exact hs c hc
    · exact joinL_256 hs (q :: l) (fun x hx => h x (List.mem_cons_of_mem _ hx)) c hc
theorem joinL_sum (s : List Nat) {B : Nat} (l : List (List Nat)) (h : ∀ x ∈ l, x.length ≤ B) : ((l.map S).map (·.length)).sum ≤ l.length * B := by
  induction l with
  | nil => simp
  | cons p l ih =>
    have h1 := h p (List.mem_cons_self ..)
    have h2 := ih fun x hx => h x (List.mem_cons_of_mem _ hx)
    simp only [List.map_cons, List.sum_cons, List.length_cons, S_len]
    have e : (l.length + 1) * B = l.length * B + B := Nat.succ_mul ..
    omega
theorem txl_ok : ∀ (n : Nat) (d : Dt), d.shw n → (∀ c ∈ d.txl, c < 256) ∧ d.txl.length ≤ 8 * 40 ^ n
  | 0, _, h => h.elim
  | n + 1, d, h => by
    have hb : 160 ≤ 8 * 40 ^ (n + 1) := by
      have : 40 ^ 1 ≤ 40 ^ (n + 1) := Nat.pow_le_pow_right (by decide) (by omega)
      omega
    have hs : ∀ c ∈ [44, 32], c < 256 := by decide
    have two : ∀ l : List Dt, l.length ≤ 30 → (∀ d ∈ l, Dt.shw n d) → (∀ c ∈ TL.joinL [44, 32] (txls l), c < 256) ∧ (TL.joinL [44, 32] (txls l)).length + 3 ≤ 8 * 40 ^ (n + 1) := fun l hl hd => by
      have ih := fun x hx => txl_ok n x (hd x hx)
      have m : ∀ x ∈ txls l, (∀ c ∈ x, c < 256) ∧ x.length ≤ 8 * 40 ^ n := fun x hx => by
        rw [txls_map] at hx
        obtain ⟨e, he, rfl⟩ := List.mem_map.mp hx
        exact ih e he
      refine ⟨joinL_256 hs _ fun x hx => (m x hx).1, ?_⟩
      have := joinL_len [44, 32] (txls l) fun x hx => (m x hx).2
      have e : (txls l).length = l.length := by rw [txls_map, List.length_map]
      rw [e] at this
      have h2 : l.length * (8 * 40 ^ n + [44, 32].length) ≤ 30 * (8 * 40 ^ n + 2) := Nat.mul_le_mul_right _ hl
      have h20 := Nat.le_trans this h2
      clear this h2
      generalize (TL.joinL [44, 32] (txls l)).length = m at h20 ⊢
      have h3 : 1 ≤ 40 ^ n := Nat.one_le_pow _ _ (by decide)
      have e4 : 40 ^ (n + 1) = 40 ^ n * 40 := Nat.pow_succ ..
      omega
    cases d with
    | non => exact ⟨by unfold Dt.txl; decide, by unfold Dt.txl; exact Nat.le_trans (by decide) hb⟩
    | bl b => cases b <;> exact ⟨by unfold Dt.txl; decide, by unfold Dt.txl; exact Nat.le_trans (by decide) hb⟩
    | int i =>
      have h : i.natAbs < 10 ^ 60 := h
      refine ⟨by unfold Dt.txl; exact fun c hc => txN_256 hc, ?_⟩
      unfold Dt.txl
      have l1 := TL.numL_len (n := i.natAbs) (k := 60) (by decide) h
      rw [← txN_abs]
      refine Nat.le_trans ?_ hb
      split <;> simp <;> omega
    | str s => exact ⟨by unfold Dt.txl; exact h.1, by unfold Dt.txl; exact Nat.le_trans h.2 (by omega)⟩
    | rat q =>
      have h : q.num.natAbs < 10 ^ 60 ∧ q.den < 10 ^ 60 := h
      have := txR_len (k := 60) (by decide) h.1 h.2
      refine ⟨?_, ?_⟩
      · unfold Dt.txl
        intro c hc
        rcases List.mem_append.mp hc with hc | hc
        · rcases List.mem_append.mp hc with hc | hc
          · rw [List.mem_singleton.mp hc]; decide
          · exact txR_256 hc
        · rw [List.mem_singleton.mp hc]; decide
      · unfold Dt.txl
        rw [List.length_append, List.length_append]
        show 1 + _ + 1 ≤ _
        omega
    | lst l =>
      have h : l.length ≤ 30 ∧ ∀ d ∈ l, Dt.shw n d := h
      obtain ⟨h1, h2⟩ := two l h.1 h.2
      unfold Dt.txl
      refine ⟨fun c hc => ?_, by rw [List.length_append, List.length_append]; show 1 + _ + 1 ≤ _; omega⟩
      rcases List.mem_append.mp hc with hc | hc
      · rcases List.mem_append.mp hc with hc | hc
        · rw [List.mem_singleton.mp hc]; decide
        · exact h1 c hc
      · rw [List.mem_singleton.mp hc]; decide
    | tup l =>
      have h : l.length ≤ 30 ∧ ∀ d ∈ l, Dt.shw n d := h
      obtain ⟨h1, h2⟩ := two l h.1 h.2
      unfold Dt.txl
      refine ⟨fun c hc => ?_, by rw [List.length_append, List.length_append]; show 1 + _ + 2 ≤ _; omega⟩
      rcases List.mem_append.mp hc with hc | hc
      · rcases List.mem_append.mp hc with hc | hc
        · rw [List.mem_singleton.mp hc]; decide
        · exact h1 c hc
      · exact (show ∀ c ∈ [44, 41], c < 256 by decide) c hc
    | dic _ => exact h.elim
    | scl _ => exact h.elim
def fdTxt (n : Nat) : FD := ⟨fun ds => ∃ d : Dt, ds = [d] ∧ d.shw n, fun ds r => ∃ d : Dt, ds = [d] ∧ r = .str (S d.txl)⟩
def Dt.isTup : Dt → Bool
  | .tup _ => true
  | _ => false
section
variable {G : Gs} {E E2 : XK} {K : PySem.W.Frag}
theorem PU.isTup {t : TE} {A : FE} (R : RC K G.R) (R2 : RC2 K G.R) (a : PU G E t A) : PU G E (tCB (rIsi K) (tCons t (tCons (tC (.ty "tuple")) tNil))) (F_isi (onKind Dt.isTup) A) :=
  PU.isi (.ty _) (fun H v d b hv hb => by
    obtain ⟨hk, rfl⟩ := onKind_some hb
    refine ⟨_, hv.tyk R hk, ?_⟩
    rw [Dt.tag_ty hk, kit_tup R2]
    cases d <;> first | rfl | cases hk) a
abbrev O_catS : O2 := fun d e Kk => ∃ i j : List Nat, d = .str (S i) ∧ e = .str (S j) ∧ i.length + j.length ≤ sizeLine ∧ Kk (.str (S (i ++ j)))
theorem RD.catS : RD G rAdS O_catS where
  run := fun _ h1 h2 ⟨i, j, e1, e2, hl, k⟩ => by
    subst e1; subst e2
    cases h1; cases h2
    exact ⟨_, _, rfl, rfl, by rw [S_len, S_len]; exact hl, by rw [S_cat]; exact k _ _ (Ex.refl _) (.str _)⟩
  mono := fun m ⟨i, j, e1, e2, hl, k⟩ => ⟨i, j, e1, e2, hl, m _ k⟩
theorem DtVs.strs {H : Hp} : ∀ {vs : List V} {xs : List Str}, DtVs G H vs (xs.map .str) → vs = xs.map V.str
  | _, [], .nil => rfl
  | _, _ :: _, .cons (.str _) r => congrArg _ r.strs
abbrev F_join (A B : FE) : FE := fun ρ Kk X => A ρ (fun d ρ1 => ∃ a : List Nat, d = .str (S a) ∧ B ρ1 (fun e ρ2 => ∃ ys : List (List Nat), e = .lst ((ys.map S).map .str) ∧ ((ys.map S).map (·.length)).sum + ys.length * a.length ≤ 16777216 ∧ Kk (.str (S (TL.joinL a ys))) ρ2) X) X
theorem PU.join {to te : TE} {A B : FE} (a : PU G E to A) (b : PU G E te B) : PU G E (tM1 (fun x xs H Q => ∃ a p, ∃ ys : List Str, x = .str a ∧ xs = [.ref p] ∧ (SqL K H p (ys.map V.str) ∨ SqT K H p (ys.map V.str)) ∧ (ys.map (·.length)).sum + ys.length * a.length ≤ 16777216 ∧ Q (.str (Txt.join a ys)) H) to te) (F_join A B) where
  run := fun S0 h => by
    refine a.run S0 (a.mono (fun d ρ1 ⟨sp, hd, k⟩ v H1 S1 e1 hv => ?_) (fun _ x => x) h)
    subst hd
    cases hv
    refine ⟨⟨_, rfl⟩, b.run S1 (b.mono (fun e ρ2 ⟨ys, he, hl, k2⟩ w H2 S2 e2 hw => ?_) (fun _ x => x) k)⟩
    subst he
    cases hw with
    | lst hp r =>
      have er := r.strs
      subst er
      refine ⟨S sp, _, ys.map S, rfl, rfl, .inl (SqL.of (cut_some.mp hp).2), by rw [S_len, List.length_map]; exact hl, ?_⟩
      rw [join_S]
      exact k2 _ _ S2 (e1.trans e2) (.str _)
  mono := fun m x h => a.mono (fun _ _ ⟨sp, hd, k⟩ => ⟨sp, hd, b.mono (fun _ _ ⟨ys, he, hl, k2⟩ => ⟨ys, he, hl, m _ _ k2⟩) x k⟩) x h
def spTextR (C : Addr) : Sp := fun vs H Q _ => ∃ (x : V) (q : Rat), vs = [x] ∧ RatV C H x q ∧ q.num.natAbs < 10 ^ 60 ∧ q.den < 10 ^ 60 ∧ ∀ H', Ex H H' → Q (.str (S (txR q))) H'
abbrev F_textR (A : FE) : FE := fun ρ Kk X => A ρ (fun d ρ1 => ∃ q : Rat, d = .rat q ∧ q.num.natAbs < 10 ^ 60 ∧ q.den < 10 ^ 60 ∧ Kk (.str (S (txR q))) ρ1) X
theorem PU.textR {ta : TE} {A : FE} (a : PU G E ta A) : PU G E (tMeth G.R "text" (spTextR G.R) [] E2 ta tNil) (F_textR A) where
  run := fun S0 h => by
    refine a.run S0 (a.mono (fun d ρ1 ⟨q, hd, h1, h2, k⟩ v H1 S1 e1 hv => ?_) (fun _ x => x) h)
    subst hd
    refine g_methR hv.ratv.cut (by decide +kernel) (by decide +kernel) ?_
    exact ⟨_, q, rfl, hv.ratv.cut, h1, h2, fun H2 ex => k _ H2 (S1.grow ex) (e1.trans (cut_grow ex)) (.str _)⟩
  mono := fun m x h => a.mono (fun _ _ ⟨q, hd, h1, h2, k⟩ => ⟨q, hd, h1, h2, m _ _ k⟩) x h
def Dt.lone : Dt → Prop
  | .non => True
  | .bl _ => True
  | .int i => i.natAbs < 10 ^ 60
  | .str s => (TL.tl (reprText s)).length ≤ 150
  | _ => False
theorem CD.reprT : CD G rReprF (fun ds Kk => ∃ d : Dt, ds = [d] ∧ d.lone ∧ Kk (.str (S d.txl))) where
  run := fun hx h ⟨d, hd, hl, k⟩ => by
    subst hd
    cases h with
    | cons h r =>
      cases r
      cases h with
      | non => exact .inl ⟨rfl, k _ _ (Ex.refl _) (by unfold Dt.txl; exact .str _)⟩
      | bl b => exact .inr (.inl ⟨b, rfl, k _ _ (Ex.refl _) (by unfold Dt.txl; cases b <;> exact .str _)⟩)
      | int i =>
        have hl : i.natAbs < 10 ^ 60 := hl
        refine .inr (.inr (.inl ⟨i, rfl, ?_, k _ _ (Ex.refl _) ?_⟩))
        · by_cases h0 : i.natAbs = 0
          · rw [h0]; decide
          · exact Nat.lt_of_lt_of_le ((Nat.log2_lt h0).mpr (Nat.lt_trans hl (by decide : (10 : Nat) ^ 60 < 2 ^ 240))) (by decide)
        · unfold Dt.txl
          rw [← strS]
          exact .str _
      | str s =>
        have hl : (TL.tl (reprText s)).length ≤ 150 := hl
        refine .inr (.inr (.inr ⟨s, rfl, ?_, k _ _ (Ex.refl _) ?_⟩))
        · have : (reprText s).length = (TL.tl (reprText s)).length := by rw [← S_len, show S (TL.tl (reprText s)) = reprText s from SX.S_tl _]
          rw [this]
          exact Nat.le_trans hl (by decide)
        · unfold Dt.txl
          rw [show S (TL.tl (reprText s)) = reprText s from SX.S_tl _]
          exact .str _
      | _ => exact hl.elim
  mono := fun m ⟨d, hd, hl, k⟩ => ⟨d, hd, hl, m _ k⟩
end
section
open L2H (FnH RoomH HotC run_fnH)
theorem pe_methH0 {X : Cx} {k : Nat} {f C : Addr} {fd : FuncData} {ps : List Str} {sp : Sp} {o : Expr} {ta : TE} {m : Str} {apos pos : Pos} {pl : Sem Bool} (he : PE X o ta) (c : Cls X.K C) (hm : Meth X.K C m f) (F : FnH X.prog X.w X.K X.mg X.base CX0 k f fd ps sp) (hr : RoomH k X.A) (hc : HotC X) (hb : Binds X.K fd ps [])
    (ht : eval (.Call (.Attribute o m apos) [] [] pos) X.env = (do
      let ov ← eval o X.env
      standAt apos.atName
      let (f, first) ← holding [ov] (getMethod ov m pl)
      callWith pos f first (backTo pos (starEach [] X.env)) (backToKw pos (keywordEach [] X.env))) := by rfl) :
    PE X (.Call (.Attribute o m apos) [] [] pos) (tMeth C m sp [] E0 ta tNil) := by
  refine ⟨fun pins s σ H Q I h => ?_⟩
  refine PySem.W.methodCall_KW (pl := pl) (thn (he.run pins s σ H _ I h) fun u s1 ⟨x, H1, I1, rx, a, dx, fs, ex, ea, l, q⟩ => ?_) ht
  subst ex
  obtain rfl : u = Value.ref a := rx
  refine getmeth_ok I1 ea c hm l ?_
  exact PySem.W.callWith_K0 (first := [.ref a]) I1.kIn hm.kp (run_fnH (us := [.ref a]) (vs := [.ref a]) (E := fun _ => E0) F hr hc hb (at0 σ) I1 (.cons rfl .nil) q)
end
end Fm

set_option maxHeartbeats 2000000
namespace Fm
open PySem PySem.Spec PyProof.Rows L2 SX
def clST (G : Gs) (i : Nat) (e : Str × Addr) : Cl := ⟨.ref e.2, some i, fun a cls d => tRet (tLst (tCons (tC (.str e.1)) (tCons (tCall (spV G (fdTxt 3)) [] E0 (tCons (tXf a cls d e.2 "given" (tVar i)) tNil)) tNil)))⟩
section
variable {G : Gs} {U : WX} {K : PySem.W.Frag}
def endTryT (K : PySem.W.Frag) (l : List (Str × Addr)) (F : FD) (ds : List Dt) : DE :=
  { endV F ds with ex := fun e => match e with | .own c n d => n = Str.ofString "given" ∧ catches K l c (fun w => d.shw 3 ∧ F.post ds (.lst [.str w, .str (S d.txl)])) | .bare _ => False }
def endTryLT (K : PySem.W.Frag) (l : List (Str × Addr)) (F : FD) (ds : List Dt) : DE :=
  { endL F ds with ex := fun e => match e with | .own c n d => n = Str.ofString "given" ∧ catches K l c (fun w => d.shw 3 ∧ F.post ds (.lst [.str w, .str (S d.txl)])) | .bare _ => False }
variable {vs : List V} {Q : VK} {E2 : XK} {N : List Str}
variable {vs : List V} {H : Hp} {Q : VK} {E2 : XK} {N : List Str}
theorem spV.defTryT {F : FD} {l : List (Str × Addr)} {i : Nat} {tb : WX → TS} {B : FS} (S0 : ∀ U, PVS G U (tb U) B) (hi : i < N.length) (h : ∀ ds, F.pre ds → B (env0 N.length ds) (endTryT K l F ds)) (hs : spV G F vs H Q E2) :
    (fun (D : Ends) (m : L2.St) (G' : Hp) => tb (wCls K (fun _ _ _ _ => False) D (l.map (clST G i))) D m G') { nx := fun _ H' => Q .non H', rt := Q } (L2.start N vs) H := by
  obtain ⟨ds, X, hv, hx, hp, q⟩ := hs
  have hlen : (L2.start N vs).length = (env0 N.length ds).length := start_len hv.length
  have hlen2 : i < (L2.start N vs).length := by
    rw [hlen]
    unfold env0
    rw [List.length_append, List.length_map, List.length_replicate]
    omega
  refine (S0 _).run (start_St hv hx) ((S0 (fun _ _ _ _ => False)).mono (D := endTryT K l F ds) ⟨fun ρ' k H' S e => q .non .non H' k ?_ .non, fun d ρ' k v σ' H' S hd => q d v H' k ?_ ?_, fun l ρ' k p us σ' H' S h1 h2 h3 h4 => q (.lst l) _ H' k ?_ ?_, fun _ w => w.elim, fun _ w => w.elim, fun e he => ?_⟩ (h ds hp))
  · exact fun a o ha => S.fr a o id ha
  · exact fun a o ha => S.fr a o id ha
  · exact hd.mono (cut_le fun a ha => .inl ha)
  · exact fun a o ha => S.fr a o id ha
  · refine .lst (cut_some.mpr ⟨h2, h3⟩) (h4.mono (cut_le fun a ha => .inl (.inl ha)))
  · cases e with
    | bare c => exact False.elim he
    | own c n d =>
      obtain ⟨rfl, hc⟩ := he
      intro v dd H' kp hd hdd hn
      have ex : Ex H H' := fun a o ha => kp a o id ha
      have go : ∀ l : List (Str × Addr), catches K l c (fun w => d.shw 3 ∧ F.post ds (.lst [.str w, .str (S d.txl)])) → wCls K (fun _ _ _ _ => False) { nx := fun _ H' => Q .non H', rt := Q } (l.map (clST G i)) (.ref c) (some dd) (L2.start N vs) H' := by
        intro l
        induction l with
        | nil => exact fun h => h
        | cons e r ih =>
          obtain ⟨w, C⟩ := e
          rintro ⟨b, hb, h1, h2⟩
          refine ⟨b, hb, fun e a ha => ?_, fun e => ih (h2 e)⟩
          obtain ⟨rfl, fine, post⟩ := h1 e
          show (clST G i (w, c)).ts a (.ref c) (some dd) _ ((L2.start N vs).set i (some (.ref a))) H'
          refine ⟨.ref a, by rw [List.getElem?_set_self hlen2], rfl, rfl, dd, _, v, rfl, hdd, rfl, ?_⟩
          refine ⟨[d], X, .cons hd .nil, fun a ha => ?_, ⟨d, rfl, fine⟩, fun d2 r2 H2 hp2 ex2 hr2 => ?_⟩
          · obtain ⟨us, hu⟩ := hx a ha
            exact ⟨us, ex _ _ hu⟩
          · obtain ⟨d3, e3, rfl⟩ := hp2
            injection e3 with e3 _
            subst e3
            refine ⟨len_lit rfl, fun p hpn => ?_⟩
            have exn : Ex H2 (upd H2 p (.lst [.str w, r2])) := Ex.new hpn
            refine q _ (.ref p) _ post ((ex.trans ex2).trans exn) (.lst (cut_some.mpr ⟨fun z => ?_, upd_same⟩) (.cons (.str _) (.cons (hr2.mono (cut_grow exn)) .nil)))
            obtain ⟨us, hu⟩ := hx p z
            rw [ex2 _ _ (ex _ _ hu)] at hpn
            cases hpn
      exact go l hc
theorem spL.defTryT {F : FD} {l : List (Str × Addr)} {i : Nat} {tb : WX → TS} {B : FS} (S0 : ∀ U, PVS G U (tb U) B) (hi : i < N.length) (h : ∀ ds, F.pre ds → B (env0 N.length ds) (endTryLT K l F ds)) (hs : spL G F vs H Q E2) :
    (fun (D : Ends) (m : L2.St) (G' : Hp) => tb (wCls K (fun _ _ _ _ => False) D (l.map (clST G i))) D m G') { nx := fun _ H' => Q .non H', rt := Q } (L2.start N vs) H := by
  obtain ⟨ds, X, hv, hx, hp, q⟩ := hs
  have hlen : (L2.start N vs).length = (env0 N.length ds).length := start_len hv.length
  have hlen2 : i < (L2.start N vs).length := by
    rw [hlen]
    unfold env0
    rw [List.length_append, List.length_map, List.length_replicate]
    omega
  refine (S0 _).run (start_St hv hx) ((S0 (fun _ _ _ _ => False)).mono (D := endTryLT K l F ds) ⟨fun ρ' k H' S e => k.elim, fun d ρ' k v σ' H' S hd => k.elim, fun l ρ' k p us σ' H' S h1 h2 h3 h4 => q l p us H' k (h1.elim False.elim id) ?_ h3 ?_, fun _ w => w.elim, fun _ w => w.elim, fun e he => ?_⟩ (h ds hp))
  · exact fun a o ha => S.fr a o id ha
  · refine h4.mono (cut_le fun a ha => ?_)
    rcases ha with ha | ha
    · exact .inl (.inl ha)
    · exact .inl (.inr ha)
  · cases e with
    | bare c => exact False.elim he
    | own c n d =>
      obtain ⟨rfl, hc⟩ := he
      intro v dd H' kp hd hdd hn
      have ex : Ex H H' := fun a o ha => kp a o id ha
      have go : ∀ l : List (Str × Addr), catches K l c (fun w => d.shw 3 ∧ F.post ds (.lst [.str w, .str (S d.txl)])) → wCls K (fun _ _ _ _ => False) { nx := fun _ H' => Q .non H', rt := Q } (l.map (clST G i)) (.ref c) (some dd) (L2.start N vs) H' := by
        intro l
        induction l with
        | nil => exact fun h => h
        | cons e r ih =>
          obtain ⟨w, C⟩ := e
          rintro ⟨b, hb, h1, h2⟩
          refine ⟨b, hb, fun e a ha => ?_, fun e => ih (h2 e)⟩
          obtain ⟨rfl, fine, post⟩ := h1 e
          show (clST G i (w, c)).ts a (.ref c) (some dd) _ ((L2.start N vs).set i (some (.ref a))) H'
          refine ⟨.ref a, by rw [List.getElem?_set_self hlen2], rfl, rfl, dd, _, v, rfl, hdd, rfl, ?_⟩
          refine ⟨[d], X, .cons hd .nil, fun a ha => ?_, ⟨d, rfl, fine⟩, fun d2 r2 H2 hp2 ex2 hr2 => ?_⟩
          · obtain ⟨us, hu⟩ := hx a ha
            exact ⟨us, ex _ _ hu⟩
          · obtain ⟨d3, e3, rfl⟩ := hp2
            injection e3 with e3 _
            subst e3
            refine ⟨len_lit rfl, fun p hpn => ?_⟩
            have exn : Ex H2 (upd H2 p (.lst [.str w, r2])) := Ex.new hpn
            refine q _ p _ _ post ?_ ((ex.trans ex2).trans exn) upd_same (.cons (.str _) (.cons (hr2.mono (cut_ex fun a o n ha => ⟨fun z => z.elim n (fun e => by rw [e, hpn] at ha; cases ha), exn _ _ ha⟩)) .nil))
            cases e : H p with
            | none => rfl
            | some o => rw [ex2 _ _ (ex _ _ e)] at hpn; cases hpn
      exact go l hc
end
end Fm

set_option maxHeartbeats 2000000
namespace Fm
open PySem PySem.Spec PyProof.Rows L2
def fxAsr (C : Addr) : FX where
  pre := fun ds => ∃ d, ds = [d] ∧ d.kind = true ∧ Sz 3000 d.num
  post := fun ds r => ∃ d, ds = [d] ∧ d.isNum = true ∧ r = .rat d.num
  err := fun ds e => ∃ d, ds = [d] ∧ d.isNum = false ∧ e = .own C "given" d
def fxEach (C : Addr) (g : Rat → Rat → Rat) : FX where
  pre := fun ds => ∃ qs d, ds = [.scl qs, d] ∧ qs.length ≤ 8 ∧ (∀ q ∈ qs, Sz 1000 q) ∧ d.kind = true ∧ Sz 1000 d.num
  post := fun ds r => ∃ qs d, ds = [.scl qs, d] ∧ d.isNum = true ∧ r = .lst (qs.map fun q => .rat (g d.num q))
  err := fun ds e => ∃ qs d, ds = [.scl qs, d] ∧ d.isNum = false ∧ e = .own C "given" d
def coverR (t q : Rat) : Rat := if t < q then q - t else 0
def rowB (n : Nat) (d : Dt) : Bool := d.numsB && !decide (d.items.length = 0) && decide (d.items.length = n)
structure RowsOk (d : Dt) : Prop where
  kd : d.kind = true
  ik : ∀ x ∈ d.items, x.Ok 45
  len : d.items.length ≤ 20
end Fm
namespace Fm
open PySem PySem.Spec PyProof.Rows L2
end Fm
namespace Fm
def Dt.qs : Dt → List Rat
  | .scl qs => qs
  | _ => []
end Fm

set_option maxHeartbeats 2000000
namespace Fm
open PySem PySem.Spec PyProof.Rows L2
structure RowOk (n : Nat) (d : Dt) : Prop where
  g : GivenOk d (nums d.items)
  l : d.items.length = n
theorem RowOk.of {d : Dt} {ps : List Rat} (h : GivenOk d ps) : RowOk ps.length d := by
  have hn := h.nu
  refine ⟨by rw [hn]; exact h, ?_⟩
  rw [← hn]
  unfold nums
  rw [List.length_map]
theorem RowOk.row {n : Nat} {d : Dt} (h : RowOk n d) (hn : n ≠ 0) : rowB n d = true := by
  have h2 := h.g.curve
  have e : (nums d.items).length = n := by unfold nums; rw [List.length_map, h.l]
  rw [e] at h2
  unfold curveB at h2
  rw [Bool.and_eq_true] at h2
  unfold rowB
  rw [h2.1, h2.2, decide_eq_false (by rw [h.l]; exact hn)]
  rfl
structure In5 (d : Dt) : Prop where
  ok : d.Ok 45
  fl : d.flat = true
  fi : d.da.fine = true
  dp : d.da.dp < 5
theorem In5.fine {d : Dt} (h : In5 d) : d.Fine := ⟨h.fl, h.fi, Nat.lt_succ_of_lt h.dp⟩
theorem In5.lst {l : List Dt} (h : ∀ x ∈ l, In5 x) (hl : l.length ≤ 20) : RowsOk (.lst l) ∧ (Dt.lst l).Fine ∧ ∀ x ∈ (Dt.lst l).items, x.Fine :=
  ⟨⟨rfl, fun x hx => (h x hx).ok, hl⟩, fine_lst (fun x hx => ⟨(h x hx).fl, (h x hx).fi, (h x hx).dp⟩) (by omega), fun x hx => (h x hx).fine⟩
theorem In5.tup {l : List Dt} (h : ∀ x ∈ l, In5 x) (hl : l.length ≤ 20) : RowsOk (.tup l) ∧ (Dt.tup l).Fine ∧ ∀ x ∈ (Dt.tup l).items, x.Fine :=
  ⟨⟨rfl, fun x hx => (h x hx).ok, hl⟩, fine_tup (fun x hx => ⟨(h x hx).fl, (h x hx).fi, (h x hx).dp⟩) (by omega), fun x hx => (h x hx).fine⟩
theorem In5.of {d : Dt} (h : ItOk d) (hi : d.items = []) : In5 d := ⟨(okFine_bare h hi).1, h.fl, h.fi, Nat.lt_succ_of_lt h.dp⟩
theorem In5.seq {d : Dt} {l : List Dt} (hs : d.seq l) (h : ∀ x ∈ l, ItOk x) (hl : l.length ≤ 1000) : In5 d := by
  obtain ⟨ok, fine⟩ := fine_of_items hs h hl
  refine ⟨ok, fine.flat, fine.fine, ?_⟩
  have := dpL_of (n := 3) (l := l) fun x hx => Nat.le_of_lt_succ (h x hx).dp
  rcases hs with rfl | rfl
  · show dpL (daL l) + 1 < 5
    omega
  · show dpL (daL l) + 1 < 5
    omega
theorem all_cons {P : Dt → Prop} {x : Dt} {l : List Dt} (h : P x) (r : ∀ y ∈ l, P y) : ∀ y ∈ x :: l, P y := fun y hy => (List.mem_cons.mp hy).elim (fun e => e ▸ h) (r y)
end Fm
namespace Fm
open PySem PySem.Spec PyProof.Rows L2
end Fm
namespace Fm
open PySem PySem.Spec PyProof.Rows L2
theorem num_it45 {x : Dt} (h : x.isNum = true) (hz : Sz 45 x.num) : ItOk x := by
  cases x with
  | int i => exact .int hz.1
  | rat q => exact .rat hz (by decide)
  | _ => cases h
theorem RowOk.its {n : Nat} {d : Dt} (h : RowOk n d) : ∀ x ∈ d.items, ItOk x := fun x hx => num_it45 (allNum_mem h.g.al hx) (h.g.ok.sz x hx)
end Fm
namespace Fm
open PySem PySem.Spec PyProof.Rows L2
theorem cutG_tail (l : List Dt) : cutG l (some 1) none = l.drop 1 := by
  unfold cutG HT.sIx
  cases l with
  | nil => rfl
  | cons a r =>
    simp
end Fm
namespace Fm
open PySem PySem.Spec PyProof.Rows L2
theorem at_last {qs : List Rat} (h : 1 ≤ qs.length) : atI (qs.map Dt.rat) (-1) = some (.rat (qs[qs.length - 1]'(by omega))) := by
  have e : qs = qs.dropLast ++ [qs[qs.length - 1]'(by omega)] := by
    have hne : qs ≠ [] := by intro h2; rw [h2] at h; exact absurd h (by decide)
    rw [← List.getLast_eq_getElem hne]
    exact (List.dropLast_concat_getLast hne).symm
  have h2 : atI ((qs.dropLast ++ [qs[qs.length - 1]'(by omega)]).map Dt.rat) (-1) = some (.rat (qs[qs.length - 1]'(by omega))) := by
    rw [List.map_append]
    exact L2.atI_last _ _
  rwa [← e] at h2
structure Num5 (d : Dt) : Prop where
  n : d.isNum = true
  z : Sz 100 d.num
  f : d.Fine
theorem Num5.rat {q : Rat} {k : Nat} (h : Sz k q) (hk : k ≤ 100) : Num5 (.rat q) := ⟨rfl, sz_le' h hk, ⟨rfl, by
  show (decide (q.num.natAbs < 2 ^ 1500) && decide (q.den < 2 ^ 1500)) = true
  rw [decide_eq_true (ltF h.1 (by omega)), decide_eq_true (ltF h.2 (by omega))]
  rfl, by show 0 < 6; decide⟩⟩
theorem Num5.int {i : Int} {k : Nat} (h : i.natAbs < 2 ^ k) (hk : k ≤ 100) (h1 : 1 ≤ k) : Num5 (.int i) := ⟨rfl, sz_le' (sz_int h h1) hk, ⟨rfl, decide_eq_true (ltF h (by omega)), by show 0 < 6; decide⟩⟩
end Fm

set_option maxHeartbeats 2000000
namespace Fm
open PySem PySem.Spec PyProof.Rows L2
section
variable {G : Gs} {E : XK} {K : PySem.W.Frag}
abbrev F_star (A : FE) (R : FA) : FA := fun ρ K X => A ρ (fun d ρ1 => ∃ l, d.seq l ∧ R ρ1 (fun ds ρ2 => K (l ++ ds) ρ2) X) X
theorem PUA.star {te : TE} {t : TA} {A : FE} {R : FA} (a : PU G E te A) (b : PUA G E t R) : PUA G E (StX.tStar K te t) (F_star A R) where
  run := fun S h => a.run S (a.mono (fun d ρ1 ⟨l, hs, k⟩ v H1 S1 e1 hv => by
    rcases hs with rfl | rfl
    · cases hv with
      | lst hp r => exact ⟨_, _, rfl, .inr (SqL.of (cut_some.mp hp).2), b.run S1 (b.mono (fun ds ρ2 k2 ys H2 S2 e2 hy => k2 _ H2 S2 (e1.trans e2) ((r.mono e2).app hy)) (fun _ x => x) k)⟩
    · cases hv with
      | tup hp r => exact ⟨_, _, rfl, .inl (SqT.of (cut_some.mp hp).2), b.run S1 (b.mono (fun ds ρ2 k2 ys H2 S2 e2 hy => k2 _ H2 S2 (e1.trans e2) ((r.mono e2).app hy)) (fun _ x => x) k)⟩) (fun _ x => x) h)
  mono := fun m x h => a.mono (fun _ _ ⟨l, hs, k⟩ => ⟨l, hs, b.mono (fun _ _ k => m _ _ k) x k⟩) x h
theorem Wk.rev {p : Addr} {vs : List V} {l : List Dt} {Hc : Hp} (h : Hc p = some (.lst vs)) (r : DtVs G Hc vs l) : Wk G (Itv K p vs.length) l.reverse Hc where
  go := fun i Y H e hi => by
    have hp : H p = some (.lst vs) := (cut_some.mp (e _ _ h)).2
    rw [List.length_reverse, ← r.length] at hi
    exact ⟨hi, vs, vs[vs.length - 1 - i], SqL.of hp, List.getElem?_eq_getElem (by omega)⟩
  stop := fun Y H e => by
    show vs.length ≤ l.reverse.length
    rw [List.length_reverse, r.length]
    exact Nat.le_refl _
  yld := fun i Y H x H' d e _ y hd => by
    obtain ⟨rfl, hx⟩ := y
    have hi : i < l.length := by
      have := (List.getElem?_eq_some_iff.mp hd).1
      rwa [List.length_reverse] at this
    rw [List.getElem?_reverse hi] at hd
    obtain ⟨v, hv, dv⟩ := r.atR hd
    have := hx vs (SqL.of (cut_some.mp (e _ _ h)).2)
    rw [r.length, hv] at this
    cases this
    exact ⟨Ex.refl _, dv.mono e⟩
abbrev F_rev (A : FA) : FI := fun ρ K X => A ρ (fun ds ρ' => ∃ l, ds = [.lst l] ∧ K l.reverse ρ') X
theorem PUI.rev {t : TA} {A : FA} (a : PUA G E t A) : PUI G E (iRev K t) (F_rev A) where
  run := fun S h => a.run S (a.mono (fun ds ρ' ⟨l, hd, k⟩ v H' S' e hv => by
    subst hd
    cases hv with
    | cons h r => cases r; cases h with
      | lst hp r => exact ⟨_, _, rfl, SqL.of (cut_some.mp hp).2, k _ H' S' e (Wk.rev hp r)⟩) (fun _ x => x) h)
  mono := fun m x h => a.mono (fun _ _ ⟨l, hd, k⟩ => ⟨l, hd, m _ _ k⟩) x h
end
end Fm

namespace Fm
def sumN (g : Nat → Rat) : Nat → Rat
  | 0 => 0
  | n + 1 => sumN g n + g n
def prodN (g : Nat → Rat) : Nat → Rat
  | 0 => 1
  | n + 1 => prodN g n * g n
theorem sumN_congr {g h : Nat → Rat} : ∀ {n : Nat}, (∀ k, k < n → g k = h k) → sumN g n = sumN h n
  | 0, _ => rfl
  | n + 1, e => by unfold sumN; rw [sumN_congr fun k hk => e k (by omega), e n (by omega)]
theorem prodN_congr {g h : Nat → Rat} : ∀ {n : Nat}, (∀ k, k < n → g k = h k) → prodN g n = prodN h n
  | 0, _ => rfl
  | n + 1, e => by unfold prodN; rw [prodN_congr fun k hk => e k (by omega), e n (by omega)]
theorem sumN_front (g : Nat → Rat) : ∀ n : Nat, sumN g (n + 1) = g 0 + sumN (fun k => g (k + 1)) n
  | 0 => by unfold sumN; unfold sumN; grind
  | n + 1 => by rw [sumN, sumN_front g n]; conv => rhs; rw [sumN]
                grind
theorem prodN_front (g : Nat → Rat) : ∀ n : Nat, prodN g (n + 1) = g 0 * prodN (fun k => g (k + 1)) n
  | 0 => by unfold prodN; unfold prodN; grind
  | n + 1 => by rw [prodN, prodN_front g n]; conv => rhs; rw [prodN]
                grind
theorem sumN_sub (g h : Nat → Rat) : ∀ n : Nat, sumN (fun k => g k - h k) n = sumN g n - sumN h n
  | 0 => by unfold sumN; grind
  | n + 1 => by unfold sumN; rw [sumN_sub g h n]; grind
theorem sumN_add (g h : Nat → Rat) : ∀ n : Nat, sumN (fun k => g k + h k) n = sumN g n + sumN h n
  | 0 => by unfold sumN; grind
  | n + 1 => by unfold sumN; rw [sumN_add g h n]; grind
theorem sumN_mul (c : Rat) (g : Nat → Rat) : ∀ n : Nat, sumN (fun k => c * g k) n = c * sumN g n
  | 0 => by unfold sumN; grind
  | n + 1 => by unfold sumN; rw [sumN_mul c g n]; grind
theorem sumN_zero {g : Nat → Rat} : ∀ {n : Nat}, (∀ k, k < n → g k = 0) → sumN g n = 0
  | 0, _ => rfl
  | n + 1, h => by unfold sumN; rw [sumN_zero fun k hk => h k (by omega), h n (by omega)]; grind
theorem prodN_ne {g : Nat → Rat} : ∀ {n : Nat}, (∀ k, k < n → g k ≠ 0) → prodN g n ≠ 0
  | 0, _ => by unfold prodN; grind
  | n + 1, h => by
    unfold prodN
    have h1 := prodN_ne (n := n) fun k hk => h k (by omega)
    have h2 := h n (by omega)
    intro e
    rcases Rat.mul_eq_zero.mp e with e | e
    · exact h1 e
    · exact h2 e
theorem prodN_zero {g : Nat → Rat} : ∀ {n k : Nat}, k < n → g k = 0 → prodN g n = 0
  | n + 1, k, hk, h => by
    unfold prodN
    by_cases e : k = n
    · rw [← e, h, Rat.mul_zero]
    · rw [prodN_zero (by omega : k < n) h, Rat.zero_mul]
def dd (m f : Nat → Rat) : Nat → Nat → Rat
  | 0, i => f i
  | w + 1, i => (dd m f w (i + 1) - dd m f w i) / (m (i + (w + 1)) - m i)
def ldP (m : Nat → Rat) (w i j : Nat) : Rat := prodN (fun l => if l = j then 1 else m (i + j) - m (i + l)) (w + 1)
def lgr (m f : Nat → Rat) (w i : Nat) : Rat := sumN (fun j => f (i + j) / ldP m w i j) (w + 1)
theorem ldP_last {m : Nat → Rat} {w i j : Nat} (h : j ≤ w) : ldP m (w + 1) i j = ldP m w i j * (m (i + j) - m (i + (w + 1))) := by
  unfold ldP
  rw [prodN, if_neg (by omega)]
theorem ldP_first {m : Nat → Rat} {w i j : Nat} : ldP m (w + 1) i (j + 1) = (m (i + (j + 1)) - m i) * ldP m w (i + 1) j := by
  unfold ldP
  rw [prodN_front, if_neg (by omega)]
  congr 1
  refine prodN_congr fun k _ => ?_
  by_cases e : k = j
  · rw [if_pos (by omega), if_pos e]
  · rw [if_neg (by omega), if_neg e, show i + (k + 1) = i + 1 + k by omega, show i + (j + 1) = i + 1 + j by omega]
theorem ldP_ne {m : Nat → Rat} {w i j : Nat} (hm : ∀ a b, a ≤ w → b ≤ w → a ≠ b → m (i + a) ≠ m (i + b)) (hj : j ≤ w) : ldP m w i j ≠ 0 := by
  unfold ldP
  refine prodN_ne fun k hk => ?_
  by_cases e : k = j
  · rw [if_pos e]; decide
  · rw [if_neg e]
    have := hm j k hj (by omega) (Ne.symm e)
    grind
theorem dd_lgr (m f : Nat → Rat) : ∀ (w i : Nat), (∀ a b, a ≤ w → b ≤ w → a ≠ b → m (i + a) ≠ m (i + b)) → dd m f w i = lgr m f w i
  | 0, i, _ => by
    unfold dd lgr sumN sumN ldP prodN prodN
    rw [if_pos rfl, Nat.add_zero]
    grind
  | w + 1, i, hm => by
    have h1 := dd_lgr m f w (i + 1) fun a b ha hb hab => by
      have := hm (a + 1) (b + 1) (by omega) (by omega) (by omega)
      rwa [show i + (a + 1) = i + 1 + a by omega, show i + (b + 1) = i + 1 + b by omega] at this
    have h0 := dd_lgr m f w i fun a b ha hb hab => hm a b (by omega) (by omega) hab
    have hd : m (i + (w + 1)) - m i ≠ 0 := by
      have := hm (w + 1) 0 (by omega) (by omega) (by omega)
      rw [Nat.add_zero] at this
      grind
    have e1 : lgr m f w (i + 1) = sumN (fun j => f (i + j) * (m (i + j) - m i) / ldP m (w + 1) i j) (w + 2) := by
      unfold lgr
      rw [sumN_front (fun j => f (i + j) * (m (i + j) - m i) / ldP m (w + 1) i j) (w + 1)]
      have z : f (i + 0) * (m (i + 0) - m i) / ldP m (w + 1) i 0 = 0 := by rw [Nat.add_zero]; grind
      rw [z, Rat.zero_add]
      refine sumN_congr fun k hk => ?_
      have n1 := ldP_ne (w := w) (i := i + 1) (j := k) (fun a b ha hb hab => by
        have := hm (a + 1) (b + 1) (by omega) (by omega) (by omega)
        rwa [show i + (a + 1) = i + 1 + a by omega, show i + (b + 1) = i + 1 + b by omega] at this) (by omega)
      have n2 := hm (k + 1) 0 (by omega) (by omega) (by omega)
      rw [Nat.add_zero] at n2
      rw [ldP_first, show i + 1 + k = i + (k + 1) by omega]
      have n3 : m (i + (k + 1)) - m i ≠ 0 := by grind
      grind
    have e0 : lgr m f w i = sumN (fun j => f (i + j) * (m (i + j) - m (i + (w + 1))) / ldP m (w + 1) i j) (w + 2) := by
      unfold lgr
      rw [show w + 2 = (w + 1) + 1 from rfl, sumN.eq_2 (fun j => f (i + j) * (m (i + j) - m (i + (w + 1))) / ldP m (w + 1) i j) (w + 1)]
      have z : f (i + (w + 1)) * (m (i + (w + 1)) - m (i + (w + 1))) / ldP m (w + 1) i (w + 1) = 0 := by grind
      rw [z, Rat.add_zero]
      refine sumN_congr fun k hk => ?_
      have n1 := ldP_ne (w := w) (i := i) (j := k) (fun a b ha hb hab => hm a b (by omega) (by omega) hab) (by omega)
      have n2 := hm k (w + 1) (by omega) (by omega) (by omega)
      rw [ldP_last (by omega)]
      have n3 : m (i + k) - m (i + (w + 1)) ≠ 0 := by grind
      grind
    unfold dd
    rw [h1, h0, e1, e0, ← sumN_sub]
    unfold lgr
    have e2 : sumN (fun k => f (i + k) * (m (i + k) - m i) / ldP m (w + 1) i k - f (i + k) * (m (i + k) - m (i + (w + 1))) / ldP m (w + 1) i k) (w + 2) = (m (i + (w + 1)) - m i) * sumN (fun j => f (i + j) / ldP m (w + 1) i j) (w + 2) := by
      rw [← sumN_mul]
      refine sumN_congr fun k hk => ?_
      grind
    rw [e2]
    grind
end Fm

set_option maxHeartbeats 2000000
namespace Fm
def prodZ (g : Nat → Int) : Nat → Int
  | 0 => 1
  | n + 1 => prodZ g n * g n
theorem prodZ_pos {g : Nat → Int} : ∀ {n : Nat}, (∀ k, k < n → 1 ≤ g k) → 1 ≤ prodZ g n
  | 0, _ => by unfold prodZ; decide
  | n + 1, h => by
    unfold prodZ
    have h1 := prodZ_pos (n := n) fun k hk => h k (by omega)
    have h2 := h n (by omega)
    have := Int.mul_le_mul h1 h2 (by decide) (by omega)
    omega
theorem prodZ_lt {g : Nat → Int} {b : Nat} : ∀ {n : Nat}, (∀ k, k < n → 1 ≤ g k ∧ g k ≤ 2 ^ b) → prodZ g n ≤ 2 ^ (b * n)
  | 0, _ => by unfold prodZ; simp
  | n + 1, h => by
    unfold prodZ
    have h1 := prodZ_lt (n := n) fun k hk => h k (by omega)
    have h2 := h n (by omega)
    rw [Nat.mul_succ, Int.pow_add]
    exact Int.mul_le_mul h1 h2.2 (by omega) (Int.le_of_lt (Int.pow_pos (by decide)))
theorem prodZ_dvd {g : Nat → Int} : ∀ {n k : Nat}, k < n → (∀ k, k < n → 1 ≤ g k) → ∃ c, prodZ g n = g k * c ∧ 1 ≤ c
  | n + 1, k, hk, h => by
    have hp := prodZ_pos (n := n) fun k hk => h k (by omega)
    unfold prodZ
    by_cases e : k = n
    · exact ⟨prodZ g n, by rw [e, Int.mul_comm], hp⟩
    · obtain ⟨c, h1, h2⟩ := prodZ_dvd (n := n) (k := k) (by omega) fun k hk => h k (by omega)
      refine ⟨c * g n, by rw [h1, Int.mul_assoc], ?_⟩
      have := Int.mul_le_mul h2 (h n (by omega)) (by decide) (by omega)
      omega
theorem fac_le {p a c : Int} (h : p = a * c) (ha : 1 ≤ a) (hc : 1 ≤ c) : c ≤ p := by
  have := Int.mul_le_mul_of_nonneg_right ha (by omega : 0 ≤ c)
  omega
def triN (N : Nat) : Nat → Nat
  | 0 => 0
  | w + 1 => triN N w + (N - 1 - w)
theorem dd_step {D E U P c A1 A0 z1 z0 : Int} (hD : D ≠ 0) (hE : E ≠ 0) (hU : U ≠ 0) (hP : P = (z1 - z0) * c) (hP0 : P ≠ 0) : (Rat.divInt A1 (E * U) - Rat.divInt A0 (E * U)) / (Rat.divInt z1 D - Rat.divInt z0 D) = Rat.divInt ((A1 - A0) * D * c) (E * (U * P)) := by
  subst hP
  have hc : c ≠ 0 := fun h => hP0 (by rw [h, Int.mul_zero])
  have hz : z1 - z0 ≠ 0 := fun h => hP0 (by rw [h, Int.zero_mul])
  rw [Rat.divInt_eq_div, Rat.divInt_eq_div, Rat.divInt_eq_div, Rat.divInt_eq_div, Rat.divInt_eq_div]
  simp only [Rat.intCast_mul, Rat.intCast_sub]
  have hD' : (D : Rat) ≠ 0 := by exact_mod_cast hD
  have hE' : (E : Rat) ≠ 0 := by exact_mod_cast hE
  have hU' : (U : Rat) ≠ 0 := by exact_mod_cast hU
  have hc' : (c : Rat) ≠ 0 := by exact_mod_cast hc
  have hz' : (z1 : Rat) - (z0 : Rat) ≠ 0 := by
    intro h
    apply hz
    have : ((z1 - z0 : Int) : Rat) = 0 := by rw [Rat.intCast_sub]; exact h
    exact_mod_cast this
  grind
theorem two_key (x y : Nat) : 2 * 2 ^ x * 2 ^ 6 * 2 ^ y = 2 ^ (x + 7 + y) := by
  rw [Nat.pow_add, Nat.pow_add, show (2 : Nat) ^ 7 = 2 * 2 ^ 6 from rfl]
  ac_rfl
theorem dd_lat {z n : Nat → Int} {D E : Int} {N a0 : Nat} (hD : 1 ≤ D ∧ D ≤ 2 ^ 6) (hE : 1 ≤ E) (hz : ∀ i j, i < j → j < N → 1 ≤ z j - z i ∧ z j - z i ≤ 2 ^ 20) (hn : ∀ i, i < N → (n i).natAbs ≤ 2 ^ a0) :
    ∀ w : Nat, w < N → ∃ U : Int, 1 ≤ U ∧ U ≤ 2 ^ (20 * triN N w) ∧ ∀ i, i + w < N → ∃ A : Int, dd (fun k => Rat.divInt (z k) D) (fun k => Rat.divInt (n k) E) w i = Rat.divInt A (E * U) ∧ A.natAbs ≤ 2 ^ (a0 + 7 * w + 20 * triN N w)
  | 0, _ => ⟨1, by decide, by unfold triN; decide, fun i hi => ⟨n i, by unfold dd; rw [Int.mul_one], by unfold triN; exact hn i (by omega)⟩⟩
  | w + 1, hw => by
    obtain ⟨U, u1, u2, hU⟩ := dd_lat hD hE hz hn w (by omega)
    have hg : ∀ k, k < N - 1 - w → 1 ≤ z (k + (w + 1)) - z k ∧ z (k + (w + 1)) - z k ≤ 2 ^ 20 := fun k hk => hz k (k + (w + 1)) (by omega) (by omega)
    have hP1 := prodZ_pos (g := fun k => z (k + (w + 1)) - z k) (n := N - 1 - w) fun k hk => (hg k hk).1
    have hP2 := prodZ_lt (g := fun k => z (k + (w + 1)) - z k) (b := 20) (n := N - 1 - w) hg
    generalize hPP : prodZ (fun k => z (k + (w + 1)) - z k) (N - 1 - w) = P at hP1 hP2
    refine ⟨U * P, ?_, ?_, fun i hi => ?_⟩
    · have := Int.mul_le_mul u1 hP1 (by decide) (by omega)
      omega
    · show U * P ≤ 2 ^ (20 * (triN N w + (N - 1 - w)))
      rw [Nat.mul_add, Int.pow_add]
      exact Int.mul_le_mul u2 hP2 (by omega) (Int.le_of_lt (Int.pow_pos (by decide)))
    · obtain ⟨A1, e1, b1⟩ := hU (i + 1) (by omega)
      obtain ⟨A0, e0, b0⟩ := hU i (by omega)
      obtain ⟨c, hc, hc1⟩ := prodZ_dvd (g := fun k => z (k + (w + 1)) - z k) (n := N - 1 - w) (k := i) (by omega) fun k hk => (hg k hk).1
      rw [hPP] at hc
      have hcP := fac_le hc (hg i (by omega)).1 hc1
      refine ⟨(A1 - A0) * D * c, ?_, ?_⟩
      · unfold dd
        rw [e1, e0]
        exact dd_step (by omega) (by omega) (by omega) hc (by omega)
      · show _ ≤ 2 ^ (a0 + 7 * (w + 1) + 20 * (triN N w + (N - 1 - w)))
        have h1 : (A1 - A0).natAbs ≤ 2 * 2 ^ (a0 + 7 * w + 20 * triN N w) := by omega
        have h2 : D.natAbs ≤ 2 ^ 6 := by omega
        have h3 : c.natAbs ≤ 2 ^ (20 * (N - 1 - w)) := by
          have hi : c ≤ 2 ^ (20 * (N - 1 - w)) := Int.le_trans hcP hP2
          have : ((2 ^ (20 * (N - 1 - w)) : Nat) : Int) = 2 ^ (20 * (N - 1 - w)) := by simp
          omega
        rw [Int.natAbs_mul, Int.natAbs_mul]
        have h4 := Nat.mul_le_mul (Nat.mul_le_mul h1 h2) h3
        refine Nat.le_trans h4 (Nat.le_of_eq ?_)
        rw [show a0 + 7 * (w + 1) + 20 * (triN N w + (N - 1 - w)) = (a0 + 7 * w + 20 * triN N w) + 7 + 20 * (N - 1 - w) by omega]
        exact two_key _ _
theorem tri_le : ∀ N, N ≤ 8 → ∀ w, w ≤ 8 → triN N w ≤ 28 := by decide
theorem lt_two {a b : Nat} (h : a ≤ 2 ^ b) : a < 2 ^ (b + 1) := Nat.lt_of_le_of_lt h (Nat.pow_lt_pow_right (by decide) (by omega))
theorem dd_sz {z n : Nat → Int} {D E : Int} {N a0 e0 : Nat} (hD : 1 ≤ D ∧ D ≤ 2 ^ 6) (hE : 1 ≤ E) (hE2 : E.natAbs ≤ 2 ^ e0) (hN : N ≤ 8) (hz : ∀ i j, i < j → j < N → 1 ≤ z j - z i ∧ z j - z i ≤ 2 ^ 20) (hn : ∀ i, i < N → (n i).natAbs ≤ 2 ^ a0)
    {w i : Nat} (hi : i + w < N) : Sz (a0 + e0 + 620) (dd (fun k => Rat.divInt (z k) D) (fun k => Rat.divInt (n k) E) w i) := by
  obtain ⟨U, u1, u2, hU⟩ := dd_lat hD hE hz hn w (by omega)
  obtain ⟨A, e, b⟩ := hU i hi
  have ht := tri_le N hN w (by omega)
  rw [e]
  refine Sz.divInt ?_ ?_ ?_
  · refine Nat.lt_of_lt_of_le (lt_two b) (Nat.pow_le_pow_right (by decide) (by omega))
  · rw [Int.natAbs_mul]
    have hu : U.natAbs ≤ 2 ^ (20 * triN N w) := by
      have : ((2 ^ (20 * triN N w) : Nat) : Int) = 2 ^ (20 * triN N w) := by simp
      omega
    have h4 := Nat.mul_le_mul hE2 hu
    rw [← Nat.pow_add] at h4
    exact Nat.lt_of_lt_of_le (lt_two h4) (Nat.pow_le_pow_right (by decide) (by omega))
  · intro h
    rcases Int.mul_eq_zero.mp h with h | h <;> omega
end Fm

set_option maxHeartbeats 2000000
namespace Fm
open PySem PySem.Spec PyProof.Rows L2
def fnL (l : List Rat) : Nat → Rat := fun k => l.getD k 0
theorem fnL_at {l : List Rat} {k : Nat} (h : k < l.length) : fnL l k = l[k] := by unfold fnL; rw [List.getD_eq_getElem?_getD, List.getElem?_eq_getElem h]; rfl
def steepR (ms ss : List Rat) (w : Nat) : List Rat := (List.range (ss.length - 1)).map fun k => (fnL ss (k + 1) - fnL ss k) / (fnL ms (k + w) - fnL ms k)
def ddL (ms hs : List Rat) (w : Nat) : List Rat := (List.range (hs.length - w)).map (dd (fnL ms) (fnL hs) w)
theorem ddL_len (ms hs : List Rat) (w : Nat) : (ddL ms hs w).length = hs.length - w := by unfold ddL; rw [List.length_map, List.length_range]
theorem ddL_at {ms hs : List Rat} {w k : Nat} (h : k + w < hs.length) : fnL (ddL ms hs w) k = dd (fnL ms) (fnL hs) w k := by
  rw [fnL_at (by rw [ddL_len]; omega)]
  unfold ddL
  rw [List.getElem_map, List.getElem_range]
theorem ddL_zero (ms hs : List Rat) : ddL ms hs 0 = hs := by
  show (List.range hs.length).map (dd (fnL ms) (fnL hs) 0) = hs
  refine List.ext_getElem (by rw [List.length_map, List.length_range]) fun k h1 h2 => ?_
  rw [List.getElem_map, List.getElem_range]
  unfold dd
  exact fnL_at h2
theorem steep_dd (ms hs : List Rat) (w : Nat) : steepR ms (ddL ms hs w) (w + 1) = ddL ms hs (w + 1) := by
  unfold steepR
  rw [ddL_len]
  show _ = (List.range (hs.length - (w + 1))).map _
  rw [show hs.length - w - 1 = hs.length - (w + 1) by omega]
  refine List.map_congr_left fun k hk => ?_
  have hk := List.mem_range.mp hk
  rw [ddL_at (by omega), ddL_at (by omega)]
  rfl
def SzDD (ms hs : List Rat) : Prop := ∀ w i, i + w < hs.length → Sz 1450 (dd (fnL ms) (fnL hs) w i)
theorem SzDD.mem {ms hs : List Rat} (h : SzDD ms hs) {w : Nat} : ∀ q ∈ ddL ms hs w, Sz 1450 q := fun q hq => by
  obtain ⟨k, hk, rfl⟩ := List.mem_map.mp hq
  have := List.mem_range.mp hk
  exact h w k (by omega)
def fdSteeper : FD where
  pre := fun ds => ∃ (ms ss : List Rat) (w : Nat), ds = [.lst (ms.map .rat), .lst (ss.map .rat), .int (w : Int)] ∧ ss.length ≤ 8 ∧ (∀ k, k + 1 < ss.length → k + w < ms.length ∧ fnL ms (k + w) ≠ fnL ms k) ∧ (∀ q ∈ ms, Sz 1450 q) ∧ ∀ q ∈ ss, Sz 1450 q
  post := fun ds r => ∃ (ms ss : List Rat) (w : Nat), ds = [.lst (ms.map .rat), .lst (ss.map .rat), .int (w : Int)] ∧ r = .lst ((steepR ms ss w).map .rat)
theorem steeper_post {ms ss : List Rat} {w : Nat} {r : Dt} (h : fdSteeper.post [.lst (ms.map .rat), .lst (ss.map .rat), .int (w : Int)] r) : r = .lst ((steepR ms ss w).map .rat) := by
  obtain ⟨ms', ss', w', e, rfl⟩ := h
  injection e with e1 e2
  injection e1 with e1
  injection e2 with e2 e3
  injection e2 with e2
  injection e3 with e3 _
  injection e3 with e3
  have e4 : w' = w := by omega
  rw [rats_inj e1, rats_inj e2, e4]
def slopesR (ms hs : List Rat) (n : Nat) : List Rat := if hs.length ≤ n then [] else ddL ms hs n
def fdSlopes : FD where
  pre := fun ds => ∃ (ms : List Rat) (d : Dt) (n : Nat), ds = [.lst (ms.map .rat), d, .int (n : Int)] ∧ d.seq d.items ∧ d.items.all Dt.isNum = true ∧ d.items.length ≤ 8 ∧ (∀ q ∈ nums d.items, Sz 1450 q) ∧ (n < d.items.length → d.items.length ≤ ms.length ∧ ms.Pairwise (· < ·) ∧ (∀ q ∈ ms, Sz 1450 q) ∧ SzDD ms (nums d.items))
  post := fun ds r => ∃ (ms : List Rat) (d : Dt) (n : Nat), ds = [.lst (ms.map .rat), d, .int (n : Int)] ∧ r = .lst ((slopesR ms (nums d.items) n).map .rat)
theorem slopes_post {ms : List Rat} {d : Dt} {n : Nat} {r : Dt} (h : fdSlopes.post [.lst (ms.map .rat), d, .int (n : Int)] r) : r = .lst ((slopesR ms (nums d.items) n).map .rat) := by
  obtain ⟨ms', d', n', e, rfl⟩ := h
  injection e with e1 e2
  injection e1 with e1
  injection e2 with e2 e3
  injection e3 with e3 _
  injection e3 with e3
  have e4 : n' = n := by omega
  rw [rats_inj e1, e2, e4]
theorem climb_ne {ms : List Rat} (h : ms.Pairwise (· < ·)) {i j : Nat} (hij : i < j) (hj : j < ms.length) : fnL ms j ≠ fnL ms i := by
  rw [fnL_at hj, fnL_at (by omega)]
  have := List.pairwise_iff_getElem.mp h i j (by omega) hj hij
  grind
theorem nums_len (l : List Dt) : (nums l).length = l.length := by unfold nums; rw [List.length_map]
def Dt.ints : List Dt → List Int := fun l => l.map fun d => match d with | .int i => i | _ => 0
def pickR (ms : List Rat) (is : List Int) : List Rat := is.map fun i => fnL ms i.toNat
end Fm

set_option maxHeartbeats 2000000
namespace Fm
open PySem PySem.Spec PyProof.Rows L2
def hornerR : List Rat → Rat → Rat
  | [], _ => 0
  | c :: cs, x => hornerR cs x * x + c
def liftR (p : List Rat) (r : Rat) : List Rat := List.zipWith (fun up c => up - c * r) (0 :: p) (p ++ [0])
def rootsFrom (p : List Rat) (rs : List Rat) : List Rat := rs.foldl liftR p
def rootsR (rs : List Rat) : List Rat := rootsFrom [1] rs
def prodL (x : Rat) (rs : List Rat) : Rat := rs.foldl (fun acc r => acc * (x - r)) 1
theorem horner_zip (r x : Rat) : ∀ (p : List Rat) (a : Rat), hornerR (List.zipWith (fun up c => up - c * r) (a :: p) (p ++ [0])) x = a + hornerR p x * (x - r)
  | [], a => by simp [hornerR]; grind
  | c :: p, a => by
    show hornerR (List.zipWith _ (c :: p) (p ++ [0])) x * x + (a - c * r) = a + (hornerR p x * x + c) * (x - r)
    rw [horner_zip r x p c]
    grind
theorem horner_lift (p : List Rat) (r x : Rat) : hornerR (liftR p r) x = hornerR p x * (x - r) := by
  unfold liftR
  rw [horner_zip]
  grind
theorem prodL_from (x : Rat) : ∀ (rs : List Rat) (a : Rat), rs.foldl (fun acc r => acc * (x - r)) a = a * prodL x rs
  | [], a => by unfold prodL; simp
  | r :: rs, a => by
    unfold prodL
    rw [List.foldl_cons, List.foldl_cons, prodL_from x rs, prodL_from x rs]
    grind
theorem horner_from (x : Rat) : ∀ (rs p : List Rat), hornerR (rootsFrom p rs) x = hornerR p x * prodL x rs
  | [], p => by unfold rootsFrom prodL; simp
  | r :: rs, p => by
    show hornerR (rootsFrom (liftR p r) rs) x = _
    rw [horner_from x rs, horner_lift]
    have e : prodL x (r :: rs) = (x - r) * prodL x rs := by
      show (r :: rs).foldl (fun acc r => acc * (x - r)) 1 = _
      rw [List.foldl_cons, prodL_from]
      grind
    rw [e]
    grind
theorem horner_roots (x : Rat) (rs : List Rat) : hornerR (rootsR rs) x = prodL x rs := by
  unfold rootsR
  rw [horner_from]
  simp [hornerR]
  grind
theorem prodL_app (x : Rat) (rs ss : List Rat) : prodL x (rs ++ ss) = prodL x rs * prodL x ss := by
  unfold prodL
  rw [List.foldl_append, prodL_from]
  rfl
theorem prodL_range (x : Rat) (g : Nat → Rat) : ∀ n, prodL x ((List.range n).map g) = prodN (fun k => x - g k) n
  | 0 => rfl
  | n + 1 => by
    rw [List.range_succ, List.map_append, prodL_app, prodL_range x g n]
    show _ * prodL x [g n] = prodN _ n * (x - g n)
    unfold prodL
    simp
theorem prodN_split (g : Nat → Rat) (j : Nat) : ∀ k, prodN g (j + k) = prodN g j * prodN (fun l => g (j + l)) k
  | 0 => by unfold prodN; rw [Nat.add_zero]; cases j <;> simp [prodN]
  | k + 1 => by
    show prodN g (j + k) * g (j + k) = _
    rw [prodN_split g j k]
    conv => rhs; rw [prodN]
    grind
theorem ldP_split {m : Nat → Rat} {w i j : Nat} (h : j ≤ w) : ldP m w i j = prodN (fun l => m (i + j) - m (i + l)) j * prodN (fun l => m (i + j) - m (i + (j + 1 + l))) (w - j) := by
  unfold ldP
  rw [show w + 1 = j + (1 + (w - j)) by omega, prodN_split, prodN_split]
  have e1 : prodN (fun l => if l = j then 1 else m (i + j) - m (i + l)) j = prodN (fun l => m (i + j) - m (i + l)) j := prodN_congr fun k hk => by rw [if_neg (by omega)]
  have e2 : prodN (fun l => if j + l = j then 1 else m (i + j) - m (i + (j + l))) 1 = 1 := by
    show 1 * (if j + 0 = j then (1 : Rat) else _) = 1
    rw [if_pos (Nat.add_zero j)]
    grind
  have e3 : prodN (fun l => if j + (1 + l) = j then 1 else m (i + j) - m (i + (j + (1 + l)))) (w - j) = prodN (fun l => m (i + j) - m (i + (j + 1 + l))) (w - j) := prodN_congr fun k hk => by rw [if_neg (by omega), Nat.add_assoc]
  rw [e1, e2, e3]
  grind
theorem liftR_len (p : List Rat) (r : Rat) : (liftR p r).length = p.length + 1 := by
  unfold liftR
  simp
theorem rootsFrom_len : ∀ (rs p : List Rat), (rootsFrom p rs).length = p.length + rs.length
  | [], p => rfl
  | r :: rs, p => by
    show (rootsFrom (liftR p r) rs).length = _
    rw [rootsFrom_len rs, liftR_len, List.length_cons]
    omega
section
variable {D : Int} {n n' b b' : Nat} {q q' : Rat}
theorem LatQ.le (h : LatQ D n b q) (hb : b ≤ b') : LatQ D n b' q := by
  obtain ⟨A, e, h⟩ := h
  exact ⟨A, e, Nat.le_trans h (Nat.pow_le_pow_right (by decide) hb)⟩
theorem powD_ne (hD : 1 ≤ D) (n : Nat) : D ^ n ≠ 0 := Int.ne_of_gt (Int.pow_pos (by omega))
theorem LatQ.sub (hD : 1 ≤ D) (h : LatQ D n b q) (h' : LatQ D n b q') : LatQ D n (b + 1) (q - q') := by
  obtain ⟨A, rfl, h⟩ := h
  obtain ⟨A', rfl, h'⟩ := h'
  refine ⟨A - A', ?_, ?_⟩
  · have := powD_ne hD n
    have h0 : ((D ^ n : Int) : Rat) ≠ 0 := by exact_mod_cast this
    rw [Rat.divInt_eq_div, Rat.divInt_eq_div, Rat.divInt_eq_div, Rat.intCast_sub]
    grind
  · rw [Nat.pow_succ]; omega
theorem LatQ.add (hD : 1 ≤ D) (h : LatQ D n b q) (h' : LatQ D n b q') : LatQ D n (b + 1) (q + q') := by
  obtain ⟨A, rfl, h⟩ := h
  obtain ⟨A', rfl, h'⟩ := h'
  refine ⟨A + A', ?_, ?_⟩
  · have := powD_ne hD n
    have h0 : ((D ^ n : Int) : Rat) ≠ 0 := by exact_mod_cast this
    rw [Rat.divInt_eq_div, Rat.divInt_eq_div, Rat.divInt_eq_div, Rat.intCast_add]
    grind
  · rw [Nat.pow_succ]; omega
theorem LatQ.mul (hD : 1 ≤ D) (h : LatQ D n b q) (h' : LatQ D n' b' q') : LatQ D (n + n') (b + b') (q * q') := by
  obtain ⟨A, rfl, h⟩ := h
  obtain ⟨A', rfl, h'⟩ := h'
  refine ⟨A * A', ?_, ?_⟩
  · have h1 := powD_ne hD n
    have h2 := powD_ne hD n'
    have h1' : ((D ^ n : Int) : Rat) ≠ 0 := by exact_mod_cast h1
    have h2' : ((D ^ n' : Int) : Rat) ≠ 0 := by exact_mod_cast h2
    rw [Rat.divInt_eq_div, Rat.divInt_eq_div, Rat.divInt_eq_div, Int.pow_add, Rat.intCast_mul, Rat.intCast_mul]
    grind
  · rw [Int.natAbs_mul, Nat.pow_add]
    exact Nat.mul_le_mul h h'
theorem LatQ.up (hD : 1 ≤ D ∧ D ≤ 2 ^ 6) (h : LatQ D n b q) : LatQ D (n + 1) (b + 6) q := by
  obtain ⟨A, rfl, h⟩ := h
  refine ⟨A * D, ?_, ?_⟩
  · have h1 := powD_ne hD.1 n
    have h1' : ((D ^ n : Int) : Rat) ≠ 0 := by exact_mod_cast h1
    have h2' : ((D : Int) : Rat) ≠ 0 := by
      have : D ≠ 0 := by omega
      exact_mod_cast this
    rw [Rat.divInt_eq_div, Rat.divInt_eq_div, Int.pow_succ, Rat.intCast_mul, Rat.intCast_mul]
    grind
  · rw [Int.natAbs_mul, Nat.pow_add]
    exact Nat.mul_le_mul h (by omega)
theorem powD_le (hD : 1 ≤ D ∧ D ≤ 2 ^ 6) : ∀ n : Nat, (D ^ n).natAbs ≤ 2 ^ (6 * n)
  | 0 => by simp
  | n + 1 => by
    rw [Int.pow_succ, Int.natAbs_mul, Nat.mul_succ, Nat.pow_add]
    exact Nat.mul_le_mul (powD_le hD n) (by omega)
theorem LatQ.sz (hD : 1 ≤ D ∧ D ≤ 2 ^ 6) (h : LatQ D n b q) : Sz (b + 6 * n + 1) q := by
  obtain ⟨A, rfl, h⟩ := h
  exact Sz.divInt (Nat.lt_of_lt_of_le (lt_two h) (Nat.pow_le_pow_right (by decide) (by omega))) (Nat.lt_of_lt_of_le (lt_two (powD_le hD n)) (Nat.pow_le_pow_right (by decide) (by omega))) (powD_ne hD.1 n)
theorem LatQ.zero (hD : 1 ≤ D) (n b : Nat) : LatQ D n b 0 := ⟨0, by rw [Rat.zero_divInt], Nat.zero_le _⟩
theorem LatQ.one : LatQ D 0 0 1 := ⟨1, by rw [Int.pow_zero]; exact (int_divInt 1).symm, by decide⟩
end
end Fm
namespace Fm
open PySem PySem.Spec PyProof.Rows L2
theorem fnL_mem {qs : List Rat} {k : Nat} (h : k < qs.length) : fnL qs k ∈ qs := by rw [fnL_at h]; exact List.getElem_mem h
theorem at_fn {qs : List Rat} {i : Int} {k : Nat} (hi : i = (k : Int)) (h : k < qs.length) : atI (qs.map Dt.rat) i = some (.rat (fnL qs k)) := by
  rw [hi, fnL_at h]
  exact at_rats qs h
theorem rng_nat {lo : Int} {n : Nat} {x : Dt} (h : x ∈ rngL lo n) : ∃ k : Nat, x = .int (lo + (k : Int)) ∧ k < n := by
  obtain ⟨k, hk, rfl⟩ := List.mem_map.mp h
  exact ⟨k, rfl, List.mem_range.mp hk⟩
theorem rng0_nat {n : Nat} {x : Dt} (h : x ∈ rngL 0 n) : ∃ k : Nat, x = .int (k : Int) ∧ k < n := by
  obtain ⟨k, rfl, hk⟩ := rng_nat h
  exact ⟨k, by rw [Int.zero_add], hk⟩
theorem rng_map {α : Type} (f : Dt → α) (n : Nat) : (rngL 0 n).map f = (List.range n).map fun (k : Nat) => f (.int (k : Int)) := by
  unfold rngL
  rw [List.map_map]
  exact List.map_congr_left fun k _ => by show f (.int (0 + (k : Int))) = _; rw [Int.zero_add]
theorem nat_int (k : Nat) : (Dt.int (k : Int)).nat = k := Int.toNat_natCast k
end Fm
namespace Fm
open PySem PySem.Spec PyProof.Rows L2
theorem pickR_len (ms : List Rat) (is : List Int) : (pickR ms is).length = is.length := by unfold pickR; rw [List.length_map]
theorem pickR_climb {ms : List Rat} {is : List Int} (hm : ms.Pairwise (· < ·)) (hi : is.Pairwise (· < ·)) (hb : ∀ i ∈ is, 0 ≤ i ∧ i < (ms.length : Int)) : (pickR ms is).Pairwise (· < ·) := by
  refine List.pairwise_map.mpr (hi.imp_of_mem fun {i j} h1 h2 hij => ?_)
  have b1 := hb i h1
  have b2 := hb j h2
  rw [fnL_at (by omega), fnL_at (by omega)]
  exact List.pairwise_iff_getElem.mp hm i.toNat j.toNat (by omega) (by omega) (by omega)
end Fm
namespace Fm
open PySem PySem.Spec PyProof.Rows L2
end Fm
namespace Fm
open PySem PySem.Spec PyProof.Rows L2
theorem rootsR_len (rs : List Rat) : (rootsR rs).length = rs.length + 1 := by
  unfold rootsR
  rw [rootsFrom_len]
  show 1 + rs.length = _
  omega
theorem LatV.sz {qs : List Rat} (h : LatV qs) : ∀ q ∈ qs, Sz 30 q := fun q hq => by
  obtain ⟨D, hD, h⟩ := h
  exact sz_le' ((h q hq).sz hD) (by decide)
end Fm

set_option maxHeartbeats 2000000
namespace Fm
open PySem PySem.Spec PyProof.Rows L2
section
variable {G : Gs} {E : XK} {K : PySem.W.Frag}
end
theorem dd_congr {m m' f f' : Nat → Rat} : ∀ (w i : Nat), (∀ k, i ≤ k → k ≤ i + w → m k = m' k ∧ f k = f' k) → dd m f w i = dd m' f' w i
  | 0, i, h => (h i (Nat.le_refl _) (Nat.le_refl _)).2
  | w + 1, i, h => by
    unfold dd
    rw [dd_congr w (i + 1) fun k h1 h2 => h k (by omega) (by omega), dd_congr w i fun k h1 h2 => h k (by omega) (by omega), (h (i + (w + 1)) (by omega) (by omega)).1, (h i (by omega) (by omega)).1]
theorem dd_shift (m f : Nat → Rat) : ∀ (w i : Nat), dd (fun k => m (k + 1)) (fun k => f (k + 1)) w i = dd m f w (i + 1)
  | 0, i => rfl
  | w + 1, i => by
    unfold dd
    rw [dd_shift m f w (i + 1), dd_shift m f w i, show i + (w + 1) + 1 = i + 1 + (w + 1) by omega]
def ddP (ms hs : List Rat) (is : List Int) : Rat := dd (fnL (pickR ms is)) (fnL (pickR hs is)) (is.length - 1) 0
theorem fnL_tail (l : List Rat) (k : Nat) : fnL (l.drop 1) k = fnL l (k + 1) := by
  cases l with
  | nil => rfl
  | cons a r => rfl
theorem fnL_take {l : List Rat} {n k : Nat} (h : k < n) : fnL (l.take n) k = fnL l k := by
  unfold fnL
  rw [List.getD_eq_getElem?_getD, List.getD_eq_getElem?_getD, List.getElem?_take_of_lt h]
theorem dd_fun (m f : Nat → Rat) {m' f' : Nat → Rat} (h1 : ∀ k, m' k = m k) (h2 : ∀ k, f' k = f k) : dd m' f' = dd m f := by
  have e1 : m' = m := funext h1
  have e2 : f' = f := funext h2
  rw [e1, e2]
theorem SzDD.tail {ms hs : List Rat} (h : SzDD ms hs) : SzDD (ms.drop 1) (hs.drop 1) := fun w i hi => by
  rw [List.length_drop] at hi
  rw [dd_fun (fun k => fnL ms (k + 1)) (fun k => fnL hs (k + 1)) (fnL_tail ms) (fnL_tail hs), dd_shift]
  exact h w (i + 1) (by omega)
theorem SzDD.take {ms hs : List Rat} (h : SzDD ms hs) (n : Nat) : SzDD (ms.take n) (hs.take n) := fun w i hi => by
  rw [List.length_take] at hi
  rw [dd_congr (m' := fnL ms) (f' := fnL hs) w i fun k h1 h2 => ⟨fnL_take (by omega), fnL_take (by omega)⟩]
  exact h w i (by omega)
theorem pick_at {ms : List Rat} {is : List Int} {k : Nat} (h : k < is.length) : fnL (pickR ms is) k = fnL ms is[k].toNat := by
  rw [fnL_at (by rw [pickR_len]; exact h)]
  unfold pickR
  rw [List.getElem_map]
theorem sz_pick {ms hs : List Rat} {is : List Int} {E : Int} {a0 e0 : Nat} (hm : LatV ms) (hmp : ms.Pairwise (· < ·)) (hE : 1 ≤ E) (hE2 : E.natAbs ≤ 2 ^ e0) (hh : ∀ q ∈ hs, ∃ n : Int, q = Rat.divInt n E ∧ n.natAbs ≤ 2 ^ a0) (hl : hs.length = ms.length) (hip : is.Pairwise (· < ·)) (hib : ∀ i ∈ is, 0 ≤ i ∧ i < (ms.length : Int)) (h8 : is.length ≤ 8) (hs2 : a0 + e0 ≤ 820) : SzDD (pickR ms is) (pickR hs is) := by
  obtain ⟨D, hD, hlat⟩ := hm
  intro w i hi
  rw [pickR_len] at hi
  have bnd : ∀ k (hk : k < is.length), is[k].toNat < ms.length := fun k hk => by have := hib _ (List.getElem_mem hk); omega
  have hz : ∀ k : Nat, ∃ z : Int, k < is.length → fnL (pickR ms is) k = Rat.divInt z D ∧ z.natAbs ≤ 2 ^ 19 := fun k => by
    by_cases hk : k < is.length
    · obtain ⟨A, e, b⟩ := hlat _ (fnL_mem (bnd k hk))
      exact ⟨A, fun _ => ⟨by rw [pick_at hk, e, Int.pow_succ, Int.pow_zero, Int.one_mul], b⟩⟩
    · exact ⟨0, fun h => absurd h hk⟩
  have hn : ∀ k : Nat, ∃ n : Int, k < is.length → fnL (pickR hs is) k = Rat.divInt n E ∧ n.natAbs ≤ 2 ^ a0 := fun k => by
    by_cases hk : k < is.length
    · obtain ⟨A, e, b⟩ := hh _ (fnL_mem (by rw [hl]; exact bnd k hk))
      exact ⟨A, fun _ => ⟨by rw [pick_at hk, e], b⟩⟩
    · exact ⟨0, fun h => absurd h hk⟩
  have cz := fun k => Classical.choose_spec (hz k)
  have cn := fun k => Classical.choose_spec (hn k)
  have hpw := pickR_climb hmp hip hib
  have key := dd_sz (z := fun k => Classical.choose (hz k)) (n := fun k => Classical.choose (hn k)) (D := D) (E := E) (N := is.length) (a0 := a0) (e0 := e0) hD hE hE2 h8 (fun p q hpq hq => by
    have h1 := cz p (by omega)
    have h2 := cz q hq
    have hlt : fnL (pickR ms is) p < fnL (pickR ms is) q := by
      rw [fnL_at (by rw [pickR_len]; omega), fnL_at (by rw [pickR_len]; omega)]
      exact List.pairwise_iff_getElem.mp hpw p q _ _ hpq
    rw [h1.1, h2.1] at hlt
    have hlt := (divInt_lt (by omega : 0 < D) (by omega : 0 < D)).mp hlt
    have hlt2 := Int.lt_of_mul_lt_mul_right hlt (by omega)
    have e20 : (2 : Int) ^ 20 = 1048576 := by decide
    have b1 := Nat.le_trans h1.2 (by decide : 2 ^ 19 ≤ 524288)
    have b2 := Nat.le_trans h2.2 (by decide : 2 ^ 19 ≤ 524288)
    generalize Classical.choose (hz p) = zp at hlt2 b1
    generalize Classical.choose (hz q) = zq at hlt2 b2
    rw [e20]
    constructor
    · omega
    · omega) (fun k hk => (cn k hk).2) (w := w) (i := i) (by omega)
  rw [dd_congr (m' := fun k => Rat.divInt (Classical.choose (hz k)) D) (f' := fun k => Rat.divInt (Classical.choose (hn k)) E) w i fun k h1 h2 => ⟨(cz k (by omega)).1, (cn k (by omega)).1⟩]
  exact sz_le' key (by omega)
theorem spXL_of {G : Gs} {F : FD} {Fx : FX} (h : ∀ ds, F.pre ds → Fx.pre ds ∧ (∀ d, Fx.post ds d → F.post ds d) ∧ ∀ e, ¬ Fx.err ds e) {vs : List V} {H : Hp} {Q : VK} {E : XK} (hs : spL G F vs H Q E) : spXL G Fx vs H Q E := by
  obtain ⟨ds, X, hv, hx, hp, q⟩ := hs
  obtain ⟨h1, h2, h3⟩ := h ds hp
  exact ⟨ds, X, hv, hx, h1, fun l p us H' hp2 => q l p us H' (h2 _ hp2), fun e he => absurd he (h3 e)⟩
end Fm
namespace Fm
open PySem PySem.Spec PyProof.Rows L2
theorem Sz.inv {k : Nat} {q : Rat} (h : Sz k q) (h0 : q ≠ 0) : Sz k (1 / q) := by
  have hn : q.num ≠ 0 := fun z => h0 (Rat.num_eq_zero.mp z)
  have e : (1 / q) = Rat.divInt (q.den : Int) q.num := by
    have h1 : q = Rat.divInt q.num (q.den : Int) := (Rat.num_divInt_den q).symm
    have hd : ((q.den : Int) : Rat) ≠ 0 := by
      have : (q.den : Int) ≠ 0 := by have := q.den_pos; omega
      exact_mod_cast this
    have hn' : ((q.num : Int) : Rat) ≠ 0 := by exact_mod_cast hn
    rw [Rat.divInt_eq_div] at h1 ⊢
    generalize ((q.den : Int) : Rat) = dd at h1 hd ⊢
    generalize ((q.num : Int) : Rat) = nn at h1 hn' ⊢
    rw [h1]
    grind
  rw [e]
  exact Sz.divInt (by have := h.2; rw [Int.natAbs_natCast]; exact this) h.1 hn
theorem prodL_lat {D : Int} (hD : 1 ≤ D) {x : Rat} (hx : LatQ D 1 19 x) : ∀ (rs : List Rat), (∀ r ∈ rs, LatQ D 1 19 r) → LatQ D rs.length (20 * rs.length) (prodL x rs)
  | [], _ => LatQ.one
  | r :: rs, h => by
    have e : prodL x (r :: rs) = (x - r) * prodL x rs := by
      show (r :: rs).foldl (fun acc r => acc * (x - r)) 1 = _
      rw [List.foldl_cons, prodL_from]
      grind
    rw [e, List.length_cons]
    have h1 := (hx.sub hD (h r List.mem_cons_self)).mul hD (prodL_lat hD hx rs fun r hr => h r (List.mem_cons_of_mem _ hr))
    rw [show rs.length + 1 = 1 + rs.length by omega, show 20 * (1 + rs.length) = 19 + 1 + 20 * rs.length by omega]
    exact h1
theorem dotR_sumN : ∀ (n : Nat) (ps qs : List Rat), ps.length = n → qs.length = n → dotR ps qs = sumN (fun k => fnL ps k * fnL qs k) n
  | 0, ps, qs, h1, h2 => by
    rw [List.eq_nil_of_length_eq_zero h1, List.eq_nil_of_length_eq_zero h2]
    rfl
  | n + 1, ps, qs, h1, h2 => by
    have e := dotR_take (ps := ps) (qs := qs) (by omega) (i := n) (by omega)
    rw [List.take_of_length_le (by omega), List.take_of_length_le (by omega)] at e
    rw [e, dotR_sumN n _ _ (by rw [List.length_take]; omega) (by rw [List.length_take]; omega)]
    show _ = sumN _ n + fnL ps n * fnL qs n
    rw [fnL_at (show n < ps.length by omega), fnL_at (show n < qs.length by omega)]
    congr 1
    exact sumN_congr fun k hk => by rw [fnL_take hk, fnL_take hk]
theorem sumN_split (g : Nat → Rat) (j : Nat) : ∀ k, sumN g (j + k) = sumN g j + sumN (fun l => g (j + l)) k
  | 0 => by rw [Nat.add_zero]; show _ = _ + 0; grind
  | k + 1 => by
    show sumN g (j + k) + g (j + k) = _ + (_ + _)
    rw [sumN_split g j k]
    grind
theorem dd_shiftn (m f : Nat → Rat) (b : Nat) : ∀ (w i : Nat), dd (fun k => m (b + k)) (fun k => f (b + k)) w i = dd m f w (b + i)
  | 0, i => rfl
  | w + 1, i => by
    unfold dd
    rw [dd_shiftn m f b w (i + 1), dd_shiftn m f b w i, show b + (i + (w + 1)) = b + i + (w + 1) by omega]
    rfl
def nearI (b n : Nat) : List Int := (List.range n).map fun (k : Nat) => (b : Int) + (k : Int)
theorem near_len (b n : Nat) : (nearI b n).length = n := by unfold nearI; rw [List.length_map, List.length_range]
theorem ddP_near (ms hs : List Rat) (b o : Nat) : ddP ms hs (nearI b (o + 1)) = dd (fnL ms) (fnL hs) o b := by
  unfold ddP
  rw [near_len, show o + 1 - 1 = o by omega]
  have key : ∀ (l : List Rat) k, k < o + 1 → fnL (pickR l (nearI b (o + 1))) k = fnL l (b + k) := fun l k hk => by
    rw [pick_at (by rw [near_len]; exact hk)]
    unfold nearI
    rw [List.getElem_map, List.getElem_range, show ((b : Int) + (k : Int)).toNat = b + k by omega]
  rw [dd_congr (m' := fun k => fnL ms (b + k)) (f' := fun k => fnL hs (b + k)) o 0 fun k _ hk => ⟨key ms k (by omega), key hs k (by omega)⟩, dd_shiftn]
  rfl
end Fm
namespace Fm
open PySem PySem.Spec PyProof.Rows L2
end Fm

set_option maxHeartbeats 2000000
namespace Fm
open PySem PySem.Spec PyProof.Rows L2
structure Held2 (P : Program) (w : World) (K : PySem.W.Frag) (mg : Str → Option Value) (base : Heap) (CX : CXT) (k n : Nat) (ks : List Str) (f : Addr) (sp : Sp) : Prop where
  ex : ∃ (fd : FuncData) (ps : List Str), FnOk P w K mg base CX k f fd ps sp ∧ PySem.W.keepIn K (.ref f) = true ∧ KBn K fd ps n ks (fun us ws => us ++ ws) (fun vs zs => vs ++ zs)
theorem Held2.nil {P : Program} {w : World} {K : PySem.W.Frag} {mg : Str → Option Value} {base : Heap} {CX : CXT} {k n : Nat} {ks : List Str} : ∀ x ∈ ([] : List (Addr × Sp)), Held2 P w K mg base CX k n ks x.1 x.2 := fun _ h => nomatch h
theorem Held2.cons {P : Program} {w : World} {K : PySem.W.Frag} {mg : Str → Option Value} {base : Heap} {CX : CXT} {k n : Nat} {ks : List Str} {f : Addr} {sp : Sp} {L : List (Addr × Sp)} (h : Held2 P w K mg base CX k n ks f sp) (h2 : ∀ x ∈ L, Held2 P w K mg base CX k n ks x.1 x.2) : ∀ x ∈ (f, sp) :: L, Held2 P w K mg base CX k n ks x.1 x.2 := fun x hx => by
  rcases List.mem_cons.mp hx with rfl | hx
  · exact h
  · exact h2 x hx
section
variable {X : Cx} {CX : CXT} {k n : Nat} {ks : List Str} {E : L2.St → XK} {pos p2 : Pos} {o i e : Expr} {es : List Expr} {kws : List Keyword} {t tk : TA} {tf : TE} {L : List (Addr × Sp)}
end
end Fm

set_option maxHeartbeats 2000000
namespace Fm
open PySem PySem.Spec PyProof.Rows L2
section
variable {G : Gs} {E : XK} {K : PySem.W.Frag} {f : Fr} {σ σ2 : L2.St} {H H1 H2 : Hp} {ρ ρ2 : Fm.Env}
def Slot.lent : Slot → Slot
  | .own l => .val (.lst l)
  | s => s
def Slot.noLock : Slot → Bool
  | .lock _ => false
  | _ => true
abbrev lentE (ρ : Fm.Env) : Fm.Env := ρ.map Slot.lent
theorem St.lentA : ∀ {b a : Fm.Env}, St G f σ H (a ++ b) → St G f σ H (a ++ lentE b) ∧ Ex (cut (Xs f σ (a ++ b)) H) (cut (Xs f σ (a ++ lentE b)) H)
  | [], a, S => ⟨S, Ex.refl _⟩
  | s :: r, a, S => by
    have go : ∀ s' : Slot, St G f σ H (a ++ s' :: r) → s.lent = s' → St G f σ H (a ++ lentE (s :: r)) ∧ Ex (cut (Xs f σ (a ++ s' :: r)) H) (cut (Xs f σ (a ++ lentE (s :: r))) H) := fun s' S' e => by
      have h := St.lentA (b := r) (a := a ++ [s']) (by rw [List.append_assoc]; exact S')
      rw [List.append_assoc, List.append_assoc] at h
      rw [← e] at h ⊢
      exact h
    cases s with
    | own l =>
      have hi : (a ++ Slot.own l :: r)[a.length]? = some (.own l) := by simp
      obtain ⟨p, vs, q1, q2, q3, q4⟩ := S.own hi
      obtain ⟨S1, e1, _⟩ := S.melt hi q1
      have e : (a ++ Slot.own l :: r).set a.length (.val (.lst l)) = a ++ Slot.val (.lst l) :: r := by simp
      rw [e] at S1 e1
      obtain ⟨S2, e2⟩ := go _ S1 rfl
      exact ⟨S2, e1.trans e2⟩
    | un => exact go _ S rfl
    | val d => exact go _ S rfl
    | lock l => exact go _ S rfl
    | tape p => exact go _ S rfl
    | ref a => exact go _ S rfl
    | box p b => exact go _ S rfl
abbrev F_lendA (U : FS) : FS := fun ρ D => ρ.all Slot.noLock = true ∧ U (lentE ρ) { D with nx := fun ρ2 => ρ2 = lentE ρ ∧ D.nx ρ }
theorem lent_at {ρ : Fm.Env} {i : Nat} {s : Slot} (h : ρ[i]? = some s) : (lentE ρ)[i]? = some s.lent := by rw [List.getElem?_map, h]; rfl
theorem own_lent {p : Addr} (h : Own σ (lentE ρ) p) : Own σ ρ p := by
  obtain ⟨j, t, h1, h2, h3⟩ := h
  rw [List.getElem?_map] at h1
  cases hj : ρ[j]? with
  | none => rw [hj] at h1; cases h1
  | some s =>
    rw [hj] at h1
    injection h1 with h1
    subst h1
    refine ⟨j, s, hj, ?_, h3⟩
    cases s <;> first | rfl | exact h2
theorem PUS.lendA {t : TS} {U : FS} (u : PVS G (fun c d _ H => E c d H) t U) : PUS G E t (F_lendA U) where
  run := fun {f σ H ρ D} S ⟨lo, h⟩ => by
    obtain ⟨S1, e1⟩ := St.lentA (a := []) (b := ρ) S
    have S1 : St G f σ H (lentE ρ) := S1
    have S2 := S1.sub
    have own' : ∀ {a : Addr}, Own σ (lentE ρ) a → Own σ ρ a := own_lent
    refine u.run (D := D) S2 (u.mono ⟨?_, ?_, ?_, ?_, ?_, ?_⟩ h)
    · rintro ρ2 ⟨rfl, k⟩ H' S' e'
      have keep : ∀ a o, ¬ Own σ (lentE ρ) a → H a = some o → H' a = some o := S'.fr
      have ex : Ex (cut (Xs f σ ρ) H) (cut (Xs f σ ρ) H') := cut_ex fun a o n h => ⟨n, keep a o (fun w => n (.inr (own' w))) h⟩
      refine k σ H' ⟨S.len, fun a o nP h0 => keep a o (fun w => (S.nw a (own' w)).elim nP fun n => by rw [n] at h0; cases h0) (S.fr a o nP h0), fun j s hj => ?_, S.uq, S.nw, fun q hq => ⟨(S'.x0 q hq).1, (S.x0 q hq).2⟩, fun q hq => ?_⟩ ex
      · have s0 := S.sl j s hj
        cases s with
        | un => exact .un
        | val d => exact s0.mono ex fun _ _ w => nomatch w
        | ref a => exact s0.mono ex fun _ _ w => nomatch w
        | own m =>
          obtain ⟨p, vs, q1, q2, q3, q4⟩ := S.own hj
          have np : ¬ Own σ (lentE ρ) p := by
            rintro ⟨i, t, h1, h2, h3⟩
            rw [List.getElem?_map] at h1
            cases hi : ρ[i]? with
            | none => rw [hi] at h1; cases h1
            | some s =>
              rw [hi] at h1
              injection h1 with h1
              subst h1
              have e := S.uq j i _ s p hj rfl q1 hi (by cases s <;> first | rfl | exact h2) h3
              subst e
              rw [hj] at hi
              injection hi with hi
              subst hi
              cases h2
          rw [jn.mpr q1]
          exact .own (keep p _ np q3) (q4.mono ex)
        | lock m =>
          have := List.all_eq_true.mp lo _ (List.mem_of_getElem? hj)
          cases this
        | tape q =>
          have s1 := S'.sl j _ (lent_at hj)
          generalize σ[j]?.join = o at s1
          have s1 : SlR G _ H' o (.tape q) := s1
          cases s1 with
          | tape ht => exact .tape ht
        | box q b =>
          have s1 := S'.sl j _ (lent_at hj)
          generalize σ[j]?.join = o at s1
          have s1 : SlR G _ H' o (.box q b) := s1
          cases s1 with
          | box ht => exact .box ht
      · by_cases own : Own σ (lentE ρ) q
        · exact S'.pd q own
        · cases e : H q with
          | none => exact absurd e (S.pd q hq)
          | some o => rw [keep q o own e]; exact fun z => nomatch z
    · exact fun d ρ2 k v σ' H' S' hd => k v σ' H' (S1.sup' S') hd
    · exact fun m ρ2 k q ws σ' H' S' h1 h2 h3 h4 => k q ws σ' H' (S1.sup' (Y := fun a => f.X0 a ∨ a = q) S') (by
        rcases h1 with h1 | h1
        · exact S1.nw q h1
        · exact .inr (S1.fresh h1).1) h2 h3 h4
    · exact fun ρ2 k σ' H' S' e' => k σ' H' (S1.sup' S') (e1.trans e')
    · exact fun ρ2 k σ' H' S' e' => k σ' H' (S1.sup' S') (e1.trans e')
    · exact fun e he => kX_sub' (E := E) S1 e he
  mono := fun {ρ D D'} m ⟨lo, h⟩ => ⟨lo, u.mono (D := { D with nx := fun ρ2 => ρ2 = lentE ρ ∧ D.nx ρ }) (D' := { D' with nx := fun ρ2 => ρ2 = lentE ρ ∧ D'.nx ρ }) ⟨fun _ k => ⟨k.1, m.nx _ k.2⟩, m.rt, m.rl, m.bk, m.ct, m.ex⟩ h⟩
end
end Fm

set_option maxHeartbeats 2000000
namespace Fm
open PySem PySem.Spec PyProof.Rows L2
theorem dd_zero (m : Nat → Rat) : ∀ (w i : Nat), dd m (fun _ => 0) w i = 0
  | 0, i => rfl
  | w + 1, i => by
    unfold dd
    rw [dd_zero m w (i + 1), dd_zero m w i]
    grind
theorem dd_const (m : Nat → Rat) (c : Rat) : ∀ (w i : Nat), dd m (fun _ => c) (w + 1) i = 0
  | 0, i => by unfold dd; unfold dd; grind
  | w + 1, i => by
    unfold dd
    rw [dd_const m c w (i + 1), dd_const m c w i]
    grind
theorem dd_scale (m g : Nat → Rat) (c : Rat) : ∀ (w i : Nat), dd m (fun k => c * g k) w i = c * dd m g w i
  | 0, i => rfl
  | w + 1, i => by
    unfold dd
    rw [dd_scale m g c w (i + 1), dd_scale m g c w i]
    grind
theorem dd_leib (m g : Nat → Rat) (r : Rat) : ∀ (w i : Nat), (∀ a b, i ≤ a → a < b → b ≤ i + (w + 1) → m b ≠ m a) → dd m (fun k => (m k - r) * g k) (w + 1) i = (m i - r) * dd m g (w + 1) i + dd m g w (i + 1)
  | 0, i, h => by
    have h1 := h i (i + 1) (by omega) (by omega) (by omega)
    have e : dd m (fun k => (m k - r) * g k) 1 i = ((m (i + 1) - r) * g (i + 1) - (m i - r) * g i) / (m (i + 1) - m i) := rfl
    have e2 : dd m g 1 i = (g (i + 1) - g i) / (m (i + 1) - m i) := rfl
    have e3 : dd m g 0 (i + 1) = g (i + 1) := rfl
    have h2 : m (i + 1) - m i ≠ 0 := by grind
    show dd m (fun k => (m k - r) * g k) 1 i = (m i - r) * dd m g 1 i + dd m g 0 (i + 1)
    rw [e, e2, e3]
    grind
  | w + 1, i, h => by
    have ih1 := dd_leib m g r w (i + 1) fun a b h1 h2 h3 => h a b (by omega) h2 (by omega)
    have ih0 := dd_leib m g r w i fun a b h1 h2 h3 => h a b (by omega) h2 (by omega)
    have hM := h i (i + (w + 2)) (by omega) (by omega) (by omega)
    have hN := h (i + 1) (i + (w + 2)) (by omega) (by omega) (by omega)
    have e : dd m (fun k => (m k - r) * g k) (w + 2) i = (dd m (fun k => (m k - r) * g k) (w + 1) (i + 1) - dd m (fun k => (m k - r) * g k) (w + 1) i) / (m (i + (w + 2)) - m i) := rfl
    have e2 : dd m g (w + 2) i = (dd m g (w + 1) (i + 1) - dd m g (w + 1) i) / (m (i + (w + 2)) - m i) := rfl
    have e3 : dd m g (w + 1) (i + 1) = (dd m g w (i + 2) - dd m g w (i + 1)) / (m (i + (w + 2)) - m (i + 1)) := by
      show (_ - _) / (m (i + 1 + (w + 1)) - _) = _
      rw [show i + 1 + (w + 1) = i + (w + 2) by omega]
    show dd m (fun k => (m k - r) * g k) (w + 2) i = (m i - r) * dd m g (w + 2) i + dd m g (w + 1) (i + 1)
    rw [show i + 1 + 1 = i + 2 by omega] at ih1
    rw [e, e2, ih1, ih0]
    have hM2 : m (i + (w + 2)) - m i ≠ 0 := by grind
    have hN2 : m (i + (w + 2)) - m (i + 1) ≠ 0 := by grind
    generalize dd m g (w + 1) (i + 1) = G1 at *
    generalize dd m g (w + 1) i = G0 at *
    generalize dd m g w (i + 2) = g2 at *
    generalize dd m g w (i + 1) = g1 at *
    generalize m (i + (w + 2)) = M at *
    generalize m (i + 1) = m1 at *
    generalize m i = m0 at *
    have e4 : G1 * (M - m1) = g2 - g1 := by rw [e3]; grind
    grind
theorem dd_poly (m rr : Nat → Rat) : ∀ (n w i : Nat), n < w → (∀ a b, i ≤ a → a < b → b ≤ i + w → m b ≠ m a) → dd m (fun k => prodN (fun l => m k - rr l) n) w i = 0
  | 0, w, i, hw, h => by
    obtain ⟨v, rfl⟩ : ∃ v, w = v + 1 := ⟨w - 1, by omega⟩
    exact dd_const m 1 v i
  | n + 1, w, i, hw, h => by
    obtain ⟨v, rfl⟩ : ∃ v, w = v + 1 := ⟨w - 1, by omega⟩
    have e : (fun k => prodN (fun l => m k - rr l) (n + 1)) = fun k => (m k - rr n) * prodN (fun l => m k - rr l) n := by
      funext k
      show prodN _ n * _ = _
      grind
    rw [e, dd_leib m _ (rr n) v i h, dd_poly m rr n (v + 1) i (by omega) h, dd_poly m rr n v (i + 1) (by omega) fun a b h1 h2 h3 => h a b (by omega) h2 (by omega)]
    grind
def dualF (m : Nat → Rat) (p o k : Nat) : Rat := if k < p + o then 0 else (m (p + o) - m p) * prodN (fun l => m k - m (p + 1 + l)) (o - 1)
theorem dd_dual {m : Nat → Rat} {p o i : Nat} (ho : 1 ≤ o) (h : ∀ a b, a < b → b ≤ p + o ∨ b ≤ i + o → m b ≠ m a) : dd m (dualF m p o) o i = if i = p then 1 else 0 := by
  rcases Nat.lt_trichotomy i p with hi | hi | hi
  · rw [if_neg (by omega), dd_congr (m' := m) (f' := fun _ => 0) o i fun k h1 h2 => ⟨rfl, by unfold dualF; rw [if_pos (by omega)]⟩]
    exact dd_zero m o i
  · subst hi
    rw [if_pos rfl, dd_lgr _ _ _ _ fun a b ha hb hab => by
      rcases Nat.lt_or_gt_of_ne hab with h1 | h1
      · exact fun z => h (i + a) (i + b) (by omega) (by omega) z.symm
      · exact h (i + b) (i + a) (by omega) (by omega)]
    unfold lgr
    show sumN _ o + _ = _
    rw [sumN_zero fun k hk => by
      unfold dualF
      rw [if_pos (by omega)]
      grind]
    obtain ⟨v, rfl⟩ : ∃ v, o = v + 1 := ⟨o - 1, by omega⟩
    have e1 : ldP m (v + 1) i (v + 1) = (m (i + (v + 1)) - m i) * prodN (fun l => m (i + (v + 1)) - m (i + 1 + l)) v := by
      rw [ldP_split (Nat.le_refl _), Nat.sub_self]
      show prodN _ (v + 1) * 1 = _
      rw [prodN_front]
      rw [show (fun k => m (i + (v + 1)) - m (i + (k + 1))) = fun l => m (i + (v + 1)) - m (i + 1 + l) from by funext l; rw [show i + (l + 1) = i + 1 + l by omega]]
      show (m (i + (v + 1)) - m (i + 0)) * _ * 1 = _
      rw [Nat.add_zero]
      grind
    have e2 : dualF m i (v + 1) (i + (v + 1)) = ldP m (v + 1) i (v + 1) := by
      unfold dualF
      rw [if_neg (by omega), e1]
      rfl
    have hne : ldP m (v + 1) i (v + 1) ≠ 0 := ldP_ne (fun a b ha hb hab => by
      rcases Nat.lt_or_gt_of_ne hab with h1 | h1
      · exact fun z => h (i + a) (i + b) (by omega) (by omega) z.symm
      · exact h (i + b) (i + a) (by omega) (by omega)) (by omega)
    show 0 + dualF m i (v + 1) (i + (v + 1)) / ldP m (v + 1) i (v + 1) = 1
    rw [e2]
    grind
  · rw [if_neg (by omega), dd_congr (m' := m) (f' := fun k => (m (p + o) - m p) * prodN (fun l => m k - m (p + 1 + l)) (o - 1)) o i fun k h1 h2 => ⟨rfl, ?_⟩, dd_scale, dd_poly m (fun l => m (p + 1 + l)) (o - 1) o i (by omega) fun a b h1 h2 h3 => h a b h2 (by omega)]
    · grind
    · unfold dualF
      by_cases hk : k < p + o
      · rw [if_pos hk, prodN_zero (k := k - (p + 1)) (by omega) (by rw [show p + 1 + (k - (p + 1)) = k by omega]; grind)]
        grind
      · rw [if_neg hk]
def dualR (qs : List Rat) (p o : Nat) : List Rat := (List.range qs.length).map (dualF (fnL qs) p o)
def betwR (qs : List Rat) (p o : Nat) : List Rat := (List.range (o - 1)).map fun l => fnL qs (p + 1 + l)
theorem betw_mem {qs : List Rat} {p o : Nat} (hp : p + o < qs.length) : ∀ r ∈ betwR qs p o, r ∈ qs := fun r hr => by
  obtain ⟨l, hl, rfl⟩ := List.mem_map.mp hr
  have := List.mem_range.mp hl
  exact fnL_mem (by omega)
theorem betw_len (qs : List Rat) (p o : Nat) : (betwR qs p o).length = o - 1 := by unfold betwR; rw [List.length_map, List.length_range]
theorem dual_lat {qs : List Rat} {D : Int} (hD : 1 ≤ D ∧ D ≤ 2 ^ 6) (h : ∀ q ∈ qs, LatQ D 1 19 q) {p o : Nat} (ho : 1 ≤ o) (hp : p + o < qs.length) : ∀ x ∈ dualR qs p o, LatQ D o (20 * o) x := fun x hx => by
  obtain ⟨k, hk, rfl⟩ := List.mem_map.mp hx
  have hk := List.mem_range.mp hk
  unfold dualF
  by_cases h1 : k < p + o
  · rw [if_pos h1]; exact LatQ.zero hD.1 _ _
  · rw [if_neg h1, ← prodL_range (fnL qs k) (fun l => fnL qs (p + 1 + l)) (o - 1)]
    have e := (((h _ (fnL_mem hp)).sub hD.1 (h _ (fnL_mem (show p < qs.length by omega)))).mul hD.1 (prodL_lat hD.1 (h _ (fnL_mem hk)) (betwR qs p o) fun r hr => h r (betw_mem hp r hr)))
    rw [betw_len] at e
    rw [show 1 + (o - 1) = o by omega] at e
    exact e.le (by omega)
theorem cutG_from {α : Type} (l : List α) {k : Nat} {i : Int} (hi : i = (k : Int)) (h : k ≤ l.length) : cutG l (some i) none = l.drop k := by
  subst hi
  show (l.drop (HT.sIx l.length 0 (some (k : Int)))).take (HT.sIx l.length l.length none - HT.sIx l.length 0 (some (k : Int))) = _
  rw [HT.sIx_nat, HT.sIx_none, Nat.min_eq_left h, List.take_of_length_le (by rw [List.length_drop]; omega)]
end Fm

set_option maxHeartbeats 2000000
namespace Fm
open PySem PySem.Spec PyProof.Rows L2
def skip (a j : Nat) : Nat := if j < a then j else j + 1
theorem skip_lt {a j : Nat} (h : j < a) : skip a j = j := if_pos h
theorem skip_ge {a j : Nat} (h : a ≤ j) : skip a j = j + 1 := if_neg (by omega)
theorem skip_ne (a j : Nat) : skip a j ≠ a := by unfold skip; split <;> omega
theorem sumN_skip (g : Nat → Rat) {a n : Nat} (h : a ≤ n) : sumN g (n + 1) = sumN (fun j => g (skip a j)) n + g a := by
  obtain ⟨k, rfl⟩ : ∃ k, n = a + k := ⟨n - a, by omega⟩
  rw [show a + k + 1 = a + (k + 1) by omega, sumN_split g a (k + 1), sumN_split (fun j => g (skip a j)) a k, sumN_front]
  rw [sumN_congr (g := fun j => g (skip a j)) (h := g) fun j hj => by rw [skip_lt hj], sumN_congr (g := fun l => g (skip a (a + l))) (h := fun l => g (a + (l + 1))) fun j hj => by rw [skip_ge (by omega), Nat.add_assoc]]
  rw [Nat.add_zero]
  grind
end Fm

set_option maxHeartbeats 2000000
namespace Fm
open PySem PySem.Spec PyProof.Rows L2
theorem dd_add (m f g : Nat → Rat) : ∀ (w i : Nat), dd m (fun k => f k + g k) w i = dd m f w i + dd m g w i
  | 0, i => rfl
  | w + 1, i => by
    unfold dd
    rw [dd_add m f g w (i + 1), dd_add m f g w i]
    grind
theorem dd_sum (m : Nat → Rat) (F : Nat → Nat → Rat) (w i : Nat) : ∀ n, dd m (fun k => sumN (fun j => F j k) n) w i = sumN (fun j => dd m (F j) w i) n
  | 0 => dd_zero m w i
  | n + 1 => by
    show dd m (fun k => sumN (fun j => F j k) n + F n k) w i = _ + _
    rw [dd_add m (fun k => sumN (fun j => F j k) n) (F n) w i, dd_sum m F w i n]
def basP (m : Nat → Rat) (d j : Nat) (x : Rat) : Rat := prodN (fun l => x - m (skip j l)) (d - 1)
def polN (m h : Nat → Rat) (d k : Nat) : Rat := sumN (fun j => h j / basP m d j (m j) * basP m d j (m k)) d
theorem basP_ne {m : Nat → Rat} {d j : Nat} (hm : ∀ a b, a < d → b < d → a ≠ b → m a ≠ m b) (hj : j < d) : basP m d j (m j) ≠ 0 := prodN_ne fun l hl => by
  have := hm j (skip j l) hj (by unfold skip; split <;> omega) fun e => skip_ne j l e.symm
  grind
theorem basP_zero {m : Nat → Rat} {d j k : Nat} (hj : j < d) (hk : k < d) (h : k ≠ j) : basP m d j (m k) = 0 := by
  rcases Nat.lt_or_gt_of_ne h with c | c
  · exact prodN_zero (k := k) (by omega) (by rw [skip_lt c]; grind)
  · exact prodN_zero (k := k - 1) (by omega) (by rw [skip_ge (by omega), show k - 1 + 1 = k by omega]; grind)
theorem polN_at {m h : Nat → Rat} {d k : Nat} (hm : ∀ a b, a < d → b < d → a ≠ b → m a ≠ m b) (hk : k < d) : polN m h d k = h k := by
  unfold polN
  obtain ⟨e, rfl⟩ : ∃ e, d = e + 1 := ⟨d - 1, by omega⟩
  rw [sumN_skip _ (show k ≤ e by omega), sumN_zero fun j hj => by
    rw [basP_zero (k := k) (by unfold skip; split <;> omega) hk fun e => skip_ne k j e.symm]
    grind]
  have := basP_ne hm hk
  grind
theorem polN_dd {m h : Nat → Rat} {d i : Nat} (h1 : 1 ≤ d) (hm : ∀ a b, i ≤ a → a < b → b ≤ i + d → m b ≠ m a) : dd m (polN m h d) d i = 0 := by
  show dd m (fun k => sumN (fun j => h j / basP m d j (m j) * basP m d j (m k)) d) d i = 0
  rw [dd_sum m (fun j k => h j / basP m d j (m j) * basP m d j (m k))]
  refine sumN_zero fun j hj => ?_
  rw [dd_scale m (fun k => basP m d j (m k))]
  show _ * dd m (fun k => prodN (fun l => m k - m (skip j l)) (d - 1)) d i = 0
  rw [dd_poly m (fun l => m (skip j l)) (d - 1) d i (by omega) hm]
  grind
def bentN (m h w : Nat → Rat) (d N k : Nat) : Rat := polN m h d k + sumN (fun i => w i * dualF m i d k) N
theorem skip_le {i j r : Nat} (h : j < r) : skip i j ≤ r := by unfold skip; split <;> omega
theorem bentN_dd {m h w : Nat → Rat} {d N i : Nat} (h1 : 1 ≤ d) (hm : ∀ a b, a < b → b < N → m b ≠ m a) (hi : i + d < N) : dd m (bentN m h w d (N - d)) d i = w i := by
  show dd m (fun k => polN m h d k + sumN (fun i => w i * dualF m i d k) (N - d)) d i = _
  rw [dd_add m (polN m h d) (fun k => sumN (fun i => w i * dualF m i d k) (N - d)), polN_dd h1 fun a b h2 h3 h4 => hm a b h3 (by omega), dd_sum m (fun i k => w i * dualF m i d k)]
  obtain ⟨r, e⟩ : ∃ r, N - d = r + 1 := ⟨N - d - 1, by omega⟩
  rw [e, sumN_skip _ (show i ≤ r by omega), sumN_zero fun j hj => by
    rw [dd_scale m (dualF m (skip i j) d), dd_dual h1 fun a b h2 h3 => hm a b h2 (by have := skip_le (i := i) hj; omega), if_neg fun e => skip_ne i j e.symm]
    grind]
  rw [dd_scale m (dualF m i d), dd_dual h1 fun a b h2 h3 => hm a b h2 (by omega), if_pos rfl]
  grind
theorem bentN_congr {m h w w' : Nat → Rat} {d N k : Nat} (hw : ∀ i, i + d ≤ k → w i = w' i) : bentN m h w d N k = bentN m h w' d N k := by
  unfold bentN
  congr 1
  refine sumN_congr fun i hi => ?_
  by_cases c : k < i + d
  · unfold dualF; rw [if_pos c]; grind
  · rw [hw i (by omega)]
theorem bentN_low {m h w : Nat → Rat} {d N k : Nat} (hm : ∀ a b, a < d → b < d → a ≠ b → m a ≠ m b) (hk : k < d) : bentN m h w d N k = h k := by
  unfold bentN
  rw [polN_at hm hk, sumN_zero fun i hi => by unfold dualF; rw [if_pos (by omega)]; grind]
  grind
theorem bentN_next {m h w f : Nat → Rat} {d N i : Nat} (h1 : 1 ≤ d) (hm : ∀ a b, a < b → b < N → m b ≠ m a) (hi : i + d < N) (hf : ∀ k, i ≤ k → k < i + d → f k = bentN m h w d (N - d) k) (h0 : f (i + d) = 0) : (w i - dd m f d i) * prodN (fun l => m (i + d) - m (i + l)) d = bentN m h w d (N - d) (i + d) := by
  have hne : ∀ a b, a ≤ d → b ≤ d → a ≠ b → m (i + a) ≠ m (i + b) := fun a b ha hb hab => by
    rcases Nat.lt_or_gt_of_ne hab with c | c
    · exact fun e => hm (i + a) (i + b) (by omega) (by omega) e.symm
    · exact hm (i + b) (i + a) (by omega) (by omega)
  have e1 := dd_lgr m f d i hne
  have e2 := dd_lgr m (bentN m h w d (N - d)) d i hne
  rw [bentN_dd h1 hm hi] at e2
  rw [e1, e2]
  unfold lgr
  show ((sumN _ d + _) - (sumN _ d + _)) * _ = _
  rw [sumN_congr (g := fun j => f (i + j) / ldP m d i j) (h := fun j => bentN m h w d (N - d) (i + j) / ldP m d i j) fun j hj => by rw [hf _ (by omega) (by omega)]]
  have e3 : ldP m d i d = prodN (fun l => m (i + d) - m (i + l)) d := by
    rw [ldP_split (Nat.le_refl _), Nat.sub_self]
    show _ * 1 = _
    grind
  have h3 : ldP m d i d ≠ 0 := ldP_ne hne (Nat.le_refl _)
  show ((sumN _ d + bentN m h w d (N - d) (i + d) / ldP m d i d) - (sumN _ d + f (i + d) / ldP m d i d)) * _ = _
  rw [h0, ← e3]
  grind
end Fm

set_option maxHeartbeats 2000000
namespace Fm
open PySem PySem.Spec PyProof.Rows L2
def LatE (E : Int) (b : Nat) (q : Rat) : Prop := ∃ A : Int, q = Rat.divInt A E ∧ A.natAbs ≤ 2 ^ b
section
variable {E F : Int} {b b' : Nat} {q q' : Rat}
theorem LatE.le (h : LatE E b q) (hb : b ≤ b') : LatE E b' q := by
  obtain ⟨A, e, h⟩ := h
  exact ⟨A, e, Nat.le_trans h (Nat.pow_le_pow_right (by decide) hb)⟩
theorem divInt_q {A E : Int} : Rat.divInt A E = (A : Rat) / (E : Rat) := Rat.divInt_eq_div ..
theorem castI_ne {E : Int} (h : E ≠ 0) : ((E : Int) : Rat) ≠ 0 := by exact_mod_cast h
theorem LatE.add (hE : E ≠ 0) (h : LatE E b q) (h' : LatE E b q') : LatE E (b + 1) (q + q') := by
  obtain ⟨A, e, hA⟩ := h
  obtain ⟨B, e', hB⟩ := h'
  refine ⟨A + B, ?_, ?_⟩
  · rw [e, e', divInt_q, divInt_q, divInt_q, Rat.intCast_add]
    have := castI_ne hE
    grind
  · have := Int.natAbs_add_le A B
    rw [Nat.pow_succ]
    omega
theorem LatE.mul (hE : E ≠ 0) (hF : F ≠ 0) (h : LatE E b q) (h' : LatE F b' q') : LatE (E * F) (b + b') (q * q') := by
  obtain ⟨A, e, hA⟩ := h
  obtain ⟨B, e', hB⟩ := h'
  refine ⟨A * B, ?_, ?_⟩
  · rw [e, e', divInt_q, divInt_q, divInt_q, Rat.intCast_mul, Rat.intCast_mul]
    have := castI_ne hE
    have := castI_ne hF
    grind
  · rw [Int.natAbs_mul, Nat.pow_add]
    exact Nat.mul_le_mul hA hB
theorem LatE.up (hE : E ≠ 0) (hF : F ≠ 0) (hb : F.natAbs ≤ 2 ^ b') (h : LatE E b q) : LatE (E * F) (b + b') q := by
  have e : LatE F b' 1 := ⟨F, by rw [divInt_q]; have := castI_ne hF; grind, hb⟩
  have := h.mul hE hF e
  rwa [show q * 1 = q from by grind] at this
theorem LatE.zero (E : Int) (b : Nat) : LatE E b 0 := ⟨0, by rw [Rat.zero_divInt], Nat.zero_le _⟩
theorem LatE.neg (h : LatE E b q) : LatE E b (-q) := by
  obtain ⟨A, e, hA⟩ := h
  refine ⟨-A, ?_, by rw [Int.natAbs_neg]; exact hA⟩
  rw [e, divInt_q, divInt_q, Rat.intCast_neg]
  grind
theorem LatE.int {i : Int} (h : i.natAbs ≤ 2 ^ b) : LatE 1 b (i : Rat) := ⟨i, by rw [divInt_q]; grind, h⟩
theorem LatE.sum (hE : E ≠ 0) {g : Nat → Rat} : ∀ {n : Nat}, (∀ k, k < n → LatE E b (g k)) → LatE E (b + n) (sumN g n)
  | 0, _ => LatE.zero ..
  | n + 1, h => by
    have h1 := LatE.sum hE (n := n) fun k hk => h k (by omega)
    exact (h1.add hE ((h n (by omega)).le (by omega))).le (by omega)
theorem LatE.prod {D : Int} (hD : D ≠ 0) {g : Nat → Rat} : ∀ {n : Nat}, (∀ k, k < n → LatE D b (g k)) → LatE (D ^ n) (b * n) (prodN g n)
  | 0, _ => ⟨1, by rw [divInt_q]; show (1 : Rat) = _; rw [Int.pow_zero]; grind, by rw [Nat.mul_zero]; decide⟩
  | n + 1, h => by
    have h1 := LatE.prod hD (n := n) fun k hk => h k (by omega)
    have := h1.mul (Int.pow_ne_zero hD) hD (h n (by omega))
    rw [Int.pow_succ, Nat.mul_succ]
    exact this
theorem LatE.inv (hE : 1 ≤ E) (hb : E.natAbs ≤ 2 ^ b') (h : LatE E b q) (h0 : q ≠ 0) : ∃ Q : Int, 1 ≤ Q ∧ Q ≤ 2 ^ b ∧ LatE Q b' (1 / q) := by
  obtain ⟨A, e, hA⟩ := h
  have hA0 : A ≠ 0 := fun z => h0 (by rw [e, z, Rat.zero_divInt])
  refine ⟨(A.natAbs : Int), by omega, ?_, ?_⟩
  · have : ((A.natAbs : Nat) : Int) ≤ ((2 ^ b : Nat) : Int) := Int.ofNat_le.mpr hA
    rw [Int.natCast_pow] at this
    exact this
  · have hE0 : E ≠ 0 := by omega
    have c1 := castI_ne hE0
    have c2 := castI_ne hA0
    rcases Int.natAbs_eq A with hs | hs
    · refine ⟨E, ?_, hb⟩
      rw [← hs, e, divInt_q, divInt_q]
      grind
    · refine ⟨-E, ?_, by rw [Int.natAbs_neg]; exact hb⟩
      have e2 : ((A.natAbs : Int) : Rat) = -(A : Rat) := by
        rw [← Rat.intCast_neg]
        congr 1
        omega
      rw [e, divInt_q, divInt_q, e2, Rat.intCast_neg]
      grind
end
end Fm

set_option maxHeartbeats 2000000
namespace Fm
open PySem PySem.Spec PyProof.Rows L2
theorem natAbs_le_of {E : Int} {b : Nat} (h1 : 1 ≤ E) (h : E ≤ 2 ^ b) : E.natAbs ≤ 2 ^ b := by
  have e : ((2 ^ b : Nat) : Int) = (2 : Int) ^ b := Int.natCast_pow 2 b
  omega
theorem two_mono {a b : Nat} (h : a ≤ b) : (2 : Int) ^ a ≤ 2 ^ b := by
  have := Int.ofNat_le.mpr (Nat.pow_le_pow_right (show 0 < 2 by decide) h)
  rwa [Int.natCast_pow, Int.natCast_pow] at this
theorem bent_lat {qs : List Rat} (hq : LatV qs) (hpw : qs.Pairwise (· < ·)) {d : Nat} {h w : Nat → Rat} (h1 : 1 ≤ d) (h4 : d ≤ 4) (hN : d ≤ qs.length) (h8 : qs.length ≤ 8) (hh : ∀ j, j < d → ∃ i : Int, h j = (i : Rat) ∧ i.natAbs ≤ 2 ^ 2) (hw : ∀ i, i + d < qs.length → LatE 2 3 (w i)) :
    ∃ E : Int, 1 ≤ E ∧ E.natAbs ≤ 2 ^ 283 ∧ ∀ k, k < qs.length → LatE E 350 (bentN (fnL qs) h w d (qs.length - d) k) := by
  obtain ⟨D, hD, hl⟩ := hq
  have D0 : D ≠ 0 := by omega
  have DE : ∀ n, D ^ n ≠ 0 := fun n => powD_ne hD.1 n
  have dif : ∀ i j, i < qs.length → j < qs.length → LatE D 20 (fnL qs i - fnL qs j) := fun i j hi hj => by
    obtain ⟨A, e, b⟩ := (hl _ (fnL_mem hi)).sub hD.1 (hl _ (fnL_mem hj))
    rw [Int.pow_succ, Int.pow_zero, Int.one_mul] at e
    exact ⟨A, e, b⟩
  have inj : ∀ a b, a < d → b < d → a ≠ b → fnL qs a ≠ fnL qs b := fun a b ha hb hab => by
    rcases Nat.lt_or_gt_of_ne hab with c | c
    · exact fun e => climb_ne hpw c (by omega) e.symm
    · exact climb_ne hpw c (by omega)
  have bas : ∀ j k, j < d → k < qs.length → LatE (D ^ (d - 1)) 60 (basP (fnL qs) d j (fnL qs k)) := fun j k hj hk =>
    (LatE.prod (n := d - 1) D0 (b := 20) fun l hl => dif k (skip j l) hk (by have := skip_le (i := j) (r := d - 1) hl; omega)).le (by omega)
  have hQ : ∀ j : Nat, ∃ Q : Int, 1 ≤ Q ∧ Q ≤ 2 ^ 60 ∧ (j < d → LatE Q 18 (1 / basP (fnL qs) d j (fnL qs j))) := fun j => by
    by_cases c : j < d
    · obtain ⟨Q, q1, q2, q3⟩ := (bas j j c (by omega)).inv (b' := 18) (Int.pow_pos (n := D) (m := d - 1) (by omega)) (Nat.le_trans (powD_le hD _) (Nat.pow_le_pow_right (by decide) (by omega))) (basP_ne inj c)
      exact ⟨Q, q1, q2, fun _ => q3⟩
    · exact ⟨1, by omega, by decide, fun z => absurd z c⟩
  obtain ⟨Q, cQ⟩ : ∃ Q : Nat → Int, ∀ j, 1 ≤ Q j ∧ Q j ≤ 2 ^ 60 ∧ (j < d → LatE (Q j) 18 (1 / basP (fnL qs) d j (fnL qs j))) := ⟨fun j => Classical.choose (hQ j), fun j => Classical.choose_spec (hQ j)⟩
  have P1 : 1 ≤ prodZ Q d := prodZ_pos fun k _ => (cQ k).1
  have P2 : prodZ Q d ≤ 2 ^ 240 := Int.le_trans (prodZ_lt (b := 60) fun k _ => ⟨(cQ k).1, (cQ k).2.1⟩) (two_mono (by omega))
  have pol : ∀ k, k < qs.length → LatE (prodZ Q d * D ^ (d - 1)) 324 (polN (fnL qs) h d k) := fun k hk => by
    unfold polN
    refine (LatE.sum (E := prodZ Q d * D ^ (d - 1)) (b := 320) (Int.mul_ne_zero (by omega) (DE _)) fun j hj => ?_).le (by omega)
    obtain ⟨c, hc, c1⟩ := prodZ_dvd (g := Q) hj fun k _ => (cQ k).1
    obtain ⟨i, hi, ib⟩ := hh j hj
    have hc2 : c ≤ prodZ Q d := fac_le hc (cQ j).1 c1
    have e1 := ((LatE.int ib).mul (by decide) (by have := (cQ j).1; omega) ((cQ j).2.2 hj)).mul (by have := (cQ j).1; omega) (DE _) (bas j k hj hk)
    have e2 := e1.up (F := c) (b' := 240) (Int.mul_ne_zero (by have := (cQ j).1; omega) (DE _)) (by omega) (natAbs_le_of c1 (Int.le_trans hc2 P2))
    rw [hc, hi]
    rw [show (1 * Q j * D ^ (d - 1) * c : Int) = Q j * c * D ^ (d - 1) by grind, show (i : Rat) * (1 / basP (fnL qs) d j (fnL qs j)) = (i : Rat) / basP (fnL qs) d j (fnL qs j) by grind] at e2
    exact e2
  have du : ∀ k, k < qs.length → LatE (2 * D ^ d) 91 (sumN (fun i => w i * dualF (fnL qs) i d k) (qs.length - d)) := fun k hk => by
    refine (LatE.sum (E := 2 * D ^ d) (b := 83) (Int.mul_ne_zero (by decide) (DE _)) fun i hi => ?_).le (by omega)
    have e1 : LatE (D ^ d) 80 (dualF (fnL qs) i d k) := LatE.le (b := 20 * d) (dual_lat hD hl (p := i) h1 (by omega) _ (List.mem_map.mpr ⟨k, List.mem_range.mpr hk, rfl⟩)) (by omega)
    exact (hw i (by omega)).mul (by decide) (DE _) e1
  have b25 : (2 * D ^ d).natAbs ≤ 2 ^ 25 := by
    rw [Int.natAbs_mul]
    have := Nat.le_trans (powD_le hD d) (Nat.pow_le_pow_right (by decide) (show 6 * d ≤ 24 by omega))
    show 2 * _ ≤ 2 ^ 25
    omega
  have b258 : (prodZ Q d * D ^ (d - 1)).natAbs ≤ 2 ^ 258 := by
    rw [Int.natAbs_mul]
    refine Nat.le_trans (Nat.mul_le_mul (natAbs_le_of P1 P2) (Nat.le_trans (powD_le hD (d - 1)) (Nat.pow_le_pow_right (by decide) (show 6 * (d - 1) ≤ 18 by omega)))) ?_
    decide
  refine ⟨prodZ Q d * D ^ (d - 1) * (2 * D ^ d), ?_, ?_, fun k hk => ?_⟩
  · have a1 := Int.pow_pos (n := D) (m := d - 1) (by omega)
    have a2 := Int.pow_pos (n := D) (m := d) (by omega)
    exact Int.mul_pos (Int.mul_pos (by omega) a1) (by omega)
  · rw [Int.natAbs_mul]
    refine Nat.le_trans (Nat.mul_le_mul b258 b25) ?_
    decide
  · have x1 := (pol k hk).up (Int.mul_ne_zero (by omega) (DE _)) (Int.mul_ne_zero (by decide) (DE _)) b25
    have x2 := (du k hk).up (Int.mul_ne_zero (by decide) (DE _)) (Int.mul_ne_zero (by omega) (DE _)) b258
    rw [Int.mul_comm (2 * D ^ d)] at x2
    unfold bentN
    exact (x1.le (b' := 349) (by omega)).add (Int.mul_ne_zero (Int.mul_ne_zero (by omega) (DE _)) (Int.mul_ne_zero (by decide) (DE _))) (x2.le (by omega))
end Fm

set_option maxHeartbeats 2000000
namespace Fm
open PySem PySem.Spec PyProof.Rows L2
section
variable {G : Gs} {E : XK} {K : PySem.W.Frag} {f : Fr} {σ σ2 : L2.St} {H H1 H2 : Hp} {ρ ρ2 : Fm.Env}
abbrev F_ifeF (T : FT) (A B : FA) : FA := fun ρ K X => T ρ (fun b ρ' => if b = true then A ρ' K X else B ρ' K X) X
theorem kF_ex {f : Fr} {σ : L2.St} {H H1 : Hp} {ρ ρ1 : Fm.Env} {W : VK} (e : Ex (cut (Xs f σ ρ) H) (cut (Xs f σ ρ1) H1)) {b : List Dt} {ρ' : Fm.Env} (h : kF G f σ H ρ W b ρ') : kF G f σ H1 ρ1 W b ρ' := fun p vs H' S e2 => h p vs H' S (e.trans e2)
theorem PUF.ife {c : TT} {ta tb : TE} {T : FT} {A B : FA} (w : PUT G E c T) (a : PUF G E ta A) (b : PUF G E tb B) : PUF G E (tIf c ta tb) (F_ifeF T A B) where
  run := fun S h => w.run S (w.mono (fun d ρ' k H' S' e => by
    cases d with
    | true => rw [if_pos rfl] at k ⊢; exact a.run S' (a.mono (fun _ _ k => kF_ex e k) (fun _ x => x) k)
    | false => rw [if_neg Bool.false_ne_true] at k ⊢; exact b.run S' (b.mono (fun _ _ k => kF_ex e k) (fun _ x => x) k)) (fun _ x => x) h)
  mono := fun m x h => w.mono (fun d ρ' k => by
    cases d with
    | true => rw [if_pos rfl] at k ⊢; exact a.mono m x k
    | false => rw [if_neg Bool.false_ne_true] at k ⊢; exact b.mono m x k) x h
end
end Fm
namespace Fm
open PySem PySem.Spec PyProof.Rows L2
end Fm

set_option maxHeartbeats 2000000
namespace Fm
open PySem PySem.Spec PyProof.Rows L2
section
variable {G : Gs} {E E2 : XK} {K : PySem.W.Frag}
theorem RD.notN : RD G (fun x y H Q => y = .non ∧ Q (.bl (!decide (x = .non))) H) (fun d e K => e = .non ∧ K (.bl (match d with | .non => false | _ => true))) where
  run := fun hx h1 h2 ⟨e2, k⟩ => by
    subst e2
    cases h2
    refine ⟨rfl, ?_⟩
    cases h1 with
    | non => exact k _ _ (Ex.refl _) (.bl _)
    | rat h => obtain ⟨p, rfl, _⟩ := h; exact k _ _ (Ex.refl _) (.bl _)
    | _ => exact k _ _ (Ex.refl _) (.bl _)
  mono := fun m ⟨e2, k⟩ => ⟨e2, m _ k⟩
theorem PVS.retIfX {U : WX} {Fx Fy : FX} {c : TT} {t t2 : TA} {T : FT} {A B : FA} (w : ∀ E, PUT G E c T) (a : ∀ E, PUA G E t A) (b : ∀ E, PUA G E t2 B) : PVS G U (tRet (tIf c (tCallS (spX G Fx) (WE U) t) (tCallS (spX G Fy) (WE U) t2))) (F_ret (F_ife T (F_callX Fx A) (F_callX Fy B))) where
  run := fun {f σ H ρ D} S h => (PUS.ret (PU.ife (w _) (PU.callX (E := fun c d H => U c d σ H) (a _)) (PU.callX (E := fun c d H => U c d σ H) (b _)))).run (D := D) S h
  mono := fun m h => (PUS.ret (PU.ife (w E0) (PU.callX (E := E0) (a _)) (PU.callX (E := E0) (b _)))).mono m h
theorem PUG.pairL {i j : Nat} : PUG G (gLst K 2 (gCons (gName i) (gCons (gName j) gNil))) (fun d ρ N => ∃ a b, d = .lst [a, b] ∧ N ((ρ.set i (.val a)).set j (.val b))) where
  run := fun {f σ H ρ N v d} S hv ⟨a, b, hd, h⟩ => by
    subst hd
    cases hv with
    | lst hp r => cases r with
      | cons h1 r => cases r with
        | cons h2 r =>
          cases r
          rename_i p v1 v2
          have S1 : St G f (σ.set i (some v1)) H (ρ.set i (.val a)) := S.put rfl (.val h1)
          have e1 : Ex (cut (Xs f σ ρ) H) (cut (Xs f (σ.set i (some v1)) (ρ.set i (.val a))) H) := put_ex rfl
          have S2 := S1.put (i := j) rfl (.val (h2.mono e1))
          exact ⟨_, _, rfl, SqL.of (cut_some.mp hp).2, rfl, _, _, rfl, _, _, rfl, rfl, h _ _ S2 (e1.trans (put_ex rfl))⟩
  mono := fun m ⟨a, b, hd, h⟩ => ⟨a, b, hd, m _ h⟩
end
end Fm

set_option maxHeartbeats 2000000
namespace Fm
open PySem PySem.Spec PyProof.Rows L2
def LatB (hs : List Rat) : Prop := ∃ E : Int, 1 ≤ E ∧ E.natAbs ≤ 2 ^ 283 ∧ ∀ q ∈ hs, LatE E 350 q
theorem LatB.sz {hs : List Rat} (h : LatB hs) : ∀ q ∈ hs, Sz 400 q := fun q hq => by
  obtain ⟨E, h1, h2, h3⟩ := h
  obtain ⟨A, rfl, hA⟩ := h3 q hq
  exact sz_le' (Sz.divInt (k := 351) (Nat.lt_of_le_of_lt hA (Nat.pow_lt_pow_right (by decide) (by decide))) (Nat.lt_of_le_of_lt h2 (Nat.pow_lt_pow_right (by decide) (by decide))) (by omega)) (by decide)
theorem LatB.neg {hs : List Rat} (h : LatB hs) : LatB (hs.map fun q => -q) := by
  obtain ⟨E, h1, h2, h3⟩ := h
  refine ⟨E, h1, h2, fun q hq => ?_⟩
  obtain ⟨x, hx, rfl⟩ := List.mem_map.mp hq
  exact (h3 x hx).neg
theorem LatB.ints {hs : List Rat} (h : ∀ q ∈ hs, ∃ i : Int, q = (i : Rat) ∧ i.natAbs ≤ 2 ^ 2) : LatB hs := ⟨1, by decide, by decide, fun q hq => by
  obtain ⟨i, rfl, hi⟩ := h q hq
  exact (LatE.int hi).le (by decide)⟩
theorem LatB.snoc {hs : List Rat} (h : LatB hs) (n : Nat) : LatB (hs ++ List.replicate n 0) := by
  obtain ⟨E, h1, h2, h3⟩ := h
  refine ⟨E, h1, h2, fun q hq => ?_⟩
  rcases List.mem_append.mp hq with hq | hq
  · exact h3 q hq
  · rw [(List.mem_replicate.mp hq).2]; exact LatE.zero ..
theorem fnL_app {hs x : List Rat} {k : Nat} (h : k < hs.length) : fnL (hs ++ x) k = fnL hs k := by
  rw [fnL_at (by rw [List.length_append]; omega), fnL_at h, List.getElem_append_left h]
theorem fnL_appR {hs x : List Rat} {k : Nat} : fnL (hs ++ x) (hs.length + k) = fnL x k := by
  unfold fnL
  rw [List.getD_eq_getElem?_getD, List.getD_eq_getElem?_getD, List.getElem?_append_right (by omega), Nat.add_sub_cancel_left]
theorem LatB.pick {ms hs : List Rat} {is : List Int} (h : LatB hs) (lat : LatV ms) (hpw : ms.Pairwise (· < ·)) (hl : hs.length ≤ ms.length) (hip : is.Pairwise (· < ·)) (hib : ∀ i ∈ is, 0 ≤ i ∧ i < (hs.length : Int)) (h8 : is.length ≤ 8) : SzDD (pickR ms is) (pickR hs is) := by
  obtain ⟨E, h1, h2, h3⟩ := h.snoc (ms.length - hs.length)
  have e : pickR hs is = pickR (hs ++ List.replicate (ms.length - hs.length) 0) is := by
    unfold pickR
    refine List.map_congr_left fun i hi => ?_
    have := hib i hi
    rw [fnL_app (by omega)]
  rw [e]
  exact sz_pick (E := E) (a0 := 350) (e0 := 283) lat hpw h1 h2 h3 (by rw [List.length_append, List.length_replicate]; omega) hip (fun i hi => by have := hib i hi; omega) h8 (by decide)
def BentAt (ms : List Rat) (d : Nat) (hs : List Rat) : Prop := ∃ (h w : Nat → Rat), (∀ j, j < d → ∃ i : Int, h j = (i : Rat) ∧ i.natAbs ≤ 2 ^ 2) ∧ (∀ i, LatE 2 3 (w i)) ∧ ∀ k, k < hs.length → fnL hs k = bentN (fnL ms) h w d (ms.length - d) k
theorem climb_inj {ms : List Rat} (h : ms.Pairwise (· < ·)) {d : Nat} (hd : d ≤ ms.length) : ∀ a b, a < d → b < d → a ≠ b → fnL ms a ≠ fnL ms b := fun a b ha hb hab => by
  rcases Nat.lt_or_gt_of_ne hab with c | c
  · exact fun e => climb_ne h c (by omega) e.symm
  · exact climb_ne h c (by omega)
theorem BentAt.start {ms : List Rat} {d : Nat} {is : List Int} (hpw : ms.Pairwise (· < ·)) (hd : d ≤ ms.length) (hl : is.length = d) (ib : ∀ i ∈ is, i.natAbs ≤ 2 ^ 2) : BentAt ms d (is.map fun i : Int => (i : Rat)) := by
  refine ⟨fnL (is.map fun i : Int => (i : Rat)), fun _ => 0, fun j hj => ?_, fun _ => LatE.zero .., fun k hk => ?_⟩
  · rw [fnL_at (by rw [List.length_map]; omega), List.getElem_map]
    exact ⟨_, rfl, ib _ (List.getElem_mem _)⟩
  · rw [List.length_map] at hk
    rw [bentN_low (climb_inj hpw hd) (by omega)]
theorem BentAt.lat {ms hs : List Rat} {d : Nat} (h : BentAt ms d hs) (lat : LatV ms) (hpw : ms.Pairwise (· < ·)) (d1 : 1 ≤ d) (d4 : d ≤ 4) (hd : d ≤ ms.length) (h8 : ms.length ≤ 8) (hl : hs.length ≤ ms.length) : LatB hs := by
  obtain ⟨h, w, hh, hw, e⟩ := h
  obtain ⟨E, e1, e2, e3⟩ := bent_lat lat hpw d1 d4 hd h8 hh (fun i _ => hw i)
  refine ⟨E, e1, e2, fun q hq => ?_⟩
  obtain ⟨k, hk, rfl⟩ := List.getElem_of_mem hq
  rw [← fnL_at hk, e k hk]
  exact e3 k (by omega)
theorem BentAt.next {ms hs : List Rat} {d : Nat} {wish : Rat} (h : BentAt ms d hs) (hpw : ms.Pairwise (· < ·)) (d1 : 1 ≤ d) (hl : d ≤ hs.length) (hl2 : hs.length < ms.length) (hw : LatE 2 3 wish) : BentAt ms d (hs ++ [(wish - ddP ms (hs ++ [0]) (nearI (hs.length - d) (d + 1))) * prodN (fun l => fnL ms hs.length - fnL ms (hs.length - d + l)) d]) := by
  obtain ⟨h, w, hh, hw0, e⟩ := h
  let w' : Nat → Rat := fun i => if i = hs.length - d then wish else w i
  have ew : ∀ k, k < hs.length → bentN (fnL ms) h w' d (ms.length - d) k = bentN (fnL ms) h w d (ms.length - d) k := fun k hk => bentN_congr fun i hi => if_neg (by omega)
  refine ⟨h, w', hh, fun i => ?_, fun k hk => ?_⟩
  · show LatE 2 3 (if i = hs.length - d then wish else w i)
    split
    · exact hw
    · exact hw0 i
  · rw [List.length_append, List.length_singleton] at hk
    by_cases c : k < hs.length
    · rw [fnL_app c, e k c, ew k c]
    · have ek : k = hs.length + 0 := by omega
      rw [ek, fnL_appR, ddP_near]
      have key := bentN_next (m := fnL ms) (h := h) (w := w') (f := fnL (hs ++ [0])) (d := d) (N := ms.length) (i := hs.length - d) d1 (fun a b hab hb => climb_ne hpw hab hb) (by omega) (fun k h1 h2 => by rw [fnL_app (by omega), e k (by omega), ew k (by omega)]) (by
        rw [show hs.length - d + d = hs.length + 0 by omega, fnL_appR]
        rfl)
      rw [show hs.length - d + d = hs.length by omega] at key
      rw [show w' (hs.length - d) = wish from if_pos rfl] at key
      show (wish - _) * _ = _
      rw [key, Nat.add_zero]
end Fm

set_option maxHeartbeats 2000000
namespace Fm
open PySem PySem.Spec PyProof.Rows L2
def fdOpp : FD where
  pre := fun ds => ∃ d : Dt, ds = [d] ∧ d.seq d.items ∧ d.items.all Dt.isNum = true ∧ d.items.length ≤ 100 ∧ ∀ x ∈ d.items, Sz 3000 x.num
  post := fun ds r => ∃ d : Dt, ds = [d] ∧ r = .lst (((nums d.items).map fun q => -q).map .rat)
def behindR (ms hs : List Rat) : List Rat := (slopesR ms hs 1).map fun q => -q
def toldR (ms hs : List Rat) : List Rat := ((1 :: behindR ms hs).zip (behindR ms hs ++ [0])).map fun e => e.1 - e.2
def negAt (l : List Rat) : Option Nat := (List.range l.length).find? fun k => decide (fnL l k < 0)
def optD : Option Nat → Dt
  | some k => .int (k : Int)
  | none => .non
def faultD (ms hs : List Rat) : Dt := if fnL hs (ms.length - 1) ≠ 0 then .int ((ms.length : Int) - 1) else optD (negAt (toldR ms hs))
def isNon : Dt → Bool
  | .non => true
  | _ => false
def lotOfD (ms hs : List Rat) : Dt := if isNon (faultD ms hs) = true then .lst ((toldR ms hs).map .rat) else .non
def fdShTold : FD where
  pre := fun ds => ∃ (qs : List Rat) (d : Dt), ds = [.scl qs, d] ∧ d.seq d.items ∧ d.items.all Dt.isNum = true ∧ d.items.length = qs.length ∧ 1 ≤ qs.length ∧ qs.length ≤ 8 ∧ qs.Pairwise (· < ·) ∧ (∀ q ∈ qs, Sz 1450 q) ∧ (∀ q ∈ nums d.items, Sz 1450 q) ∧ SzDD qs (nums d.items)
  post := fun ds r => ∃ (qs : List Rat) (d : Dt), ds = [.scl qs, d] ∧ r = .lst ((toldR qs (nums d.items)).map .rat)
def PriceOk (qs : List Rat) (d : Dt) : Prop := 1 ≤ qs.length ∧ qs.length ≤ 8 ∧ qs.Pairwise (· < ·) ∧ (∀ q ∈ qs, Sz 45 q) ∧ d.Ok 45 ∧ (curveB d qs.length = true → SzDD qs (nums d.items))
def fxFault (C : Addr) : FX where
  pre := fun ds => ∃ (qs : List Rat) (d : Dt), ds = [.scl qs, d] ∧ PriceOk qs d
  post := fun ds r => ∃ qs d, ds = [.scl qs, d] ∧ curveB d qs.length = true ∧ r = faultD qs (nums d.items)
  err := fun ds e => ∃ qs d, ds = [.scl qs, d] ∧ curveB d qs.length = false ∧ e = .own C "given" d
def fxLotOf (C : Addr) : FX where
  pre := fun ds => ∃ (qs : List Rat) (d : Dt), ds = [.scl qs, d] ∧ PriceOk qs d
  post := fun ds r => ∃ qs d, ds = [.scl qs, d] ∧ curveB d qs.length = true ∧ r = lotOfD qs (nums d.items)
  err := fun ds e => ∃ qs d, ds = [.scl qs, d] ∧ curveB d qs.length = false ∧ e = .own C "given" d
def coversR (ps ms : List Rat) : List Rat := ms.map fun m => dotR ps (ms.map (coverR m))
def fxCovers (C : Addr) : FX where
  pre := fun ds => ∃ qs d, ds = [.scl qs, d] ∧ qs.length ≤ 8 ∧ (∀ q ∈ qs, Sz 45 q) ∧ d.Ok 45
  post := fun ds r => ∃ qs d, ds = [.scl qs, d] ∧ lotB d qs.length = true ∧ r = .lst ((coversR (nums d.items) qs).map .rat)
  err := fun ds e => ∃ qs d, ds = [.scl qs, d] ∧ lotB d qs.length = false ∧ e = .own C "given" d
theorem behind_len {ms hs : List Rat} (h : hs.length = ms.length) : (behindR ms hs).length = ms.length - 1 := by
  unfold behindR slopesR
  rw [List.length_map]
  split
  · rw [List.length_nil]; omega
  · rw [ddL_len]; omega
theorem told_len {ms hs : List Rat} (h : hs.length = ms.length) (h1 : 1 ≤ ms.length) : (toldR ms hs).length = ms.length := by
  unfold toldR
  rw [List.length_map, List.length_zip, List.length_cons, List.length_append, List.length_singleton, behind_len h]
  omega
theorem behind_sz {ms hs : List Rat} (h : SzDD ms hs) : ∀ q ∈ behindR ms hs, Sz 1450 q := fun q hq => by
  unfold behindR slopesR at hq
  obtain ⟨x, hx, rfl⟩ := List.mem_map.mp hq
  split at hx
  · cases hx
  · have := h.mem x hx
    exact ⟨by rw [Rat.neg_num]; rw [Int.natAbs_neg]; exact this.1, by rw [Rat.neg_den]; exact this.2⟩
theorem told_sz {ms hs : List Rat} (h : SzDD ms hs) : ∀ q ∈ toldR ms hs, Sz 2901 q := fun q hq => by
  have b := behind_sz h
  unfold toldR at hq
  obtain ⟨e, he, rfl⟩ := List.mem_map.mp hq
  have h1 := (List.of_mem_zip he).1
  have h2 := (List.of_mem_zip he).2
  have s1 : Sz 1450 e.1 := by
    rcases List.mem_cons.mp h1 with h | h
    · rw [h]; exact sz_le' (a := 1) ⟨by decide, by decide⟩ (by decide)
    · exact b _ h
  have s2 : Sz 1450 e.2 := by
    rcases List.mem_append.mp h2 with h | h
    · exact b _ h
    · rw [List.mem_singleton.mp h]; exact sz_le' (a := 1) ⟨by decide, by decide⟩ (by decide)
  exact sz_le' (s1.sub' s2) (by decide)
theorem negAt_some {l : List Rat} {c : Nat} (hc : c < l.length) (h : fnL l c < 0) (hn : ∀ j, j < c → ¬ fnL l j < 0) : negAt l = some c := by
  unfold negAt
  rw [List.find?_range_eq_some]
  exact ⟨decide_eq_true h, List.mem_range.mpr hc, fun j hj => by rw [decide_eq_false (hn j hj)]; rfl⟩
theorem negAt_none {l : List Rat} (hn : ∀ j, j < l.length → ¬ fnL l j < 0) : negAt l = none := by
  unfold negAt
  rw [List.find?_range_eq_none]
  exact fun j hj => by rw [decide_eq_false (hn j hj)]; rfl
theorem behind_at {ms hs : List Rat} {c : Nat} (h : c + 1 < hs.length) : (behindR ms hs)[c]? = some ((fnL hs c - fnL hs (c + 1)) / (fnL ms (c + 1) - fnL ms c)) := by
  unfold behindR slopesR
  rw [if_neg (by omega), List.getElem?_map]
  unfold ddL
  rw [List.getElem?_map, List.getElem?_range (by omega)]
  show some (-((fnL hs (c + 1) - fnL hs c) / (fnL ms (c + 1) - fnL ms c))) = _
  rw [Rat.div_def, Rat.div_def, ← Rat.neg_mul]
  congr 2
  grind
def fallsR (ms hs : List Rat) : List Rat := 1 :: behindR ms hs
theorem falls_len {ms hs : List Rat} (h : hs.length = ms.length) (h1 : 1 ≤ ms.length) : (fallsR ms hs).length = ms.length := by
  unfold fallsR
  rw [List.length_cons, behind_len h]
  omega
theorem falls_take {ms hs : List Rat} {c : Nat} (h : c + 1 < hs.length) : (fallsR ms hs).take (c + 2) = (fallsR ms hs).take (c + 1) ++ [(fnL hs c - fnL hs (c + 1)) / (fnL ms (c + 1) - fnL ms c)] := by
  unfold fallsR
  rw [List.take_succ_cons, List.take_succ_cons, List.take_add_one, behind_at h]
  rfl
theorem told_falls {ms hs : List Rat} (h : hs.length = ms.length) (h1 : 1 ≤ ms.length) : toldR ms hs = (List.range ms.length).map fun k => fnL (fallsR ms hs ++ [0]) k - fnL (fallsR ms hs ++ [0]) (k + 1) := by
  have lf := falls_len h h1
  have lb := behind_len h
  have tl := told_len h h1
  rw [show toldR ms hs = ((1 :: behindR ms hs).zip (behindR ms hs ++ [0])).map fun e => e.1 - e.2 from rfl] at tl ⊢
  refine List.ext_getElem (by rw [tl, List.length_map, List.length_range]) fun k h2 h3 => ?_
  have h4 : k < ms.length := by rw [tl] at h2; exact h2
  rw [List.getElem_map, List.getElem_zip, List.getElem_map, List.getElem_range, fnL_at (by rw [List.length_append, lf]; show k < _ + 1; omega), fnL_at (by rw [List.length_append, lf]; show k + 1 < _ + 1; omega)]
  have e1 : (fallsR ms hs ++ [0])[k]'(by rw [List.length_append, lf]; show k < _ + 1; omega) = (fallsR ms hs)[k]'(by rw [lf]; exact h4) := List.getElem_append_left (by rw [lf]; exact h4)
  rw [e1]
  rfl
theorem falls_sz {ms hs : List Rat} (h : SzDD ms hs) : ∀ q ∈ fallsR ms hs ++ [0], Sz 1450 q := fun q hq => by
  rcases List.mem_append.mp hq with hq | hq
  · rcases List.mem_cons.mp hq with hq | hq
    · rw [hq]; exact sz_le' (a := 1) ⟨by decide, by decide⟩ (by decide)
    · exact behind_sz h q hq
  · rw [List.mem_singleton.mp hq]; exact sz_le' (a := 1) ⟨by decide, by decide⟩ (by decide)
def negsL (l : List Rat) : List Nat := (List.range l.length).filter fun k => decide (fnL l k < 0)
theorem negs_head (l : List Rat) : (negsL l).head? = negAt l := by
  unfold negsL negAt
  exact List.head?_filter
end Fm

set_option maxHeartbeats 2000000
namespace Fm
open PySem PySem.Spec PyProof.Rows L2
def boxTop : Nat := 2 ^ 50
def spB (G : Gs) (F : FD) (c : Nat) : Sp := fun vs H Q _ => ∃ (p : Addr) (b : Nat) (us : List V) (ds : List Dt) (X : Addr → Prop), vs = .ref p :: us ∧ BoxAt H p b ∧ b + c ≤ boxTop ∧ X p ∧ DtVs G (cut X H) us ds ∧ (∀ a, X a → LstAt H a) ∧ F.pre ds ∧ ∀ d v H', F.post ds d → Mo p H H' → BoxAt H' p (b + c) → DtV G (cut X H') v d → Q v H'
def spBL (G : Gs) (F : FD) (c : Nat) : Sp := fun vs H Q _ => ∃ (p : Addr) (b : Nat) (us : List V) (ds : List Dt) (X : Addr → Prop), vs = .ref p :: us ∧ BoxAt H p b ∧ b + c ≤ boxTop ∧ X p ∧ DtVs G (cut X H) us ds ∧ (∀ a, X a → LstAt H a) ∧ F.pre ds ∧ ∀ l q ws H', F.post ds (.lst l) → H q = none → Mo p H H' → BoxAt H' p (b + c) → H' q = some (.lst ws) → DtVs G (cut (fun a => X a ∨ a = q) H') ws l → Q (.ref q) H'
section
variable {G : Gs} {E E' : XK} {K : PySem.W.Frag}
theorem St.bx {f : Fr} {σ : L2.St} {H : Hp} {ρ : Fm.Env} {i : Nat} {p : Addr} {b : Nat} (S : St G f σ H ρ) (h : ρ[i]? = some (.box p b)) : σ[i]? = some (some (.ref p)) ∧ BoxAt H p b ∧ Own σ ρ p := by
  have := S.sl i _ h
  generalize e : σ[i]?.join = o at this
  cases this with
  | box ht => exact ⟨jn.mp e, ht, ⟨i, _, h, rfl, jn.mp e⟩⟩
theorem own_box {σ : L2.St} {ρ : Fm.Env} {i : Nat} {p : Addr} {b b' : Nat} (h : ρ[i]? = some (.box p b)) {q : Addr} : Own σ (ρ.set i (.box p b')) q ↔ Own σ ρ q := by
  have hl : i < ρ.length := (List.getElem?_eq_some_iff.mp h).1
  constructor
  · rintro ⟨j, s, h1, h2, h3⟩
    by_cases e : i = j
    · subst e
      exact ⟨i, _, h, rfl, h3⟩
    · rw [List.getElem?_set_ne e] at h1
      exact ⟨j, s, h1, h2, h3⟩
  · rintro ⟨j, s, h1, h2, h3⟩
    by_cases e : i = j
    · subst e
      exact ⟨i, _, List.getElem?_set_self hl, rfl, h3⟩
    · exact ⟨j, s, by rw [List.getElem?_set_ne e]; exact h1, h2, h3⟩
theorem xs_box {f : Fr} {σ : L2.St} {ρ : Fm.Env} {i : Nat} {p : Addr} {b b' : Nat} (h : ρ[i]? = some (.box p b)) : Xs f σ (ρ.set i (.box p b')) = Xs f σ ρ := by
  funext a
  exact propext ⟨fun w => w.imp id (own_box h).mp, fun w => w.imp id (own_box h).mpr⟩
theorem St.box {f : Fr} {σ : L2.St} {H H' : Hp} {ρ : Fm.Env} {i : Nat} {p : Addr} {b b' : Nat} (S : St G f σ H ρ) (h : ρ[i]? = some (.box p b)) (m : Mo p H H') (t : BoxAt H' p b') : St G f σ H' (ρ.set i (.box p b')) ∧ Ex (cut (Xs f σ ρ) H) (cut (Xs f σ (ρ.set i (.box p b'))) H') := by
  obtain ⟨h1, h2, h3⟩ := S.bx h
  have hl : i < ρ.length := (List.getElem?_eq_some_iff.mp h).1
  rw [xs_box h]
  have ex : Ex (cut (Xs f σ ρ) H) (cut (Xs f σ ρ) H') := cut_ex fun a o n e => ⟨n, m a o e fun w => n (w ▸ .inr h3)⟩
  refine ⟨⟨by rw [List.length_set]; exact S.len, fun a o n e => ?_, fun j s hj => ?_, fun j k s t q a1 a2 a3 a4 a5 a6 => ?_, fun q w => S.nw q ((own_box h).mp w), fun q hq => ⟨?_, fun w => (S.x0 q hq).2 ((own_box h).mp w)⟩, fun q hq => ?_⟩, ex⟩
  · refine m a o (S.fr a o n e) ?_
    rintro rfl
    rcases S.nw a h3 with w | w
    · exact n w
    · rw [w] at e; cases e
  · rw [xs_box h]
    by_cases hij : i = j
    · subst hij
      rw [List.getElem?_set_self hl] at hj
      cases hj
      rw [jn.mpr h1]
      exact .box t
    · rw [List.getElem?_set_ne hij] at hj
      refine (S.sl j s hj).mono ex fun q vs hs hq hv => m q _ hv ?_
      rintro rfl
      exact hij (S.uq i j _ s q h rfl h1 hj hs (jn.mp hq))
  · have old : ∀ {c : Nat} {u : Slot}, (ρ.set i (.box p b'))[c]? = some u → u.lists = true → ∃ u', ρ[c]? = some u' ∧ u'.lists = true := fun {c u} hc hu => by
      by_cases e : i = c
      · subst e
        exact ⟨_, h, rfl⟩
      · rw [List.getElem?_set_ne e] at hc
        exact ⟨u, hc, hu⟩
    obtain ⟨u, k1, k2⟩ := old a1 a2
    obtain ⟨u2, k3, k4⟩ := old a4 a5
    exact S.uq j k u u2 q k1 k2 a3 k3 k4 a6
  · have : q ≠ p := fun w => (S.x0 q hq).2 (w ▸ h3)
    exact (S.x0 q hq).1.imp fun vs h => m q _ h this
  · by_cases e : q = p
    · subst e
      obtain ⟨vs, z⟩ := t.lst
      rw [z]; simp
    · cases e2 : H q with
      | none => exact absurd e2 (S.pd q hq)
      | some o => rw [m q o e2 e]; simp
abbrev F_take (i : Nat) (A : FA) : FE := fun ρ K X => ∃ p, (∃ b, ρ[i]? = some (.box p b)) ∧ A ρ (fun ds ρ' => ∃ b, ρ'[i]? = some (.box p b) ∧ b < boxTop ∧ ∃ m : Nat, ds = [.int (m : Int)] ∧ 0 < m ∧ m < 2 ^ 90 ∧ ∀ k : Nat, k < m → K (.int (k : Int)) (ρ'.set i (.box p (b + 1)))) X
theorem PU.take {E2 : XK} {i : Nat} {t : TA} {A : FA} (a : PUA G E t A) : PU G E (tCall spTake [] E2 (tCons (tVar i) t)) (F_take i A) where
  run := fun {f σ H ρ Q} S ⟨p, ⟨b0, hp⟩, h⟩ => by
    obtain ⟨h1, _, _⟩ := S.bx hp
    refine ⟨_, h1, a.run S (a.mono (fun ds ρ' ⟨b, k1, hb, m, hd, m0, m1, k⟩ vs H' S' e hv => ?_) (fun _ x => x) h)⟩
    subst hd
    cases hv with
    | cons hm r =>
      cases hm
      cases r
      obtain ⟨_, h2, h3⟩ := S'.bx k1
      refine ⟨p, b, (m : Int), rfl, by omega, by have : (2 : Nat) ^ 90 < 2 ^ 100 := by decide
                                                 omega, hb, h2, fun d H2 d0 dm mo t => ?_⟩
      obtain ⟨S2, e2⟩ := S'.box k1 mo t
      have hk := k d.toNat (by omega) (.int d) H2 S2 (e.trans e2)
      rw [Int.toNat_of_nonneg d0] at hk
      exact hk (.int d)
  mono := fun m x ⟨p, hp, h⟩ => ⟨p, hp, a.mono (fun _ _ ⟨b, k1, hb, n, hd, m0, m1, k⟩ => ⟨b, k1, hb, n, hd, m0, m1, fun c hc => m _ _ (k c hc)⟩) x h⟩
abbrev F_callB (F : FD) (c i : Nat) (A : FA) : FE := fun ρ K X => ∃ p, (∃ b, ρ[i]? = some (.box p b)) ∧ A ρ (fun ds ρ' => ∃ b, ρ'[i]? = some (.box p b) ∧ b + c ≤ boxTop ∧ F.pre ds ∧ ∀ d, F.post ds d → K d (ρ'.set i (.box p (b + c)))) X
theorem PU.callB {F : FD} {c i : Nat} {t : TA} {A : FA} (a : PUA G E t A) : PU G E (tCall (spB G F c) [] E' (tCons (tVar i) t)) (F_callB F c i A) where
  run := fun {f σ H ρ Q} S ⟨p, ⟨b0, hp⟩, h⟩ => by
    obtain ⟨h1, _, _⟩ := S.bx hp
    refine ⟨_, h1, a.run S (a.mono (fun ds ρ' k vs H' S' e hv => ?_) (fun _ x => x) h)⟩
    dsimp only
    rw [List.append_nil]
    obtain ⟨b, k1, kb, k2, k3⟩ := k
    obtain ⟨_, h2, h3⟩ := S'.bx k1
    refine ⟨p, b, vs, ds, Xs f σ ρ', rfl, h2, kb, .inr h3, hv, fun a ha => S'.lstAt ha, k2, fun d v H2 hq m t hd => ?_⟩
    obtain ⟨S2, e2⟩ := S'.box k1 m t
    exact k3 d hq v H2 S2 (e.trans e2) (by rw [xs_box k1]; exact hd)
  mono := fun m x ⟨p, hp, h⟩ => ⟨p, hp, a.mono (fun _ _ ⟨b, k1, kb, k2, k3⟩ => ⟨b, k1, kb, k2, fun d hp => m _ _ (k3 d hp)⟩) x h⟩
abbrev F_callBL (F : FD) (c i : Nat) (A : FA) : FA := fun ρ K X => ∃ p, (∃ b, ρ[i]? = some (.box p b)) ∧ A ρ (fun ds ρ' => ∃ b, ρ'[i]? = some (.box p b) ∧ b + c ≤ boxTop ∧ F.pre ds ∧ ∀ l, F.post ds (.lst l) → K l (ρ'.set i (.box p (b + c)))) X
theorem PUF.callB {F : FD} {c i : Nat} {t : TA} {A : FA} (a : PUA G E t A) : PUF G E (tCall (spBL G F c) [] E' (tCons (tVar i) t)) (F_callBL F c i A) where
  run := fun {f σ H ρ Q} S ⟨p, ⟨b0, hp⟩, h⟩ => by
    obtain ⟨h1, _, _⟩ := S.bx hp
    refine ⟨_, h1, a.run S (a.mono (fun ds ρ' k vs H' S' e hv => ?_) (fun _ x => x) h)⟩
    dsimp only
    rw [List.append_nil]
    obtain ⟨b, k1, kb, k2, k3⟩ := k
    obtain ⟨_, h2, h3⟩ := S'.bx k1
    refine ⟨p, b, vs, ds, Xs f σ ρ', rfl, h2, kb, .inr h3, hv, fun a ha => S'.lstAt ha, k2, fun l q ws H2 hq hn m t hl hd => ?_⟩
    have hnq : q ≠ p := by
      rintro rfl
      obtain ⟨vs, z⟩ := h2.lst
      rw [z] at hn; cases hn
    obtain ⟨t0, t1, t2, b0, b1, b2, b3, b4, z⟩ := t
    obtain ⟨S2, e2⟩ := S'.box (b' := b + c) (H' := upd H' p (.lst [.int t0, .int t1, .int t2])) k1 Mo.set ⟨t0, t1, t2, b0, b1, b2, b3, b4, upd_same⟩
    have ex : Ex (upd H' p (.lst [.int t0, .int t1, .int t2])) H2 := fun c o hc => by
      by_cases e : c = p
      · subst e; rw [upd_same] at hc; cases hc; exact z
      · rw [upd_ne e] at hc; exact m c o hc e
    have hn2 : (upd H' p (.lst [.int t0, .int t1, .int t2])) q = none := by rw [upd_ne hnq]; exact hn
    exact k3 l hq q ws H2 (S2.outNew hn2 ex ⟨_, hl⟩) ((e.trans e2).trans (newOut_ex hn2 ex)) (.inr (S2.fresh hn2).1) (S2.fresh hn2).2.1 hl (hd.mono (cut_le fun a h => by
      rcases xs_out.mp h with h | h
      · rw [xs_box k1] at h; exact .inl h
      · exact .inr h))
  mono := fun m x ⟨p, hp, h⟩ => ⟨p, hp, a.mono (fun _ _ ⟨b, k1, kb, k2, k3⟩ => ⟨b, k1, kb, k2, fun d hp => m _ _ (k3 d hp)⟩) x h⟩
end
def AtBox (p : Addr) (b : Nat) (ρ : Fm.Env) : Prop := ∃ b', ρ[0]? = some (.box p b') ∧ b' ≤ b
def endB (F : FD) (p : Addr) (b : Nat) (ds : List Dt) : DE where
  nx := fun ρ => AtBox p b ρ ∧ F.post ds .non
  rt := fun d ρ => AtBox p b ρ ∧ F.post ds d
  rl := fun l ρ => AtBox p b ρ ∧ F.post ds (.lst l)
def endBL (F : FD) (p : Addr) (b : Nat) (ds : List Dt) : DE where
  nx := fun _ => False
  rt := fun d _ => False
  rl := fun l ρ => AtBox p b ρ ∧ F.post ds (.lst l)
def envB (p : Addr) (b n : Nat) (ds : List Dt) : Fm.Env := .box p b :: env0 (n - 1) ds
section
variable {G : Gs} {E E2 : XK} {K : PySem.W.Frag} {H : Hp} {vs : List V} {ds : List Dt} {Q : VK} {N : List Str} {X : Addr → Prop}
theorem startB_St {p : Addr} {b : Nat} {N : List Str} (hn : 1 ≤ N.length) (hv : DtVs G (cut X H) vs ds) (hx : ∀ a, X a → LstAt H a) (ht : BoxAt H p b) (hp : X p) : St G ⟨H, fun a => a = p, fun a => X a ∧ a ≠ p⟩ (L2.start N (.ref p :: vs)) H (envB p b N.length ds) := by
  obtain ⟨n0, N', rfl⟩ : ∃ n0 N', N = n0 :: N' := by cases N with | nil => simp at hn | cons a b => exact ⟨a, b, rfl⟩
  have es : L2.start (n0 :: N') (.ref p :: vs) = some (.ref p) :: L2.start N' vs := by
    unfold L2.start
    rw [List.map_cons, List.cons_append, List.length_cons, List.length_cons, Nat.add_sub_add_right]
  have ee : envB p b (n0 :: N').length ds = .box p b :: env0 N'.length ds := by
    unfold envB
    rw [List.length_cons, Nat.add_sub_cancel]
  rw [es, ee]
  have hl := hv.length
  have own : ∀ q, Own (some (.ref p) :: L2.start N' vs) (.box p b :: env0 N'.length ds) q ↔ q = p := by
    intro q
    constructor
    · rintro ⟨i, s, h1, h2, h3⟩
      cases i with
      | zero => simp at h3; exact h3.symm
      | succ i =>
        rw [List.getElem?_cons_succ] at h1
        rcases start_at (N := N') h1 hl with rfl | ⟨v, d, rfl, _⟩ <;> cases h2
    · rintro rfl
      exact ⟨0, _, rfl, rfl, rfl⟩
  have xx : Xs ⟨H, fun a => a = p, fun a => X a ∧ a ≠ p⟩ (some (.ref p) :: L2.start N' vs) (.box p b :: env0 N'.length ds) = X := by
    funext a
    refine propext ⟨fun w => w.elim (·.1) fun w => ((own a).mp w) ▸ hp, fun w => ?_⟩
    by_cases e : a = p
    · exact .inr ((own a).mpr e)
    · exact .inl ⟨w, e⟩
  refine ⟨by rw [List.length_cons, List.length_cons, start_len hl], fun _ _ _ h => h, fun i s h => ?_, fun i j s t q h1 h2 h3 h4 h5 h6 => ?_, fun q h => .inl ((own q).mp h), fun q h => ⟨hx q h.1, fun w => h.2 ((own q).mp w)⟩, fun q h => ?_⟩
  · rw [xx]
    cases i with
    | zero => simp at h; subst h; exact .box ht
    | succ i =>
      rw [List.getElem?_cons_succ] at h ⊢
      rcases start_at (N := N') h hl with rfl | ⟨v, d, rfl, h1, h2, h3⟩
      · exact .un
      · rw [jn.mpr h3]
        obtain ⟨d', e1, e2⟩ := hv.at h1
        rw [h2] at e1
        cases e1
        exact .val e2
  · have z : ∀ {i : Nat} {s : Slot}, (Slot.box p b :: env0 N'.length ds)[i]? = some s → s.lists = true → i = 0 := by
      intro i s h1 h2
      cases i with
      | zero => rfl
      | succ i =>
        rw [List.getElem?_cons_succ] at h1
        rcases start_at (vs := vs) (N := N') h1 hl with rfl | ⟨v, d, rfl, _⟩ <;> cases h2
    rw [z h1 h2, z h4 h5]
  · have e : q = p := h
    subst e
    obtain ⟨_, w⟩ := ht.lst
    rw [w]; simp
theorem box_end {f : Fr} {σ : L2.St} {ρ : Fm.Env} {p : Addr} {b : Nat} {H' : Hp} (S : St G f σ H' ρ) (h : AtBox p b ρ) : BoxAt H' p b ∧ Own σ ρ p := by
  obtain ⟨b', h1, h2⟩ := h
  obtain ⟨_, h3, h4⟩ := S.bx h1
  exact ⟨h3.le h2, h4⟩
theorem spB.def {F : FD} {c : Nat} {t : TS} {B : FS} (U : PUS G E t B) (hn : 1 ≤ N.length) (h : ∀ p b ds, b + c ≤ boxTop → F.pre ds → B (envB p b N.length ds) (endB F p (b + c) ds)) (hs : spB G F c vs H Q E2) : t { nx := fun _ H' => Q .non H', rt := Q } (L2.start N vs) H := by
  obtain ⟨p, b, us, ds, X, rfl, ht, hb, xp, hv, hx, hp, q⟩ := hs
  have back : ∀ {σ' : L2.St} {ρ' : Fm.Env} {H' : Hp}, St G ⟨H, fun a => a = p, fun a => X a ∧ a ≠ p⟩ σ' H' ρ' → AtBox p (b + c) ρ' → ∀ a, X a → Xs ⟨H, fun a => a = p, fun a => X a ∧ a ≠ p⟩ σ' ρ' a := fun S h0 a ha => by
    by_cases e : a = p
    · exact .inr (e ▸ (box_end S h0).2)
    · exact .inl ⟨ha, e⟩
  refine U.run (startB_St hn hv hx ht xp) (U.mono (D := endB F p (b + c) ds) ⟨fun ρ' k σ' H' S e => q .non .non H' k.2 ?_ (box_end S k.1).1 .non, fun d ρ' k v σ' H' S hd => q d v H' k.2 ?_ (box_end S k.1).1 ?_, fun l ρ' k r ws σ' H' S h1 h2 h3 h4 => q (.lst l) _ H' k.2 ?_ (box_end S k.1).1 ?_, fun _ w => w.elim, fun _ w => w.elim, fun _ w => w.elim⟩ (h p b ds hb hp))
  · exact fun a o ha n => S.fr a o n ha
  · exact fun a o ha n => S.fr a o n ha
  · exact hd.mono (cut_le (back S k.1))
  · exact fun a o ha n => S.fr a o n ha
  · have hnr : r ≠ p := by
      rintro rfl
      exact (S.x0 r (.inr rfl)).2 (box_end S k.1).2
    refine .lst (cut_some.mpr ⟨fun w => h2 ⟨w, hnr⟩, h3⟩) (h4.mono (cut_le fun a ha => xs_out.mpr (.inl (back S.back k.1 a ha))))
theorem spBL.def {F : FD} {c : Nat} {t : TS} {B : FS} (U : PUS G E t B) (hn : 1 ≤ N.length) (h : ∀ p b ds, b + c ≤ boxTop → F.pre ds → B (envB p b N.length ds) (endBL F p (b + c) ds)) (hs : spBL G F c vs H Q E2) : t { nx := fun _ H' => Q .non H', rt := Q } (L2.start N vs) H := by
  obtain ⟨p, b, us, ds, X, rfl, ht, hb, xp, hv, hx, hp, q⟩ := hs
  have back : ∀ {σ' : L2.St} {ρ' : Fm.Env} {H' : Hp}, St G ⟨H, fun a => a = p, fun a => X a ∧ a ≠ p⟩ σ' H' ρ' → AtBox p (b + c) ρ' → ∀ a, X a → Xs ⟨H, fun a => a = p, fun a => X a ∧ a ≠ p⟩ σ' ρ' a := fun S h0 a ha => by
    by_cases e : a = p
    · exact .inr (e ▸ (box_end S h0).2)
    · exact .inl ⟨ha, e⟩
  refine U.run (startB_St hn hv hx ht xp) (U.mono (D := endBL F p (b + c) ds) ⟨fun _ w => w.elim, fun _ _ w => w.elim, fun l ρ' k r ws σ' H' S h1 h2 h3 h4 => ?_, fun _ w => w.elim, fun _ w => w.elim, fun _ w => w.elim⟩ (h p b ds hb hp))
  have hnr : r ≠ p := by
    rintro rfl
    exact (S.x0 r (.inr rfl)).2 (box_end S k.1).2
  refine q l r ws H' k.2 (h1.elim (fun w => absurd w hnr) id) (fun a o ha n => S.fr a o n ha) (box_end S k.1).1 h3 (h4.mono (cut_le fun a ha => ?_))
  rcases ha with ha | ha
  · exact xs_out.mpr (.inl (back S.back k.1 a ha))
  · exact xs_out.mpr (.inr ha)
end
theorem St.boxStart {G : Gs} {σ : L2.St} {H : Hp} {ρ : Fm.Env} {p : Addr} {b n : Nat} (hl : σ.length = ρ.length) (hn : n < ρ.length) (hρ : ∀ i s, ρ[i]? = some s → (i = n ∧ s = .box p b ∧ σ[i]? = some (some (.ref p))) ∨ (i ≠ n ∧ s = .un) ∨ (i ≠ n ∧ ∃ a, s = .ref a ∧ σ[i]? = some (some (.ref a))) ∨ (i ≠ n ∧ ∃ k : Int, s = .val (.int k) ∧ σ[i]? = some (some (.int k)))) (ht : BoxAt H p b) : St G ⟨H, fun a => a = p, fun _ => False⟩ σ H ρ where
  len := hl
  fr := fun _ _ _ h => h
  sl := fun i s h => by
    rcases hρ i s h with ⟨rfl, rfl, h2⟩ | ⟨_, rfl⟩ | ⟨_, a, rfl, h2⟩ | ⟨_, k, rfl, h2⟩
    · rw [h2]; exact .box ht
    · exact .un
    · rw [h2]; exact .ref
    · rw [h2]; exact .val (.int k)
  uq := fun i j s t q h1 h2 h3 h4 h5 h6 => by
    rcases hρ i s h1 with ⟨rfl, rfl, _⟩ | ⟨_, rfl⟩ | ⟨_, a, rfl, _⟩ | ⟨_, k, rfl, _⟩
    · rcases hρ j t h4 with ⟨rfl, rfl, _⟩ | ⟨_, rfl⟩ | ⟨_, a, rfl, _⟩ | ⟨_, k, rfl, _⟩
      · rfl
      · cases h5
      · cases h5
      · cases h5
    · cases h2
    · cases h2
    · cases h2
  nw := fun q h => by
    obtain ⟨j, t, h1, h2, h3⟩ := h
    rcases hρ j t h1 with ⟨rfl, rfl, h4⟩ | ⟨_, rfl⟩ | ⟨_, a, rfl, _⟩ | ⟨_, k, rfl, _⟩
    · rw [h4] at h3
      injection h3 with h3; injection h3 with h3; injection h3 with h3
      exact .inl h3.symm
    · cases h2
    · cases h2
    · cases h2
  x0 := fun _ h => h.elim
  pd := fun q h => by
    obtain ⟨_, e⟩ := ht.lst
    rw [show q = p from h, e]
    exact fun z => nomatch z
end Fm

set_option maxHeartbeats 2000000
namespace Fm
open PySem PySem.Spec PyProof.Rows L2
def fdMarksB : FD where
  pre := fun ds => ∃ l m : Nat, ds = [.int (l : Int), .int (m : Int)] ∧ 1 ≤ l ∧ l ≤ m ∧ m ≤ 9
  post := fun ds d => ∃ (l m : Nat) (qs : List Rat), ds = [.int (l : Int), .int (m : Int)] ∧ qs.Pairwise (· < ·) ∧ l ≤ qs.length ∧ qs.length ≤ m ∧ (∀ q ∈ qs, LatC q) ∧ d = .lst (qs.map .rat)
def LatS (ps : List Rat) : Prop := ∃ W : Int, 1 ≤ W ∧ W ≤ 64 ∧ ∀ p ∈ ps, ∃ u : Nat, p = Rat.divInt (u : Int) W ∧ u ≤ 64
def fdLotB : FD where
  pre := fun ds => ∃ n : Nat, ds = [.int (n : Int)] ∧ 1 ≤ n ∧ n ≤ 8
  post := fun ds d => ∃ n : Nat, ∃ ps : List Rat, ds = [.int (n : Int)] ∧ LotR n ps ∧ LatS ps ∧ d = .lst (ps.map .rat)
def fdCurveB : FD where
  pre := fun ds => ∃ n : Nat, ds = [.int (n : Int)] ∧ n ≤ 9
  post := fun ds d => ∃ n : Nat, ∃ ps : List Rat, ds = [.int (n : Int)] ∧ ps.length = n ∧ (∀ p ∈ ps, LatC p) ∧ d = .lst (ps.map .rat)
def fdGivenB : FD where
  pre := fun ds => ∃ qs : List Rat, ds = [.lst (qs.map .rat)] ∧ qs.length ≤ 20
  post := fdGiven.post
theorem firstR (n : Nat) (h1 : 1 ≤ n) (h8 : n ≤ 8) : LotR n ((List.range n).map fun k => if k = 0 then (1 : Rat) else 0) ∧ LatS ((List.range n).map fun k => if k = 0 then (1 : Rat) else 0) := by
  have e : ((List.range n).map fun k => if k = 0 then (1 : Rat) else 0) = ((1 :: List.replicate (n - 1) 0).map fun (u : Nat) => Rat.divInt (u : Int) (natS (1 :: List.replicate (n - 1) 0))) := by
    have hS : natS (1 :: List.replicate (n - 1) 0) = 1 := by
      rw [natS_cons]
      have : natS (List.replicate (n - 1) 0) = 0 := by
        unfold natS
        rw [List.map_replicate]
        simp
      rw [this]
      rfl
    rw [hS]
    refine List.ext_getElem (by simp; omega) fun k h2 h3 => ?_
    rw [List.getElem_map, List.getElem_range, List.getElem_map]
    cases k with
    | zero => rw [if_pos rfl, List.getElem_cons_zero, int_divInt]; rfl
    | succ k =>
      rw [if_neg (by omega), List.getElem_cons_succ, List.getElem_replicate, int_divInt]
      rfl
  have hm : ∀ u ∈ (1 :: List.replicate (n - 1) 0), u ≤ 5 := fun u hu => by
    rcases List.mem_cons.mp hu with h | h
    · omega
    · rw [(List.mem_replicate.mp h).2]; omega
  have l := lotR_units hm (by simp; omega) (List.mem_cons_self ..) (Nat.le_refl 1)
  rw [e]
  refine ⟨?_, 1, by decide, by decide, fun q hq => ?_⟩
  · have e2 : (1 :: List.replicate (n - 1) 0).length = n := by simp; omega
    rw [e2] at l
    exact l
  · rw [← e] at hq
    obtain ⟨k, _, rfl⟩ := List.mem_map.mp hq
    by_cases hk : k = 0
    · exact ⟨1, by rw [if_pos hk, int_divInt]; rfl, by decide⟩
    · exact ⟨0, by rw [if_neg hk, int_divInt]; rfl, by decide⟩
theorem natS_ex {us : List Nat} (h : ¬ natS us = 0) : ∃ v ∈ us, 1 ≤ v := by
  induction us with
  | nil => exact absurd rfl h
  | cons u us ih =>
    rw [natS_cons] at h
    by_cases hu : 1 ≤ u
    · exact ⟨u, List.mem_cons_self .., hu⟩
    · obtain ⟨v, hv, h1⟩ := ih (by omega)
      exact ⟨v, List.mem_cons_of_mem _ hv, h1⟩
end Fm

set_option maxHeartbeats 4000000
namespace Kx
open PySem PySem.Spec PyProof.Rows L2 Fm
theorem starts_ok : ∀ x ∈ [Dt.rat ((0 : Int) : Rat), Dt.rat ((-3 : Int) : Rat), Dt.rat (Rat.divInt 1 2), Dt.rat (Rat.divInt (-7) 3), Dt.rat ((10 : Int) : Rat)], ∃ n : Int, x = .rat (Rat.divInt n 6) ∧ n.natAbs ≤ 60 := by
  intro x hx
  simp only [List.mem_cons, List.not_mem_nil, or_false] at hx
  rcases hx with rfl | rfl | rfl | rfl | rfl
  · exact ⟨0, rfl, by decide⟩
  · exact ⟨-18, by congr 1, by decide⟩
  · exact ⟨3, by congr 1, by decide⟩
  · exact ⟨-14, by congr 1, by decide⟩
  · exact ⟨60, by congr 1, by decide⟩
theorem steps_ok {t : Nat} (ht : t < 9) : ∀ x ∈ [Dt.rat ((1 : Int) : Rat), Dt.rat ((1 : Int) : Rat), Dt.rat ((2 : Int) : Rat), Dt.rat (Rat.divInt 1 3), Dt.rat (Rat.divInt 5 2), Dt.rat ((1 + (t : Int) : Int) : Rat)], ∃ n : Int, x = .rat (Rat.divInt n 6) ∧ 0 < n ∧ n ≤ 54 := by
  intro x hx
  simp only [List.mem_cons, List.not_mem_nil, or_false] at hx
  rcases hx with rfl | rfl | rfl | rfl | rfl | rfl
  · exact ⟨6, by congr 1, by decide, by decide⟩
  · exact ⟨6, by congr 1, by decide, by decide⟩
  · exact ⟨12, by congr 1, by decide, by decide⟩
  · exact ⟨2, by congr 1, by decide, by decide⟩
  · exact ⟨15, by congr 1, by decide, by decide⟩
  · refine ⟨(1 + (t : Int)) * 6, ?_, by omega, by omega⟩
    congr 1
    rw [← int_divInt]
    exact (divInt_eq (by decide) (by decide)).mpr (by omega)
section
variable {P : Program} {w : World} {K : PySem.W.Frag} {mg : Str → Option Value} {base : Heap} {a : Ad}
theorem ok_Lmarks (T : Tx K mg a) : FnOk P w K mg base CX0 5 a.f_Lmarks a.d_Lmarks P_Lmarks (spBL a.G fdMarksB 20) := by
  refine def_ok0 T.F_Lmarks sc_Lmarks (fun vs H Q E h => ?_) (fun cdv A outer s H vs Q E hr h => ?_)
  · obtain ⟨p, b, us, ds, X, rfl, _, _, _, hv, _, ⟨l, m, rfl, _⟩, _⟩ := h
    exact congrArg Nat.succ hv.length
  · refine ⟨_, (pss_cons (ps_set (i := 3) sc_Lmarks.nd rfl (Or.inl rfl) (pe_op op_add (pv 1) (pe_call (ok_Ltake T) (hr.mono (by decide)) (by rfl) T.g_Ltake T.F_Ltake.kp (bd_Ltake T) .nil pass0 (pa_cons (pv 0) (pa_cons (pe_op op_add (pe_op op_sub (pv 2) (pv 1)) pe_int) pa_nil))))) (pss_cons (ps_set (i := 4) sc_Lmarks.nd rfl (Or.inl rfl) (pe_ix ix_list (pe_lst (pa_cons (pe_make T.mk_Ratio (ok_Ratio_init T) (hr.mono (by decide)) (by rfl) T.g_Ratio (bd1_Ratio_init T).choose_spec.2 (bd1_Ratio_init T).choose_spec.1 pass0 (pa_cons pe_int pa_nil)) (pa_cons (pe_make T.mk_Ratio (ok_Ratio_init T) (hr.mono (by decide)) (by rfl) T.g_Ratio (bd1_Ratio_init T).choose_spec.2 (bd1_Ratio_init T).choose_spec.1 pass0 (pa_cons (pe_un un_neg pe_int) pa_nil)) (pa_cons (pe_make T.mk_Ratio (ok_Ratio_init T) (hr.mono (by decide)) (by rfl) T.g_Ratio (bd_Ratio_init T) .nil pass0 (pa_cons pe_int (pa_cons pe_int pa_nil))) (pa_cons (pe_make T.mk_Ratio (ok_Ratio_init T) (hr.mono (by decide)) (by rfl) T.g_Ratio (bd_Ratio_init T) .nil pass0 (pa_cons (pe_un un_neg pe_int) (pa_cons pe_int pa_nil))) (pa_cons (pe_make T.mk_Ratio (ok_Ratio_init T) (hr.mono (by decide)) (by rfl) T.g_Ratio (bd1_Ratio_init T).choose_spec.2 (bd1_Ratio_init T).choose_spec.1 pass0 (pa_cons pe_int pa_nil)) pa_nil)))))) (pe_call (ok_Ltake T) (hr.mono (by decide)) (by rfl) T.g_Ltake T.F_Ltake.kp (bd_Ltake T) .nil pass0 (pa_cons (pv 0) (pa_cons pe_int pa_nil))) (fun _ _ => rfl))) (pss_cons (ps_set (i := 5) sc_Lmarks.nd rfl (Or.inl rfl) (pe_lst (pa_cons (pv 4) pa_nil))) (pss_cons (ps_for PassesOwn.never rfl (pi_range1 (by rfl) T.b_range (pa_cons (pe_op op_sub (pv 3) pe_int) pa_nil)) (pg_name (i := 6) sc_Lmarks.nd rfl (Or.inl rfl)) (pss_cons (ps_set (i := 7) sc_Lmarks.nd rfl (Or.inl rfl) (pe_lst (pa_cons (pe_make T.mk_Ratio (ok_Ratio_init T) (hr.mono (by decide)) (by rfl) T.g_Ratio (bd1_Ratio_init T).choose_spec.2 (bd1_Ratio_init T).choose_spec.1 pass0 (pa_cons pe_int pa_nil)) (pa_cons (pe_make T.mk_Ratio (ok_Ratio_init T) (hr.mono (by decide)) (by rfl) T.g_Ratio (bd1_Ratio_init T).choose_spec.2 (bd1_Ratio_init T).choose_spec.1 pass0 (pa_cons pe_int pa_nil)) (pa_cons (pe_make T.mk_Ratio (ok_Ratio_init T) (hr.mono (by decide)) (by rfl) T.g_Ratio (bd1_Ratio_init T).choose_spec.2 (bd1_Ratio_init T).choose_spec.1 pass0 (pa_cons pe_int pa_nil)) (pa_cons (pe_make T.mk_Ratio (ok_Ratio_init T) (hr.mono (by decide)) (by rfl) T.g_Ratio (bd_Ratio_init T) .nil pass0 (pa_cons pe_int (pa_cons pe_int pa_nil))) (pa_cons (pe_make T.mk_Ratio (ok_Ratio_init T) (hr.mono (by decide)) (by rfl) T.g_Ratio (bd_Ratio_init T) .nil pass0 (pa_cons pe_int (pa_cons pe_int pa_nil))) (pa_cons (pe_make T.mk_Ratio (ok_Ratio_init T) (hr.mono (by decide)) (by rfl) T.g_Ratio (bd1_Ratio_init T).choose_spec.2 (bd1_Ratio_init T).choose_spec.1 pass0 (pa_cons (pe_op op_add pe_int (pe_call (ok_Ltake T) (hr.mono (by decide)) (by rfl) T.g_Ltake T.F_Ltake.kp (bd_Ltake T) .nil pass0 (pa_cons (pv 0) (pa_cons pe_int pa_nil)))) pa_nil)) pa_nil)))))))) (pss_one (ps_expr (pe_bm PySem.F.plainAttrs_list PySem.F.slot_list_append PySem.F.type_list_append mt_append (pv 5) (pa_cons (pe_op (op_own T.o_add (ok_Ratio_add T) (hr.mono (by decide)) (bd_Ratio_add T) pass0) (pe_ix ix_list (pv 5) (pe_un un_neg pe_int) (fun _ _ => rfl)) (pe_ix ix_list (pv 7) (pe_call (ok_Ltake T) (hr.mono (by decide)) (by rfl) T.g_Ltake T.F_Ltake.kp (bd_Ltake T) .nil pass0 (pa_cons (pv 0) (pa_cons pe_int pa_nil))) (fun _ _ => rfl))) pa_nil)))))) (pss_one (ps_ret (pv 5))))))), ?_⟩
    refine spBL.def (G := a.G) (E := E0) (PUS.seq (PUS.set (i := 3) (PU.op RD.i0 (PU.var (i := 1)) (PU.take (i := 0) (PUA.cons (PU.op RD.i0 (PU.op RD.i0 (PU.var (i := 2)) (PU.var (i := 1))) PU.ci) PUA.nil)))) (PUS.seq (PUS.set (i := 4) (PU.op RD.ixL (PUF.toV (PUF.lst (PUA.cons (PU.mkR1 (PUA.cons PU.ci PUA.nil)) (PUA.cons (PU.mkR1 (PUA.cons (PU.un UD.neg PU.ci) PUA.nil)) (PUA.cons (PU.mkR (PUA.cons PU.ci (PUA.cons PU.ci PUA.nil))) (PUA.cons (PU.mkR (PUA.cons (PU.un UD.neg PU.ci) (PUA.cons PU.ci PUA.nil))) (PUA.cons (PU.mkR1 (PUA.cons PU.ci PUA.nil)) PUA.nil))))))) (PU.take (i := 0) (PUA.cons PU.ci PUA.nil)))) (PUS.seq (PUS.setF (i := 5) (PUF.lst (PUA.cons (PU.var (i := 4)) PUA.nil))) (PUS.seq (PUS.for (PUI.rng1 (PUA.cons (PU.op RD.i0 (PU.var (i := 3)) PU.ci) PUA.nil)) (PUG.name (i := 6)) (PUS.seq (PUS.set (i := 7) (PUF.toV (PUF.lst (PUA.cons (PU.mkR1 (PUA.cons PU.ci PUA.nil)) (PUA.cons (PU.mkR1 (PUA.cons PU.ci PUA.nil)) (PUA.cons (PU.mkR1 (PUA.cons PU.ci PUA.nil)) (PUA.cons (PU.mkR (PUA.cons PU.ci (PUA.cons PU.ci PUA.nil))) (PUA.cons (PU.mkR (PUA.cons PU.ci (PUA.cons PU.ci PUA.nil))) (PUA.cons (PU.mkR1 (PUA.cons (PU.op RD.i0 PU.ci (PU.take (i := 0) (PUA.cons PU.ci PUA.nil))) PUA.nil)) PUA.nil))))))))) (PUS.app (i := 5) (PU.op RD.num2 (PU.ixO (i := 5) (PU.un UD.neg PU.ci)) (PU.op RD.ixL (PU.var (i := 7)) (PU.take (i := 0) (PUA.cons PU.ci PUA.nil))))))) (PUS.retF (PUF.mv (i := 5))))))) (by decide) (fun p b ds hb hp => ?_) h
    obtain ⟨l, m, rfl, h1, hlm, h9⟩ := hp
    have bt : boxTop = 2 ^ 50 := rfl
    refine ⟨_, rfl, p, ⟨b, rfl⟩, _, rfl, _, rfl, _, _, rfl, rfl, _, _, rfl, rfl, b, rfl, by omega, m - l + 1, by rw [show ((m : Int) - (l : Int) + 1) = ((m - l + 1 : Nat) : Int) by omega], by omega, by omega, fun o ho => ⟨_, _, rfl, rfl, ?_⟩⟩
    refine ⟨0, rfl, lt8 (k := 1) (by decide) (by decide), 3, rfl, -3, rfl, lt8 (k := 10) (by decide) (by decide), 1, 2, rfl, by decide, lt8 (k := 10) (by decide) (by decide), lt8 (k := 10) (by decide) (by decide), 7, rfl, -7, 3, rfl, by decide, lt8 (k := 10) (by decide) (by decide), lt8 (k := 10) (by decide) (by decide), 10, rfl, lt8 (k := 10) (by decide) (by decide), by decide, p, ⟨_, rfl⟩, b + 1, rfl, by omega, 5, rfl, by decide, by decide, fun k hk => ?_⟩
    obtain ⟨x, hx, n, rfl, hn⟩ := at_all (Q := fun x => ∃ n : Int, x = .rat (Rat.divInt n 6) ∧ n.natAbs ≤ 60) starts_ok (k := k) hk
    refine ⟨_, _, _, rfl, rfl, hx, ?_⟩
    refine ⟨_, rfl, by show 1 ≤ 1000; decide, _, rfl, _, 1, rfl, rfl, _, rfl, ⟨by omega, by omega⟩, ?_⟩
    refine forP_rng (n := l + o - 1) (fun c ρ => ∃ (b' : Nat) (js : List Int) (z : Int) (u v : Slot), ρ = [.box p b', .val (.int (l : Int)), .val (.int (m : Int)), .val (.int ((l : Int) + (o : Int))), .val (.rat (Rat.divInt n 6)), .own ((js ++ [z]).map fun i => .rat (Rat.divInt i 6)), u, v] ∧ b' ≤ b + 2 + 2 * c ∧ js.length = c ∧ (js ++ [z]).Pairwise (· < ·) ∧ ∀ i ∈ js ++ [z], i.natAbs ≤ 60 + 54 * c) (by omega) ⟨b + 2, [], n, .un, .un, rfl, by omega, rfl, List.pairwise_singleton .., fun i hi => by rw [List.mem_singleton.mp hi]; omega⟩ (fun c ρ K hc hI hK => ?_) (fun ρ hI => ?_)
    · obtain ⟨b', js, z, u, v, rfl, hb2, hl, hpw, hz⟩ := hI
      refine ⟨1, rfl, lt8 (k := 10) (by decide) (by decide), 1, rfl, lt8 (k := 10) (by decide) (by decide), 2, rfl, lt8 (k := 10) (by decide) (by decide), 1, 3, rfl, by decide, lt8 (k := 10) (by decide) (by decide), lt8 (k := 10) (by decide) (by decide), 5, 2, rfl, by decide, lt8 (k := 10) (by decide) (by decide), lt8 (k := 10) (by decide) (by decide), p, ⟨_, rfl⟩, b', rfl, by omega, 9, rfl, by decide, by decide, fun t ht => ⟨1, (t : Int), rfl, rfl, _, rfl, lt8 (k := 10) (by omega) (by decide), by show 6 ≤ 1000; decide, ?_⟩⟩
      have hzz : z.natAbs ≤ 60 + 54 * c := hz z (List.mem_append_right _ (List.mem_singleton.mpr rfl))
      refine ⟨⟨_, rfl⟩, ⟨_, rfl⟩, 1, rfl, _, _, .rat (Rat.divInt z 6), rfl, rfl, by rw [List.map_append]; exact L2.atI_last _ _, _, rfl, p, ⟨_, rfl⟩, b' + 1, rfl, by omega, 6, rfl, by decide, by decide, fun k2 hk2 => ?_⟩
      obtain ⟨x2, hx2, s, rfl, s0, s1⟩ := at_all (Q := fun x => ∃ n : Int, x = .rat (Rat.divInt n 6) ∧ 0 < n ∧ n ≤ 54) (steps_ok ht) (k := k2) hk2
      have hc8 : c ≤ 8 := by omega
      have z1 : Sz 3000 (Rat.divInt z 6) := sz_le' (Sz.divInt (k := 11) (t := z) (by omega) (by decide) (by decide)) (by decide)
      have z2 : Sz 3000 (Rat.divInt s 6) := sz_le' (Sz.divInt (k := 11) (t := s) (by omega) (by decide) (by decide)) (by decide)
      have e6 : ((js ++ [z]) ++ [z + s]).map (fun i => Dt.rat (Rat.divInt i 6)) = (js ++ [z]).map (fun i => Dt.rat (Rat.divInt i 6)) ++ [Dt.rat (Rat.divInt z 6 + Rat.divInt s 6)] := by
        rw [List.map_append, divInt_same (by decide)]
        rfl
      refine ⟨_, _, _, rfl, rfl, hx2, _, rfl, rfl, z1, z2, _, rfl, by rw [List.length_map, List.length_append, hl]; show c + 1 ≤ 100000; omega, hK _ ⟨b' + 2, js ++ [z], z + s, .val (.int (c : Int)), .val (.lst [.rat ((1 : Int) : Rat), .rat ((1 : Int) : Rat), .rat ((2 : Int) : Rat), .rat (Rat.divInt 1 3), .rat (Rat.divInt 5 2), .rat ((1 + (t : Int) : Int) : Rat)]), by rw [e6]; rfl, by omega, by rw [List.length_append, hl]; rfl, ?_, ?_⟩⟩
      · refine List.pairwise_append.mpr ⟨hpw, List.pairwise_singleton .., fun x hx y hy => ?_⟩
        rw [List.mem_singleton.mp hy]
        rcases List.mem_append.mp hx with hx | hx
        · have := (List.pairwise_append.mp hpw).2.2 x hx z (List.mem_singleton.mpr rfl)
          omega
        · rw [List.mem_singleton.mp hx]; omega
      · intro i hi
        rcases List.mem_append.mp hi with hi | hi
        · have := hz i hi; omega
        · rw [List.mem_singleton.mp hi]; omega
    · obtain ⟨b', js, z, u, v, rfl, hb2, hl, hpw, hz⟩ := hI
      have hll : (js ++ [z]).length = l + o := by rw [List.length_append, hl]; show l + o - 1 + 1 = _; omega
      refine ⟨_, rfl, ⟨b', rfl, by omega⟩, l, m, (js ++ [z]).map fun i => Rat.divInt i 6, rfl, ?_, by rw [List.length_map, hll]; omega, by rw [List.length_map, hll]; omega, fun q hq => ?_, by rw [List.map_map]; rfl⟩
      · refine List.pairwise_map.mpr (hpw.imp fun {x y} h => ?_)
        exact (divInt_lt (by decide) (by decide)).mpr (by omega)
      · obtain ⟨i, hi, rfl⟩ := List.mem_map.mp hq
        have := hz i hi
        exact ⟨i, rfl, by have : (2 : Nat) ^ 10 = 1024 := by decide
                          omega⟩
theorem ok_Llot (T : Tx K mg a) : FnOk P w K mg base CX0 4 a.f_Llot a.d_Llot P_Llot (spBL a.G fdLotB 10) := by
  refine def_ok0 T.F_Llot sc_Llot (fun vs H Q E h => ?_) (fun cdv A outer s H vs Q E hr h => ?_)
  · obtain ⟨p, b, us, ds, X, rfl, _, _, _, hv, _, ⟨n, rfl, _⟩, _⟩ := h
    exact congrArg Nat.succ hv.length
  · refine ⟨_, (pss_cons (ps_setLc (i := 2) (own := [("_law_k", 3)]) (g := (gName 3)) (tt := tYes) rfl sc_Llot.nd rfl rfl (sw_true rfl rfl rfl (by decide +kernel)) (pi_range1 (by rfl) T.b_range (pa_cons (pv 1) pa_nil)) (blkOk_by (N := N_Llot) (sc := defScope s_Llot) (by decide +kernel)) (fun _ _ _ _ _ => pg_name (i := 3) sc_Llot.nd rfl (Or.inl rfl)) (fun _ _ _ _ _ => pts_nil) (fun _ _ _ _ _ => (pe_ix (ix_listV (K := K) rfl) (pe_lst (pa_cons pe_int (pa_cons pe_int (pa_cons pe_int (pa_cons pe_int (pa_cons pe_int (pa_cons pe_int pa_nil))))))) (pe_call (ok_Ltake T) (hr.mono (by decide)) (by rfl) T.g_Ltake T.F_Ltake.kp (bd_Ltake T) .nil pass0 (pa_cons (pv 0) (pa_cons pe_int pa_nil))) (fun _ _ => rfl)))) (pss_cons (ps_set (i := 4) sc_Llot.nd rfl (Or.inr rfl) (pe_callB (cr_sum rfl) (by rfl) T.b_sum (by decide +kernel) (pa_cons (pv 2) pa_nil))) (pss_cons (ps_if (pt_cmpR op_eq (pv 4) pe_int (nomark _)) (pss_one (ps_ret (pe_lc (own := [("_law_k", 3)]) (g := (gName 3)) (tt := tYes) rfl sc_Llot.nd (pi_range1 (by rfl) T.b_range (pa_cons (pv 1) pa_nil)) (blkOk_by (N := N_Llot) (sc := defScope s_Llot) (by decide +kernel)) (fun _ _ _ _ _ => pg_name (i := 3) sc_Llot.nd rfl (Or.inl rfl)) (fun _ _ _ _ _ => pts_nil) (fun _ _ _ _ _ => (pe_make T.mk_Ratio (ok_Ratio_init T) (hr.mono (by decide)) (by rfl) T.g_Ratio (bd1_Ratio_init T).choose_spec.2 (bd1_Ratio_init T).choose_spec.1 pass0 (pa_cons (pe_callTy cr_intI (by rfl) T.b_int (by decide +kernel) (pa_cons (pe_cmpR op_eq (pv 3) pe_int (nomark _)) pa_nil)) pa_nil)))))) pss_nil) (pss_one (ps_ret (pe_lc (own := [("_law_part", 5)]) (g := (gName 5)) (tt := tYes) rfl sc_Llot.nd (pi_list (pv 2)) (blkOk_by (N := N_Llot) (sc := defScope s_Llot) (by decide +kernel)) (fun _ _ _ _ _ => pg_name (i := 5) sc_Llot.nd rfl (Or.inl rfl)) (fun _ _ _ _ _ => pts_nil) (fun _ _ _ _ _ => (pe_make T.mk_Ratio (ok_Ratio_init T) (hr.mono (by decide)) (by rfl) T.g_Ratio (bd_Ratio_init T) .nil pass0 (pa_cons (pv 5) (pa_cons (pv 4) pa_nil)))))))))), ?_⟩
    refine spBL.def (G := a.G) (E := E0) (PUS.seq (PUS.set (i := 2) (PUF.toV (PUF.lc (i := 3) (E1 := E0) (E2 := E0) (PUI.rng1 (PUA.cons (PU.var (i := 1)) PUA.nil)) PUT.yes (PU.op RD.ixL (PUF.toV (PUF.lst (PUA.cons PU.ci (PUA.cons PU.ci (PUA.cons PU.ci (PUA.cons PU.ci (PUA.cons PU.ci (PUA.cons PU.ci PUA.nil)))))))) (PU.take (i := 0) (PUA.cons PU.ci PUA.nil)))))) (PUS.seq (PUS.set (i := 4) (PU.cbn CD.sum (PUA.cons (PU.var (i := 2)) PUA.nil))) (PUS.seq (PUS.ifS (PUT.test (PU.op RD.eq (PU.var (i := 4)) PU.ci)) (PUS.retF (PUF.lc (i := 3) (E1 := E0) (E2 := E0) (PUI.rng1 (PUA.cons (PU.var (i := 1)) PUA.nil)) PUT.yes (PU.mkR1 (PUA.cons (PU.cbn CD.int (PUA.cons (PU.op RD.eq (PU.var (i := 3)) PU.ci) PUA.nil)) PUA.nil)))) PUS.next) (PUS.retF (PUF.lc (i := 5) (E1 := E0) (E2 := E0) (PUI.list (PU.var (i := 2))) PUT.yes (PU.mkR (PUA.cons (PU.var (i := 5)) (PUA.cons (PU.var (i := 4)) PUA.nil)))))))) (by decide) (fun p b ds hb hp => ?_) h
    obtain ⟨n, rfl, h1, h8⟩ := hp
    have bt : boxTop = 2 ^ 50 := rfl
    refine ⟨_, rfl, _, rfl, ⟨by omega, by omega⟩, ?_⟩
    refine lcP_by (fun c acc ρ => (∃ b', ρ = [.box p b', .val (.int (n : Int)), .un, .un, .un, .un] ∧ b' ≤ b + c) ∧ ∃ us : List Nat, acc = us.map (fun (u : Nat) => Dt.int (u : Int)) ∧ us.length = c ∧ ∀ u ∈ us, u ≤ 5) ⟨⟨b, rfl, by omega⟩, [], rfl, rfl, fun _ h => nomatch h⟩ (fun c d acc ρ K1 hd hI hK => ?_) (fun acc ρ hI => ?_)
    · obtain ⟨⟨b', rfl, hb2⟩, us, rfl, rfl, h5⟩ := hI
      obtain ⟨rfl, hcn⟩ := rngL_at hd
      refine ⟨by rw [List.length_map]; omega, rfl, ite_t ⟨by decide, p, ⟨_, rfl⟩, b', rfl, by omega, 6, rfl, by decide, by decide, fun k hk => ?_⟩⟩
      obtain ⟨u, hu, e⟩ := at_ints [0, 0, 1, 1, 2, 3] (k := k) hk
      have hu5 : 0 ≤ u ∧ u ≤ 5 := by simp at hu; omega
      refine ⟨_, _, _, rfl, rfl, e, hK _ _ ⟨⟨b' + 1, rfl, by omega⟩, us ++ [u.toNat], ?_, by simp, fun x hx => ?_⟩⟩
      · rw [List.map_append, List.map_singleton, Int.toNat_of_nonneg hu5.1]
      · rcases List.mem_append.mp hx with hx | hx
        · exact h5 x hx
        · rw [List.mem_singleton.mp hx]; omega
    · obtain ⟨⟨b', rfl, hb2⟩, us, rfl, hlen, h5⟩ := hI
      rw [rngL_len, Int.toNat_natCast] at hlen hb2
      have ev : us.map (fun (u : Nat) => Dt.int (u : Int)) = (us.map fun (u : Nat) => (u : Int)).map Dt.int := by rw [List.map_map]; rfl
      have hS2 := natS_le h5
      have hS0 := natS_pos us
      refine ⟨_, rfl, (us.map fun (u : Nat) => (u : Int)), by rw [ev], ?_⟩
      have eS : (us.map fun (u : Nat) => (u : Int)).sum = natS us := rfl
      rw [eS]
      refine ⟨_, rfl, _, rfl, _, rfl, ite_d (fun (h0 : natS us = 0) => ?_) (fun (h0 : ¬ natS us = 0) => ?_)⟩
      · refine ⟨_, rfl, _, rfl, ⟨by omega, by omega⟩, ?_⟩
        refine lcP_map (g := fun x => .rat (if x.nat = 0 then 1 else 0)) _ _ rfl (by rw [rngL_len]; simp; omega) rfl (fun x hx K hK => ?_) ?_
        · obtain ⟨k, hk, rfl⟩ := List.mem_map.mp hx
          rw [Int.zero_add] at hK ⊢
          have hK : K (.rat (if k = 0 then 1 else 0)) _ := hK
          refine ⟨_, rfl, _, rfl, .inr ⟨_, rfl, _, rfl, ?_, ?_⟩⟩
          · split
            · exact lt8 (k := 10) (by decide) (by decide)
            · exact lt8 (k := 10) (by decide) (by decide)
          · by_cases hk0 : k = 0
            · subst hk0
              exact hK
            · rw [if_neg hk0] at hK
              rw [decide_eq_false (show ¬ ((k : Int) = 0) by omega), if_neg Bool.false_ne_true]
              exact hK
        · rw [List.nil_append]
          have hr := firstR n h1 h8
          refine ⟨⟨b', rfl, by omega⟩, n, (List.range n).map fun k => if k = 0 then (1 : Rat) else 0, rfl, hr.1, hr.2, ?_⟩
          unfold rngL
          rw [Int.toNat_natCast, List.map_map, List.map_map]
          refine congrArg Dt.lst (List.map_congr_left fun k _ => ?_)
          show Dt.rat (if (0 + (k : Int)).toNat = 0 then 1 else 0) = Dt.rat (if k = 0 then 1 else 0)
          rw [Int.zero_add, Int.toNat_natCast]
      · obtain ⟨v, hv, hv1⟩ := natS_ex h0
        refine ⟨_, rfl, _, rfl, ?_⟩
        refine lcP_map (g := fun x => .rat (Rat.divInt x.num.num (natS us))) _ _ rfl (by rw [List.length_nil, List.length_map]; omega) rfl (fun x hx K hK => ?_) ?_
        · obtain ⟨u, hu, rfl⟩ := List.mem_map.mp hx
          have hu5 := h5 u hu
          refine ⟨_, rfl, _, rfl, _, _, rfl, h0, lt8 (k := 10) (by omega) (by decide), lt8 (k := 10) ?_ (by decide), hK⟩
          show (natS us).natAbs < _
          omega
        · rw [List.nil_append, List.map_map]
          have h := lotR_units h5 (by omega) hv hv1
          rw [hlen] at h
          refine ⟨⟨b', rfl, by omega⟩, n, _, rfl, h, ⟨natS us, by omega, by omega, fun q hq => ?_⟩, by rw [List.map_map]; rfl⟩
          obtain ⟨u, hu, rfl⟩ := List.mem_map.mp hq
          exact ⟨u, rfl, by have := h5 u hu; omega⟩
theorem ok_Lcurve (T : Tx K mg a) : FnOk P w K mg base CX0 4 a.f_Lcurve a.d_Lcurve P_Lcurve (spBL a.G fdCurveB 20) := by
  refine def_ok0 T.F_Lcurve sc_Lcurve (fun vs H Q E h => ?_) (fun cdv A outer s H vs Q E hr h => ?_)
  · obtain ⟨p, b, us, ds, X, rfl, _, _, _, hv, _, ⟨n, rfl, _⟩, _⟩ := h
    exact congrArg Nat.succ hv.length
  · refine ⟨_, (pss_one (ps_ret (pe_lc (own := [("_law_k", 2)]) (g := (gName 2)) (tt := tYes) rfl sc_Lcurve.nd (pi_range1 (by rfl) T.b_range (pa_cons (pv 1) pa_nil)) (blkOk_by (N := N_Lcurve) (sc := defScope s_Lcurve) (by decide +kernel)) (fun _ _ _ _ _ => pg_name (i := 2) sc_Lcurve.nd rfl (Or.inl rfl)) (fun _ _ _ _ _ => pts_nil) (fun _ _ _ _ _ => (pe_make T.mk_Ratio (ok_Ratio_init T) (hr.mono (by decide)) (by rfl) T.g_Ratio (bd_Ratio_init T) .nil pass0 (pa_cons (pe_op op_sub (pe_call (ok_Ltake T) (hr.mono (by decide)) (by rfl) T.g_Ltake T.F_Ltake.kp (bd_Ltake T) .nil pass0 (pa_cons (pv 0) (pa_cons pe_int pa_nil))) pe_int) (pa_cons (pe_op op_add pe_int (pe_call (ok_Ltake T) (hr.mono (by decide)) (by rfl) T.g_Ltake T.F_Ltake.kp (bd_Ltake T) .nil pass0 (pa_cons (pv 0) (pa_cons pe_int pa_nil)))) pa_nil))))))), ?_⟩
    refine spBL.def (G := a.G) (E := E0) (PUS.retF (PUF.lc (i := 2) (E1 := E0) (E2 := E0) (PUI.rng1 (PUA.cons (PU.var (i := 1)) PUA.nil)) PUT.yes (PU.mkR (PUA.cons (PU.op RD.i0 (PU.take (i := 0) (PUA.cons PU.ci PUA.nil)) PU.ci) (PUA.cons (PU.op RD.i0 PU.ci (PU.take (i := 0) (PUA.cons PU.ci PUA.nil))) PUA.nil))))) (by decide) (fun p b ds hb hp => ?_) h
    obtain ⟨n, rfl, h8⟩ := hp
    have bt : boxTop = 2 ^ 50 := rfl
    refine ⟨_, rfl, _, rfl, ⟨by omega, by omega⟩, ?_⟩
    refine lcP_by (fun c acc ρ => (∃ b', ρ = [.box p b', .val (.int (n : Int)), .un] ∧ b' ≤ b + 2 * c) ∧ ∃ qs : List Rat, acc = qs.map .rat ∧ qs.length = c ∧ ∀ q ∈ qs, LatC q) ⟨⟨b, rfl, by omega⟩, [], rfl, rfl, fun _ h => nomatch h⟩ (fun c d acc ρ K1 hd hI hK => ?_) (fun acc ρ hI => ?_)
    · obtain ⟨⟨b', rfl, hb2⟩, qs, rfl, rfl, h5⟩ := hI
      obtain ⟨rfl, hcn⟩ := rngL_at hd
      refine ⟨by rw [List.length_map]; omega, rfl, ite_t ⟨p, ⟨_, rfl⟩, b', rfl, by omega, 19, rfl, by decide, by decide, fun k hk => ⟨_, 9, rfl, rfl, p, ⟨_, rfl⟩, b' + 1, rfl, by omega, 2, rfl, by decide, by decide, fun k2 hk2 => ?_⟩⟩⟩
      refine ⟨1, (k2 : Int), rfl, rfl, _, _, rfl, by omega, lt8 (k := 10) (by omega) (by decide), lt8 (k := 10) (by omega) (by decide), hK _ _ ⟨⟨b' + 2, rfl, by omega⟩, qs ++ [_], by rw [List.map_append]; rfl, by simp, fun x hx => ?_⟩⟩
      rcases List.mem_append.mp hx with hx | hx
      · exact h5 x hx
      · rw [List.mem_singleton.mp hx]
        exact latC_of (by omega) (by omega)
    · obtain ⟨⟨b', rfl, hb2⟩, qs, rfl, hlen, h5⟩ := hI
      rw [rngL_len, Int.toNat_natCast] at hlen hb2
      exact ⟨⟨b', rfl, by omega⟩, n, qs, rfl, hlen, h5, rfl⟩
theorem ok_Lmean (T : Tx K mg a) : FnOk P w K mg base CX0 5 a.f_Lmean a.d_Lmean P_Lmean (spV a.G fdMeanL) := by
  refine def_ok0 T.F_Lmean sc_Lmean (fun vs H Q E h => ?_) (fun cdv A outer s H vs Q E hr h => ?_)
  · obtain ⟨ds, X, hv, _, ⟨ps, qs, k, m, rfl, _⟩, _⟩ := h
    exact hv.length
  · refine ⟨_, (pss_cons (ps_set (i := 2) sc_Lmean.nd rfl (Or.inl rfl) (pe_make T.mk_Ratio (ok_Ratio_init T) (hr.mono (by decide)) (by rfl) T.g_Ratio (bd1_Ratio_init T).choose_spec.2 (bd1_Ratio_init T).choose_spec.1 pass0 (pa_cons pe_int pa_nil))) (pss_cons (ps_for PassesOwn.never rfl (pi_range1 (by rfl) T.b_range (pa_cons (pe_callB call_lenQ (by rfl) T.b_len (by decide +kernel) (pa_cons (pv 0) pa_nil)) pa_nil)) (pg_name (i := 3) sc_Lmean.nd rfl (Or.inl rfl)) (pss_one (ps_set (i := 2) sc_Lmean.nd rfl (Or.inl rfl) (pe_op (op_own T.o_add (ok_Ratio_add T) (hr.mono (by decide)) (bd_Ratio_add T) pass0) (pv 2) (pe_op (op_own T.o_mul (ok_Ratio_mul T) (hr.mono (by decide)) (bd_Ratio_mul T) pass0) (pe_ix ix_list (pv 0) (pv 3) (fun _ _ => rfl)) (pe_ix ix_list (pv 1) (pv 3) (fun _ _ => rfl))))))) (pss_one (ps_ret (pv 2))))), ?_⟩
    refine spV.def (G := a.G) (E := E0) (PUS.seq (PUS.set (i := 2) (PU.mkR1 (PUA.cons PU.ci PUA.nil))) (PUS.seq (PUS.for (PUI.rng1 (PUA.cons (PU.cbn CD.len (PUA.cons (PU.var (i := 0)) PUA.nil)) PUA.nil)) (PUG.name (i := 3)) (PUS.set (i := 2) (PU.op RD.num2 (PU.var (i := 2)) (PU.op RD.num2 (PU.op RD.ixL (PU.var (i := 0)) (PU.var (i := 3))) (PU.op RD.ixL (PU.var (i := 1)) (PU.var (i := 3))))))) (PUS.ret (PU.var (i := 2))))) (fun ds hp => ?_) h
    obtain ⟨ps, qs, k, m, rfl, hl, hp, hq, hs⟩ := hp
    have hl3 : ps.length ≤ 3000 := len_small (k := k + m) hs
    refine ⟨0, rfl, by decide, _, rfl, _, .inl rfl, _, rfl, by rw [List.length_map]; omega, ?_⟩
    refine forP_rng (n := ps.length) (fun i ρ => ∃ u, ρ = [.val (.lst (ps.map .rat)), .val (.lst (qs.map .rat)), .val (.rat (dotR (ps.take i) (qs.take i))), u]) (by rw [List.length_map]; rfl) ⟨.un, rfl⟩ (fun i ρ K hi hI hK => ?_) (fun ρ hI => ?_)
    · obtain ⟨u, rfl⟩ := hI
      have hi2 : i < qs.length := by omega
      refine ⟨_, rfl, _, rfl, _, rfl, _, (i : Int), _, rfl, rfl, atI_nat (by rw [List.getElem?_map, List.getElem?_eq_getElem hi]; rfl), _, rfl, _, rfl, _, (i : Int), _, rfl, rfl, atI_nat (by rw [List.getElem?_map, List.getElem?_eq_getElem hi2]; rfl), _, rfl, rfl, ?_⟩
      have s1 := hp _ (List.getElem_mem hi)
      have s2 := hq _ (List.getElem_mem hi2)
      have hkm : k + m + 1 ≤ (k + m + 1) * (ps.length + 1) := Nat.le_mul_of_pos_right _ (by omega)
      refine ⟨sz_le' s1 (by omega), sz_le' s2 (by omega), _, rfl, rfl, ?_, sz_le' (s1.mul' s2) (by omega), hK _ ⟨.val (.int (i : Int)), ?_⟩⟩
      · refine sz_le' (sumR_sz (k := k + m) _ fun q hq2 => ?_) ?_
        · obtain ⟨e, he, rfl⟩ := List.mem_map.mp hq2
          exact (hp _ (List.mem_of_mem_take (List.of_mem_zip he).1)).mul' (hq _ (List.mem_of_mem_take (List.of_mem_zip he).2))
        · rw [List.length_map, List.length_zip, List.length_take, List.length_take]
          have : (k + m + 1) * min (min i ps.length) (min i qs.length) ≤ (k + m + 1) * ps.length := Nat.mul_le_mul_left _ (by omega)
          rw [Nat.mul_succ] at hs
          omega
      · rw [dotR_take hl hi]
        rfl
    · obtain ⟨u, rfl⟩ := hI
      refine ⟨_, rfl, ps, qs, rfl, ?_⟩
      rw [List.take_length, hl, List.take_length]
theorem ok_Lgiven (T : Tx K mg a) : FnOk P w K mg base CX0 4 a.f_Lgiven a.d_Lgiven P_Lgiven (spB a.G fdGivenB 25) := by
  refine def_ok0 T.F_Lgiven sc_Lgiven (fun vs H Q E h => ?_) (fun cdv A outer s H vs Q E hr h => ?_)
  · obtain ⟨p, b, us, ds, X, rfl, _, _, _, hv, _, ⟨l, rfl, _⟩, _⟩ := h
    exact congrArg Nat.succ hv.length
  · refine ⟨_, (pss_cons (ps_setLc (i := 2) (own := [("_law_item", 3)]) (g := (gName 3)) (tt := tYes) rfl sc_Lgiven.nd rfl rfl (sw_true rfl rfl rfl (by decide +kernel)) (pi_list (pv 1)) (blkOk_by (N := N_Lgiven) (sc := defScope s_Lgiven) (by decide +kernel)) (fun _ _ _ _ _ => pg_name (i := 3) sc_Lgiven.nd rfl (Or.inl rfl)) (fun _ _ _ _ _ => pts_nil) (fun _ _ _ _ _ => (pe_ifExp (PW.pt (pw_and (pt_cmpR op_eq (pe_fldV (K := K) rfl (pv 3) rfl) pe_int (nomark _)) (pw_and1 (pt_cmpR op_eq (pe_call (ok_Ltake T) (hr.mono (by decide)) (by rfl) T.g_Ltake T.F_Ltake.kp (bd_Ltake T) .nil pass0 (pa_cons (pv 0) (pa_cons pe_int pa_nil))) pe_int (nomark _))))) (pe_fldV (K := K) rfl (pv 3) rfl) (pv 3)))) (pss_one (ps_ret (pe_ifExp (pt_cmpR op_eq (pe_call (ok_Ltake T) (hr.mono (by decide)) (by rfl) T.g_Ltake T.F_Ltake.kp (bd_Ltake T) .nil pass0 (pa_cons (pv 0) (pa_cons pe_int pa_nil))) pe_int (nomark _)) (pe_callTy call_tuple_of (by rfl) T.b_tuple (by decide +kernel) (pa_cons (pv 2) pa_nil)) (pv 2))))), ?_⟩
    refine spB.def (G := a.G) (E := E0) (PUS.seq (PUS.set (i := 2) (PUF.toV (PUF.lc (i := 3) (E1 := E0) (E2 := E0) (PUI.list (PU.var (i := 1))) PUT.yes (PU.ife (PUT.and (PUT.test (PU.op RD.eq (PU.bottom T.R (PU.var (i := 3))) PU.ci)) (PUT.test (PU.op RD.eq (PU.take (i := 0) (PUA.cons PU.ci PUA.nil)) PU.ci))) (PU.top T.R (PU.var (i := 3))) (PU.var (i := 3)))))) (PUS.ret (PU.ife (PUT.test (PU.op RD.eq (PU.take (i := 0) (PUA.cons PU.ci PUA.nil)) PU.ci)) (PU.cbn CD.tuple (PUA.cons (PU.var (i := 2)) PUA.nil)) (PU.var (i := 2))))) (by decide) (fun p b ds hb hp => ?_) h
    obtain ⟨qs, rfl, hl⟩ := hp
    have bt : boxTop = 2 ^ 50 := rfl
    refine ⟨_, rfl, _, rfl, ?_⟩
    refine lcP_by (fun c acc ρ => (∃ b', ρ = [.box p b', .val (.lst (qs.map .rat)), .un, .un] ∧ b' ≤ b + c) ∧ acc.length = c ∧ acc.all Dt.isNum = true ∧ nums acc = nums ((qs.map Dt.rat).take c)) ⟨⟨b, rfl, by omega⟩, rfl, rfl, rfl⟩ (fun c d acc ρ K1 hx hI hK => ?_) (fun acc ρ hI => ?_)
    · obtain ⟨⟨b', rfl, hb2⟩, rfl, hn, hv⟩ := hI
      obtain ⟨q, hq, rfl⟩ := List.mem_map.mp (List.mem_of_getElem? hx)
      have hcl : acc.length < qs.length := by
        have := (List.getElem?_eq_some_iff.mp hx).1
        rwa [List.length_map] at this
      have put : ∀ (y : Dt) (b2 : Nat), b2 ≤ b' + 1 → y.isNum = true → y.num = q → K1 0 (acc ++ [y]) [.box p b2, .val (.lst (qs.map .rat)), .un, .un] := fun y b2 hb3 h1 h2 => hK _ _ ⟨⟨b2, rfl, by omega⟩, by simp, by rw [List.all_append, hn]; simp [h1], by rw [nums_snoc, hv, h2, nums_take _ hx]; rfl⟩
      refine ⟨by omega, rfl, ite_t ⟨_, rfl, q, rfl, _, rfl, _, rfl, ite_d (fun hd => ?_) (fun _ => ?_)⟩⟩
      · refine ⟨p, ⟨_, rfl⟩, b', rfl, by omega, 2, rfl, by decide, by decide, fun k hk => ⟨_, rfl, _, rfl, ite_d (fun _ => ?_) (fun _ => ?_)⟩⟩
        · exact ⟨_, rfl, q, rfl, put _ _ (by omega) rfl (whole_num hd)⟩
        · exact ⟨_, rfl, put _ _ (by omega) rfl rfl⟩
      · exact ⟨_, rfl, put _ _ (by omega) rfl rfl⟩
    · obtain ⟨⟨b', rfl, hb2⟩, hg, hn, hv⟩ := hI
      rw [List.length_map] at hb2
      rw [List.take_length, nums_rats] at hv
      refine ⟨p, ⟨_, rfl⟩, b', rfl, by omega, 2, rfl, by decide, by decide, fun k hk => ⟨_, rfl, _, rfl, ite_d (fun _ => ?_) (fun _ => ?_)⟩⟩
      · exact ⟨_, rfl, acc, .inl rfl, ⟨b' + 1, rfl, by omega⟩, qs, acc, rfl, .inr rfl, hn, hv⟩
      · exact ⟨_, rfl, ⟨b' + 1, rfl, by omega⟩, qs, acc, rfl, .inl rfl, hn, hv⟩
end
end Kx


set_option maxHeartbeats 4000000
namespace Kx
open PySem PySem.Spec PyProof.Rows L2 Fm
section
variable {P : Program} {w : World} {K : PySem.W.Frag} {mg : Str → Option Value} {base : Heap} {a : Ad}
theorem ok_as_ratioX (T : Tx K mg a) : FnOk P w K mg base (L2N.CX P w) 4 a.f_as_ratio a.d_as_ratio P_as_ratio (spX a.G (fxAsr a.C_BadNumber)) := by
  refine T.F_as_ratio.ok sc_as_ratio (fun vs H Q E h => ?_) (fun cdv A outer s H vs Q E hr h => ?_)
  · obtain ⟨ds, X, hv, _, ⟨d, rfl, _⟩, _⟩ := h
    exact hv.length
  · refine ⟨_, (pss_cons (ps_if (pt_val (pe_callB call_isi (by rfl) T.b_isinstance (by decide +kernel) (pa_cons (pv 0) (pa_cons (pe_glob (v := .ref a.C_Ratio) rfl T.g_Ratio rfl) pa_nil)))) (pss_one (ps_ret (pv 0))) pss_nil) (pss_cons (ps_if (pt_val (pe_call (ok_is_whole T) (hr.mono (by decide)) (by rfl) T.g_is_whole T.F_is_whole.kp (bd_is_whole T) .nil pass0 (pa_cons (pv 0) pa_nil))) (pss_one (ps_ret (pe_make T.mk_Ratio (ok_Ratio_init T) (hr.mono (by decide)) (by rfl) T.g_Ratio (bd1_Ratio_init T).choose_spec.2 (bd1_Ratio_init T).choose_spec.1 pass0 (pa_cons (pv 0) pa_nil)))) pss_nil) (pss_one (L2N.ps_raise rfl (L2N.takes_of rfl rfl rfl rfl) (pmk_oexN T.oc_BadNumber T.fi_BadNumber T.ti_BadNumber (ok_BadNumber_init T) (hr.mono (by decide)) (bd_BadNumber_init T) .nil pass0 (by rfl) T.g_BadNumber (pa_cons (pv 0) pa_nil)))))), ?_⟩
    refine spX.def (G := a.G) (E := E) (PUS.seq (PUS.ifS (PUT.b (PU.isRat T.R (PU.var (i := 0)))) (PUS.ret (PU.var (i := 0))) PUS.next) (PUS.seq (PUS.ifS (PUT.b (PU.iswh T.R (PUA.cons (PU.var (i := 0)) PUA.nil))) (PUS.ret (PU.mkR1 (PUA.cons (PU.var (i := 0)) PUA.nil))) PUS.next) (PUS.raise (PU.var (i := 0))))) (fun ds hp => ?_) h
    obtain ⟨d, rfl, hk, hz⟩ := hp
    refine ⟨_, rfl, _, onKind_of hk, _, rfl, ?_⟩
    cases d with
    | rat q => exact ite_t ⟨_, rfl, _, rfl, rfl, rfl⟩
    | int i => exact ite_f ⟨_, rfl, _, rfl, hk, _, rfl, ite_t ⟨_, rfl, i, rfl, lt8 hz.1 (by decide), _, rfl, rfl, rfl⟩⟩
    | scl qs => cases hk
    | _ => exact ite_f ⟨_, rfl, _, rfl, hk, _, rfl, ite_f ⟨_, rfl, _, rfl, rfl, rfl⟩⟩
theorem ok_cover (T : Tx K mg a) : FnOk P w K mg base (L2N.CX P w) 6 a.f_cover a.d_cover P_cover (spXL a.G (fxEach a.C_BadNumber coverR)) := by
  refine T.F_cover.ok sc_cover (fun vs H Q E h => ?_) (fun cdv A outer s H vs Q E hr h => ?_)
  · obtain ⟨ds, X, hv, _, ⟨qs, d, rfl, _⟩, _⟩ := h
    exact hv.length
  · refine ⟨_, (pss_cons (ps_set (i := 2) sc_cover.nd rfl (Or.inr rfl) (pe_callS (ok_as_ratioX T) (hr.mono (by decide)) (by rfl) T.g_as_ratio T.F_as_ratio.kp (bd_as_ratio T) (fun σ => L2N.passAt (L2N.takes_of rfl rfl rfl rfl) σ) (pa_cons (pv 1) pa_nil))) (pss_one (ps_ret (pe_lc (own := [("mark", 3)]) (g := (gName 3)) (tt := tYes) rfl sc_cover.nd (pi_list (pe_meth0 (pv 0) T.RS.cl T.m_Scale_marks (ok_Scale_marks T) (hr.mono (by decide)) (bd_Scale_marks T) .nil pass0)) (blkOk_by (N := N_cover) (sc := defScope s_cover) (by decide +kernel)) (fun _ _ _ _ _ => pg_name (i := 3) sc_cover.nd rfl (Or.inl rfl)) (fun _ _ _ _ _ => pts_nil) (fun _ _ _ _ _ => (pe_ifExp (pt_cmpR (op_cmpV (K := K) rfl (fun _ _ => rfl) T.p_lt (ok_Ratio_lt T) (hr.mono (by decide)) (bd_Ratio_lt T) pass0) (pv 2) (pv 3) (nomark _)) (pe_op (op_own T.o_sub (ok_Ratio_sub T) (hr.mono (by decide)) (bd_Ratio_sub T) pass0) (pv 3) (pv 2)) (pe_make T.mk_Ratio (ok_Ratio_init T) (hr.mono (by decide)) (by rfl) T.g_Ratio (bd1_Ratio_init T).choose_spec.2 (bd1_Ratio_init T).choose_spec.1 pass0 (pa_cons pe_int pa_nil)))))))), ?_⟩
    refine spXL.def (G := a.G) (E := E) (PUS.seq (PUS.set (i := 2) (PU.callX (PUA.cons (PU.var (i := 1)) PUA.nil))) (PUS.retF (PUF.lc (i := 3) (E1 := E0) (E2 := E0) (PUI.list (PUF.toV (PUF.marks (PU.var (i := 0))))) PUT.yes (PU.ife (PUT.test (PU.op (RD.rel2 T.R) (PU.var (i := 2)) (PU.var (i := 3)))) (PU.op RD.num2 (PU.var (i := 3)) (PU.var (i := 2))) (PU.mkR1 (PUA.cons PU.ci PUA.nil)))))) (fun ds hp => ?_) h
    obtain ⟨qs, d, rfl, h8, hz, hk, hn⟩ := hp
    refine ⟨_, rfl, ⟨d, rfl, hk, sz_le' hn (by decide)⟩, fun _ h1 => ?_, fun er h1 => ?_⟩
    · obtain ⟨_, e1, hb, rfl⟩ := h1
      cases e1
      refine ⟨_, rfl, qs, rfl, _, rfl, ?_⟩
      refine lcP_map (g := fun x => .rat (coverR d.num x.num)) _ _ rfl (by simp; omega) rfl (fun x hx K hK => ?_) ?_
      · obtain ⟨q, hq, rfl⟩ := List.mem_map.mp hx
        have s1 := sz_le' (hz q hq) (by decide : 1000 ≤ 3000)
        have s2 := sz_le' hn (by decide : 1000 ≤ 3000)
        refine ⟨_, rfl, _, rfl, _, rfl, rfl, s2, s1, _, rfl, ite_d (fun (h : d.num < q) => ?_) (fun (h : ¬ d.num < q) => ?_)⟩
        · have hK : K (.rat (coverR d.num q)) _ := hK
          unfold coverR at hK
          rw [if_pos h] at hK
          exact ⟨_, rfl, _, rfl, _, rfl, rfl, s1, s2, hK⟩
        · have hK : K (.rat (coverR d.num q)) _ := hK
          unfold coverR at hK
          rw [if_neg h] at hK
          exact ⟨0, rfl, lt8 (k := 1) (by decide) (by decide), hK⟩
      · rw [List.nil_append, List.map_map]
        exact ⟨qs, d, rfl, hb, rfl⟩
    · obtain ⟨_, e1, hb, rfl⟩ := h1
      cases e1
      exact ⟨qs, d, rfl, hb, rfl⟩
end
end Kx


set_option maxHeartbeats 4000000
namespace Kx
open PySem PySem.Spec PyProof.Rows L2 Fm
local macro_rules | `(tactic| walk_at "gv") => `(tactic| ((with_reducible refine' g_var ?gh ?_); (case gh => exact rfl)))
local macro_rules | `(tactic| walk_at "g1") => `(tactic| first
  | walk_at "gv"
  | with_reducible refine g_c ?_ | with_reducible refine g_op ?_ | with_reducible refine g_un ?_ | with_reducible refine g_I0 ?_ | with_reducible refine g_U ?_
  | with_reducible refine g_eqI ?_ | with_reducible refine g_neI ?_ | with_reducible refine g_eqS ?_ | with_reducible refine g_neS ?_
  | with_reducible refine g_test ?_ | with_reducible refine g_B ?_ | with_reducible refine g_bl ?_ | with_reducible refine g_not ?_ | with_reducible refine g_and ?_ | with_reducible refine g_or ?_
  | with_reducible refine g_andV ?_ | with_reducible refine g_orV ?_ | with_reducible refine g_notV ?_ | with_reducible refine g_chain ?_ | with_reducible refine g_if ?_ | with_reducible refine g_ifS ?_
  | with_reducible refine g_seq ?_ | with_reducible refine g_next ?_ | with_reducible refine g_break ?_ | with_reducible refine g_cont ?_ | with_reducible refine g_drop ?_ | with_reducible refine g_ret ?_ | with_reducible refine g_retN ?_
  | with_reducible refine g_asg ?_ | with_reducible refine g_name ?_ | with_reducible refine g_par ?_ | with_reducible refine g_par2 ?_ | with_reducible refine g_fld ?_ | with_reducible refine g_sfld ?_
  | with_reducible refine g_nil ?_ | with_reducible refine g_cons ?_ | with_reducible refine g_tup ?_ | with_reducible refine g_lst ?_ | with_reducible refine g_call ?_ | with_reducible refine g_meth ?_ | with_reducible refine g_make1 ?_ | with_reducible refine g_make ?_ | with_reducible refine g_cb ?_ | with_reducible refine g_sub ?_ | with_reducible refine g_absI ?_ | with_reducible refine g_intI ?_
  | with_reducible refine iteT ?_ | with_reducible refine iteF ?_ | with_reducible refine g_gcd ?_)
local macro_rules | `(tactic| walk_at "g") => `(tactic| (repeat (first | walk_at "g1" | dsimp only [cx_K, cx_Kn, b_nt, b_nf])))
local macro_rules | `(tactic| walk_at "mul") => `(tactic| exact mulA (a := 200) (b := 200) (by omega) (by omega) (by decide))
local macro_rules | `(tactic| walk_at "pow") => `(tactic| exact ⟨by omega, by omega, by omega⟩)

section
variable {P : Program} {w : World} {K : PySem.W.Frag} {mg : Str → Option Value} {base : Heap} {a : Ad}
theorem ok_Ratio_over (T : Tx K mg a) : FnOk P w K mg base CX0 4 a.f_Ratio_over a.d_Ratio_over P_Ratio_over (spOver a.C_Ratio) := by
  refine T.F_Ratio_over.ok sc_Ratio_over (fun vs H Q E h => ?_) (fun cdv A outer s H vs Q E hr h => ?_)
  · obtain ⟨x, y, p, q, k, rfl, _⟩ := h
    rfl
  · obtain ⟨x, y, p, q, k, rfl, hx, hy, h0, sa, sb, hk, z⟩ := h
    refine ⟨_, (pss_cons (ps_set (i := 2) sc_Ratio_over.nd rfl (Or.inl rfl) (pe_call (ok_as_ratio T) (hr.mono (by decide)) (by rfl) T.g_as_ratio T.F_as_ratio.kp (bd_as_ratio T) .nil pass0 (pa_cons (pv 1) pa_nil))) (pss_one (ps_ret (pe_make T.mk_Ratio (ok_Ratio_init T) (hr.mono (by decide)) (by rfl) T.g_Ratio (bd_Ratio_init T) .nil pass0 (pa_cons (pe_op op_mulW (pe_fld (pv 0) rfl) (pe_fld (pv 2) rfl)) (pa_cons (pe_op op_mulW (pe_fld (pv 0) rfl) (pe_fld (pv 2) rfl)) pa_nil)))))), ?_⟩
    walk_at "g"
    refine use_asr hy sb hk fun u H1 e1 hn => ?_
    have hx' := hx.mono e1
    have h1 : q.num ≠ 0 := fun z => h0 (Rat.num_eq_zero.mp z)
    walk_at "g"
    refine g_top T.R.cl T.R.nT hx' ?_
    walk_at "g"
    refine g_bottom T.R.cl T.R.nB hn ?_
    refine g_I (mulA sa.n sb.d (by omega)) ?_
    walk_at "g"
    refine g_bottom T.R.cl T.R.nB hx' ?_
    walk_at "g"
    refine g_top T.R.cl T.R.nT hn ?_
    refine g_I (mulA sa.d sb.n (by omega)) ?_
    walk_at "g"
    refine use_init (k := k + k) rfl (Int.mul_ne_zero (den_ne p) h1) (abs_mul_lt sa.n sb.d) (abs_mul_lt sa.d sb.n) (by omega) fun v H2 e2 hv => ?_
    rw [over_divInt] at hv
    exact z v H2 (e1.trans e2) hv
end
end Kx


set_option maxHeartbeats 4000000
namespace Kx
open PySem PySem.Spec PyProof.Rows L2 Fm
section
variable {P : Program} {w : World} {K : PySem.W.Frag} {mg : Str → Option Value} {base : Heap} {a : Ad}
theorem ok_steeper (T : Tx K mg a) : FnOk P w K mg base CX0 5 a.f_steeper a.d_steeper P_steeper (spL a.G fdSteeper) := by
  refine def_ok0 T.F_steeper sc_steeper (fun vs H Q E h => ?_) (fun cdv A outer s H vs Q E hr h => ?_)
  · obtain ⟨ds, X, hv, _, ⟨ms, ss, wd, rfl, _⟩, _⟩ := h
    exact hv.length
  · refine ⟨_, (pss_one (ps_ret (pe_lc (own := [("at", 3)]) (g := (gName 3)) (tt := tYes) rfl sc_steeper.nd (pi_range1 (by rfl) T.b_range (pa_cons (pe_op op_sub (pe_callB call_lenQ (by rfl) T.b_len (by decide +kernel) (pa_cons (pv 1) pa_nil)) pe_int) pa_nil)) (blkOk_by (N := N_steeper) (sc := defScope s_steeper) (by decide +kernel)) (fun _ _ _ _ _ => pg_name (i := 3) sc_steeper.nd rfl (Or.inl rfl)) (fun _ _ _ _ _ => pts_nil) (fun _ _ _ _ _ => (pe_meth (pe_op (op_own T.o_sub (ok_Ratio_sub T) (hr.mono (by decide)) (bd_Ratio_sub T) pass0) (pe_ix (ix_listV (K := K) rfl) (pv 1) (pe_op op_add (pv 3) pe_int) (fun _ _ => rfl)) (pe_ix (ix_listV (K := K) rfl) (pv 1) (pv 3) (fun _ _ => rfl))) T.R.cl T.m_Ratio_over (ok_Ratio_over T) (hr.mono (by decide)) (bd_Ratio_over T) .nil pass0 (pa_cons (pe_op (op_own T.o_sub (ok_Ratio_sub T) (hr.mono (by decide)) (bd_Ratio_sub T) pass0) (pe_ix (ix_listV (K := K) rfl) (pv 0) (pe_op op_add (pv 3) (pv 2)) (fun _ _ => rfl)) (pe_ix (ix_listV (K := K) rfl) (pv 0) (pv 3) (fun _ _ => rfl))) pa_nil)))))), ?_⟩
    refine spL.def (G := a.G) (E := E0) (PUS.retF (PUF.lc (i := 3) (E1 := E0) (E2 := E0) (PUI.rng1 (PUA.cons (PU.op RD.i0 (PU.cbn CD.len (PUA.cons (PU.var (i := 1)) PUA.nil)) PU.ci) PUA.nil)) PUT.yes (PU.over (PU.op RD.num2 (PU.op RD.ixL (PU.var (i := 1)) (PU.op RD.i0 (PU.var (i := 3)) PU.ci)) (PU.op RD.ixL (PU.var (i := 1)) (PU.var (i := 3)))) (PUA.cons (PU.op RD.num2 (PU.op RD.ixL (PU.var (i := 0)) (PU.op RD.i0 (PU.var (i := 3)) (PU.var (i := 2)))) (PU.op RD.ixL (PU.var (i := 0)) (PU.var (i := 3)))) PUA.nil)))) (fun ds hp => ?_) h
    obtain ⟨ms, ss, wd, rfl, h8, hk, hm, hs⟩ := hp
    refine ⟨_, rfl, _, .inl rfl, _, 1, rfl, rfl, _, rfl, ⟨by omega, by rw [List.length_map]; omega⟩, ?_⟩
    refine lcP_map (g := fun x => .rat ((fnL ss (x.nat + 1) - fnL ss x.nat) / (fnL ms (x.nat + wd) - fnL ms x.nat))) _ _ rfl (by rw [rngL_len, List.length_map, List.length_nil]; omega) rfl (fun x hx K hK => ?_) ?_
    · obtain ⟨k, rfl, hkl⟩ := rng0_nat hx
      rw [List.length_map] at hkl
      have hkl : k + 1 < ss.length := by omega
      obtain ⟨h1, h2⟩ := hk k hkl
      have hK : K (.rat ((fnL ss (k + 1) - fnL ss k) / (fnL ms (k + wd) - fnL ms k))) _ := hK
      have s1 := hs _ (fnL_mem hkl)
      have s0 := hs _ (fnL_mem (show k < ss.length by omega))
      have m1 := hm _ (fnL_mem h1)
      have m0 := hm _ (fnL_mem (show k < ms.length by omega))
      refine ⟨_, rfl, _, rfl, _, _, rfl, rfl, _, _, _, rfl, rfl, at_fn (k := k + 1) (by omega) hkl, _, rfl, _, rfl, _, _, _, rfl, rfl, at_fn (k := k) rfl (by omega), _, rfl, rfl, sz_le' s1 (by decide), sz_le' s0 (by decide), _, rfl, ?_⟩
      refine ⟨_, rfl, _, rfl, _, rfl, _, _, rfl, rfl, _, _, _, rfl, rfl, at_fn (k := k + wd) (by omega) h1, _, rfl, _, rfl, _, _, _, rfl, rfl, at_fn (k := k) rfl (by omega), _, rfl, rfl, sz_le' m1 (by decide), sz_le' m0 (by decide), _, rfl, rfl, ?_, sz_le' (s1.sub' s0) (by decide), sz_le' (m1.sub' m0) (by decide), hK⟩
      show fnL ms (k + wd) - fnL ms k ≠ 0
      grind
    · rw [List.nil_append]
      refine ⟨ms, ss, wd, rfl, ?_⟩
      rw [rng_map, List.length_map, show (((ss.length : Nat) : Int) - 1).toNat = ss.length - 1 by omega]
      unfold steepR
      rw [List.map_map]
      refine congrArg Dt.lst (List.map_congr_left fun k _ => ?_)
      rw [nat_int]
      rfl
theorem ok_slopes_of (T : Tx K mg a) : FnOk P w K mg base CX0 6 a.f_slopes_of a.d_slopes_of P_slopes_of (spL a.G fdSlopes) := by
  refine def_ok0 T.F_slopes_of sc_slopes_of (fun vs H Q E h => ?_) (fun cdv A outer s H vs Q E hr h => ?_)
  · obtain ⟨ds, X, hv, _, ⟨ms, d, n, rfl, _⟩, _⟩ := h
    exact hv.length
  · refine ⟨_, (pss_cons (ps_setLc (i := 3) (own := [("number", 4)]) (g := (gName 4)) (tt := tYes) rfl sc_slopes_of.nd rfl rfl (sw_true rfl rfl rfl (by decide +kernel)) (pi_seq (pv 1)) (blkOk_by (N := N_slopes_of) (sc := defScope s_slopes_of) (by decide +kernel)) (fun _ _ _ _ _ => pg_name (i := 4) sc_slopes_of.nd rfl (Or.inl rfl)) (fun _ _ _ _ _ => pts_nil) (fun _ _ _ _ _ => (pe_call (ok_as_ratio T) (hr.mono (by decide)) (by rfl) T.g_as_ratio T.F_as_ratio.kp (bd_as_ratio T) .nil pass0 (pa_cons (pv 4) pa_nil)))) (pss_cons (ps_if (pt_cmpR op_ge (pv 2) (pe_callB call_lenQ (by rfl) T.b_len (by decide +kernel) (pa_cons (pv 3) pa_nil)) (nomark _)) (pss_one (ps_ret (pe_lst pa_nil))) pss_nil) (pss_cons (ps_for PassesOwn.never rfl (pi_range2 (by rfl) T.b_range (pa_cons pe_int (pa_cons (pe_op op_add (pv 2) pe_int) pa_nil))) (pg_name (i := 5) sc_slopes_of.nd rfl (Or.inl rfl)) (pss_one (ps_set (i := 3) sc_slopes_of.nd rfl (Or.inl rfl) (pe_call (ok_steeper T) (hr.mono (by decide)) (by rfl) T.g_steeper T.F_steeper.kp (bd_steeper T) .nil pass0 (pa_cons (pv 0) (pa_cons (pv 3) (pa_cons (pv 5) pa_nil))))))) (pss_one (ps_ret (pv 3)))))), ?_⟩
    refine spL.def (G := a.G) (E := E0) (PUS.seq (PUS.setF (i := 3) (PUF.lc (i := 4) (E1 := E0) (E2 := E0) (PUI.seqV (i := 1)) PUT.yes (PU.asr (PUA.cons (PU.var (i := 4)) PUA.nil)))) (PUS.seq (PUS.ifS (PUT.test (PU.op RD.b0 (PU.var (i := 2)) (PU.lenO (i := 3)))) (PUS.retF (PUF.lst PUA.nil)) PUS.next) (PUS.seq (PUS.for (PUI.rng2 (PUA.cons PU.ci (PUA.cons (PU.op RD.i0 (PU.var (i := 2)) PU.ci) PUA.nil))) (PUG.name (i := 5)) (PUS.setF (i := 3) (PUF.call (PUA.cons (PU.var (i := 0)) (PUA.cons (PU.melt (i := 3)) (PUA.cons (PU.var (i := 5)) PUA.nil)))))) (PUS.retF (PUF.mv (i := 3)))))) (fun ds hp => ?_) h
    obtain ⟨ms, d, n, rfl, hs, hn, h8, hz, hm⟩ := hp
    refine ⟨d.items, seq_slot hs, ?_⟩
    refine lcP_map (g := fun x => .rat x.num) _ _ rfl (by rw [List.length_nil]; omega) rfl (fun x hx K hK => ?_) ?_
    · exact ⟨_, rfl, x, rfl, allNum_mem hn hx, sz_le' (hz _ (List.mem_map.mpr ⟨x, hx, rfl⟩)) (by decide), hK⟩
    · rw [List.nil_append, show d.items.map (fun x => Dt.rat x.num) = (nums d.items).map .rat from by unfold nums; rw [List.map_map]; rfl]
      have hln := nums_len d.items
      refine ⟨_, rfl, _, rfl, _, _, rfl, rfl, _, rfl, ite_d (fun hle => ?_) (fun hle => ?_)⟩
      · rw [List.length_map] at hle
        refine ⟨by decide, ms, d, n, rfl, ?_⟩
        unfold slopesR
        rw [if_pos (by omega)]
        rfl
      · rw [List.length_map] at hle
        have hlt : n < d.items.length := by omega
        obtain ⟨hl, hpw, hzm, hdd⟩ := hm hlt
        refine ⟨_, rfl, _, _, rfl, rfl, 1, _, rfl, ⟨by decide, by decide, by omega, by omega⟩, ?_⟩
        refine forP_inv (fun c ρ => ∃ u, ρ = [.val (.lst (ms.map .rat)), .val d, .val (.int (n : Int)), .own ((ddL ms (nums d.items) c).map .rat), .un, u]) ⟨.un, by rw [ddL_zero]; rfl⟩ (fun c x ρ Kc hx hI hK => ?_) (fun ρ hI => ?_)
        · obtain ⟨u, rfl⟩ := hI
          obtain ⟨rfl, hc⟩ := rngL_at hx
          have hc : c < n := by omega
          refine ⟨_, rfl, _, rfl, _, rfl, ⟨ms, ddL ms (nums d.items) c, c + 1, by rw [show (1 : Int) + (c : Int) = ((c + 1 : Nat) : Int) by omega], by rw [ddL_len]; omega, fun k hk => ?_, hzm, hdd.mem⟩, fun l h => ?_⟩
          · rw [ddL_len] at hk
            exact ⟨by omega, climb_ne hpw (by omega) (by omega)⟩
          · have h := steeper_post (w := c + 1) (by rw [show ((c + 1 : Nat) : Int) = (1 : Int) + (c : Int) by omega]; exact h)
            rw [steep_dd] at h
            injection h with h
            subst h
            exact hK _ ⟨.val (.int (1 + (c : Int))), rfl⟩
        · obtain ⟨u, rfl⟩ := hI
          rw [rngL_len, show ((n : Int) + 1 - 1).toNat = n by omega]
          refine ⟨_, rfl, ms, d, n, rfl, ?_⟩
          unfold slopesR
          rw [if_neg (by omega)]
end
end Kx


set_option maxHeartbeats 4000000
namespace Kx
open PySem PySem.Spec PyProof.Rows L2 Fm
def fdCover : FD where
  pre := fun ds => ∃ (qs : List Rat) (q : Rat), ds = [.scl qs, .rat q] ∧ qs.length ≤ 8 ∧ (∀ q ∈ qs, Sz 1000 q) ∧ Sz 1000 q
  post := fun ds r => ∃ (qs : List Rat) (q : Rat), ds = [.scl qs, .rat q] ∧ r = .lst ((qs.map (coverR q)).map .rat)
section
variable {P : Program} {w : World} {K : PySem.W.Frag} {mg : Str → Option Value} {base : Heap} {a : Ad}
theorem enumR_at {l : List Rat} {c : Nat} {x : Dt} (h : ((l.map Dt.rat).zipIdx.map fun e => Dt.tup [.int (e.2 : Int), e.1])[c]? = some x) : c < l.length ∧ x = .tup [.int (c : Int), .rat (fnL l c)] := by
  rw [List.getElem?_map, List.getElem?_zipIdx, List.getElem?_map] at h
  by_cases hc : c < l.length
  · rw [List.getElem?_eq_getElem hc] at h
    refine ⟨hc, ?_⟩
    rw [fnL_at hc]
    simp at h
    exact h.symm
  · rw [List.getElem?_eq_none (by omega)] at h
    cases h
theorem atLast {l : List Dt} {n : Nat} (h : n - 1 < l.length) (hl : l.length = n) : atI l (-1) = some (l[n - 1]'h) := by
  subst hl
  have hne : l ≠ [] := by intro h2; rw [h2] at h; exact absurd h (by decide)
  have e : l = l.dropLast ++ [l[l.length - 1]'h] := by
    rw [← List.getLast_eq_getElem hne]
    exact (List.dropLast_concat_getLast hne).symm
  have h2 : atI (l.dropLast ++ [l[l.length - 1]'h]) (-1) = some (l[l.length - 1]'h) := L2.atI_last _ _
  rwa [← e] at h2
theorem ok_coverL (T : Tx K mg a) : FnOk P w K mg base (L2N.CX P w) 6 a.f_cover a.d_cover P_cover (spL a.G fdCover) := (ok_cover T).imp fun vs H Q E h => spXL_of (fun ds hp => by
  obtain ⟨qs, q, rfl, h8, hz, hq⟩ := hp
  refine ⟨⟨qs, _, rfl, h8, hz, rfl, hq⟩, fun d hd => ?_, fun e he => ?_⟩
  · obtain ⟨qs', d', e, _, rfl⟩ := hd
    cases e
    exact ⟨_, _, rfl, by rw [List.map_map]; rfl⟩
  · obtain ⟨qs', d', e, hn, _⟩ := he
    cases e
    cases hn) h
theorem ok_opposites (T : Tx K mg a) : FnOk P w K mg base CX0 4 a.f_opposites a.d_opposites P_opposites (spL a.G fdOpp) := by
  refine def_ok0 T.F_opposites sc_opposites (fun vs H Q E h => ?_) (fun cdv A outer s H vs Q E hr h => ?_)
  · obtain ⟨ds, X, hv, _, ⟨d, rfl, _⟩, _⟩ := h
    exact hv.length
  · refine ⟨_, (pss_one (ps_ret (pe_lc (own := [("number", 1)]) (g := (gName 1)) (tt := tYes) rfl sc_opposites.nd (pi_seq (pv 0)) (blkOk_by (N := N_opposites) (sc := defScope s_opposites) (by decide +kernel)) (fun _ _ _ _ _ => pg_name (i := 1) sc_opposites.nd rfl (Or.inl rfl)) (fun _ _ _ _ _ => pts_nil) (fun _ _ _ _ _ => (pe_un (un_own T.m_Ratio_neg.at_ T.m_Ratio_neg.fn (ok_Ratio_neg T) (hr.mono (by decide)) (bd_Ratio_neg T) pass0) (pe_call (ok_as_ratio T) (hr.mono (by decide)) (by rfl) T.g_as_ratio T.F_as_ratio.kp (bd_as_ratio T) .nil pass0 (pa_cons (pv 1) pa_nil))))))), ?_⟩
    refine spL.def (G := a.G) (E := E0) (PUS.retF (PUF.lc (i := 1) (E1 := E0) (E2 := E0) (PUI.seqV (i := 0)) PUT.yes (PU.un UD.negR (PU.asr (PUA.cons (PU.var (i := 1)) PUA.nil))))) (fun ds hp => ?_) h
    obtain ⟨d, rfl, hs, hn, hl, hz⟩ := hp
    refine ⟨d.items, seq_slot hs, ?_⟩
    refine lcP_map (g := fun x => .rat (-x.num)) _ _ rfl (by rw [List.length_nil]; omega) rfl (fun x hx K hK => ?_) ?_
    · exact ⟨_, rfl, x, rfl, allNum_mem hn hx, hz x hx, _, rfl, hz x hx, hK⟩
    · exact ⟨d, rfl, by rw [List.nil_append]; unfold nums; rw [List.map_map, List.map_map]; rfl⟩
theorem ok_check_prices (T : Tx K mg a) : FnOk P w K mg base (L2N.CX P w) 6 a.f_check_prices a.d_check_prices P_check_prices (spX a.G (fxCheckCurve a.C_BadNumbers)) := by
  refine T.F_check_prices.ok sc_check_prices (fun vs H Q E h => ?_) (fun cdv A outer s H vs Q E hr h => ?_)
  · obtain ⟨ds, X, hv, _, ⟨qs, d, rfl, _⟩, _⟩ := h
    exact hv.length
  · refine ⟨_, (pss_one (ps_if (pt_not (pt_val (pe_call (ok_is_curve T) (hr.mono (by decide)) (by rfl) T.g_is_curve T.F_is_curve.kp (bd_is_curve T) .nil pass0 (pa_cons (pv 0) (pa_cons (pv 1) pa_nil))))) (pss_one (L2N.ps_raise rfl (L2N.takes_of rfl rfl rfl rfl) (pmk_oexN T.oc_BadNumbers T.fi_BadNumbers T.ti_BadNumbers (ok_BadNumbers_init T) (hr.mono (by decide)) (bd_BadNumbers_init T) .nil pass0 (by rfl) T.g_BadNumbers (pa_cons (pv 1) pa_nil)))) pss_nil)), ?_⟩
    refine spX.def (G := a.G) (E := E) (PUS.ifS (PUT.not (PUT.b (PU.call (PUA.cons (PU.var (i := 0)) (PUA.cons (PU.var (i := 1)) PUA.nil))))) (PUS.raise (PU.var (i := 1))) PUS.next) (fun ds hp => ?_) h
    obtain ⟨qs, d, rfl, hq, ok⟩ := hp
    refine ⟨_, rfl, _, rfl, ⟨qs, d, rfl, hq, ok⟩, ?_⟩
    rintro _ ⟨qs', d', e, rfl⟩
    cases e
    refine ⟨_, rfl, ?_⟩
    cases hb : curveB d qs.length with
    | true => exact ite_f ⟨qs, d, rfl, hb⟩
    | false => exact ite_t ⟨_, rfl, qs, d, rfl, hb, rfl⟩
theorem ok_covers (T : Tx K mg a) : FnOk P w K mg base (L2N.CX P w) 9 a.f_covers a.d_covers P_covers (spXL a.G (fxCovers a.C_BadLot)) := by
  refine T.F_covers.ok sc_covers (fun vs H Q E h => ?_) (fun cdv A outer s H vs Q E hr h => ?_)
  · obtain ⟨ds, X, hv, _, ⟨qs, d, rfl, _⟩, _⟩ := h
    exact hv.length
  · refine ⟨_, (pss_cons (ps_expr (pe_callS (ok_check_lot T) (hr.mono (by decide)) (by rfl) T.g_check_lot T.F_check_lot.kp (bd_check_lot T) (fun σ => L2N.passAt (L2N.takes_of rfl rfl rfl rfl) σ) (pa_cons (pv 0) (pa_cons (pv 1) pa_nil)))) (pss_one (ps_ret (pe_lc (own := [("mark", 2)]) (g := (gName 2)) (tt := tYes) rfl sc_covers.nd (pi_list (pe_meth0 (pv 0) T.RS.cl T.m_Scale_marks (ok_Scale_marks T) (hr.mono (by decide)) (bd_Scale_marks T) .nil pass0)) (blkOk_by (N := N_covers) (sc := defScope s_covers) (by decide +kernel)) (fun _ _ _ _ _ => pg_name (i := 2) sc_covers.nd rfl (Or.inl rfl)) (fun _ _ _ _ _ => pts_nil) (fun _ _ _ _ _ => (pe_call (ok_weighed T) (hr.mono (by decide)) (by rfl) T.g_weighed T.F_weighed.kp (bd_weighed T) .nil pass0 (pa_cons (pv 1) (pa_cons (pe_call (ok_coverL T) (hr.mono (by decide)) (by rfl) T.g_cover T.F_cover.kp (bd_cover T) .nil passN (pa_cons (pv 0) (pa_cons (pv 2) pa_nil))) pa_nil)))))))), ?_⟩
    refine spXL.def (G := a.G) (E := E) (PUS.seq (PUS.drop (PU.callX (PUA.cons (PU.var (i := 0)) (PUA.cons (PU.var (i := 1)) PUA.nil)))) (PUS.retF (PUF.lc (i := 2) (E1 := E0) (E2 := E0) (PUI.list (PUF.toV (PUF.marks (PU.var (i := 0))))) PUT.yes (PU.call (PUA.cons (PU.var (i := 1)) (PUA.cons (PUF.toV (PUF.call (PUA.cons (PU.var (i := 0)) (PUA.cons (PU.var (i := 2)) PUA.nil)))) PUA.nil)))))) (fun ds hp => ?_) h
    obtain ⟨qs, d, rfl, h8, hz, ok⟩ := hp
    refine ⟨_, rfl, _, rfl, ⟨qs, d, rfl, h8, ok⟩, fun _ h1 => ?_, fun er h1 => ?_⟩
    · obtain ⟨_, _, e1, hc⟩ := h1
      cases e1
      obtain ⟨sd, ad, ld, _, _⟩ := lotB_all hc
      refine ⟨_, rfl, qs, rfl, _, rfl, ?_⟩
      refine lcP_map (g := fun x => .rat (dotR (nums d.items) (qs.map (coverR x.num)))) _ _ rfl (by rw [List.length_nil, List.length_map]; omega) rfl (fun x hx K hK => ?_) ?_
      · obtain ⟨q, hq, rfl⟩ := List.mem_map.mp hx
        have s1 := hz q hq
        refine ⟨_, rfl, _, rfl, _, rfl, ⟨qs, q, rfl, h8, fun q hq => sz_le' (hz q hq) (by decide), sz_le' s1 (by decide)⟩, fun l h => ?_⟩
        obtain ⟨qs', q', e, hl⟩ := h
        cases e
        injection hl with hl
        subst hl
        refine ⟨⟨d, _, d.items, (qs.map (coverR q)).map .rat, 91, rfl, sd, .inl rfl, ad, by rw [List.all_map]; exact List.all_eq_true.mpr fun _ _ => rfl, fun x hx => sz_le' (ok.sz x hx) (by decide), fun x hx => ?_, ?_⟩, ?_⟩
        · obtain ⟨y, hy, rfl⟩ := List.mem_map.mp hx
          obtain ⟨z, hz2, rfl⟩ := List.mem_map.mp hy
          show Sz 91 (coverR q z)
          unfold coverR
          split
          · exact (hz z hz2).sub' s1
          · exact sz_le' (a := 1) ⟨by decide, by decide⟩ (by decide)
        · rw [ld]
          exact Nat.le_trans (Nat.mul_le_mul_left _ (by omega : qs.length + 1 ≤ 9)) (by decide)
        · rintro _ ⟨d', e', l', m', e, h1, h2, rfl⟩
          injection e with e1 e2
          injection e2 with e2 _
          subst e1
          subst e2
          rw [← (Dt.seq_items h1).1, show m' = (qs.map (coverR q)).map Dt.rat from ((Dt.seq_items h2).1).symm.trans rfl, nums_rats]
          exact hK
      · rw [List.nil_append]
        exact ⟨qs, d, rfl, hc, by unfold coversR; rw [List.map_map, List.map_map]; rfl⟩
    · obtain ⟨_, _, e1, hb, rfl⟩ := h1
      cases e1
      exact ⟨qs, d, rfl, hb, rfl⟩
theorem ok_shares_told (T : Tx K mg a) : FnOk P w K mg base CX0 7 a.f_shares_told a.d_shares_told P_shares_told (spL a.G fdShTold) := by
  refine def_ok0 T.F_shares_told sc_shares_told (fun vs H Q E h => ?_) (fun cdv A outer s H vs Q E hr h => ?_)
  · obtain ⟨ds, X, hv, _, ⟨qs, d, rfl, _⟩, _⟩ := h
    exact hv.length
  · refine ⟨_, (pss_cons (ps_set (i := 2) sc_shares_told.nd rfl (Or.inl rfl) (pe_call (ok_opposites T) (hr.mono (by decide)) (by rfl) T.g_opposites T.F_opposites.kp (bd_opposites T) .nil pass0 (pa_cons (pe_call (ok_slopes_of T) (hr.mono (by decide)) (by rfl) T.g_slopes_of T.F_slopes_of.kp (bd_slopes_of T) .nil pass0 (pa_cons (pe_meth0 (pv 0) T.RS.cl T.m_Scale_marks (ok_Scale_marks T) (hr.mono (by decide)) (bd_Scale_marks T) .nil pass0) (pa_cons (pv 1) (pa_cons pe_int pa_nil)))) pa_nil))) (pss_one (ps_ret (pe_lc (own := [("before", 3), ("after", 4)]) (g := (gTup K 2 (gCons (gName 3) (gCons (gName 4) gNil)))) (tt := tYes) rfl sc_shares_told.nd (pi_zip (by rfl) T.b_zip (pa_cons (pe_lst (pa_cons (pe_make T.mk_Ratio (ok_Ratio_init T) (hr.mono (by decide)) (by rfl) T.g_Ratio (bd1_Ratio_init T).choose_spec.2 (bd1_Ratio_init T).choose_spec.1 pass0 (pa_cons pe_int pa_nil)) (StX.pa_star (pv 2) pa_nil))) (pa_cons (pe_lst (StX.pa_star (pv 2) (pa_cons (pe_make T.mk_Ratio (ok_Ratio_init T) (hr.mono (by decide)) (by rfl) T.g_Ratio (bd1_Ratio_init T).choose_spec.2 (bd1_Ratio_init T).choose_spec.1 pass0 (pa_cons pe_int pa_nil)) pa_nil))) pa_nil))) (blkOk_by (N := N_shares_told) (sc := defScope s_shares_told) (by decide +kernel)) (fun _ _ _ _ _ => by exact (pg_tup rfl (pgs_cons (pg_name (i := 3) sc_shares_told.nd rfl (Or.inl rfl)) (pgs_cons (pg_name (i := 4) sc_shares_told.nd rfl (Or.inl rfl)) pgs_nil)))) (fun _ _ _ _ _ => pts_nil) (fun _ _ _ _ _ => (pe_op (op_own T.o_sub (ok_Ratio_sub T) (hr.mono (by decide)) (bd_Ratio_sub T) pass0) (pv 3) (pv 4))))))), ?_⟩
    refine spL.def (G := a.G) (E := E0) (PUS.seq (PUS.set (i := 2) (PUF.toV (PUF.call (PUA.cons (PUF.toV (PUF.call (PUA.cons (PUF.toV (PUF.marks (PU.var (i := 0)))) (PUA.cons (PU.var (i := 1)) (PUA.cons PU.ci PUA.nil))))) PUA.nil)))) (PUS.retF (PUF.lc2 (i := 3) (j := 4) (E1 := E0) (E2 := E0) (by decide) (PUI.zip (PUA.cons (PUF.toV (PUF.lst (PUA.cons (PU.mkR1 (PUA.cons PU.ci PUA.nil)) (PUA.star (PU.var (i := 2)) PUA.nil)))) (PUA.cons (PUF.toV (PUF.lst (PUA.star (PU.var (i := 2)) (PUA.cons (PU.mkR1 (PUA.cons PU.ci PUA.nil)) PUA.nil)))) PUA.nil))) PUT.yes (PU.op RD.num2 (PU.var (i := 3)) (PU.var (i := 4)))))) (fun ds hp => ?_) h
    obtain ⟨qs, d, rfl, hs, hn, hl, h1, h8, hpw, hz, hzd, hdd⟩ := hp
    refine ⟨_, rfl, qs, rfl, _, rfl, ⟨qs, d, 1, rfl, hs, hn, by omega, hzd, fun _ => ⟨by omega, hpw, hz, hdd⟩⟩, fun l h => ?_⟩
    have h := slopes_post h
    injection h with h
    subst h
    have sS : ∀ q ∈ slopesR qs (nums d.items) 1, Sz 1450 q := fun q hq => by
      unfold slopesR at hq
      split at hq
      · cases hq
      · exact hdd.mem q hq
    have lS : (slopesR qs (nums d.items) 1).length ≤ 8 := by
      unfold slopesR
      split
      · exact Nat.zero_le _
      · rw [ddL_len, nums_len]; omega
    refine ⟨⟨_, rfl, .inl rfl, by show (List.all (List.map Dt.rat _) _) = true; rw [List.all_map]; exact List.all_eq_true.mpr fun _ _ => rfl, by show List.length (List.map Dt.rat (slopesR qs (nums d.items) 1)) ≤ _; rw [List.length_map]; omega, fun x hx => ?_⟩, fun l h => ?_⟩
    · obtain ⟨q, hq, rfl⟩ := List.mem_map.mp hx
      exact sz_le' (sS q hq) (by decide)
    · obtain ⟨d', e, hl2⟩ := h
      injection e with e _
      subst e
      injection hl2 with hl2
      subst hl2
      rw [show nums (Dt.items (.lst ((slopesR qs (nums d.items) 1).map .rat))) = slopesR qs (nums d.items) 1 from nums_rats _]
      have lB : (behindR qs (nums d.items)).length ≤ 8 := by unfold behindR; rw [List.length_map]; exact lS
      have sB := behind_sz hdd
      have eB : (slopesR qs (nums d.items) 1).map (fun q => -q) = behindR qs (nums d.items) := rfl
      rw [eB]
      refine ⟨1, rfl, lt8 (k := 1) (by decide) (by decide), _, rfl, _, .inl rfl, ?_, _, rfl, _, .inl rfl, 0, rfl, lt8 (k := 1) (by decide) (by decide), ?_, _, _, rfl, ?_⟩
      · rw [List.append_nil]
        show List.length (_ :: List.map Dt.rat _) ≤ _
        rw [List.length_cons, List.length_map]; omega
      · rw [List.length_append, List.length_map]
        show _ + 1 ≤ _
        omega
      · refine lcP2_map (g := fun x y => .rat (x.num - y.num)) (by decide) _ _ rfl rfl (by rw [List.length_nil, List.length_zip, List.append_nil, List.length_cons, List.length_map]; omega) (fun p hp K hK => ?_) ?_
        · have m1 := (List.of_mem_zip hp).1
          have m2 := (List.of_mem_zip hp).2
          rw [List.append_nil] at m1
          have r1 : ∃ q : Rat, p.1 = .rat q ∧ Sz 1450 q := by
            rcases List.mem_cons.mp m1 with h | h
            · exact ⟨_, h, sz_le' (a := 1) ⟨by decide, by decide⟩ (by decide)⟩
            · obtain ⟨q, hq, e⟩ := List.mem_map.mp h
              exact ⟨q, e.symm, sB q hq⟩
          have r2 : ∃ q : Rat, p.2 = .rat q ∧ Sz 1450 q := by
            rcases List.mem_append.mp m2 with h | h
            · obtain ⟨q, hq, e⟩ := List.mem_map.mp h
              exact ⟨q, e.symm, sB q hq⟩
            · exact ⟨_, List.mem_singleton.mp h, sz_le' (a := 1) ⟨by decide, by decide⟩ (by decide)⟩
          obtain ⟨q1, e1, z1⟩ := r1
          obtain ⟨q2, e2, z2⟩ := r2
          rw [e1, e2] at hK ⊢
          exact ⟨_, rfl, _, rfl, _, rfl, rfl, sz_le' z1 (by decide), sz_le' z2 (by decide), hK⟩
        · refine ⟨qs, d, rfl, ?_⟩
          rw [List.nil_append, List.append_nil]
          unfold toldR
          rw [List.map_map, show (Dt.rat ((1 : Int) : Rat) :: (behindR qs (nums d.items)).map Dt.rat) = (1 :: behindR qs (nums d.items)).map Dt.rat from rfl, show ((behindR qs (nums d.items)).map Dt.rat ++ [Dt.rat ((0 : Int) : Rat)]) = (behindR qs (nums d.items) ++ [0]).map Dt.rat from by rw [List.map_append]; rfl, List.zip_map, List.map_map]
          rfl
theorem ok_fault (T : Tx K mg a) : FnOk P w K mg base (L2N.CX P w) 9 a.f_fault a.d_fault P_fault (spX a.G (fxFault a.C_BadNumbers)) := by
  refine T.F_fault.ok sc_fault (fun vs H Q E h => ?_) (fun cdv A outer s H vs Q E hr h => ?_)
  · obtain ⟨ds, X, hv, _, ⟨qs, d, rfl, _⟩, _⟩ := h
    exact hv.length
  · refine ⟨_, (pss_cons (ps_expr (pe_callS (ok_check_prices T) (hr.mono (by decide)) (by rfl) T.g_check_prices T.F_check_prices.kp (bd_check_prices T) (fun σ => L2N.passAt (L2N.takes_of rfl rfl rfl rfl) σ) (pa_cons (pv 0) (pa_cons (pv 1) pa_nil)))) (pss_cons (ps_if (pt_cmpR (opR_or op_ne (op_neOwn T.p_ne (ok_Ratio_eq T) (hr.mono (by decide)) (bd_Ratio_eq T) pass0)) (pe_ix (IxR.or ix_list ix_tup) (pv 1) (pe_un un_neg pe_int) (fun _ _ => rfl)) pe_int (nomark _)) (pss_one (ps_ret (pe_op op_sub (pe_callB (cr_lenOwn T.ln_Scale T.lf_Scale (ok_Scale_len T) (hr.mono (by decide)) (bd_Scale_len T) pass0) (by rfl) T.b_len (by decide +kernel) (pa_cons (pv 0) pa_nil)) pe_int))) pss_nil) (pss_cons (ps_for (passes_of rfl) rfl (pi_enum (by rfl) T.b_enumerate (pa_cons (pe_call (ok_shares_told T) (hr.mono (by decide)) (by rfl) T.g_shares_told T.F_shares_told.kp (bd_shares_told T) .nil pass0 (pa_cons (pv 0) (pa_cons (pv 1) pa_nil))) pa_nil)) (pg_tup rfl (pgs_cons (pg_name (i := 2) sc_fault.nd rfl (Or.inl rfl)) (pgs_cons (pg_name (i := 3) sc_fault.nd rfl (Or.inl rfl)) pgs_nil))) (pss_one (ps_if (pt_cmpR (op_cmp (fun _ _ => rfl) T.p_lt (ok_Ratio_lt T) (hr.mono (by decide)) (bd_Ratio_lt T) pass0) (pv 3) pe_int (nomark _)) (pss_one (ps_ret (pv 2))) pss_nil))) (pss_one (ps_ret pe_non))))), ?_⟩
    refine spX.def (G := a.G) (E := E) (PUS.seq (PUS.drop (PU.callX (PUA.cons (PU.var (i := 0)) (PUA.cons (PU.var (i := 1)) PUA.nil)))) (PUS.seq (PUS.ifS (PUT.test (PU.op (RD.or RD.ne (RD.neR T.R)) (PU.op (RD.or RD.ixL RD.ixT) (PU.var (i := 1)) (PU.un UD.neg PU.ci)) PU.ci)) (PUS.ret (PU.op RD.i0 (PU.lenS (PU.var (i := 0))) PU.ci)) PUS.next) (PUS.seq (PUS.for (PUI.enum (PUA.cons (PUF.toV (PUF.call (PUA.cons (PU.var (i := 0)) (PUA.cons (PU.var (i := 1)) PUA.nil)))) PUA.nil)) (PUG.pair (i := 2) (j := 3)) (PUS.ifS (PUT.test (PU.op (RD.rel2 T.R) (PU.var (i := 3)) PU.ci)) (PUS.ret (PU.var (i := 2))) PUS.next)) (PUS.ret PU.cn)))) (fun ds hp => ?_) h
    obtain ⟨qs, d, rfl, h1, h8, hpw, hz, ok, hdd⟩ := hp
    refine ⟨_, rfl, _, rfl, ⟨qs, d, rfl, h8, ok⟩, fun _ g1 => ?_, fun er g1 => ?_⟩
    · obtain ⟨_, _, e1, hc⟩ := g1
      cases e1
      obtain ⟨sd, ad, ld⟩ := curveB_all hc
      have hdd := hdd hc
      have hn1 := nums_len d.items
      have hz1 : ∀ q ∈ nums d.items, Sz 1450 q := fun q hq => by
        obtain ⟨x, hx, rfl⟩ := List.mem_map.mp hq
        exact sz_le' (ok.sz x hx) (by decide)
      have hi : qs.length - 1 < d.items.length := by omega
      have hat : atI d.items (-1) = some (d.items[qs.length - 1]'hi) := by
        exact atLast hi ld
      have nl := allNum_mem ad (List.getElem_mem hi)
      have el : fnL (nums d.items) (qs.length - 1) = (d.items[qs.length - 1]'hi).num := by
        rw [fnL_at (by omega)]
        unfold nums
        rw [List.getElem_map]
      have sl := ok.sz _ (List.getElem_mem hi)
      have fin : ∀ r, r = faultD qs (nums d.items) → (fxFault a.C_BadNumbers).post [.scl qs, d] r := fun r e => ⟨qs, d, rfl, hc, e⟩
      have hx : ∃ x : Dt, atI d.items (-1) = some x ∧ x.isNum = true ∧ Sz 45 x.num ∧ fnL (nums d.items) (qs.length - 1) = x.num := ⟨_, hat, nl, sl, el⟩
      clear hat nl sl el
      obtain ⟨x, hat, nl, sl, el⟩ := hx
      have at1 : ∀ {K : Dt → Prop}, K x → (∃ l i x, d = Dt.lst l ∧ Dt.int (-1) = Dt.int i ∧ atI l i = some x ∧ K x) ∨ ∃ l i x, d = Dt.tup l ∧ Dt.int (-1) = Dt.int i ∧ atI l i = some x ∧ K x := fun {K} k => by
        rcases sd with e | e
        · exact .inl ⟨_, _, _, e, rfl, hat, k⟩
        · exact .inr ⟨_, _, _, e, rfl, hat, k⟩
      have xc : (∃ i, x = .int i) ∨ ∃ q, x = .rat q := by
        cases x with
        | int i => exact .inl ⟨i, rfl⟩
        | rat q => exact .inr ⟨q, rfl⟩
        | _ => cases nl
      refine ⟨_, rfl, 1, rfl, ?_⟩
      refine at1 ?_
      rcases xc with ⟨i, rfl⟩ | ⟨q, rfl⟩
      case' inl =>
        refine .inl ⟨decide (i = 0), rfl, _, rfl, ?_⟩
        rw [show decide (i = 0) = decide (fnL (nums d.items) (qs.length - 1) = 0) from by rw [el]; exact (decide_eq_decide.mpr Rat.intCast_eq_zero_iff).symm]
      case' inr =>
        refine .inr ⟨q, rfl, rfl, sz_le' (a := 1) ⟨by decide, by decide⟩ (by decide), _, rfl, ?_⟩
        rw [show decide (q = (Dt.int 0).num) = decide (fnL (nums d.items) (qs.length - 1) = 0) from by rw [el]; rfl]
      all_goals (
        by_cases h0 : fnL (nums d.items) (qs.length - 1) = 0
        · rw [decide_eq_true h0]
          refine ite_f ⟨_, rfl, _, rfl, ⟨qs, d, rfl, sd, ad, ld, h1, h8, hpw, fun q hq => sz_le' (hz q hq) (by decide), hz1, hdd⟩, fun l h => ?_⟩
          obtain ⟨qs', d', e2, hl⟩ := h
          cases e2
          injection hl with hl
          subst hl
          have tl := told_len (ms := qs) (hs := nums d.items) (by omega) h1
          have tz := told_sz hdd
          refine ⟨_, rfl, ?_⟩
          refine forP_inv (fun c ρ => (∃ u v, ρ = [.val (.scl qs), .val d, u, v]) ∧ ∀ j, j < c → ¬ fnL (toldR qs (nums d.items)) j < 0) ⟨⟨.un, .un, rfl⟩, fun j hj => absurd hj (Nat.not_lt_zero j)⟩ (fun c x ρ Kc hx hI hK => ?_) (fun ρ hI => ?_)
          · obtain ⟨⟨u, v, rfl⟩, hn⟩ := hI
            obtain ⟨hc1, rfl⟩ := enumR_at hx
            have em : fnL (toldR qs (nums d.items)) c ∈ toldR qs (nums d.items) := by rw [fnL_at hc1]; exact List.getElem_mem hc1
            refine ⟨_, _, rfl, _, rfl, _, rfl, rfl, sz_le' (tz _ em) (by decide), sz_le' (a := 1) ⟨by decide, by decide⟩ (by decide), _, rfl, ite_d (fun (h : fnL (toldR qs (nums d.items)) c < 0) => ?_) (fun (h : ¬ fnL (toldR qs (nums d.items)) c < 0) => ?_)⟩
            · exact ⟨_, rfl, fin _ (by unfold faultD; rw [if_neg (fun z => z h0), negAt_some hc1 h hn]; rfl)⟩
            · refine hK _ ⟨⟨_, _, rfl⟩, fun j hj => ?_⟩
              by_cases e : j = c
              · rw [e]; exact h
              · exact hn j (by omega)
          · obtain ⟨⟨u, v, rfl⟩, hn⟩ := hI
            rw [List.length_map, List.length_zipIdx, List.length_map] at hn
            exact fin _ (by unfold faultD; rw [if_neg (fun z => z h0), negAt_none hn]; rfl)
        · rw [decide_eq_false h0]
          exact ite_t ⟨_, rfl, qs, rfl, by omega, _, _, rfl, rfl, fin _ (by unfold faultD; rw [if_pos h0])⟩)
    · obtain ⟨_, _, e1, hb, rfl⟩ := g1
      cases e1
      exact ⟨qs, d, rfl, hb, rfl⟩
theorem ok_lot_of_covers (T : Tx K mg a) : FnOk P w K mg base (L2N.CX P w) 10 a.f_lot_of_covers a.d_lot_of_covers P_lot_of_covers (spX a.G (fxLotOf a.C_BadNumbers)) := by
  refine T.F_lot_of_covers.ok sc_lot_of_covers (fun vs H Q E h => ?_) (fun cdv A outer s H vs Q E hr h => ?_)
  · obtain ⟨ds, X, hv, _, ⟨qs, d, rfl, _⟩, _⟩ := h
    exact hv.length
  · refine ⟨_, (pss_cons (ps_if (pt_cmpR op_notN (pe_callS (ok_fault T) (hr.mono (by decide)) (by rfl) T.g_fault T.F_fault.kp (bd_fault T) (fun σ => L2N.passAt (L2N.takes_of rfl rfl rfl rfl) σ) (pa_cons (pv 0) (pa_cons (pv 1) pa_nil))) pe_non (nomark _)) (pss_one (ps_ret pe_non)) pss_nil) (pss_one (ps_ret (pe_call (ok_shares_told T) (hr.mono (by decide)) (by rfl) T.g_shares_told T.F_shares_told.kp (bd_shares_told T) .nil pass0 (pa_cons (pv 0) (pa_cons (pv 1) pa_nil)))))), ?_⟩
    refine spX.def (G := a.G) (E := E) (PUS.seq (PUS.ifS (PUT.test (PU.op RD.notN (PU.callX (PUA.cons (PU.var (i := 0)) (PUA.cons (PU.var (i := 1)) PUA.nil))) PU.cn)) (PUS.ret PU.cn) PUS.next) (PUS.ret (PUF.toV (PUF.call (PUA.cons (PU.var (i := 0)) (PUA.cons (PU.var (i := 1)) PUA.nil)))))) (fun ds hp => ?_) h
    obtain ⟨qs, d, rfl, ok⟩ := hp
    have ok' := ok
    obtain ⟨h1, h8, hpw, hz, okd, hdd⟩ := ok'
    refine ⟨_, rfl, _, rfl, ⟨qs, d, rfl, ok⟩, fun r g1 => ?_, fun er g1 => ?_⟩
    · obtain ⟨_, _, e1, hc, rfl⟩ := g1
      cases e1
      obtain ⟨sd, ad, ld⟩ := curveB_all hc
      have hdd := hdd hc
      have hz1 : ∀ q ∈ nums d.items, Sz 1450 q := fun q hq => by
        obtain ⟨x, hx, rfl⟩ := List.mem_map.mp hq
        exact sz_le' (okd.sz x hx) (by decide)
      have fin : ∀ r, r = lotOfD qs (nums d.items) → (fxLotOf a.C_BadNumbers).post [.scl qs, d] r := fun r e => ⟨qs, d, rfl, hc, e⟩
      have eL : ∀ f, faultD qs (nums d.items) = f → lotOfD qs (nums d.items) = if isNon f = true then .lst ((toldR qs (nums d.items)).map .rat) else .non := fun f e => by unfold lotOfD; rw [e]
      have call : faultD qs (nums d.items) = .non → F_ret (F_toV (F_callL fdShTold (F_cons (F_var 0) (F_cons (F_var 1) F_nil)))) (env0 N_lot_of_covers.length [Dt.scl qs, d]) (endX (fxLotOf a.C_BadNumbers) [Dt.scl qs, d]) := fun e => by
        refine ⟨_, rfl, _, rfl, ⟨qs, d, rfl, sd, ad, ld, h1, h8, hpw, fun q hq => sz_le' (hz q hq) (by decide), hz1, hdd⟩, fun l h => ?_⟩
        obtain ⟨qs', d', e2, hl⟩ := h
        cases e2
        injection hl with hl
        subst hl
        refine fin _ ?_
        rw [eL _ e]
        rfl
      refine ⟨rfl, _, rfl, ?_⟩
      cases hf : faultD qs (nums d.items) with
      | non => exact ite_f (call hf)
      | _ => exact ite_t (fin _ (by rw [eL _ hf]; rfl))
    · obtain ⟨_, _, e1, hb, rfl⟩ := g1
      cases e1
      exact ⟨qs, d, rfl, hb, rfl⟩
end
end Kx


set_option maxHeartbeats 2000000
namespace Fm
open PySem PySem.Spec PyProof.Rows L2
structure ItB (d : Dt) : Prop where
  kd : d.kind = true
  sz : Sz 1450 d.num
  fl : d.flat = true
  fi : d.da.fine = true
  dp : d.da.dp < 4
theorem ItB.rat {q : Rat} {k : Nat} (h : Sz k q) (hk : k ≤ 1450) : ItB (.rat q) := ⟨rfl, sz_le' h hk, rfl, by
  show (decide (q.num.natAbs < 2 ^ 1500) && decide (q.den < 2 ^ 1500)) = true
  rw [decide_eq_true (ltF h.1 (by omega)), decide_eq_true (ltF h.2 (by omega))]
  rfl, by show 0 < 4; decide⟩
structure In8 (d : Dt) : Prop where
  ok : d.Ok 1450
  fl : d.flat = true
  fi : d.da.fine = true
  dp : d.da.dp < 5
theorem In8.fine {d : Dt} (h : In8 d) : d.Fine := ⟨h.fl, h.fi, Nat.lt_succ_of_lt h.dp⟩
theorem In8.seq {d : Dt} {l : List Dt} (hs : d.seq l) (h : ∀ x ∈ l, ItB x) (hl : l.length ≤ 1000) : In8 d := by
  have h2 : ∀ x ∈ l, x.flat = true ∧ x.da.fine = true ∧ x.da.dp < 5 := fun x hx => ⟨(h x hx).fl, (h x hx).fi, Nat.lt_succ_of_lt (h x hx).dp⟩
  have hd := dpL_of (n := 3) (l := l) fun x hx => Nat.le_of_lt_succ (h x hx).dp
  rcases hs with rfl | rfl
  · have f := fine_lst h2 hl
    exact ⟨⟨rfl, fun x hx => (h x hx).kd, hl, fun x hx => (h x hx).sz⟩, f.flat, f.fine, by show dpL (daL l) + 1 < 5; omega⟩
  · have f := fine_tup h2 hl
    exact ⟨⟨rfl, fun x hx => (h x hx).kd, hl, fun x hx => (h x hx).sz⟩, f.flat, f.fine, by show dpL (daL l) + 1 < 5; omega⟩
structure GivenB (d : Dt) (ps : List Rat) : Prop where
  sq : d.seq d.items
  al : d.items.all Dt.isNum = true
  nu : nums d.items = ps
  i8 : In8 d
theorem GivenB.curve {d : Dt} {ps : List Rat} (h : GivenB d ps) : curveB d ps.length = true := by
  have e := nums_len d.items
  rw [h.nu] at e
  unfold curveB
  rw [e, decide_eq_true rfl, Bool.and_true]
  unfold Dt.numsB
  rw [h.al, (Dt.seq_items h.sq).2]
  rfl
end Fm

set_option maxHeartbeats 2000000
namespace Fm
open PySem PySem.Spec PyProof.Rows L2
section
variable {G : Gs} {K : PySem.W.Frag}
end
end Fm

set_option maxHeartbeats 2000000
namespace Fm
open PySem PySem.Spec PyProof.Rows L2
end Fm

set_option maxHeartbeats 2000000
namespace Fm
open PySem PySem.Spec PyProof.Rows L2
end Fm

set_option maxHeartbeats 2000000
namespace Fm
open PySem PySem.Spec PyProof.Rows L2 PySem.W
def gStar (K : PySem.W.Frag) (t : TGs) : TG := fun v σ H Q => ∃ a x xs, v = .ref a ∧ SqL K H a (x :: xs) ∧ xs.length ≤ 1000 ∧ ∀ p, H p = none → t [x, .ref p] σ (upd H p (.lst xs)) Q
section
variable {X : Cx} {pos : Pos}
end
end Fm

set_option maxHeartbeats 2000000
namespace Fm
open PySem PySem.Spec PyProof.Rows L2
section
variable {G : Gs} {E E2 : XK} {K : PySem.W.Frag}
theorem PUG.star {i j : Nat} : PUG G (gStar K (gCons (gName i) (gCons (gName j) gNil))) (fun d ρ N => ∃ a r, d = .lst (a :: r) ∧ r.length ≤ 1000 ∧ N ((ρ.set i (.val a)).set j (.val (.lst r)))) where
  run := fun {f σ H ρ N v d} S hv ⟨a, r, hd, h1000, h⟩ => by
    subst hd
    cases hv with
    | lst hp rr => cases rr with
      | cons h1 h2 =>
        rename_i p v1 vs
        refine ⟨_, _, _, rfl, SqL.of (cut_some.mp hp).2, by rw [h2.length]; exact h1000, fun q hq => ?_⟩
        obtain ⟨q1, q2, q3, q4, q5⟩ := S.new (H' := upd H q (.lst vs)) hq (Ex.new hq) upd_same h2
        have SB := q1.back
        have e := q2.trans out_ex
        have hl : DtV G (cut (Xs f σ ρ) (upd H q (.lst vs))) (.ref q) (.lst r) := .lst (cut_some.mpr ⟨fun w => w.elim q4 (q1.x0 q (.inr rfl)).2, upd_same⟩) (q5.mono out_ex)
        have S1 : St G f (σ.set i (some v1)) (upd H q (.lst vs)) (ρ.set i (.val a)) := SB.put rfl (.val (h1.mono e))
        have e1 : Ex (cut (Xs f σ ρ) (upd H q (.lst vs))) (cut (Xs f (σ.set i (some v1)) (ρ.set i (.val a))) (upd H q (.lst vs))) := put_ex rfl
        have S2 := S1.put (i := j) rfl (.val (hl.mono e1))
        exact ⟨_, _, rfl, _, _, rfl, rfl, h _ _ S2 ((e.trans e1).trans (put_ex rfl))⟩
  mono := fun m ⟨a, r, hd, h1, h⟩ => ⟨a, r, hd, h1, m _ h⟩
end
end Fm

set_option maxHeartbeats 2000000
namespace Fm
theorem sumN_pick (a : Nat → Rat) (w : Nat) : ∀ n, sumN (fun k => a k * if w = k then 1 else 0) n = if w < n then a w else 0
  | 0 => by rw [if_neg (by omega)]; rfl
  | n + 1 => by
    show sumN _ n + a n * (if w = n then (1 : Rat) else 0) = _
    rw [sumN_pick a w n]
    by_cases h : w = n
    · subst h
      rw [if_neg (by omega), if_pos rfl, if_pos (by omega)]
      grind
    · rw [if_neg h]
      by_cases h2 : w < n
      · rw [if_pos h2, if_pos (by omega)]; grind
      · rw [if_neg h2, if_neg (by omega)]; grind
theorem LatE.sz {E : Int} {b : Nat} {q : Rat} (h : LatE E b q) (hE : E ≠ 0) (hb : E.natAbs ≤ 2 ^ b) : Sz (b + 1) q := by
  obtain ⟨A, e, hA⟩ := h
  rw [e]
  exact Sz.divInt (lt_two hA) (lt_two hb) hE
theorem LatV.drop {ms : List Rat} (h : LatV ms) {l : List Rat} (hl : ∀ q ∈ l, q ∈ ms) : LatV l := by
  obtain ⟨D, hD, h⟩ := h
  exact ⟨D, hD, fun q hq => h q (hl q hq)⟩
end Fm

set_option maxHeartbeats 2000000
namespace Fm
open PySem PySem.Spec PyProof.Rows L2
theorem cutG_to {α : Type} (l : List α) {k : Nat} {i : Int} (hi : i = (k : Int)) (h : k ≤ l.length) : cutG l none (some i) = l.take k := by
  subst hi
  have e : HT.sIx l.length l.length (some (k : Int)) = k := by
    show (if (k : Int) < 0 then ((k : Int) + (l.length : Int)).toNat else min (k : Int).toNat l.length) = k
    rw [if_neg (by omega)]
    omega
  show (l.drop 0).take (HT.sIx l.length l.length (some (k : Int)) - 0) = _
  rw [e, List.drop_zero, Nat.sub_zero]
end Fm

set_option maxHeartbeats 2000000
namespace Fm
open PySem PySem.Spec PyProof.Rows L2
section
variable {G : Gs} {E : XK} {K : PySem.W.Frag}
end
end Fm

set_option maxHeartbeats 2000000
namespace Fm
open PySem PySem.Spec PyProof.Rows L2
def polS (cs : List Rat) (x : Rat) (n : Nat) : Rat := sumN (fun k => x ^ k * fnL cs k) n
theorem horner_polS (x : Rat) : ∀ cs : List Rat, hornerR cs x = polS cs x cs.length
  | [] => rfl
  | c :: cs => by
    show hornerR cs x * x + c = sumN (fun k => x ^ k * fnL (c :: cs) k) (cs.length + 1)
    rw [horner_polS x cs, sumN_front]
    show polS cs x cs.length * x + c = x ^ 0 * c + sumN (fun k => x ^ (k + 1) * fnL cs k) cs.length
    rw [sumN_congr (h := fun k => x * (x ^ k * fnL cs k)) fun k _ => by rw [Rat.pow_succ]; grind, sumN_mul, Rat.pow_zero]
    unfold polS
    grind
end Fm
namespace Fm
open PySem PySem.Spec PyProof.Rows L2
def Bad (f : Dt → Bool) (x : Dt) : Prop := ∀ r, (r = x ∨ ∃ l, x = .lst l ∧ r = .tup l) → In8 r ∧ f r = false
theorem Bad.seq {f : Dt → Bool} {l : List Dt} (h : ∀ y ∈ l, ItB y) (hl : l.length ≤ 1000) (hf : ∀ d : Dt, d.seq l → f d = false) : Bad f (.lst l) := fun r hr => by
  rcases hr with rfl | ⟨l', e, rfl⟩
  · exact ⟨In8.seq (.inl rfl) h hl, hf _ (.inl rfl)⟩
  · injection e with e
    subst e
    exact ⟨In8.seq (.inr rfl) h hl, hf _ (.inr rfl)⟩
theorem Bad.one {f : Dt → Bool} {x : Dt} (h : In8 x) (hl : x.isLst = false) (hf : f x = false) : Bad f x := fun r hr => by
  rcases hr with rfl | ⟨l', rfl, rfl⟩
  · exact ⟨h, hf⟩
  · cases hl
end Fm
namespace Fm
open PySem PySem.Spec PyProof.Rows L2
section
variable {G : Gs} {E : XK} {K : PySem.W.Frag}
end
end Fm

set_option maxHeartbeats 2000000
namespace Fm
open PySem PySem.Spec PyProof.Rows L2
theorem LatE.pow {D : Int} {b : Nat} {x : Rat} (hD : D ≠ 0) (h : LatE D b x) : ∀ k : Nat, LatE (D ^ k) (b * k) (x ^ k)
  | 0 => by
    rw [Rat.pow_zero, Int.pow_zero]
    exact ⟨1, by rw [divInt_q]; grind, by show 1 ≤ 2 ^ 0; decide⟩
  | k + 1 => by
    have h1 := LatE.mul (fun z => by exact Int.pow_ne_zero hD z) hD (LatE.pow hD h k) h
    rw [Rat.pow_succ, Int.pow_succ]
    exact h1
end Fm

set_option maxHeartbeats 2000000
namespace GQ
open PySem PySem.SeqAt
open AutoSeq1 (wpAny_loadPart')
open MeetsSeq MeetsSeq2 MeetsSeq3 SeqRoads2
section
variable {prog : Program} {w : World} {A : Around} {R : Result → Shared → Prop}
end
section
variable {prog : Program} {w : World} {A : Around} {E : Value → Shared → Prop} {s : Shared}
end
end GQ

set_option maxHeartbeats 2000000
namespace Fm
open PySem PySem.Spec PyProof.Rows L2
theorem RatsV.inj {C : Addr} {H : Hp} : ∀ {xs : List V} {ps qs : List Rat}, RatsV C H xs ps → RatsV C H xs qs → ps = qs
  | _, _, _, .nil, .nil => rfl
  | _, _, _, .cons h r, .cons h2 r2 => by
    obtain ⟨p, e1, dx, hp⟩ := h
    obtain ⟨p2, e2, dx2, hp2⟩ := h2
    rw [e1] at e2
    injection e2 with e2
    subst e2
    rw [hp] at hp2
    injection hp2 with e3
    injection e3 with _ _ e3
    rw [flR_inj e3, RatsV.inj r r2]
def RowV (C : Addr) (H : Hp) (v : V) (r : List Rat) : Prop := ∃ (p : Addr) (us : List V), v = .ref p ∧ H p = some (.lst us) ∧ RatsV C H us r
theorem RowV.mono {C : Addr} {H H' : Hp} {v : V} {r : List Rat} (e : Ex H H') (h : RowV C H v r) : RowV C H' v r := let ⟨p, us, a, b, c⟩ := h; ⟨p, us, a, e _ _ b, c.mono e⟩
section
variable {G : Gs} {E : XK} {K : PySem.W.Frag}
end
end Fm

set_option maxHeartbeats 2000000
namespace Fm
open PySem PySem.Spec PyProof.Rows L2
def othI (js : List Int) (a : Int) : List Int := js.filter fun i => decide (i ≠ a)
def othR (ms : List Rat) (js : List Int) (a : Int) : List Rat := pickR ms (othI js a)
def shareA (ms cs : List Rat) (js : List Int) (a : Int) : Rat := dotR (rootsR (othR ms js a)) (1 :: cs) / prodL (fnL ms a.toNat) (othR ms js a)
def sharesR (ms cs : List Rat) (js : List Int) : List Rat := (List.range ms.length).map fun (k : Nat) => if (k : Int) ∈ js then shareA ms cs js (k : Int) else 0
theorem othI_len {js : List Int} {a : Int} (hp : js.Pairwise (· < ·)) (ha : a ∈ js) : (othI js a).length + 1 = js.length := by
  induction js with
  | nil => cases ha
  | cons x r ih =>
    obtain ⟨h1, h2⟩ := List.pairwise_cons.mp hp
    unfold othI
    by_cases e : x = a
    · subst e
      rw [List.filter_cons_of_neg (by simp), List.filter_eq_self.mpr fun y hy => by
        have := h1 y hy
        exact decide_eq_true (by omega)]
      rfl
    · rw [List.filter_cons_of_pos (by simpa using e), List.length_cons, List.length_cons]
      rcases List.mem_cons.mp ha with h | h
      · exact absurd h.symm e
      · have := ih h2 h
        unfold othI at this
        omega
theorem mem_othI {js : List Int} {a i : Int} : i ∈ othI js a ↔ i ∈ js ∧ i ≠ a := by
  unfold othI
  rw [List.mem_filter, decide_eq_true_iff]
def SmallM (cs : List Rat) (t : Nat) : Prop := ∃ E : Int, 1 ≤ E ∧ E.natAbs ≤ 2 ^ t ∧ ∀ c ∈ cs, LatE E t c
theorem SmallM.one {cs : List Rat} {t : Nat} (h : SmallM cs t) : SmallM (1 :: cs) t := by
  obtain ⟨E, h1, h2, h3⟩ := h
  refine ⟨E, h1, h2, fun c hc => ?_⟩
  rcases List.mem_cons.mp hc with rfl | hc
  · have hE : E ≠ 0 := by omega
    exact ⟨E, by rw [divInt_q]; have := castI_ne hE; grind, h2⟩
  · exact h3 c hc
theorem SmallM.sz {cs : List Rat} {t : Nat} (h : SmallM cs t) : ∀ c ∈ cs, Sz (t + 1) c := fun c hc => by
  obtain ⟨E, h1, h2, h3⟩ := h
  exact (h3 c hc).sz (by omega) h2
theorem prodL_cons (x r : Rat) (rs : List Rat) : prodL x (r :: rs) = (x - r) * prodL x rs := by
  show (r :: rs).foldl (fun acc r => acc * (x - r)) 1 = _
  rw [List.foldl_cons, prodL_from]
  grind
theorem prodL_ne {x : Rat} : ∀ {rs : List Rat}, (∀ r ∈ rs, x ≠ r) → prodL x rs ≠ 0
  | [], _ => by show (1 : Rat) ≠ 0; decide
  | r :: rs, h => by
    rw [prodL_cons]
    intro z
    rcases Rat.mul_eq_zero.mp z with z | z
    · exact h r List.mem_cons_self (by grind)
    · exact prodL_ne (fun q hq => h q (List.mem_cons_of_mem _ hq)) z
end Fm

set_option maxHeartbeats 2000000
namespace Fm
open PySem PySem.Spec PyProof.Rows L2
theorem sumN_swap (F : Nat → Nat → Rat) (n : Nat) : ∀ m, sumN (fun i => sumN (fun j => F i j) n) m = sumN (fun j => sumN (fun i => F i j) m) n
  | 0 => by
    exact (sumN_zero (g := fun j => sumN (fun i => F i j) 0) fun j _ => rfl).symm
  | m + 1 => by
    show sumN (fun i => sumN (fun j => F i j) n) m + sumN (fun j => F m j) n = _
    rw [sumN_swap F n m, ← sumN_add]
    rfl
def mom (m a : Nat → Rat) (n k : Nat) : Rat := sumN (fun j => a j * m j ^ k) n
theorem mom_poly (m a : Nat → Rat) (n : Nat) (f : List Rat) : sumN (fun k => fnL f k * mom m a n k) f.length = sumN (fun j => a j * hornerR f (m j)) n := by
  rw [sumN_congr (h := fun k => sumN (fun j => fnL f k * (a j * m j ^ k)) n) fun k _ => by unfold mom; rw [sumN_mul], sumN_swap (fun k j => fnL f k * (a j * m j ^ k))]
  refine sumN_congr fun j _ => ?_
  rw [horner_polS]
  unfold polS
  rw [← sumN_mul]
  exact sumN_congr fun k _ => by grind
end Fm

set_option maxHeartbeats 2000000
namespace Fm
open PySem PySem.Spec PyProof.Rows L2
theorem prodL_zero {x : Rat} : ∀ {rs : List Rat}, x ∈ rs → prodL x rs = 0
  | r :: rs, h => by
    rw [prodL_cons]
    rcases List.mem_cons.mp h with rfl | h
    · grind
    · rw [prodL_zero h]; grind
theorem shares_told {ms cs : List Rat} {js : List Int} {a : Nat → Rat} (hpw : ms.Pairwise (· < ·)) (jpw : js.Pairwise (· < ·)) (jb : ∀ i ∈ js, 0 ≤ i ∧ i < (ms.length : Int)) (jl : js.length = cs.length + 1)
    (hc : ∀ k, k ≤ cs.length → fnL (1 :: cs) k = mom (fnL ms) a ms.length k) (ha : ∀ k, k < ms.length → (k : Int) ∉ js → a k = 0) : sharesR ms cs js = (List.range ms.length).map a := by
  unfold sharesR
  refine List.map_congr_left fun k hk => ?_
  have hk := List.mem_range.mp hk
  by_cases h : (k : Int) ∈ js
  · rw [if_pos h]
    have hol := othI_len jpw h
    have rl : (othR ms js (k : Int)).length = (othI js (k : Int)).length := pickR_len ..
    have rlen : (rootsR (othR ms js (k : Int))).length = cs.length + 1 := by rw [rootsR_len]; omega
    have rmem : ∀ j, j < ms.length → (j : Int) ∈ js → j ≠ k → fnL ms j ∈ othR ms js (k : Int) := fun j hj hjj hne => List.mem_map.mpr ⟨(j : Int), mem_othI.mpr ⟨hjj, by omega⟩, by rw [Int.toNat_natCast]⟩
    have pne : prodL (fnL ms k) (othR ms js (k : Int)) ≠ 0 := prodL_ne fun r hr => by
      obtain ⟨i, hi, rfl⟩ := List.mem_map.mp hr
      obtain ⟨hi1, hi2⟩ := mem_othI.mp hi
      have hib := jb i hi1
      rcases Nat.lt_or_gt_of_ne (show i.toNat ≠ k by omega) with h | h
      · exact climb_ne hpw h (by omega)
      · exact fun z => climb_ne hpw h (by omega) z.symm
    unfold shareA
    rw [Int.toNat_natCast, dotR_sumN (cs.length + 1) _ _ rlen rfl]
    have e1 : sumN (fun i => fnL (rootsR (othR ms js (k : Int))) i * fnL (1 :: cs) i) (cs.length + 1) = sumN (fun j => a j * prodL (fnL ms j) (othR ms js (k : Int))) ms.length := by
      rw [sumN_congr (h := fun i => fnL (rootsR (othR ms js (k : Int))) i * mom (fnL ms) a ms.length i) fun i hi => by rw [hc i (by omega)]]
      have := mom_poly (fnL ms) a ms.length (rootsR (othR ms js (k : Int)))
      rw [rlen] at this
      rw [this]
      exact sumN_congr fun j _ => by rw [horner_roots]
    have e2 : sumN (fun j => a j * prodL (fnL ms j) (othR ms js (k : Int))) ms.length = a k * prodL (fnL ms k) (othR ms js (k : Int)) := by
      have := sumN_pick (fun j => a j * prodL (fnL ms j) (othR ms js (k : Int))) k ms.length
      rw [if_pos hk] at this
      rw [← this]
      refine sumN_congr fun j hj => ?_
      by_cases e : k = j
      · rw [if_pos e]; grind
      · rw [if_neg e]
        by_cases hjj : (j : Int) ∈ js
        · rw [prodL_zero (rmem j hj hjj fun z => e z.symm)]; grind
        · rw [ha j hj hjj]; grind
    rw [e1, e2, Rat.div_def, Rat.mul_assoc, Rat.mul_inv_cancel _ pne, Rat.mul_one]
  · rw [if_neg h, ha k hk h]
end Fm

set_option maxHeartbeats 2000000
namespace Fm
open PySem PySem.Spec PyProof.Rows L2
end Fm

set_option maxHeartbeats 2000000
namespace Fm
open PySem PySem.Spec PyProof.Rows L2
theorem SmallM.last {cs : List Rat} {q : Rat} {s t : Nat} (h : SmallM cs s) (hq : Sz t q) : SmallM (cs ++ [q]) (s + t) := by
  obtain ⟨E, h1, h2, h3⟩ := h
  have hd : 1 ≤ (q.den : Int) := by have := q.den_pos; omega
  have hdn : (q.den : Int) ≠ 0 := by omega
  have hE : E ≠ 0 := by omega
  have hb : (q.den : Int).natAbs ≤ 2 ^ t := by rw [Int.natAbs_natCast]; exact Nat.le_of_lt hq.2
  refine ⟨E * q.den, ?_, ?_, fun c hc => ?_⟩
  · have := Int.mul_le_mul h1 hd (by decide) (by omega)
    omega
  · rw [Int.natAbs_mul]
    have h4 := Nat.mul_le_mul h2 hb
    rw [← Nat.pow_add] at h4
    exact h4
  · rcases List.mem_append.mp hc with hc | hc
    · exact LatE.up hE hdn hb (h3 c hc)
    · rw [List.mem_singleton.mp hc]
      have h5 : LatE (q.den : Int) t q := ⟨q.num, (Rat.num_divInt_den q).symm, Nat.le_of_lt hq.1⟩
      have h6 := LatE.up hdn hE h2 h5
      rw [Int.mul_comm, Nat.add_comm] at h6
      exact h6
theorem SmallM.le {cs : List Rat} {s t : Nat} (h : SmallM cs s) (hst : s ≤ t) : SmallM cs t := by
  obtain ⟨E, h1, h2, h3⟩ := h
  exact ⟨E, h1, Nat.le_trans h2 (Nat.pow_le_pow_right (by decide) hst), fun c hc => (h3 c hc).le hst⟩
end Fm

set_option maxHeartbeats 2000000
namespace Fm
open PySem PySem.Spec PyProof.Rows L2
section
variable {G : Gs} {E : XK} {K : PySem.W.Frag}
end
end Fm

set_option maxHeartbeats 2000000
namespace Fm
open PySem PySem.Spec PyProof.Rows L2
section
variable {G : Gs} {E : XK} {K : PySem.W.Frag}
abbrev F_never : FS := fun _ _ => False
theorem PUS.never : PUS G E tNever F_never where
  run := fun _ h => h.elim
  mono := fun _ h => h.elim
end
end Fm

set_option maxHeartbeats 4000000
namespace Kx
open PySem PySem.Spec PyProof.Rows L2 Fm SX
open L2H (FnH RoomH HotC Hot1 cxH pe_callH)
local macro_rules | `(tactic| walk_at "gv") => `(tactic| ((with_reducible refine' g_var ?gh ?_); (case gh => exact rfl)))
local macro_rules | `(tactic| walk_at "g1") => `(tactic| first
  | walk_at "gv"
  | with_reducible refine g_c ?_ | with_reducible refine g_op ?_ | with_reducible refine g_un ?_ | with_reducible refine g_I0 ?_ | with_reducible refine g_U ?_
  | with_reducible refine g_eqI ?_ | with_reducible refine g_neI ?_ | with_reducible refine g_eqS ?_ | with_reducible refine g_neS ?_
  | with_reducible refine g_test ?_ | with_reducible refine g_B ?_ | with_reducible refine g_bl ?_ | with_reducible refine g_not ?_ | with_reducible refine g_and ?_ | with_reducible refine g_or ?_
  | with_reducible refine g_andV ?_ | with_reducible refine g_orV ?_ | with_reducible refine g_notV ?_ | with_reducible refine g_chain ?_ | with_reducible refine g_if ?_ | with_reducible refine g_ifS ?_
  | with_reducible refine g_seq ?_ | with_reducible refine g_next ?_ | with_reducible refine g_break ?_ | with_reducible refine g_cont ?_ | with_reducible refine g_drop ?_ | with_reducible refine g_ret ?_ | with_reducible refine g_retN ?_
  | with_reducible refine g_asg ?_ | with_reducible refine g_name ?_ | with_reducible refine g_par ?_ | with_reducible refine g_par2 ?_ | with_reducible refine g_fld ?_ | with_reducible refine g_sfld ?_
  | with_reducible refine g_nil ?_ | with_reducible refine g_cons ?_ | with_reducible refine g_tup ?_ | with_reducible refine g_lst ?_ | with_reducible refine g_call ?_ | with_reducible refine g_meth ?_ | with_reducible refine g_make1 ?_ | with_reducible refine g_make ?_ | with_reducible refine g_cb ?_ | with_reducible refine g_sub ?_ | with_reducible refine g_m0 ?_ | with_reducible refine g_gcons ?_ | with_reducible refine g_gnil ?_ | with_reducible refine g_for ?_ | with_reducible refine g_lc ?_ | with_reducible refine g_ilist ?_ | with_reducible refine g_itup ?_ | with_reducible refine g_rng1 ?_ | with_reducible refine g_rng3 ?_ | with_reducible refine g_yes ?_ | with_reducible refine g_sl ?_ | with_reducible refine g_nopart ?_ | with_reducible refine g_part ?_ | with_reducible refine g_exI ?_ | with_reducible refine g_m1 ?_ | with_reducible refine g_isS ?_ | with_reducible refine g_bm ?_ | with_reducible refine g_revL ?_ | with_reducible refine g_absI ?_ | with_reducible refine g_intI ?_
  | with_reducible refine iteT ?_ | with_reducible refine iteF ?_ | with_reducible refine g_gcd ?_)
local macro_rules | `(tactic| walk_at "g") => `(tactic| (repeat (first | walk_at "g1" | dsimp only [cx_K, cx_Kn, b_nt, b_nf])))
local macro_rules | `(tactic| walk_at "mul") => `(tactic| exact mulA (a := 200) (b := 200) (by omega) (by omega) (by decide))
local macro_rules | `(tactic| walk_at "pow") => `(tactic| exact ⟨by omega, by omega, by omega⟩)

def spNumeral : Sp := fun vs H Q _ => ∃ n : Nat, vs = [.int (n : Int)] ∧ n < 10 ^ 60 ∧ ∀ H', Ex H H' → Q (.str (S (TL.numL n))) H'
theorem pe_callH0 {X : Cx} {k : Nat} {f : Addr} {fd : FuncData} {ps : List Str} {sp : Sp} {x : Str} {q pos : Pos} {e : Expr} {es : List Expr} {t : TA} (F : FnH X.prog X.w X.K X.mg X.base CX0 k f fd ps sp) (hr : RoomH k X.A) (hc : HotC X) (hg : Gl X x) (hm : X.mg x = some (.ref f)) (hk : PySem.W.keepIn X.K (.ref f) = true) (hb : Binds X.K fd ps [])
    (ha : PA X (e :: es) t) (hdb : (x == ("__debug__" : Str)) = false := by decide) (he : starEach (e :: es) X.env = (false, eval e X.env) :: starEach es X.env := by rfl) (hpl : (backTo pos (starEach es X.env)).any (·.1) = false := by rfl) :
    PE X (.Call (.Name x q) (e :: es) [] pos) (tCall sp [] E0 t) := by
  have h := pe_callH (q := q) (E := fun _ => E0) F hr hc hg hm hk hb (fun σ => at0 σ) ha hdb he hpl
  refine ⟨fun pins s σ H Q I hq => h.run pins s σ H Q I ?_⟩
  simpa [tCall, tCallS] using hq
section
variable {P : Program} {w : World} {K : PySem.W.Frag} {mg : Str → Option Value} {base : Heap} {a : Ad}
theorem ok_numeral (T : Tx K mg a) : FnOk P w K mg base CX0 1 a.f_numeral a.d_numeral P_numeral spNumeral := by
  refine def_ok0 T.F_numeral sc_numeral (fun vs H Q E h => ?_) (fun cdv A outer s H vs Q E hr h => ?_)
  · obtain ⟨n, rfl, _⟩ := h
    rfl
  · obtain ⟨n, rfl, hn, q⟩ := h
    refine ⟨_, (pss_cons (ps_set (i := 1) sc_numeral.nd rfl (Or.inl rfl) (pe_lst pa_nil)) (pss_cons (ps_while PassesOwn.never (pt_cmpR op_ge (pv 0) (pe_op op_pow pe_int pe_int) (nomark _)) (pss_cons ps_never (pss_one ps_never))) (pss_cons (ps_expr (pe_bm PySem.F.plainAttrs_list PySem.F.slot_list_append PySem.F.type_list_append mt_append (pv 1) (pa_cons (pe_callTy cr_strI (by rfl) T.b_str (by decide +kernel) (pa_cons (pv 0) pa_nil)) pa_nil))) (pss_one (ps_ret (pe_join pe_str (pe_revL (pv 1)))))))), ?_⟩
    walk_at "g"
    refine ⟨len_lit rfl, fun p hp => ?_⟩
    walk_at "g"
    refine ⟨fun m σ' H' => σ' = _ ∧ H' = _, ⟨0, rfl, rfl⟩, ?_⟩
    rintro m σ' H' ⟨rfl, rfl⟩
    walk_at "g"
    refine g_I (by walk_at "pow") ?_
    walk_at "g"
    have hlt : (n : Int) < 10 ^ (60 : Int).toNat := by
      have e : (10 : Int) ^ (60 : Int).toNat = ((10 ^ 60 : Nat) : Int) := by decide
      rw [e]
      exact Int.ofNat_lt.mpr hn
    refine g_dec (fun h => absurd h (by omega)) (fun _ => ?_)
    walk_at "g"
    refine ⟨tyL upd_same, ?_⟩
    walk_at "g"
    refine g_strI (by rw [Int.natAbs_natCast]; exact Nat.lt_trans hn (by decide)) ?_
    walk_at "g"
    refine g_app upd_same (by decide) ?_
    walk_at "g"
    refine ⟨p, _, rfl, SqL.of upd_same, fun r hr' => ?_⟩
    have ez : txN (n : Int) = TL.numL n := by unfold txN; rw [if_neg (by omega), Int.natAbs_natCast]
    refine ⟨_, r, [S (TL.numL n)], rfl, rfl, .inl (SqL.of (by rw [upd_same, ez]; rfl)), ?_, ?_⟩
    · have := TL.numL_len (n := n) (k := 60) (by decide) hn
      show (S (TL.numL n)).length + 0 + (0 + 1) * (Str.ofString "").length ≤ 16777216
      rw [S_len]
      have e0 : (Str.ofString "").length = 0 := rfl
      omega
    · rw [show Txt.join (Str.ofString "") [S (TL.numL n)] = S (TL.numL n) from join_S [] [TL.numL n]]
      refine q _ (Ex.mut (Ex.mut (Ex.mut (Ex.refl H) hp) hp) (Ex.free (Ex.mut (Ex.mut (Ex.refl H) hp) hp) hr'))
theorem ok_numeralH (T : Tx K mg a) : FnH P w K mg base CX0 1 a.f_numeral a.d_numeral P_numeral spNumeral := by
  refine def_okH T.F_numeral sc_numeral (fun vs H Q E h => ?_) (fun cdv A outer s H vs Q E p0 hot hr h => ?_)
  · obtain ⟨n, rfl, _⟩ := h
    rfl
  · obtain ⟨n, rfl, hn, q⟩ := h
    refine ⟨_, (pss_cons (ps_set (i := 1) sc_numeral.nd rfl (Or.inl rfl) (pe_lst pa_nil)) (pss_cons (ps_while (passes_of rfl) (pt_cmpR op_ge (pv 0) (pe_op op_pow pe_int pe_int) (nomark _)) (pss_cons ps_never (pss_one ps_never))) (pss_cons (ps_expr (pe_bm PySem.F.plainAttrs_list PySem.F.slot_list_append PySem.F.type_list_append mt_append (pv 1) (pa_cons (pe_callTy cr_strI (by rfl) T.b_str (by decide +kernel) (pa_cons (pv 0) pa_nil)) pa_nil))) (pss_one (ps_ret (pe_join pe_str (pe_revL (pv 1)))))))), ?_⟩
    walk_at "g"
    refine ⟨len_lit rfl, fun p hp => ?_⟩
    walk_at "g"
    refine ⟨fun m σ' H' => σ' = _ ∧ H' = _, ⟨0, rfl, rfl⟩, ?_⟩
    rintro m σ' H' ⟨rfl, rfl⟩
    walk_at "g"
    refine g_I (by walk_at "pow") ?_
    walk_at "g"
    have hlt : (n : Int) < 10 ^ (60 : Int).toNat := by
      have e : (10 : Int) ^ (60 : Int).toNat = ((10 ^ 60 : Nat) : Int) := by decide
      rw [e]
      exact Int.ofNat_lt.mpr hn
    refine g_dec (fun h => absurd h (by omega)) (fun _ => ?_)
    walk_at "g"
    refine ⟨tyL upd_same, ?_⟩
    walk_at "g"
    refine g_strI (by rw [Int.natAbs_natCast]; exact Nat.lt_trans hn (by decide)) ?_
    walk_at "g"
    refine g_app upd_same (by decide) ?_
    walk_at "g"
    refine ⟨p, _, rfl, SqL.of upd_same, fun r hr' => ?_⟩
    have ez : txN (n : Int) = TL.numL n := by unfold txN; rw [if_neg (by omega), Int.natAbs_natCast]
    refine ⟨_, r, [S (TL.numL n)], rfl, rfl, .inl (SqL.of (by rw [upd_same, ez]; rfl)), ?_, ?_⟩
    · have := TL.numL_len (n := n) (k := 60) (by decide) hn
      show (S (TL.numL n)).length + 0 + (0 + 1) * (Str.ofString "").length ≤ 16777216
      rw [S_len]
      have e0 : (Str.ofString "").length = 0 := rfl
      omega
    · rw [show Txt.join (Str.ofString "") [S (TL.numL n)] = S (TL.numL n) from join_S [] [TL.numL n]]
      refine q _ (Ex.mut (Ex.mut (Ex.mut (Ex.refl H) hp) hp) (Ex.free (Ex.mut (Ex.mut (Ex.refl H) hp) hp) hr'))
theorem ok_Ratio_text (T : Tx K mg a) : FnOk P w K mg base CX0 2 a.f_Ratio_text a.d_Ratio_text P_Ratio_text (spTextR a.C_Ratio) := by
  refine def_ok0 T.F_Ratio_text sc_Ratio_text (fun vs H Q E h => ?_) (fun cdv A outer s H vs Q E hr h => ?_)
  · obtain ⟨x, q, rfl, _⟩ := h
    rfl
  · obtain ⟨x, q, rfl, hx, h1, h2, z⟩ := h
    refine ⟨_, (pss_cons (ps_set (i := 1) sc_Ratio_text.nd rfl (Or.inl rfl) (pe_ifExp (pt_cmpR op_lt (pe_fld (pv 0) rfl) pe_int (nomark _)) pe_str pe_str)) (pss_cons (ps_set (i := 2) sc_Ratio_text.nd rfl (Or.inl rfl) (pe_op op_adS (pv 1) (pe_call (ok_numeral T) (hr.mono (by decide)) (by rfl) T.g_numeral T.F_numeral.kp (bd_numeral T) .nil pass0 (pa_cons (pe_callB cr_absI (by rfl) T.b_abs (by decide +kernel) (pa_cons (pe_fld (pv 0) rfl) pa_nil)) pa_nil)))) (pss_cons (ps_if (pt_cmpR op_eq (pe_fld (pv 0) rfl) pe_int (nomark _)) (pss_one (ps_ret (pv 2))) pss_nil) (pss_one (ps_ret (pe_op op_adS (pe_op op_adS (pv 2) pe_str) (pe_call (ok_numeral T) (hr.mono (by decide)) (by rfl) T.g_numeral T.F_numeral.kp (bd_numeral T) .nil pass0 (pa_cons (pe_fld (pv 0) rfl) pa_nil)))))))), ?_⟩
    walk_at "g"
    refine g_top T.R.cl T.R.nT hx ?_
    walk_at "g"
    have l1 := TL.numL_len (n := q.num.natAbs) (k := 60) (by decide) h1
    have l2 := TL.numL_len (n := q.den) (k := 60) (by decide) h2
    refine g_iteC (u := .str (S (if q.num < 0 then [45] else []))) (fun h => by rw [if_pos h]; rfl) (fun h => by rw [if_neg h]; rfl) ?_
    walk_at "g"
    refine g_top T.R.cl T.R.nT hx ?_
    walk_at "g"
    refine ⟨_, rfl, h1, fun H1 e1 => ?_⟩
    have hx1 := hx.mono e1
    refine g_adS (by split <;> simp <;> omega) ?_
    rw [txN_abs]
    have l3 : (txN q.num).length ≤ 61 := by
      rw [← txN_abs]; split <;> simp <;> omega
    walk_at "g"
    refine g_bottom T.R.cl T.R.nB hx1 ?_
    walk_at "g"
    refine g_dec (fun h => ?_) (fun h => ?_)
    · walk_at "g"
      rw [← txR_one h]
      exact z H1 e1
    · walk_at "g"
      rw [show (Str.ofString "/") = S [47] from rfl]
      refine g_adS (by show (txN q.num).length + 1 ≤ 100000; omega) ?_
      walk_at "g"
      refine g_bottom T.R.cl T.R.nB hx1 ?_
      walk_at "g"
      refine ⟨_, rfl, h2, fun H2 e2 => ?_⟩
      refine g_adS (by rw [List.length_append]; show (txN q.num).length + 1 + (TL.numL q.den).length ≤ 100000; omega) ?_
      rw [List.append_assoc]
      show Q (.str (S (txN q.num ++ 47 :: TL.numL q.den))) H2
      rw [← txR_more h]
      exact z H2 (e1.trans e2)
theorem ok_Ratio_textH (T : Tx K mg a) : FnH P w K mg base CX0 2 a.f_Ratio_text a.d_Ratio_text P_Ratio_text (spTextR a.C_Ratio) := by
  refine def_okH T.F_Ratio_text sc_Ratio_text (fun vs H Q E h => ?_) (fun cdv A outer s H vs Q E p0 hot hr h => ?_)
  · obtain ⟨x, q, rfl, _⟩ := h
    rfl
  · obtain ⟨x, q, rfl, hx, h1, h2, z⟩ := h
    refine ⟨_, (pss_cons (ps_set (i := 1) sc_Ratio_text.nd rfl (Or.inl rfl) (pe_ifExp (pt_cmpR op_lt (pe_fld (pv 0) rfl) pe_int (nomark _)) pe_str pe_str)) (pss_cons (ps_set (i := 2) sc_Ratio_text.nd rfl (Or.inl rfl) (pe_op op_adS (pv 1) (pe_callH0 (ok_numeralH T) (hr.mono (by decide)) ⟨p0, hot, List.mem_singleton.mpr rfl⟩ (by rfl) T.g_numeral T.F_numeral.kp (bd_numeral T) (pa_cons (pe_callB cr_absI (by rfl) T.b_abs (by decide +kernel) (pa_cons (pe_fld (pv 0) rfl) pa_nil)) pa_nil)))) (pss_cons (ps_if (pt_cmpR op_eq (pe_fld (pv 0) rfl) pe_int (nomark _)) (pss_one (ps_ret (pv 2))) pss_nil) (pss_one (ps_ret (pe_op op_adS (pe_op op_adS (pv 2) pe_str) (pe_callH0 (ok_numeralH T) (hr.mono (by decide)) ⟨p0, hot, List.mem_singleton.mpr rfl⟩ (by rfl) T.g_numeral T.F_numeral.kp (bd_numeral T) (pa_cons (pe_fld (pv 0) rfl) pa_nil)))))))), ?_⟩
    walk_at "g"
    refine g_top T.R.cl T.R.nT hx ?_
    walk_at "g"
    have l1 := TL.numL_len (n := q.num.natAbs) (k := 60) (by decide) h1
    have l2 := TL.numL_len (n := q.den) (k := 60) (by decide) h2
    refine g_iteC (u := .str (S (if q.num < 0 then [45] else []))) (fun h => by rw [if_pos h]; rfl) (fun h => by rw [if_neg h]; rfl) ?_
    walk_at "g"
    refine g_top T.R.cl T.R.nT hx ?_
    walk_at "g"
    refine ⟨_, rfl, h1, fun H1 e1 => ?_⟩
    have hx1 := hx.mono e1
    refine g_adS (by split <;> simp <;> omega) ?_
    rw [txN_abs]
    have l3 : (txN q.num).length ≤ 61 := by
      rw [← txN_abs]; split <;> simp <;> omega
    walk_at "g"
    refine g_bottom T.R.cl T.R.nB hx1 ?_
    walk_at "g"
    refine g_dec (fun h => ?_) (fun h => ?_)
    · walk_at "g"
      rw [← txR_one h]
      exact z H1 e1
    · walk_at "g"
      rw [show (Str.ofString "/") = S [47] from rfl]
      refine g_adS (by show (txN q.num).length + 1 ≤ 100000; omega) ?_
      walk_at "g"
      refine g_bottom T.R.cl T.R.nB hx1 ?_
      walk_at "g"
      refine ⟨_, rfl, h2, fun H2 e2 => ?_⟩
      refine g_adS (by rw [List.length_append]; show (txN q.num).length + 1 + (TL.numL q.den).length ≤ 100000; omega) ?_
      rw [List.append_assoc]
      show Q (.str (S (txN q.num ++ 47 :: TL.numL q.den))) H2
      rw [← txR_more h]
      exact z H2 (e1.trans e2)
theorem shown_step (T : Tx K mg a) {n k : Nat} (hk : 2 ≤ k) (F' : FnOk P w K mg base CX0 k a.f_Lshown a.d_Lshown P_Lshown (spV a.G (fdTxt n))) (hn : n ≤ 2) : FnOk P w K mg base CX0 (k + 1) a.f_Lshown a.d_Lshown P_Lshown (spV a.G (fdTxt (n + 1))) := by
  refine def_ok0 T.F_Lshown sc_Lshown (fun vs H Q E h => ?_) (fun cdv A outer s H vs Q E hr h => ?_)
  · obtain ⟨ds, X, hv, _, ⟨d, rfl, _⟩, _⟩ := h
    exact hv.length
  · refine ⟨_, (pss_cons (ps_if (pt_val (pe_callB call_isi (by rfl) T.b_isinstance (by decide +kernel) (pa_cons (pv 0) (pa_cons (pe_glob (v := .ref a.C_Ratio) rfl T.g_Ratio rfl) pa_nil)))) (pss_one (ps_ret (pe_op op_adS (pe_op op_adS pe_str (pe_meth0 (pv 0) T.R.cl T.m_Ratio_text (ok_Ratio_text T) (hr.mono hk) (bd_Ratio_text T) .nil pass0)) pe_str))) pss_nil) (pss_cons (ps_if (pt_val (pe_callB call_isi (by rfl) T.b_isinstance (by decide +kernel) (pa_cons (pv 0) (pa_cons (pe_bltn (v := .ty "tuple") (by rfl) T.b_tuple (by decide +kernel) rfl) pa_nil)))) (pss_one (ps_ret (pe_op op_adS (pe_op op_adS pe_str (pe_join pe_str (pe_lc (own := [("_law_item", 1)]) (g := (gName 1)) (tt := tYes) rfl sc_Lshown.nd (pi_seq (pv 0)) (blkOk_by (N := N_Lshown) (sc := defScope s_Lshown) (by decide +kernel)) (fun _ _ _ _ _ => pg_name (i := 1) sc_Lshown.nd rfl (Or.inl rfl)) (fun _ _ _ _ _ => pts_nil) (fun _ _ _ _ _ => (pe_call F' hr (by rfl) T.g_Lshown T.F_Lshown.kp (bd_Lshown T) .nil pass0 (pa_cons (pv 1) pa_nil)))))) pe_str))) pss_nil) (pss_cons (ps_if (pt_val (pe_callB call_isi (by rfl) T.b_isinstance (by decide +kernel) (pa_cons (pv 0) (pa_cons (pe_bltn (v := .ty "list") (by rfl) T.b_list (by decide +kernel) rfl) pa_nil)))) (pss_one (ps_ret (pe_op op_adS (pe_op op_adS pe_str (pe_join pe_str (pe_lc (own := [("_law_item", 1)]) (g := (gName 1)) (tt := tYes) rfl sc_Lshown.nd (pi_seq (pv 0)) (blkOk_by (N := N_Lshown) (sc := defScope s_Lshown) (by decide +kernel)) (fun _ _ _ _ _ => pg_name (i := 1) sc_Lshown.nd rfl (Or.inl rfl)) (fun _ _ _ _ _ => pts_nil) (fun _ _ _ _ _ => (pe_call F' hr (by rfl) T.g_Lshown T.F_Lshown.kp (bd_Lshown T) .nil pass0 (pa_cons (pv 1) pa_nil)))))) pe_str))) pss_nil) (pss_cons (ps_if (pt_val (pe_callB call_isi (by rfl) T.b_isinstance (by decide +kernel) (pa_cons (pv 0) (pa_cons (pe_bltn (v := .ty "dict") (by rfl) T.b_dict (by decide +kernel) rfl) pa_nil)))) (pss_one ps_never) pss_nil) (pss_one (ps_ret (pe_callB cr_reprF (by rfl) T.b_repr (by decide +kernel) (pa_cons (pv 0) pa_nil)))))))), ?_⟩
    refine spV.def (G := a.G) (E := E0) (PUS.seq (PUS.ifS (PUT.b (PU.isRat T.R (PU.var (i := 0)))) (PUS.ret (PU.op RD.catS (PU.op RD.catS PU.cs (PU.textR (PU.var (i := 0)))) PU.cs)) PUS.next) (PUS.seq (PUS.ifS (PUT.b (PU.isTup T.R T.R2 (PU.var (i := 0)))) (PUS.ret (PU.op RD.catS (PU.op RD.catS PU.cs (PU.join PU.cs (PUF.toV (PUF.lc (i := 1) (E1 := E0) (E2 := E0) (PUI.seqV (i := 0)) PUT.yes (PU.call (PUA.cons (PU.var (i := 1)) PUA.nil)))))) PU.cs)) PUS.next) (PUS.seq (PUS.ifS (PUT.b (PU.isLst T.R T.R2 (PU.var (i := 0)))) (PUS.ret (PU.op RD.catS (PU.op RD.catS PU.cs (PU.join PU.cs (PUF.toV (PUF.lc (i := 1) (E1 := E0) (E2 := E0) (PUI.seqV (i := 0)) PUT.yes (PU.call (PUA.cons (PU.var (i := 1)) PUA.nil)))))) PU.cs)) PUS.next) (PUS.seq (PUS.ifS (PUT.b (PU.isDic T.R T.R2 (PU.var (i := 0)))) PUS.never PUS.next) (PUS.ret (PU.cbn CD.reprT (PUA.cons (PU.var (i := 0)) PUA.nil))))))) (fun ds hp => ?_) h
    obtain ⟨d, rfl, hd⟩ := hp
    have hb : 8 * 40 ^ (n + 1) ≤ 512000 := Nat.le_trans (Nat.mul_le_mul_left _ (Nat.pow_le_pow_right (by decide) (by omega : n + 1 ≤ 3))) (by decide)
    have hb0 : 8 * 40 ^ n ≤ 512000 := Nat.le_trans (Nat.mul_le_mul_left _ (Nat.pow_le_pow_right (by decide) (by omega : n ≤ n + 1))) hb
    have two : ∀ l : List Dt, l.length ≤ 30 → (∀ d ∈ l, Dt.shw n d) → (((txls l).map S).map (·.length)).sum + (txls l).length * [44, 32].length ≤ 16777216 := fun l hl hd => by
      have m : ∀ x ∈ txls l, x.length ≤ 512000 := fun x hx => by
        rw [txls_map] at hx
        obtain ⟨e, he, rfl⟩ := List.mem_map.mp hx
        exact Nat.le_trans (txl_ok n e (hd e he)).2 hb0
      have h1 := joinL_sum [44, 32] (txls l) m
      have e : (txls l).length = l.length := by rw [txls_map, List.length_map]
      rw [e] at h1 ⊢
      have h2 : l.length * 512000 ≤ 30 * 512000 := Nat.mul_le_mul_right _ hl
      show _ + _ * 2 ≤ _
      omega
    have ll := (txl_ok (n + 1) d hd).2
    cases d with
    | rat q =>
      have hd : q.num.natAbs < 10 ^ 60 ∧ q.den < 10 ^ 60 := hd
      have hl := txR_len (k := 60) (by decide) hd.1 hd.2
      exact ⟨_, rfl, _, rfl, _, rfl, ite_t ⟨_, rfl, q, rfl, hd.1, hd.2, [60], txR q, rfl, rfl, by show 1 + _ ≤ 2 ^ 24; omega, [60] ++ txR q, [62], rfl, rfl, by rw [List.length_append]; show 1 + (txR q).length + 1 ≤ 2 ^ 24; omega, ⟨_, rfl, by unfold Dt.txl; rfl⟩⟩⟩
    | tup l =>
      have hd : l.length ≤ 30 ∧ ∀ d ∈ l, Dt.shw n d := hd
      unfold Dt.txl at ll
      rw [List.length_append, List.length_append] at ll
      have ll : 1 + (TL.joinL [44, 32] (txls l)).length + 2 ≤ 8 * 40 ^ (n + 1) := ll
      refine ⟨_, rfl, _, rfl, _, rfl, ite_f ⟨_, rfl, _, rfl, _, rfl, ite_t ⟨[44, 32], rfl, l, .inr rfl, lcP_map (g := fun x => .str (S x.txl)) _ _ rfl (by simp; omega) rfl (fun x hx K hK => ?_) ?_⟩⟩⟩
      · refine ⟨x, rfl, ⟨x, rfl, hd.2 x hx⟩, ?_⟩
        rintro _ ⟨x', e, rfl⟩
        cases e
        exact hK
      · refine ⟨txls l, by rw [List.nil_append, txls_map, List.map_map, List.map_map]; rfl, two l hd.1 hd.2, [40], _, rfl, rfl, by show 1 + _ ≤ 2 ^ 24; omega, _, [44, 41], rfl, rfl, by rw [List.length_append]; show 1 + _ + 2 ≤ 2 ^ 24; omega, _, rfl, by unfold Dt.txl; rfl⟩
    | lst l =>
      have hd : l.length ≤ 30 ∧ ∀ d ∈ l, Dt.shw n d := hd
      unfold Dt.txl at ll
      rw [List.length_append, List.length_append] at ll
      have ll : 1 + (TL.joinL [44, 32] (txls l)).length + 1 ≤ 8 * 40 ^ (n + 1) := ll
      refine ⟨_, rfl, _, rfl, _, rfl, ite_f ⟨_, rfl, _, rfl, _, rfl, ite_f ⟨_, rfl, _, rfl, _, rfl, ite_t ⟨[44, 32], rfl, l, .inl rfl, lcP_map (g := fun x => .str (S x.txl)) _ _ rfl (by simp; omega) rfl (fun x hx K hK => ?_) ?_⟩⟩⟩⟩
      · refine ⟨x, rfl, ⟨x, rfl, hd.2 x hx⟩, ?_⟩
        rintro _ ⟨x', e, rfl⟩
        cases e
        exact hK
      · refine ⟨txls l, by rw [List.nil_append, txls_map, List.map_map, List.map_map]; rfl, two l hd.1 hd.2, [91], _, rfl, rfl, by show 1 + _ ≤ 2 ^ 24; omega, _, [93], rfl, rfl, by rw [List.length_append]; show 1 + _ + 1 ≤ 2 ^ 24; omega, _, rfl, by unfold Dt.txl; rfl⟩
    | dic _ => exact hd.elim
    | scl _ => exact hd.elim
    | non => exact ⟨_, rfl, _, rfl, _, rfl, ite_f ⟨_, rfl, _, rfl, _, rfl, ite_f ⟨_, rfl, _, rfl, _, rfl, ite_f ⟨_, rfl, _, rfl, _, rfl, ite_f ⟨_, rfl, _, rfl, trivial, _, rfl, rfl⟩⟩⟩⟩⟩
    | bl b => exact ⟨_, rfl, _, rfl, _, rfl, ite_f ⟨_, rfl, _, rfl, _, rfl, ite_f ⟨_, rfl, _, rfl, _, rfl, ite_f ⟨_, rfl, _, rfl, _, rfl, ite_f ⟨_, rfl, _, rfl, trivial, _, rfl, rfl⟩⟩⟩⟩⟩
    | int i => exact ⟨_, rfl, _, rfl, _, rfl, ite_f ⟨_, rfl, _, rfl, _, rfl, ite_f ⟨_, rfl, _, rfl, _, rfl, ite_f ⟨_, rfl, _, rfl, _, rfl, ite_f ⟨_, rfl, _, rfl, hd, _, rfl, rfl⟩⟩⟩⟩⟩
    | str s => exact ⟨_, rfl, _, rfl, _, rfl, ite_f ⟨_, rfl, _, rfl, _, rfl, ite_f ⟨_, rfl, _, rfl, _, rfl, ite_f ⟨_, rfl, _, rfl, _, rfl, ite_f ⟨_, rfl, _, rfl, hd.2, _, rfl, rfl⟩⟩⟩⟩⟩
theorem shown_stepH (T : Tx K mg a) {n k : Nat} (hk : 2 ≤ k) (F' : FnH P w K mg base CX0 k a.f_Lshown a.d_Lshown P_Lshown (spV a.G (fdTxt n))) (hn : n ≤ 2) : FnH P w K mg base CX0 (k + 1) a.f_Lshown a.d_Lshown P_Lshown (spV a.G (fdTxt (n + 1))) := by
  refine def_okH T.F_Lshown sc_Lshown (fun vs H Q E h => ?_) (fun cdv A outer s H vs Q E p0 hot hr h => ?_)
  · obtain ⟨ds, X, hv, _, ⟨d, rfl, _⟩, _⟩ := h
    exact hv.length
  · refine ⟨_, (pss_cons (ps_if (pt_val (pe_callB call_isi (by rfl) T.b_isinstance (by decide +kernel) (pa_cons (pv 0) (pa_cons (pe_glob (v := .ref a.C_Ratio) rfl T.g_Ratio rfl) pa_nil)))) (pss_one (ps_ret (pe_op op_adS (pe_op op_adS pe_str (pe_methH0 (pv 0) T.R.cl T.m_Ratio_text (ok_Ratio_textH T) (hr.mono hk) ⟨p0, hot, List.mem_singleton.mpr rfl⟩ (bd_Ratio_text T))) pe_str))) pss_nil) (pss_cons (ps_if (pt_val (pe_callB call_isi (by rfl) T.b_isinstance (by decide +kernel) (pa_cons (pv 0) (pa_cons (pe_bltn (v := .ty "tuple") (by rfl) T.b_tuple (by decide +kernel) rfl) pa_nil)))) (pss_one (ps_ret (pe_op op_adS (pe_op op_adS pe_str (pe_join pe_str (pe_lcH (own := [("_law_item", 1)]) (g := (gName 1)) (tt := tYes) ⟨p0, hot, List.mem_singleton.mpr rfl⟩ sc_Lshown.nd (pi_seqH (pv 0)) (blkOk_by (N := N_Lshown) (sc := defScope s_Lshown) (by decide +kernel)) (fun _ _ _ _ _ _ _ => pg_name (i := 1) sc_Lshown.nd rfl (Or.inl rfl)) (fun _ _ _ _ _ _ _ => pts_nil) (fun _ _ _ _ _ q hq => (pe_callH0 F' hr ⟨q, hq, List.mem_singleton.mpr rfl⟩ (by rfl) T.g_Lshown T.F_Lshown.kp (bd_Lshown T) (pa_cons (pv 1) pa_nil)))))) pe_str))) pss_nil) (pss_cons (ps_if (pt_val (pe_callB call_isi (by rfl) T.b_isinstance (by decide +kernel) (pa_cons (pv 0) (pa_cons (pe_bltn (v := .ty "list") (by rfl) T.b_list (by decide +kernel) rfl) pa_nil)))) (pss_one (ps_ret (pe_op op_adS (pe_op op_adS pe_str (pe_join pe_str (pe_lcH (own := [("_law_item", 1)]) (g := (gName 1)) (tt := tYes) ⟨p0, hot, List.mem_singleton.mpr rfl⟩ sc_Lshown.nd (pi_seqH (pv 0)) (blkOk_by (N := N_Lshown) (sc := defScope s_Lshown) (by decide +kernel)) (fun _ _ _ _ _ _ _ => pg_name (i := 1) sc_Lshown.nd rfl (Or.inl rfl)) (fun _ _ _ _ _ _ _ => pts_nil) (fun _ _ _ _ _ q hq => (pe_callH0 F' hr ⟨q, hq, List.mem_singleton.mpr rfl⟩ (by rfl) T.g_Lshown T.F_Lshown.kp (bd_Lshown T) (pa_cons (pv 1) pa_nil)))))) pe_str))) pss_nil) (pss_cons (ps_if (pt_val (pe_callB call_isi (by rfl) T.b_isinstance (by decide +kernel) (pa_cons (pv 0) (pa_cons (pe_bltn (v := .ty "dict") (by rfl) T.b_dict (by decide +kernel) rfl) pa_nil)))) (pss_one ps_never) pss_nil) (pss_one (ps_ret (pe_callB cr_reprF (by rfl) T.b_repr (by decide +kernel) (pa_cons (pv 0) pa_nil)))))))), ?_⟩
    refine spV.def (G := a.G) (E := E0) (PUS.seq (PUS.ifS (PUT.b (PU.isRat T.R (PU.var (i := 0)))) (PUS.ret (PU.op RD.catS (PU.op RD.catS PU.cs (PU.textR (PU.var (i := 0)))) PU.cs)) PUS.next) (PUS.seq (PUS.ifS (PUT.b (PU.isTup T.R T.R2 (PU.var (i := 0)))) (PUS.ret (PU.op RD.catS (PU.op RD.catS PU.cs (PU.join PU.cs (PUF.toV (PUF.lc (i := 1) (E1 := E0) (E2 := E0) (PUI.seqV (i := 0)) PUT.yes (PU.call (PUA.cons (PU.var (i := 1)) PUA.nil)))))) PU.cs)) PUS.next) (PUS.seq (PUS.ifS (PUT.b (PU.isLst T.R T.R2 (PU.var (i := 0)))) (PUS.ret (PU.op RD.catS (PU.op RD.catS PU.cs (PU.join PU.cs (PUF.toV (PUF.lc (i := 1) (E1 := E0) (E2 := E0) (PUI.seqV (i := 0)) PUT.yes (PU.call (PUA.cons (PU.var (i := 1)) PUA.nil)))))) PU.cs)) PUS.next) (PUS.seq (PUS.ifS (PUT.b (PU.isDic T.R T.R2 (PU.var (i := 0)))) PUS.never PUS.next) (PUS.ret (PU.cbn CD.reprT (PUA.cons (PU.var (i := 0)) PUA.nil))))))) (fun ds hp => ?_) h
    obtain ⟨d, rfl, hd⟩ := hp
    have hb : 8 * 40 ^ (n + 1) ≤ 512000 := Nat.le_trans (Nat.mul_le_mul_left _ (Nat.pow_le_pow_right (by decide) (by omega : n + 1 ≤ 3))) (by decide)
    have hb0 : 8 * 40 ^ n ≤ 512000 := Nat.le_trans (Nat.mul_le_mul_left _ (Nat.pow_le_pow_right (by decide) (by omega : n ≤ n + 1))) hb
    have two : ∀ l : List Dt, l.length ≤ 30 → (∀ d ∈ l, Dt.shw n d) → (((txls l).map S).map (·.length)).sum + (txls l).length * [44, 32].length ≤ 16777216 := fun l hl hd => by
      have m : ∀ x ∈ txls l, x.length ≤ 512000 := fun x hx => by
        rw [txls_map] at hx
        obtain ⟨e, he, rfl⟩ := List.mem_map.mp hx
        exact Nat.le_trans (txl_ok n e (hd e he)).2 hb0
      have h1 := joinL_sum [44, 32] (txls l) m
      have e : (txls l).length = l.length := by rw [txls_map, List.length_map]
      rw [e] at h1 ⊢
      have h2 : l.length * 512000 ≤ 30 * 512000 := Nat.mul_le_mul_right _ hl
      show _ + _ * 2 ≤ _
      omega
    have ll := (txl_ok (n + 1) d hd).2
    cases d with
    | rat q =>
      have hd : q.num.natAbs < 10 ^ 60 ∧ q.den < 10 ^ 60 := hd
      have hl := txR_len (k := 60) (by decide) hd.1 hd.2
      exact ⟨_, rfl, _, rfl, _, rfl, ite_t ⟨_, rfl, q, rfl, hd.1, hd.2, [60], txR q, rfl, rfl, by show 1 + _ ≤ 2 ^ 24; omega, [60] ++ txR q, [62], rfl, rfl, by rw [List.length_append]; show 1 + (txR q).length + 1 ≤ 2 ^ 24; omega, ⟨_, rfl, by unfold Dt.txl; rfl⟩⟩⟩
    | tup l =>
      have hd : l.length ≤ 30 ∧ ∀ d ∈ l, Dt.shw n d := hd
      unfold Dt.txl at ll
      rw [List.length_append, List.length_append] at ll
      have ll : 1 + (TL.joinL [44, 32] (txls l)).length + 2 ≤ 8 * 40 ^ (n + 1) := ll
      refine ⟨_, rfl, _, rfl, _, rfl, ite_f ⟨_, rfl, _, rfl, _, rfl, ite_t ⟨[44, 32], rfl, l, .inr rfl, lcP_map (g := fun x => .str (S x.txl)) _ _ rfl (by simp; omega) rfl (fun x hx K hK => ?_) ?_⟩⟩⟩
      · refine ⟨x, rfl, ⟨x, rfl, hd.2 x hx⟩, ?_⟩
        rintro _ ⟨x', e, rfl⟩
        cases e
        exact hK
      · refine ⟨txls l, by rw [List.nil_append, txls_map, List.map_map, List.map_map]; rfl, two l hd.1 hd.2, [40], _, rfl, rfl, by show 1 + _ ≤ 2 ^ 24; omega, _, [44, 41], rfl, rfl, by rw [List.length_append]; show 1 + _ + 2 ≤ 2 ^ 24; omega, _, rfl, by unfold Dt.txl; rfl⟩
    | lst l =>
      have hd : l.length ≤ 30 ∧ ∀ d ∈ l, Dt.shw n d := hd
      unfold Dt.txl at ll
      rw [List.length_append, List.length_append] at ll
      have ll : 1 + (TL.joinL [44, 32] (txls l)).length + 1 ≤ 8 * 40 ^ (n + 1) := ll
      refine ⟨_, rfl, _, rfl, _, rfl, ite_f ⟨_, rfl, _, rfl, _, rfl, ite_f ⟨_, rfl, _, rfl, _, rfl, ite_t ⟨[44, 32], rfl, l, .inl rfl, lcP_map (g := fun x => .str (S x.txl)) _ _ rfl (by simp; omega) rfl (fun x hx K hK => ?_) ?_⟩⟩⟩⟩
      · refine ⟨x, rfl, ⟨x, rfl, hd.2 x hx⟩, ?_⟩
        rintro _ ⟨x', e, rfl⟩
        cases e
        exact hK
      · refine ⟨txls l, by rw [List.nil_append, txls_map, List.map_map, List.map_map]; rfl, two l hd.1 hd.2, [91], _, rfl, rfl, by show 1 + _ ≤ 2 ^ 24; omega, _, [93], rfl, rfl, by rw [List.length_append]; show 1 + _ + 1 ≤ 2 ^ 24; omega, _, rfl, by unfold Dt.txl; rfl⟩
    | dic _ => exact hd.elim
    | scl _ => exact hd.elim
    | non => exact ⟨_, rfl, _, rfl, _, rfl, ite_f ⟨_, rfl, _, rfl, _, rfl, ite_f ⟨_, rfl, _, rfl, _, rfl, ite_f ⟨_, rfl, _, rfl, _, rfl, ite_f ⟨_, rfl, _, rfl, trivial, _, rfl, rfl⟩⟩⟩⟩⟩
    | bl b => exact ⟨_, rfl, _, rfl, _, rfl, ite_f ⟨_, rfl, _, rfl, _, rfl, ite_f ⟨_, rfl, _, rfl, _, rfl, ite_f ⟨_, rfl, _, rfl, _, rfl, ite_f ⟨_, rfl, _, rfl, trivial, _, rfl, rfl⟩⟩⟩⟩⟩
    | int i => exact ⟨_, rfl, _, rfl, _, rfl, ite_f ⟨_, rfl, _, rfl, _, rfl, ite_f ⟨_, rfl, _, rfl, _, rfl, ite_f ⟨_, rfl, _, rfl, _, rfl, ite_f ⟨_, rfl, _, rfl, hd, _, rfl, rfl⟩⟩⟩⟩⟩
    | str s => exact ⟨_, rfl, _, rfl, _, rfl, ite_f ⟨_, rfl, _, rfl, _, rfl, ite_f ⟨_, rfl, _, rfl, _, rfl, ite_f ⟨_, rfl, _, rfl, _, rfl, ite_f ⟨_, rfl, _, rfl, hd.2, _, rfl, rfl⟩⟩⟩⟩⟩
theorem ok_Lshown (T : Tx K mg a) : FnOk P w K mg base CX0 5 a.f_Lshown a.d_Lshown P_Lshown (spV a.G (fdTxt 3)) := by
  have b0 : FnOk P w K mg base CX0 2 a.f_Lshown a.d_Lshown P_Lshown (spV a.G (fdTxt 0)) := ⟨fun vs H Q E h => by
    obtain ⟨ds, X, hv, _, ⟨d, _, hd⟩, _⟩ := h
    exact hd.elim, fun A outer s H args us vs Q E hr he hb hv h => by
    obtain ⟨ds, X, hv, _, ⟨d, _, hd⟩, _⟩ := h
    exact hd.elim⟩
  exact shown_step T (by decide) (shown_step T (by decide) (shown_step T (by decide) b0 (by decide)) (by decide)) (by decide)
theorem ok_LshownH (T : Tx K mg a) : FnH P w K mg base CX0 5 a.f_Lshown a.d_Lshown P_Lshown (spV a.G (fdTxt 3)) := by
  have b0 : FnH P w K mg base CX0 2 a.f_Lshown a.d_Lshown P_Lshown (spV a.G (fdTxt 0)) := ⟨fun vs H Q E h => by
    obtain ⟨ds, X, hv, _, ⟨d, _, hd⟩, _⟩ := h
    exact hd.elim, fun A outer s H args us vs Q E p0 hr hot hpin he hb hv h => by
    obtain ⟨ds, X, hv, _, ⟨d, _, hd⟩, _⟩ := h
    exact hd.elim⟩
  exact shown_stepH T (by decide) (shown_stepH T (by decide) (shown_stepH T (by decide) b0 (by decide)) (by decide)) (by decide)
end
end Kx


set_option maxHeartbeats 4000000
namespace Kx
open PySem PySem.Spec PyProof.Rows L2 Fm SX
open L2H (FnH RoomH HotC Hot1)
theorem hot_suite {X : Cx} {a : Addr} {oe : Obj} {k : Value} {d : Option Addr} {pn : List (Addr × Obj)} (hz : L2N.Zn k d oe) (hf : ∃ vs, oe.data = .fields vs) : HotC (X.suite a ((a, oe) :: pn)) :=
  let ⟨vs, e⟩ := hf
  ⟨(a, oe), ⟨rfl, vs, e, hz.2.2 vs e⟩, List.mem_cons_self⟩
theorem roomH_mk {k : Nat} {A : Around} (r : Room k A) (h : Option Value) : RoomH k (A.mark h) := ⟨r.dp, r.un⟩
def fdCoversL : FD where
  pre := fun ds => ∃ ms ps : List Rat, ds = [.lst (ms.map .rat), .lst (ps.map .rat)] ∧ ps.length = ms.length ∧ ms.length ≤ 8 ∧ (∀ q ∈ ms, Sz 45 q) ∧ ∀ p ∈ ps, Sz 45 p
  post := fun ds d => ∃ ms ps : List Rat, ds = [.lst (ms.map .rat), .lst (ps.map .rat)] ∧ d = .lst ((coversR ps ms).map .rat)
def fdFaultL : FD where
  pre := fun ds => ∃ ms hs : List Rat, ds = [.lst (ms.map .rat), .lst (hs.map .rat)] ∧ 1 ≤ ms.length ∧ ms.length ≤ 8 ∧ hs.length = ms.length ∧ ms.Pairwise (· < ·) ∧ (∀ q ∈ ms, Sz 1000 q) ∧ (∀ q ∈ hs, Sz 1000 q) ∧ SzDD ms hs
  post := fun ds d => ∃ ms hs : List Rat, ds = [.lst (ms.map .rat), .lst (hs.map .rat)] ∧ d = .lst [faultD ms hs, .lst ((toldR ms hs).map .rat)]
def askedC (j : Int) (qs : List Rat) (d : Dt) : Dt :=
  if j = 0 then (if lotB d qs.length = true then .lst ((coversR (nums d.items) qs).map .rat) else .lst [.str "lot", .str (S d.txl)]) else
  if curveB d qs.length = true then (if j = 1 then faultD qs (nums d.items) else lotOfD qs (nums d.items)) else .lst [.str "numbers", .str (S d.txl)]
def fdAskedC : FD where
  pre := fun ds => ∃ (j : Int) (qs : List Rat) (d : Dt), ds = [.int j, .scl qs, d] ∧ qs.length ≤ 8 ∧ (∀ q ∈ qs, Sz 45 q) ∧ d.Ok 45 ∧ (j = 0 → lotB d qs.length = false → d.shw 3) ∧ (j ≠ 0 → PriceOk qs d ∧ (curveB d qs.length = false → d.shw 3))
  post := fun ds r => ∃ (j : Int) (qs : List Rat) (d : Dt), ds = [.int j, .scl qs, d] ∧ r = askedC j qs d
def fdAskedL : FD where
  pre := fun ds => ∃ (qs : List Rat) (d : Dt), ds = [.int 0, .scl qs, d] ∧ qs.length ≤ 8 ∧ (∀ q ∈ qs, Sz 45 q) ∧ d.Ok 45 ∧ (lotB d qs.length = false → d.shw 3)
  post := fun ds r => ∃ (qs : List Rat) (d : Dt), ds = [.int 0, .scl qs, d] ∧ r = askedC 0 qs d
theorem ints_cons {k : Nat} {is : List Nat} {Kk : Dt → Prop} (h : Kk (.bl true)) : O_eqD true (.lst (intsL (k :: is))) (.lst []) Kk :=
  ⟨_, _, ints_py (k :: is), ints_py [], ints_shaped (k :: is), ints_shaped [], by
    rw [if_pos rfl]
    have e : PyData.eqv (.list ((k :: is).map fun (i : Nat) => PyData.int (i : Int))) (.list (([] : List Nat).map fun (i : Nat) => PyData.int (i : Int))) = false := rfl
    rw [e]
    exact h⟩
theorem atF {l : List Rat} {k : Nat} (h : k < l.length) : atI (l.map Dt.rat) (k : Int) = some (.rat (fnL l k)) := by rw [fnL_at h]; exact at_rats l h
section
variable {P : Program} {w : World} {K : PySem.W.Frag} {mg : Str → Option Value} {base : Heap} {a : Ad}
theorem ok_LshownHD (T : Tx K mg a) : FnH P w K mg base CX0 5 a.f_Lshown a.d_Lshown P_Lshown (spV a.G (fdTxt 3)) := ok_LshownH T
theorem ok_Lcovers (T : Tx K mg a) : FnOk P w K mg base CX0 6 a.f_Lcovers a.d_Lcovers P_Lcovers (spL a.G fdCoversL) := by
  refine def_ok0 T.F_Lcovers sc_Lcovers (fun vs H Q E h => ?_) (fun cdv A outer s H vs Q E hr h => ?_)
  · obtain ⟨ds, X, hv, _, ⟨ms, ps, rfl, _⟩, _⟩ := h
    exact hv.length
  · refine ⟨_, (pss_cons (ps_set (i := 2) sc_Lcovers.nd rfl (Or.inl rfl) (pe_lst pa_nil)) (pss_cons (ps_for PassesOwn.never rfl (pi_list (pv 0)) (pg_name (i := 3) sc_Lcovers.nd rfl (Or.inr rfl)) (pss_cons (ps_setLc (i := 4) (own := [("_law_other", 5)]) (g := (gName 5)) (tt := tYes) rfl sc_Lcovers.nd rfl rfl (sw_true rfl rfl rfl (by decide +kernel)) (pi_list (pv 0)) (blkOk_by (N := N_Lcovers) (sc := defScope s_Lcovers) (by decide +kernel)) (fun _ _ _ _ _ => pg_name (i := 5) sc_Lcovers.nd rfl (Or.inl rfl)) (fun _ _ _ _ _ => pts_nil) (fun _ _ _ _ _ => (pe_ifExp (pt_cmpR (op_cmpV (K := K) rfl (fun _ _ => rfl) T.p_lt (ok_Ratio_lt T) (hr.mono (by decide)) (bd_Ratio_lt T) pass0) (pv 3) (pv 5) (nomark _)) (pe_op (op_own T.o_sub (ok_Ratio_sub T) (hr.mono (by decide)) (bd_Ratio_sub T) pass0) (pv 5) (pv 3)) (pe_make T.mk_Ratio (ok_Ratio_init T) (hr.mono (by decide)) (by rfl) T.g_Ratio (bd1_Ratio_init T).choose_spec.2 (bd1_Ratio_init T).choose_spec.1 pass0 (pa_cons pe_int pa_nil))))) (pss_one (ps_expr (pe_bm PySem.F.plainAttrs_list PySem.F.slot_list_append PySem.F.type_list_append mt_append (pv 2) (pa_cons (pe_call (ok_Lmean T) (hr.mono (by decide)) (by rfl) T.g_Lmean T.F_Lmean.kp (bd_Lmean T) .nil pass0 (pa_cons (pv 1) (pa_cons (pv 4) pa_nil))) pa_nil)))))) (pss_one (ps_ret (pv 2))))), ?_⟩
    refine spL.def (G := a.G) (E := E0) (PUS.seq (PUS.setF (i := 2) (PUF.lst PUA.nil)) (PUS.seq (PUS.for (PUI.list (PU.var (i := 0))) (PUG.name (i := 3)) (PUS.seq (PUS.set (i := 4) (PUF.toV (PUF.lc (i := 5) (E1 := E0) (E2 := E0) (PUI.list (PU.var (i := 0))) PUT.yes (PU.ife (PUT.test (PU.op (RD.rel2 T.R) (PU.var (i := 3)) (PU.var (i := 5)))) (PU.op RD.num2 (PU.var (i := 5)) (PU.var (i := 3))) (PU.mkR1 (PUA.cons PU.ci PUA.nil)))))) (PUS.app (i := 2) (PU.call (PUA.cons (PU.var (i := 1)) (PUA.cons (PU.var (i := 4)) PUA.nil)))))) (PUS.retF (PUF.mv (i := 2))))) (fun ds hp => ?_) h
    obtain ⟨ms, ps, rfl, hl, h8, hm, hp⟩ := hp
    refine ⟨by decide, _, rfl, _, rfl, ?_⟩
    refine forP_inv (fun c ρ => ∃ u v, ρ = [.val (.lst (ms.map .rat)), .val (.lst (ps.map .rat)), .own (((coversR ps ms).take c).map .rat), u, v, .un]) ⟨.un, .un, rfl⟩ (fun c x ρ K hx hI hK => ?_) (fun ρ hI => ?_)
    · obtain ⟨u, v, rfl⟩ := hI
      rw [List.getElem?_map] at hx
      have hc : c < ms.length := by
        by_cases h : c < ms.length
        · exact h
        · rw [List.getElem?_eq_none (by omega)] at hx; cases hx
      rw [List.getElem?_eq_getElem hc] at hx
      have hx : Dt.rat ms[c] = x := Option.some.inj hx
      subst hx
      have s1 := hm _ (List.getElem_mem hc)
      refine ⟨_, rfl, _, rfl, ?_⟩
      refine lcP_map (g := fun y => .rat (coverR ms[c] y.num)) _ _ rfl (by rw [List.length_nil, List.length_map]; omega) rfl (fun y hy K2 hK2 => ?_) ?_
      · obtain ⟨q, hq, rfl⟩ := List.mem_map.mp hy
        have s2 := hm q hq
        refine ⟨_, rfl, _, rfl, _, rfl, rfl, sz_le' s1 (by decide), sz_le' s2 (by decide), _, rfl, ite_d (fun (h : ms[c] < q) => ?_) (fun (h : ¬ ms[c] < q) => ?_)⟩
        · have hK2 : K2 (.rat (coverR ms[c] q)) _ := hK2
          unfold coverR at hK2
          rw [if_pos h] at hK2
          exact ⟨_, rfl, _, rfl, _, rfl, rfl, sz_le' s2 (by decide), sz_le' s1 (by decide), hK2⟩
        · have hK2 : K2 (.rat (coverR ms[c] q)) _ := hK2
          unfold coverR at hK2
          rw [if_neg h] at hK2
          exact ⟨0, rfl, lt8 (k := 1) (by decide) (by decide), hK2⟩
      · rw [List.nil_append, List.map_map]
        have e : ms.map ((fun y : Dt => Dt.rat (coverR ms[c] y.num)) ∘ Dt.rat) = (ms.map (coverR ms[c])).map .rat := by rw [List.map_map]; rfl
        rw [e]
        refine ⟨⟨_, rfl⟩, _, rfl, _, rfl, ⟨ps, ms.map (coverR ms[c]), 45, 91, rfl, by rw [List.length_map]; exact hl, hp, fun q hq => ?_, ?_⟩, ?_⟩
        · obtain ⟨z, hz, rfl⟩ := List.mem_map.mp hq
          unfold coverR
          split
          · exact (hm z hz).sub' s1
          · exact sz_le' (a := 1) ⟨by decide, by decide⟩ (by decide)
        · exact Nat.le_trans (Nat.mul_le_mul_left _ (by omega : ps.length + 1 ≤ 9)) (by decide)
        · rintro _ ⟨ps', qs', e, rfl⟩
          injection e with e1 e2
          injection e2 with e2 _
          injection e1 with e1
          injection e2 with e2
          rw [← rats_inj e1, ← rats_inj e2]
          refine ⟨_, rfl, by rw [List.length_map, List.length_take]; omega, hK _ ⟨.val (.rat ms[c]), .val (.lst ((ms.map (coverR ms[c])).map .rat)), ?_⟩⟩
          have e3 : (coversR ps ms).take (c + 1) = (coversR ps ms).take c ++ [dotR ps (ms.map (coverR ms[c]))] := by
            unfold coversR
            rw [← List.map_take, ← List.map_take, List.take_succ_eq_append_getElem hc, List.map_append]
            rfl
          rw [e3, List.map_append]
          rfl
    · obtain ⟨u, v, rfl⟩ := hI
      refine ⟨_, rfl, ms, ps, rfl, ?_⟩
      rw [List.length_map, show ms.length = (coversR ps ms).length by unfold coversR; rw [List.length_map], List.take_length]
theorem ok_Lfault (T : Tx K mg a) : FnOk P w K mg base CX0 6 a.f_Lfault a.d_Lfault P_Lfault (spV a.G fdFaultL) := by
  refine def_ok0 T.F_Lfault sc_Lfault (fun vs H Q E h => ?_) (fun cdv A outer s H vs Q E hr h => ?_)
  · obtain ⟨ds, X, hv, _, ⟨ms, ps, rfl, _⟩, _⟩ := h
    exact hv.length
  · refine ⟨_, (pss_cons (ps_set (i := 2) sc_Lfault.nd rfl (Or.inr rfl) (pe_lst (pa_cons (pe_make T.mk_Ratio (ok_Ratio_init T) (hr.mono (by decide)) (by rfl) T.g_Ratio (bd1_Ratio_init T).choose_spec.2 (bd1_Ratio_init T).choose_spec.1 pass0 (pa_cons pe_int pa_nil)) pa_nil))) (pss_cons (ps_for PassesOwn.never rfl (pi_range2 (by rfl) T.b_range (pa_cons pe_int (pa_cons (pe_callB call_lenQ (by rfl) T.b_len (by decide +kernel) (pa_cons (pv 0) pa_nil)) pa_nil))) (pg_name (i := 3) sc_Lfault.nd rfl (Or.inl rfl)) (pss_cons (ps_set (i := 4) sc_Lfault.nd rfl (Or.inl rfl) (pe_op (op_own T.o_sub (ok_Ratio_sub T) (hr.mono (by decide)) (bd_Ratio_sub T) pass0) (pe_ix ix_list (pv 0) (pv 3) (fun _ _ => rfl)) (pe_ix ix_list (pv 0) (pe_op op_sub (pv 3) pe_int) (fun _ _ => rfl)))) (pss_one (ps_expr (pe_bm PySem.F.plainAttrs_list PySem.F.slot_list_append PySem.F.type_list_append mt_append (pv 2) (pa_cons (pe_meth (pe_op (op_own T.o_sub (ok_Ratio_sub T) (hr.mono (by decide)) (bd_Ratio_sub T) pass0) (pe_ix ix_list (pv 1) (pe_op op_sub (pv 3) pe_int) (fun _ _ => rfl)) (pe_ix ix_list (pv 1) (pv 3) (fun _ _ => rfl))) T.R.cl T.m_Ratio_over (ok_Ratio_over T) (hr.mono (by decide)) (bd_Ratio_over T) .nil pass0 (pa_cons (pv 4) pa_nil)) pa_nil)))))) (pss_cons (ps_expr (pe_bm PySem.F.plainAttrs_list PySem.F.slot_list_append PySem.F.type_list_append mt_append (pv 2) (pa_cons (pe_make T.mk_Ratio (ok_Ratio_init T) (hr.mono (by decide)) (by rfl) T.g_Ratio (bd1_Ratio_init T).choose_spec.2 (bd1_Ratio_init T).choose_spec.1 pass0 (pa_cons pe_int pa_nil)) pa_nil))) (pss_cons (ps_set (i := 5) sc_Lfault.nd rfl (Or.inr rfl) (pe_lc (own := [("_law_k", 3)]) (g := (gName 3)) (tt := tYes) rfl sc_Lfault.nd (pi_range1 (by rfl) T.b_range (pa_cons (pe_callB call_lenQ (by rfl) T.b_len (by decide +kernel) (pa_cons (pv 0) pa_nil)) pa_nil)) (blkOk_by (N := N_Lfault) (sc := defScope s_Lfault) (by decide +kernel)) (fun _ _ _ _ _ => pg_name (i := 3) sc_Lfault.nd rfl (Or.inl rfl)) (fun _ _ _ _ _ => pts_nil) (fun _ _ _ _ _ => (pe_op (op_own T.o_sub (ok_Ratio_sub T) (hr.mono (by decide)) (bd_Ratio_sub T) pass0) (pe_ix (ix_listV (K := K) rfl) (pv 2) (pv 3) (fun _ _ => rfl)) (pe_ix (ix_listV (K := K) rfl) (pv 2) (pe_op op_add (pv 3) pe_int) (fun _ _ => rfl)))))) (pss_cons (ps_if (pt_cmpR (op_neOwn T.p_ne (ok_Ratio_eq T) (hr.mono (by decide)) (bd_Ratio_eq T) pass0) (pe_ix ix_list (pv 1) (pe_un un_neg pe_int) (fun _ _ => rfl)) pe_int (nomark _)) (pss_one (ps_ret (pe_lst (pa_cons (pe_op op_sub (pe_callB call_lenQ (by rfl) T.b_len (by decide +kernel) (pa_cons (pv 0) pa_nil)) pe_int) (pa_cons (pv 5) pa_nil))))) pss_nil) (pss_cons (ps_setLc (i := 6) (own := [("_law_k", 3)]) (g := (gName 3)) rfl sc_Lfault.nd rfl rfl (sw_true rfl rfl rfl (by decide +kernel)) (pi_range1 (by rfl) T.b_range (pa_cons (pe_callB call_lenQ (by rfl) T.b_len (by decide +kernel) (pa_cons (pv 5) pa_nil)) pa_nil)) (blkOk_by (N := N_Lfault) (sc := defScope s_Lfault) (by decide +kernel)) (fun _ _ _ _ _ => pg_name (i := 3) sc_Lfault.nd rfl (Or.inl rfl)) (fun _ _ _ _ _ => pts_one (pt_cmpR (op_cmpV (K := K) rfl (fun _ _ => rfl) T.p_lt (ok_Ratio_lt T) (hr.mono (by decide)) (bd_Ratio_lt T) pass0) (pe_ix (ix_listV (K := K) rfl) (pv 5) (pv 3) (fun _ _ => rfl)) pe_int (nomark _))) (fun _ _ _ _ _ => (pv 3))) (pss_one (ps_ret (pe_lst (pa_cons (pe_ifExp (pt_cmpR (op_neD hr.units) (pv 6) (pe_lst pa_nil) (nomark _)) (pe_ix ix_list (pv 6) pe_int (fun _ _ => rfl)) pe_non) (pa_cons (pv 5) pa_nil))))))))))), ?_⟩
    refine spV.def (G := a.G) (E := E0) (PUS.seq (PUS.setF (i := 2) (PUF.lst (PUA.cons (PU.mkR1 (PUA.cons PU.ci PUA.nil)) PUA.nil))) (PUS.seq (PUS.for (PUI.rng2 (PUA.cons PU.ci (PUA.cons (PU.cbn CD.len (PUA.cons (PU.var (i := 0)) PUA.nil)) PUA.nil))) (PUG.name (i := 3)) (PUS.seq (PUS.set (i := 4) (PU.op RD.num2 (PU.op RD.ixL (PU.var (i := 0)) (PU.var (i := 3))) (PU.op RD.ixL (PU.var (i := 0)) (PU.op RD.i0 (PU.var (i := 3)) PU.ci)))) (PUS.app (i := 2) (PU.over (PU.op RD.num2 (PU.op RD.ixL (PU.var (i := 1)) (PU.op RD.i0 (PU.var (i := 3)) PU.ci)) (PU.op RD.ixL (PU.var (i := 1)) (PU.var (i := 3)))) (PUA.cons (PU.var (i := 4)) PUA.nil))))) (PUS.seq (PUS.app (i := 2) (PU.mkR1 (PUA.cons PU.ci PUA.nil))) (PUS.seq (PUS.set (i := 5) (PUF.toV (PUF.lc (i := 3) (E1 := E0) (E2 := E0) (PUI.rng1 (PUA.cons (PU.cbn CD.len (PUA.cons (PU.var (i := 0)) PUA.nil)) PUA.nil)) PUT.yes (PU.op RD.num2 (PU.ixO (i := 2) (PU.var (i := 3))) (PU.ixO (i := 2) (PU.op RD.i0 (PU.var (i := 3)) PU.ci)))))) (PUS.seq (PUS.ifS (PUT.test (PU.op (RD.neR T.R) (PU.op RD.ixL (PU.var (i := 1)) (PU.un UD.neg PU.ci)) PU.ci)) (PUS.ret (PUF.toV (PUF.lst (PUA.cons (PU.op RD.i0 (PU.cbn CD.len (PUA.cons (PU.var (i := 0)) PUA.nil)) PU.ci) (PUA.cons (PU.var (i := 5)) PUA.nil))))) PUS.next) (PUS.seq (PUS.set (i := 6) (PUF.toV (PUF.lc (i := 3) (E1 := E0) (E2 := E0) (PUI.rng1 (PUA.cons (PU.cbn CD.len (PUA.cons (PU.var (i := 5)) PUA.nil)) PUA.nil)) (PUT.test (PU.op (RD.rel2 T.R) (PU.op RD.ixL (PU.var (i := 5)) (PU.var (i := 3))) PU.ci)) (PU.var (i := 3))))) (PUS.ret (PUF.toV (PUF.lst (PUA.cons (PU.ife (PUT.test (PU.op RD.neD (PU.var (i := 6)) (PUF.toV (PUF.lst PUA.nil)))) (PU.op RD.ixL (PU.var (i := 6)) PU.ci) PU.cn) (PUA.cons (PU.var (i := 5)) PUA.nil))))))))))) (fun ds hp => ?_) h
    obtain ⟨ms, hs, rfl, h1, h8, hl, hpw, hz, hzh, hdd⟩ := hp
    have lf := falls_len hl h1
    have zf := falls_sz hdd
    refine ⟨1, rfl, lt8 (k := 1) (by decide) (by decide), by show 1 ≤ 1000; decide, _, rfl, _, .inl rfl, 1, _, rfl, ⟨by decide, by decide, by rw [List.length_map]; omega, by rw [List.length_map]; omega⟩, ?_⟩
    refine forP_inv (fun c ρ => ∃ u v, ρ = [.val (.lst (ms.map .rat)), .val (.lst (hs.map .rat)), .own (((fallsR ms hs).take (c + 1)).map .rat), u, v, .un, .un] ∧ u.lists = false) ⟨.un, .un, rfl, rfl⟩ (fun c x ρ Kc hx hI hK => ?_) (fun ρ hI => ?_)
    · obtain ⟨u, v, rfl, _⟩ := hI
      obtain ⟨rfl, hc⟩ := rngL_at hx
      rw [List.length_map] at hc
      rw [show ((1 : Int) + (c : Int)) = ((c + 1 : Nat) : Int) by omega]
      have c1 : c + 1 < ms.length := by omega
      have em : (((c + 1 : Nat) : Int) - 1) = (c : Int) := by omega
      have m1 := atF (l := ms) c1
      have m0 : atI (ms.map Dt.rat) (((c + 1 : Nat) : Int) - 1) = some (.rat (fnL ms c)) := by rw [em]; exact atF (by omega)
      have n1 := atF (l := hs) (k := c + 1) (by omega)
      have n0 : atI (hs.map Dt.rat) (((c + 1 : Nat) : Int) - 1) = some (.rat (fnL hs c)) := by rw [em]; exact atF (by omega)
      have zm : ∀ k, k < ms.length → Sz 1000 (fnL ms k) := fun k hk => by rw [fnL_at hk]; exact hz _ (List.getElem_mem hk)
      have zh : ∀ k, k < hs.length → Sz 1000 (fnL hs k) := fun k hk => by rw [fnL_at hk]; exact hzh _ (List.getElem_mem hk)
      have w1 := zm (c + 1) c1
      have w0 := zm c (by omega)
      have y1 := zh (c + 1) (by omega)
      have y0 := zh c (by omega)
      have ne : fnL ms (c + 1) - fnL ms c ≠ 0 := fun e => climb_ne hpw (Nat.lt_succ_self c) c1 (by grind)
      refine ⟨_, rfl, _, rfl, _, _, _, rfl, rfl, m1, _, rfl, _, rfl, _, 1, rfl, rfl, _, _, _, rfl, rfl, m0, _, rfl, rfl, sz_le' w1 (by decide), sz_le' w0 (by decide), ?_⟩
      refine ⟨⟨_, rfl⟩, _, rfl, _, rfl, _, 1, rfl, rfl, _, _, _, rfl, rfl, n0, _, rfl, _, rfl, _, _, _, rfl, rfl, n1, _, rfl, rfl, sz_le' y0 (by decide), sz_le' y1 (by decide), _, rfl, _, rfl, _, rfl, rfl, ne, sz_le' (y0.sub' y1) (by decide), sz_le' (w1.sub' w0) (by decide), _, rfl, ?_, hK _ ⟨.val (.int ((c + 1 : Nat) : Int)), .val (.rat (fnL ms (c + 1) - fnL ms c)), ?_, rfl⟩⟩
      · rw [List.length_map, List.length_take]; omega
      · rw [falls_take (by omega), List.map_append]
        rfl
    · obtain ⟨u, v, rfl, hu⟩ := hI
      rw [rngL_len, List.length_map, show ((ms.length : Int) - 1).toNat + 1 = (fallsR ms hs).length by omega, List.take_length]
      have tl := told_len hl h1
      have tz := told_sz hdd
      have lF : (fallsR ms hs ++ [0]).length = ms.length + 1 := by rw [List.length_append, lf]; rfl
      have zF : ∀ k, k < ms.length + 1 → Sz 1450 (fnL (fallsR ms hs ++ [0]) k) := fun k hk => by rw [fnL_at (by omega)]; exact zf _ (List.getElem_mem _)
      refine ⟨⟨_, rfl⟩, 0, rfl, lt8 (k := 1) (by decide) (by decide), _, rfl, by rw [List.length_map]; omega, ?_⟩
      rw [show (fallsR ms hs).map Dt.rat ++ [Dt.rat ((0 : Int) : Rat)] = (fallsR ms hs ++ [0]).map .rat from by rw [List.map_append]; rfl]
      refine ⟨_, rfl, _, .inl rfl, _, rfl, ⟨by omega, by rw [List.length_map]; omega⟩, ?_⟩
      refine lcP_map (g := fun x => .rat (fnL (fallsR ms hs ++ [0]) x.nat - fnL (fallsR ms hs ++ [0]) (x.nat + 1))) _ _ hu (by rw [rngL_len, List.length_nil, List.length_map]; omega) rfl (fun x hx K hK => ?_) ?_
      · obtain ⟨k, hk, rfl⟩ := List.mem_map.mp hx
        have hk := List.mem_range.mp hk
        rw [List.length_map] at hk
        rw [Int.zero_add] at hK ⊢
        have hK : K (.rat (fnL (fallsR ms hs ++ [0]) k - fnL (fallsR ms hs ++ [0]) (k + 1))) _ := hK
        have q0 := atF (l := fallsR ms hs ++ [0]) (k := k) (by omega)
        have q1 : atI ((fallsR ms hs ++ [0]).map Dt.rat) ((k : Int) + 1) = some (.rat (fnL (fallsR ms hs ++ [0]) (k + 1))) := by
          rw [show ((k : Int) + 1) = ((k + 1 : Nat) : Int) by omega]
          exact atF (by omega)
        exact ⟨⟨_, rfl⟩, _, rfl, _, _, _, rfl, rfl, q0, ⟨_, rfl⟩, _, rfl, _, 1, rfl, rfl, _, _, _, rfl, rfl, q1, _, rfl, rfl, sz_le' (zF k (by omega)) (by decide), sz_le' (zF (k + 1) (by omega)) (by decide), hK⟩
      · have eT : ([] : List Dt) ++ (rngL 0 ((ms.map Dt.rat).length : Int).toNat).map (fun x => Dt.rat (fnL (fallsR ms hs ++ [0]) x.nat - fnL (fallsR ms hs ++ [0]) (x.nat + 1))) = (toldR ms hs).map .rat := by
          rw [List.nil_append, told_falls hl h1]
          unfold rngL
          rw [List.length_map, Int.toNat_natCast, List.map_map, List.map_map]
          refine List.map_congr_left fun k _ => ?_
          show Dt.rat (fnL (fallsR ms hs ++ [0]) (0 + (k : Int)).toNat - fnL (fallsR ms hs ++ [0]) ((0 + (k : Int)).toNat + 1)) = _
          rw [Int.zero_add, Int.toNat_natCast]
          rfl
        rw [eT]
        have hlast : atI (hs.map Dt.rat) (-1) = some (.rat (fnL hs (ms.length - 1))) := by
          rw [← hl, fnL_at (by omega)]
          exact at_last (by omega)
        refine ⟨_, rfl, 1, rfl, _, _, _, rfl, rfl, hlast, _, rfl, rfl, sz_le' (a := 1) ⟨by decide, by decide⟩ (by decide), _, rfl, ?_⟩
        by_cases h0 : fnL hs (ms.length - 1) = 0
        · rw [show decide (fnL hs (ms.length - 1) = (Dt.int 0).num) = true from decide_eq_true h0]
          refine ite_f ?_
          refine ⟨_, rfl, _, .inl rfl, _, rfl, ⟨by omega, by rw [List.length_map]; omega⟩, ?_⟩
          refine lcP_fm (p := fun x => decide (fnL (toldR ms hs) x.nat < 0)) (g := id) _ _ hu (by rw [rngL_len, List.length_nil, List.length_map]; omega) (fun x hx K hK => ?_) (fun x hx _ K hK => ⟨_, rfl, hK⟩) ?_
          · obtain ⟨k, hk, rfl⟩ := List.mem_map.mp hx
            have hk := List.mem_range.mp hk
            rw [List.length_map, Int.toNat_natCast] at hk
            rw [Int.zero_add] at hK ⊢
            have hK : K (decide (fnL (toldR ms hs) k < 0)) _ := hK
            have zk : Sz 2901 (fnL (toldR ms hs) k) := by rw [fnL_at hk]; exact tz _ (List.getElem_mem hk)
            exact ⟨_, rfl, _, rfl, _, _, _, rfl, rfl, atF hk, _, rfl, rfl, sz_le' zk (by decide), sz_le' (a := 1) ⟨by decide, by decide⟩ (by decide), _, rfl, hK⟩
          · have eN : ([] : List Dt) ++ ((rngL 0 (((toldR ms hs).map Dt.rat).length : Int).toNat).filter fun x => decide (fnL (toldR ms hs) x.nat < 0)).map id = intsL (negsL (toldR ms hs)) := by
              rw [List.nil_append, List.map_id, List.length_map, Int.toNat_natCast]
              unfold rngL negsL intsL
              rw [List.filter_map]
              have e1 : (List.range (toldR ms hs).length).filter ((fun x : Dt => decide (fnL (toldR ms hs) x.nat < 0)) ∘ fun (k : Nat) => Dt.int (0 + (k : Int))) = (List.range (toldR ms hs).length).filter fun k => decide (fnL (toldR ms hs) k < 0) := List.filter_congr fun k _ => by
                show decide (fnL (toldR ms hs) (0 + (k : Int)).toNat < 0) = _
                rw [Int.zero_add, Int.toNat_natCast]
              rw [e1]
              exact List.map_congr_left fun k _ => by rw [Int.zero_add]
            rw [eN]
            have hh := negs_head (toldR ms hs)
            have fin : ∀ r, r = .lst [faultD ms hs, .lst ((toldR ms hs).map .rat)] → fdFaultL.post [.lst (ms.map .rat), .lst (hs.map .rat)] r := fun r e => ⟨ms, hs, rfl, e⟩
            have ef : faultD ms hs = optD (negsL (toldR ms hs)).head? := by unfold faultD; rw [if_neg (fun z => z h0), hh]
            generalize negsL (toldR ms hs) = is at ef ⊢
            cases is with
            | nil => exact ⟨_, rfl, by decide, ints_ne (is := []) ⟨_, rfl, ite_f ⟨_, rfl, by show 2 ≤ 1000; decide, fin _ (by rw [ef]; rfl)⟩⟩⟩
            | cons k r => exact ⟨_, rfl, by decide, ints_cons ⟨_, rfl, ite_t ⟨_, rfl, _, 0, .int (k : Int), rfl, rfl, atI_nat (j := 0) rfl, _, rfl, by show 2 ≤ 1000; decide, fin _ (by rw [ef]; rfl)⟩⟩⟩
        · rw [show decide (fnL hs (ms.length - 1) = (Dt.int 0).num) = false from decide_eq_false h0]
          refine ite_t ⟨_, rfl, _, .inl rfl, _, 1, rfl, rfl, _, rfl, by show 2 ≤ 1000; decide, ms, hs, rfl, ?_⟩
          unfold faultD
          rw [if_pos h0, List.length_map]
theorem ok_Lasked (T : Tx K mg a) : FnOk P w K mg base CX0 11 a.f_Lasked a.d_Lasked P_Lasked (spV a.G fdAskedC) := by
  refine def_ok0 T.F_Lasked sc_Lasked (fun vs H Q E h => ?_) (fun cdv A outer s H vs Q E hr h => ?_)
  · obtain ⟨ds, X, hv, _, ⟨k, qs, d, rfl, _⟩, _⟩ := h
    exact hv.length
  · refine ⟨_, (pss_one (ps_try_clsN (W := fun _ _ _ _ => False) (l := [clST a.G 3 (Str.ofString "lot", a.C_BadLot), clST a.G 3 (Str.ofString "numbers", a.C_BadNumbers)]) rfl rfl sc_Lasked.nd takesN0 (fun V pn xe tk _ => (pss_cons (ps_if (pt_cmpR op_eq (pv 0) pe_int (nomark _)) (pss_one (ps_ret (pe_callS (ok_covers T) (hr.mono (by decide)) (by rfl) T.g_covers T.F_covers.kp (bd_covers T) (fun σ => L2N.passAt tk σ) (pa_cons (pv 1) (pa_cons (pv 2) pa_nil))))) pss_nil) (pss_one (ps_ret (pe_ifExp (pt_cmpR op_eq (pv 0) pe_int (nomark _)) (pe_callS (ok_fault T) (hr.mono (by decide)) (by rfl) T.g_fault T.F_fault.kp (bd_fault T) (fun σ => L2N.passAt tk σ) (pa_cons (pv 1) (pa_cons (pv 2) pa_nil))) (pe_callS (ok_lot_of_covers T) (hr.mono (by decide)) (by rfl) T.g_lot_of_covers T.F_lot_of_covers.kp (bd_lot_of_covers T) (fun σ => L2N.passAt tk σ) (pa_cons (pv 1) (pa_cons (pv 2) pa_nil)))))))) (.cons ⟨rfl, rfl⟩ ⟨rfl, by decide, .inl T.g_BadLot⟩ (fun _ _ _ _ _ hz hf => pss_one (ps_ret (pe_lst (pa_cons pe_str (pa_cons (pe_callH0 (ok_LshownHD T) (roomH_mk (hr.mono (by decide)) _) (hot_suite hz hf) (by rfl) T.g_Lshown T.F_Lshown.kp (bd_Lshown T) (pa_cons (pe_xf T.xf_BadLot T.xa_BadLot_given hz.zc hf (pv 3)) pa_nil)) pa_nil))))) (.cons ⟨rfl, rfl⟩ ⟨rfl, by decide, .inl T.g_BadNumbers⟩ (fun _ _ _ _ _ hz hf => pss_one (ps_ret (pe_lst (pa_cons pe_str (pa_cons (pe_callH0 (ok_LshownHD T) (roomH_mk (hr.mono (by decide)) _) (hot_suite hz hf) (by rfl) T.g_Lshown T.F_Lshown.kp (bd_Lshown T) (pa_cons (pe_xf T.xf_BadNumbers T.xa_BadNumbers_given hz.zc hf (pv 3)) pa_nil)) pa_nil))))) .nil)))), ?_⟩
    refine spV.defTryT (G := a.G) (K := K) (l := [(Str.ofString "lot", a.C_BadLot), (Str.ofString "numbers", a.C_BadNumbers)]) (i := 3) (fun U => (PVS.seq (PVS.ifS (fun _ => (PUT.test (PU.op RD.eq (PU.var (i := 0)) PU.ci))) (PVS.retXL (fun _ => (PUA.cons (PU.var (i := 1)) (PUA.cons (PU.var (i := 2)) PUA.nil)))) PVS.next) (PVS.retIfX (fun _ => (PUT.test (PU.op RD.eq (PU.var (i := 0)) PU.ci))) (fun _ => (PUA.cons (PU.var (i := 1)) (PUA.cons (PU.var (i := 2)) PUA.nil))) (fun _ => (PUA.cons (PU.var (i := 1)) (PUA.cons (PU.var (i := 2)) PUA.nil)))))) (by decide) (fun ds hp => ?_) h
    obtain ⟨j, qs, d, rfl, h8, hz, ok, s0, s1⟩ := hp
    have cl : ∀ kk : Str → Prop, kk (Str.ofString "lot") → catches K [(Str.ofString "lot", a.C_BadLot), (Str.ofString "numbers", a.C_BadNumbers)] a.C_BadLot kk := fun kk h => ⟨true, T.xs_BadLot, fun _ => ⟨rfl, h⟩, (fun z => nomatch z)⟩
    have cc : ∀ kk : Str → Prop, kk (Str.ofString "numbers") → catches K [(Str.ofString "lot", a.C_BadLot), (Str.ofString "numbers", a.C_BadNumbers)] a.C_BadNumbers kk := fun kk h => ⟨false, T.xo_BadNumbers_BadLot, (fun z => nomatch z), fun _ => ⟨true, T.xs_BadNumbers, fun _ => ⟨rfl, h⟩, (fun z => nomatch z)⟩⟩
    have z0 : ∀ r, r = askedC j qs d → fdAskedC.post [.int j, .scl qs, d] r := fun r e => ⟨j, qs, d, rfl, e⟩
    refine ⟨_, rfl, _, rfl, _, rfl, ite_d (fun (h0 : j = 0) => ?_) (fun (h0 : ¬ j = 0) => ?_)⟩
    · refine ⟨_, rfl, _, rfl, ⟨qs, d, rfl, h8, hz, ok⟩, fun r h1 => ?_, fun r h1 => ?_⟩
      · obtain ⟨_, _, e1, hb, e2⟩ := h1
        cases e1
        refine z0 _ ?_
        rw [e2]
        unfold askedC
        rw [if_pos h0, if_pos hb]
      · obtain ⟨_, _, e1, hb, rfl⟩ := h1
        cases e1
        exact ⟨rfl, cl _ ⟨s0 h0 hb, z0 _ (by unfold askedC; rw [if_pos h0, if_neg (by rw [hb]; decide)])⟩⟩
    · obtain ⟨ok2, s2⟩ := s1 h0
      refine ⟨_, rfl, _, rfl, _, rfl, ite_d (fun (h1 : j = 1) => ?_) (fun (h1 : ¬ j = 1) => ?_)⟩
      · refine ⟨_, rfl, _, rfl, ⟨qs, d, rfl, ok2⟩, fun r h2 => ?_, fun r h2 => ?_⟩
        · obtain ⟨_, _, e1, hb, e2⟩ := h2
          cases e1
          refine z0 _ ?_
          rw [e2]
          unfold askedC
          rw [if_neg h0, if_pos hb, if_pos h1]
        · obtain ⟨_, _, e1, hb, rfl⟩ := h2
          cases e1
          exact ⟨rfl, cc _ ⟨s2 hb, z0 _ (by unfold askedC; rw [if_neg h0, if_neg (by rw [hb]; decide)])⟩⟩
      · refine ⟨_, rfl, _, rfl, ⟨qs, d, rfl, ok2⟩, fun r h2 => ?_, fun r h2 => ?_⟩
        · obtain ⟨_, _, e1, hb, e2⟩ := h2
          cases e1
          refine z0 _ ?_
          rw [e2]
          unfold askedC
          rw [if_neg h0, if_pos hb, if_neg h1]
        · obtain ⟨_, _, e1, hb, rfl⟩ := h2
          cases e1
          exact ⟨rfl, cc _ ⟨s2 hb, z0 _ (by unfold askedC; rw [if_neg h0, if_neg (by rw [hb]; decide)])⟩⟩
theorem ok_LaskedL (T : Tx K mg a) : FnOk P w K mg base CX0 11 a.f_Lasked a.d_Lasked P_Lasked (spL a.G fdAskedL) := by
  refine def_ok0 T.F_Lasked sc_Lasked (fun vs H Q E h => ?_) (fun cdv A outer s H vs Q E hr h => ?_)
  · obtain ⟨ds, X, hv, _, ⟨qs, d, rfl, _⟩, _⟩ := h
    exact hv.length
  · refine ⟨_, (pss_one (ps_try_clsN (W := fun _ _ _ _ => False) (l := [clST a.G 3 (Str.ofString "lot", a.C_BadLot), clST a.G 3 (Str.ofString "numbers", a.C_BadNumbers)]) rfl rfl sc_Lasked.nd takesN0 (fun V pn xe tk _ => (pss_cons (ps_if (pt_cmpR op_eq (pv 0) pe_int (nomark _)) (pss_one (ps_ret (pe_callS (ok_covers T) (hr.mono (by decide)) (by rfl) T.g_covers T.F_covers.kp (bd_covers T) (fun σ => L2N.passAt tk σ) (pa_cons (pv 1) (pa_cons (pv 2) pa_nil))))) pss_nil) (pss_one (ps_ret (pe_ifExp (pt_cmpR op_eq (pv 0) pe_int (nomark _)) (pe_callS (ok_fault T) (hr.mono (by decide)) (by rfl) T.g_fault T.F_fault.kp (bd_fault T) (fun σ => L2N.passAt tk σ) (pa_cons (pv 1) (pa_cons (pv 2) pa_nil))) (pe_callS (ok_lot_of_covers T) (hr.mono (by decide)) (by rfl) T.g_lot_of_covers T.F_lot_of_covers.kp (bd_lot_of_covers T) (fun σ => L2N.passAt tk σ) (pa_cons (pv 1) (pa_cons (pv 2) pa_nil)))))))) (.cons ⟨rfl, rfl⟩ ⟨rfl, by decide, .inl T.g_BadLot⟩ (fun _ _ _ _ _ hz hf => pss_one (ps_ret (pe_lst (pa_cons pe_str (pa_cons (pe_callH0 (ok_LshownHD T) (roomH_mk (hr.mono (by decide)) _) (hot_suite hz hf) (by rfl) T.g_Lshown T.F_Lshown.kp (bd_Lshown T) (pa_cons (pe_xf T.xf_BadLot T.xa_BadLot_given hz.zc hf (pv 3)) pa_nil)) pa_nil))))) (.cons ⟨rfl, rfl⟩ ⟨rfl, by decide, .inl T.g_BadNumbers⟩ (fun _ _ _ _ _ hz hf => pss_one (ps_ret (pe_lst (pa_cons pe_str (pa_cons (pe_callH0 (ok_LshownHD T) (roomH_mk (hr.mono (by decide)) _) (hot_suite hz hf) (by rfl) T.g_Lshown T.F_Lshown.kp (bd_Lshown T) (pa_cons (pe_xf T.xf_BadNumbers T.xa_BadNumbers_given hz.zc hf (pv 3)) pa_nil)) pa_nil))))) .nil)))), ?_⟩
    refine spL.defTryT (G := a.G) (K := K) (l := [(Str.ofString "lot", a.C_BadLot), (Str.ofString "numbers", a.C_BadNumbers)]) (i := 3) (fun U => (PVS.seq (PVS.ifS (fun _ => (PUT.test (PU.op RD.eq (PU.var (i := 0)) PU.ci))) (PVS.retXLF (fun _ => (PUA.cons (PU.var (i := 1)) (PUA.cons (PU.var (i := 2)) PUA.nil)))) PVS.next) (PVS.retIfX (fun _ => (PUT.test (PU.op RD.eq (PU.var (i := 0)) PU.ci))) (fun _ => (PUA.cons (PU.var (i := 1)) (PUA.cons (PU.var (i := 2)) PUA.nil))) (fun _ => (PUA.cons (PU.var (i := 1)) (PUA.cons (PU.var (i := 2)) PUA.nil)))))) (by decide) (fun ds hp => ?_) h
    obtain ⟨qs, d, rfl, h8, hz, ok, s0⟩ := hp
    have cl : ∀ kk : Str → Prop, kk (Str.ofString "lot") → catches K [(Str.ofString "lot", a.C_BadLot), (Str.ofString "numbers", a.C_BadNumbers)] a.C_BadLot kk := fun kk h => ⟨true, T.xs_BadLot, fun _ => ⟨rfl, h⟩, (fun z => nomatch z)⟩
    refine ⟨_, rfl, _, rfl, _, rfl, ite_d (fun _ => ?_) (fun h0 => absurd rfl h0)⟩
    refine ⟨_, rfl, _, rfl, ⟨qs, d, rfl, h8, hz, ok⟩, fun r h1 => ?_, fun r h1 => ?_⟩
    · obtain ⟨_, _, e1, hb, e2⟩ := h1
      cases e1
      refine ⟨qs, d, rfl, ?_⟩
      rw [e2]
      unfold askedC
      rw [if_pos rfl, if_pos hb]
    · obtain ⟨_, _, e1, hb, rfl⟩ := h1
      cases e1
      exact ⟨rfl, cl _ ⟨s0 hb, qs, d, rfl, by unfold askedC; rw [if_pos rfl, if_neg (by rw [hb]; decide)]⟩⟩
end
end Kx


set_option maxHeartbeats 2000000
namespace Fm
open PySem PySem.Spec PyProof.Rows L2
def restN (ps : List Rat) (n c : Nat) : Rat := sumN (fun j => if c ≤ j then fnL ps j else 0) n
theorem restN_all (ps : List Rat) (n : Nat) : restN ps n 0 = sumN (fnL ps) n := sumN_congr fun k _ => if_pos (Nat.zero_le k)
theorem restN_end (ps : List Rat) (n : Nat) : restN ps n n = 0 := sumN_zero fun k hk => if_neg (by omega)
theorem restN_step (ps : List Rat) {n c : Nat} (hc : c < n) : restN ps n c - restN ps n (c + 1) = fnL ps c := by
  unfold restN
  rw [← sumN_sub]
  have e : sumN (fun j => (if c ≤ j then fnL ps j else 0) - if c + 1 ≤ j then fnL ps j else 0) n = sumN (fun j => fnL ps j * if c = j then 1 else 0) n := sumN_congr fun j _ => by
    by_cases h1 : c = j
    · subst h1
      rw [if_pos (Nat.le_refl c), if_neg (by omega), if_pos rfl]
      grind
    · by_cases h2 : c ≤ j
      · rw [if_pos h2, if_pos (by omega), if_neg h1]; grind
      · rw [if_neg h2, if_neg (by omega), if_neg h1]; grind
  rw [e, sumN_pick, if_pos hc]
theorem sumR_sumN (ps : List Rat) : sumN (fnL ps) ps.length = sumR ps := by
  have h := dotR_sumN ps.length ps (List.replicate ps.length 1) rfl (by rw [List.length_replicate])
  have e : dotR ps (List.replicate ps.length 1) = sumR ps := by
    unfold dotR
    congr 1
    refine List.ext_getElem (by rw [List.length_map, List.length_zip, List.length_replicate, Nat.min_self]) fun k h1 h2 => ?_
    rw [List.getElem_map, List.getElem_zip, List.getElem_replicate]
    exact Rat.mul_one _
  rw [← e, h]
  refine sumN_congr fun k hk => ?_
  have e2 : fnL (List.replicate ps.length 1) k = (1 : Rat) := by
    rw [fnL_at (by rw [List.length_replicate]; exact hk), List.getElem_replicate]
  show fnL ps k = fnL ps k * fnL (List.replicate ps.length 1) k
  rw [e2, Rat.mul_one]
section
variable {ms ps : List Rat} (hl : ps.length = ms.length) (hpw : ms.Pairwise (· < ·))
theorem covers_len (ps ms : List Rat) : (coversR ps ms).length = ms.length := by unfold coversR; rw [List.length_map]
include hl in
theorem covers_at {k : Nat} (hk : k < ms.length) : fnL (coversR ps ms) k = sumN (fun j => fnL ps j * coverR (fnL ms k) (fnL ms j)) ms.length := by
  rw [fnL_at (by rw [covers_len]; exact hk)]
  unfold coversR
  rw [List.getElem_map, dotR_sumN ms.length ps (ms.map (coverR ms[k])) hl (by rw [List.length_map]), fnL_at hk]
  refine sumN_congr fun j hj => ?_
  show fnL ps j * fnL (ms.map (coverR ms[k])) j = fnL ps j * coverR ms[k] (fnL ms j)
  rw [fnL_at (l := ms.map _) (by rw [List.length_map]; exact hj), List.getElem_map, fnL_at hj]
include hpw in
theorem marks_lt {i j : Nat} (hij : i < j) (hj : j < ms.length) : fnL ms i < fnL ms j := by
  rw [fnL_at hj, fnL_at (by omega)]
  exact List.pairwise_iff_getElem.mp hpw i j (by omega) hj hij
include hpw in
theorem cover_step {c j : Nat} (hc : c + 1 < ms.length) (hj : j < ms.length) : coverR (fnL ms c) (fnL ms j) - coverR (fnL ms (c + 1)) (fnL ms j) = if c + 1 ≤ j then fnL ms (c + 1) - fnL ms c else 0 := by
  have h1 := marks_lt hpw (Nat.lt_succ_self c) hc
  unfold coverR
  by_cases h : c + 1 ≤ j
  · rw [if_pos h]
    have h2 : fnL ms c < fnL ms j := marks_lt hpw (by omega) hj
    rw [if_pos h2]
    by_cases e : c + 1 = j
    · subst e
      rw [if_neg (by grind)]
      grind
    · rw [if_pos (marks_lt hpw (by omega) hj)]
      grind
  · rw [if_neg h]
    have h2 : ¬ fnL ms (c + 1) < fnL ms j := by
      have := marks_lt hpw (i := j) (j := c + 1) (by omega) hc
      grind
    have h3 : ¬ fnL ms c < fnL ms j := by
      by_cases e : j = c
      · subst e; grind
      · have := marks_lt hpw (i := j) (j := c) (by omega) (by omega)
        grind
    rw [if_neg h2, if_neg h3]
    grind
include hl hpw in
theorem covers_step {c : Nat} (hc : c + 1 < ms.length) : fnL (coversR ps ms) c - fnL (coversR ps ms) (c + 1) = (fnL ms (c + 1) - fnL ms c) * restN ps ms.length (c + 1) := by
  rw [covers_at hl (by omega), covers_at hl hc, ← sumN_sub]
  unfold restN
  rw [← sumN_mul]
  refine sumN_congr fun j hj => ?_
  have h := cover_step hpw hc hj
  by_cases h1 : c + 1 ≤ j
  · rw [if_pos h1] at h ⊢
    grind
  · rw [if_neg h1] at h ⊢
    grind
include hl hpw in
theorem falls_covers (h1 : 1 ≤ ms.length) (hs : sumR ps = 1) {k : Nat} (hk : k < ms.length + 1) : fnL (fallsR ms (coversR ps ms) ++ [0]) k = restN ps ms.length k := by
  have lc := covers_len ps ms
  have lf := falls_len lc h1
  by_cases hk2 : k < ms.length
  · rw [fnL_app (by omega)]
    cases k with
    | zero =>
      rw [restN_all, ← hl, sumR_sumN, hs]
      rfl
    | succ c =>
      have hb := behind_at (ms := ms) (hs := coversR ps ms) (c := c) (by omega)
      have hd := covers_step hl hpw hk2
      have hne := climb_ne hpw (Nat.lt_succ_self c) hk2
      rw [fnL_at (by omega)]
      have e : (fallsR ms (coversR ps ms))[c + 1]'(by omega) = (behindR ms (coversR ps ms))[c]'(by rw [behind_len lc]; omega) := rfl
      rw [e]
      rw [List.getElem?_eq_getElem (by rw [behind_len lc]; omega)] at hb
      have hb := Option.some.inj hb
      rw [hb, hd, Rat.div_def, Rat.mul_comm (fnL ms (c + 1) - fnL ms c), Rat.mul_assoc, Rat.mul_inv_cancel _ (fun z => hne (by grind)), Rat.mul_one]
  · have e : k = ms.length := by omega
    subst e
    rw [restN_end]
    have := fnL_appR (hs := fallsR ms (coversR ps ms)) (x := [0]) (k := 0)
    rw [lf, Nat.add_zero] at this
    rw [this]
    rfl
include hl hpw in
theorem told_covers (h1 : 1 ≤ ms.length) (hs : sumR ps = 1) : toldR ms (coversR ps ms) = ps := by
  have lc := covers_len ps ms
  rw [told_falls lc h1]
  refine List.ext_getElem (by rw [List.length_map, List.length_range, hl]) fun k h2 h3 => ?_
  have hk : k < ms.length := by rw [List.length_map, List.length_range] at h2; exact h2
  rw [List.getElem_map, List.getElem_range, falls_covers hl hpw h1 hs (by omega), falls_covers hl hpw h1 hs (by omega), restN_step ps hk, fnL_at h3]
include hl hpw in
theorem covers_last (h1 : 1 ≤ ms.length) : fnL (coversR ps ms) (ms.length - 1) = 0 := by
  rw [covers_at hl (by omega)]
  refine sumN_zero fun j hj => ?_
  have : coverR (fnL ms (ms.length - 1)) (fnL ms j) = 0 := by
    unfold coverR
    rw [if_neg]
    by_cases e : j = ms.length - 1
    · rw [e]; grind
    · have := marks_lt hpw (i := j) (j := ms.length - 1) (by omega) (by omega)
      grind
  rw [this, Rat.mul_zero]
include hl hpw in
theorem fault_covers (h1 : 1 ≤ ms.length) (hs : sumR ps = 1) (h0 : ∀ p ∈ ps, 0 ≤ p) : faultD ms (coversR ps ms) = .non := by
  unfold faultD
  rw [if_neg (fun z => z (covers_last hl hpw h1)), told_covers hl hpw h1 hs, negAt_none]
  · rfl
  · intro j hj
    rw [fnL_at hj]
    have := h0 _ (List.getElem_mem hj)
    grind
include hl hpw in
theorem lotOf_covers (h1 : 1 ≤ ms.length) (hs : sumR ps = 1) (h0 : ∀ p ∈ ps, 0 ≤ p) : lotOfD ms (coversR ps ms) = .lst (ps.map .rat) := by
  unfold lotOfD
  rw [fault_covers hl hpw h1 hs h0, told_covers hl hpw h1 hs]
  rfl
end
theorem latV6 {ms : List Rat} (h : ∀ q ∈ ms, LatC q) : LatV ms := ⟨6, ⟨by decide, by decide⟩, fun q hq => by
  obtain ⟨n, rfl, hn⟩ := h q hq
  exact ⟨n, by rw [Int.pow_succ, Int.pow_zero, Int.one_mul], Nat.le_trans hn (Nat.pow_le_pow_right (by decide) (by decide))⟩⟩
theorem latC_E {q : Rat} (h : LatC q) : LatE 6 10 q := h
theorem cover_lat {t q : Rat} (ht : LatE 6 10 t) (hq : LatE 6 10 q) : LatE 6 11 (coverR t q) := by
  unfold coverR
  split
  · rw [Rat.sub_eq_add_neg]
    exact hq.add (by decide) ht.neg
  · exact LatE.zero ..
theorem covers_lat {ms ps : List Rat} (hl : ps.length = ms.length) (h8 : ms.length ≤ 8) (hm : ∀ q ∈ ms, LatC q) (hp : LatS ps) : ∃ W : Int, 1 ≤ W ∧ W ≤ 64 ∧ ∀ q ∈ coversR ps ms, LatE (W * 6) 25 q := by
  obtain ⟨W, w1, w2, hW⟩ := hp
  refine ⟨W, w1, w2, fun q hq => ?_⟩
  obtain ⟨k, hk, rfl⟩ := List.getElem_of_mem hq
  rw [covers_len] at hk
  rw [← fnL_at (by rw [covers_len]; exact hk), covers_at hl hk]
  have h := LatE.sum (E := W * 6) (b := 6 + 11) (by omega) (g := fun j => fnL ps j * coverR (fnL ms k) (fnL ms j)) (n := ms.length) fun j hj => ?_
  · exact h.le (by omega)
  · have e1 : LatE W 6 (fnL ps j) := by
      rw [fnL_at (by omega)]
      obtain ⟨u, e, hu⟩ := hW _ (List.getElem_mem (l := ps) (n := j) (by omega))
      rw [e]
      exact ⟨(u : Int), rfl, by omega⟩
    refine e1.mul (by omega) (by decide) (cover_lat ?_ ?_)
    · rw [fnL_at hk]; exact latC_E (hm _ (List.getElem_mem hk))
    · rw [fnL_at hj]; exact latC_E (hm _ (List.getElem_mem hj))
theorem lat_sz {E : Int} {b k : Nat} {q : Rat} (h : LatE E b q) (hb : b < k) (hE : E.natAbs < 2 ^ k) (h0 : E ≠ 0) : Sz k q := by
  obtain ⟨A, rfl, hA⟩ := h
  exact Sz.divInt (Nat.lt_of_le_of_lt hA (Nat.pow_lt_pow_right (by decide) hb)) hE h0
theorem latB_of {E : Int} {b : Nat} {hs : List Rat} (hE : 1 ≤ E) (h2 : E.natAbs ≤ 2 ^ 60) (hb : b ≤ 350) (h : ∀ q ∈ hs, LatE E b q) : LatB hs :=
  ⟨E, hE, Nat.le_trans h2 (Nat.pow_le_pow_right (by decide) (by decide)), fun q hq => (h q hq).le hb⟩
theorem pick_all (l : List Rat) {n : Nat} (h : n = l.length) : pickR l ((List.range n).map fun (k : Nat) => (k : Int)) = l := by
  subst h
  unfold pickR
  rw [List.map_map]
  refine List.ext_getElem (by rw [List.length_map, List.length_range]) fun k h1 h2 => ?_
  rw [List.getElem_map, List.getElem_range]
  show fnL l ((k : Int)).toNat = _
  rw [Int.toNat_natCast, fnL_at h2]
theorem LatB.dd {ms hs : List Rat} (h : LatB hs) (lat : LatV ms) (hpw : ms.Pairwise (· < ·)) (hl : hs.length = ms.length) (h8 : ms.length ≤ 8) : SzDD ms hs := by
  have z := h.pick (is := (List.range ms.length).map fun (k : Nat) => (k : Int)) lat hpw (by omega) ?_ (fun i hi => ?_) (by rw [List.length_map, List.length_range]; exact h8)
  · rw [pick_all ms rfl, pick_all hs hl.symm] at z
    exact z
  · refine List.pairwise_map.mpr (List.pairwise_lt_range.imp fun {a b} h => by omega)
  · obtain ⟨k, hk, rfl⟩ := List.mem_map.mp hi
    have := List.mem_range.mp hk
    omega
end Fm

set_option maxHeartbeats 2000000
namespace Fm
open PySem PySem.Spec PyProof.Rows L2 SX
theorem marksB_post {i j : Int} {l m : Nat} {r : List Dt} (h : fdMarksB.post [.int i, .int j] (.lst r)) (hi : i = (l : Int)) (hj : j = (m : Int)) : ∃ qs : List Rat, qs.Pairwise (· < ·) ∧ l ≤ qs.length ∧ qs.length ≤ m ∧ (∀ q ∈ qs, LatC q) ∧ r = qs.map .rat := by
  obtain ⟨l', m', qs, e, h1, h2, h3, h4, e2⟩ := h
  injection e with e1 e3
  injection e1 with e1
  injection e3 with e3 _
  injection e3 with e3
  injection e2 with e2
  exact ⟨qs, h1, by omega, by omega, h4, e2⟩
theorem lotB_post {n : Nat} {r : List Dt} (h : fdLotB.post [.int (n : Int)] (.lst r)) : ∃ ps : List Rat, LotR n ps ∧ LatS ps ∧ r = ps.map .rat := by
  obtain ⟨n', ps, e, h1, h2, e2⟩ := h
  injection e with e1 _
  injection e1 with e1
  injection e2 with e2
  have : n' = n := by omega
  subst this
  exact ⟨ps, h1, h2, e2⟩
theorem curveB_post {n : Nat} {r : List Dt} (h : fdCurveB.post [.int (n : Int)] (.lst r)) : ∃ ps : List Rat, ps.length = n ∧ (∀ p ∈ ps, LatC p) ∧ r = ps.map .rat := by
  obtain ⟨n', ps, e, h1, h2, e2⟩ := h
  injection e with e1 _
  injection e1 with e1
  injection e2 with e2
  have : n' = n := by omega
  subst this
  exact ⟨ps, h1, h2, e2⟩
structure Hnd (d : Dt) (qs : List Rat) : Prop where
  sq : d.seq d.items
  al : d.items.all Dt.isNum = true
  nu : nums d.items = qs
section
variable {d : Dt} {qs : List Rat}
theorem Hnd.len (h : Hnd d qs) : d.items.length = qs.length := by rw [← h.nu, nums_len]
theorem Hnd.lst (qs : List Rat) : Hnd (.lst (qs.map .rat)) qs := ⟨.inl rfl, by show (List.all (List.map Dt.rat qs) _) = true; rw [List.all_map]; exact List.all_eq_true.mpr fun _ _ => rfl, nums_rats qs⟩
theorem Hnd.tup (qs : List Rat) : Hnd (.tup (qs.map .rat)) qs := ⟨.inr rfl, by show (List.all (List.map Dt.rat qs) _) = true; rw [List.all_map]; exact List.all_eq_true.mpr fun _ _ => rfl, nums_rats qs⟩
theorem hnd_of (h : fdGiven.post [.lst (qs.map .rat)] d) : Hnd d qs := by
  obtain ⟨qs', l, e, hs, ha, hn⟩ := h
  injection e with e _
  injection e with e
  have e := rats_inj e
  subst e
  have hi := (Dt.seq_items hs).1
  exact ⟨by rw [hi]; exact hs, by rw [hi]; exact ha, by rw [hi]; exact hn⟩
theorem Hnd.ok {k : Nat} (h : Hnd d qs) (hz : ∀ q ∈ qs, Sz k q) (hl : qs.length ≤ 1000) : d.Ok k := by
  refine ⟨?_, fun x hx => num_kind (allNum_mem h.al hx), by rw [h.len]; exact hl, fun x hx => hz _ (by rw [← h.nu]; exact List.mem_map.mpr ⟨x, hx, rfl⟩)⟩
  rcases h.sq with e | e <;> rw [e] <;> rfl
theorem Hnd.curve {n : Nat} (h : Hnd d qs) (hl : qs.length = n) : curveB d n = true := by
  unfold curveB Dt.numsB
  have hlt : d.isLT = true := (Dt.seq_items h.sq).2
  rw [hlt, h.al, h.len, decide_eq_true hl]
  rfl
theorem Hnd.lot {n : Nat} (h : Hnd d qs) (hl : LotR n qs) : lotB d n = true := by
  unfold lotB
  rw [h.curve hl.1, h.nu, decide_eq_true hl.2.2.1, show (d.items.all fun x => decide (0 ≤ x.num.num)) = true from List.all_eq_true.mpr fun x hx => decide_eq_true (Rat.num_nonneg.mpr (hl.2.1 _ (by rw [← h.nu]; exact List.mem_map.mpr ⟨x, hx, rfl⟩)))]
  rfl
theorem Hnd.price {ms : List Rat} (h : Hnd d qs) (h1 : 1 ≤ ms.length) (h8 : ms.length ≤ 8) (hpw : ms.Pairwise (· < ·)) (hz : ∀ q ∈ ms, Sz 45 q) (lat : LatV ms) (hl : qs.length = ms.length) (hq : ∀ q ∈ qs, Sz 45 q) (hb : LatB qs) : PriceOk ms d :=
  ⟨h1, h8, hpw, hz, h.ok hq (by omega), fun _ => by rw [h.nu]; exact hb.dd lat hpw hl h8⟩
end
theorem bad_price {ms : List Rat} {d : Dt} (h1 : 1 ≤ ms.length) (h8 : ms.length ≤ 8) (hpw : ms.Pairwise (· < ·)) (hz : ∀ q ∈ ms, Sz 45 q) (ok : d.Ok 45) (hc : curveB d ms.length = false) : PriceOk ms d :=
  ⟨h1, h8, hpw, hz, ok, fun h => by rw [hc] at h; cases h⟩
theorem told_neT {w : Str} {d : Dt} {K : Dt → Prop} (hs : d.shw 3) (hw : PyData.strOk w = true) (k : K (.bl false)) : O_eqD true (.lst [.str w, .str (S d.txl)]) (.lst [.str w, .str (S d.txl)]) K := by
  have ht : PyData.strOk (S d.txl) = true := strOk_S (txl_ok 3 d hs).1
  have lay : PyData.canLay0 (.list [.str w, .str (S d.txl)]) = true := by
    show PyData.canLayAll0 (([w, S d.txl] : List Str).map PyData.str) = true
    exact canLay_strs _ fun x hx => by
      rcases List.mem_cons.mp hx with h | h
      · rw [h]; exact hw
      · rw [List.mem_singleton.mp h]; exact ht
  have sh : SeqAt.shaped (.list [.str w, .str (S d.txl)]) = true := by
    show (PyData.canLay0 _ && decide (PyData.depth _ ≤ 64)) = true
    rw [lay, Bool.true_and]
    exact decide_eq_true (by simp [PyData.depth, PyData.depthAll])
  exact ⟨.list [.str w, .str (S d.txl)], .list [.str w, .str (S d.txl)], rfl, rfl, sh, sh, by rw [if_pos rfl, SeqAt.eqv_refl _ lay]; exact k⟩
theorem shw_rat {n : Nat} {q : Rat} (h : Sz 60 q) : Dt.shw (n + 1) (.rat q) := by
  have e : (2 : Nat) ^ 60 ≤ 10 ^ 60 := by decide
  exact ⟨Nat.lt_of_lt_of_le h.1 e, Nat.lt_of_lt_of_le h.2 e⟩
theorem shw_lst {n : Nat} {l : List Dt} (hl : l.length ≤ 30) (h : ∀ d ∈ l, Dt.shw n d) : Dt.shw (n + 1) (.lst l) := ⟨hl, h⟩
theorem ok_lst {k : Nat} {l : List Dt} (hl : l.length ≤ 1000) (h : ∀ d ∈ l, d.kind = true ∧ Sz k d.num) : (Dt.lst l).Ok k := ⟨rfl, fun x hx => (h x hx).1, hl, fun x hx => (h x hx).2⟩
theorem sz_small {k : Nat} (hk : 2 ≤ k) {i : Int} (h : i.natAbs ≤ 3) : Sz k ((i : Int) : Rat) := sz_le' (sz_int (k := 2) (by omega) (by decide)) hk
theorem curve_short {l : List Dt} {n : Nat} (h : l.length ≠ n) : curveB (.lst l) n = false := by
  unfold curveB
  rw [show (Dt.lst l).items = l from rfl, decide_eq_false h, Bool.and_false]
theorem lot_curve {d : Dt} {n : Nat} (h : curveB d n = false) : lotB d n = false := by
  unfold lotB
  rw [h]
  rfl
theorem sumR_cons (x : Rat) (l : List Rat) : sumR (x :: l) = x + sumR l := by
  rw [← sumR_sumN, ← sumR_sumN, List.length_cons, sumN_front]
  rfl
theorem sumR_nonneg : ∀ l : List Rat, (∀ q ∈ l, 0 ≤ q) → 0 ≤ sumR l
  | [], _ => by rw [sumR_nil]; exact Rat.le_refl
  | x :: l, h => by
    rw [sumR_cons]
    have h1 := h x (List.mem_cons_self ..)
    have h2 := sumR_nonneg l fun q hq => h q (List.mem_cons_of_mem _ hq)
    grind
theorem fault_cases (ms hs : List Rat) : faultD ms hs = .non ∨ ∃ k, faultD ms hs = .int k := by
  unfold faultD
  split
  · exact .inr ⟨_, rfl⟩
  · cases negAt (toldR ms hs) with
    | none => exact .inl rfl
    | some k => exact .inr ⟨_, rfl⟩
theorem fault_eqS (ms hs : List Rat) : eqS (faultD ms hs) (faultD ms hs) = some true := by
  rcases fault_cases ms hs with h | ⟨k, h⟩
  · rw [h]; rfl
  · rw [h]
    show some (decide (k = k)) = _
    rw [decide_eq_true rfl]
def BadP (n : Nat) (x : Dt) : Prop := x.Ok 45 ∧ lotB x n = false ∧ x.shw 3
def OddP (n : Nat) (x : Dt) : Prop := x.Ok 45 ∧ curveB x n = false ∧ x.shw 3
theorem okN {k : Nat} : (Dt.non).Ok k := ⟨rfl, (fun _ h => nomatch h), (by show 0 ≤ 1000; decide), (fun _ h => nomatch h)⟩
theorem okI {k : Nat} (i : Int) : (Dt.int i).Ok k := ⟨rfl, (fun _ h => nomatch h), (by show 0 ≤ 1000; decide), (fun _ h => nomatch h)⟩
theorem okStr {k : Nat} (s : Str) : (Dt.str s).Ok k := ⟨rfl, (fun _ h => nomatch h), (by show 0 ≤ 1000; decide), (fun _ h => nomatch h)⟩
theorem shw_one : Dt.shw 3 (.str (Str.ofString "1")) := by
  refine ⟨?_, ?_⟩ <;> decide +kernel
section
variable {n : Nat} {qs : List Rat}
structure Nm (x : Dt) : Prop where
  k : x.kind = true
  z : Sz 45 x.num
  s : Dt.shw 2 x
theorem Nm.rat {q : Rat} (h : Sz 45 q) : Nm (.rat q) := ⟨rfl, h, shw_rat (sz_le' h (by decide))⟩
theorem Nm.int {i : Int} (h : i.natAbs ≤ 3) : Nm (.int i) := ⟨rfl, sz_small (by decide) h, by show i.natAbs < 10 ^ 60; exact Nat.lt_of_le_of_lt h (by decide)⟩
theorem Nm.non : Nm .non := ⟨rfl, sz_le' (a := 1) (q := 0) ⟨by decide, by decide⟩ (by decide), trivial⟩
theorem Nm.bl (b : Bool) : Nm (.bl b) := ⟨rfl, sz_le' (a := 1) (q := 0) ⟨by decide, by decide⟩ (by decide), trivial⟩
theorem nm_lst {l : List Dt} (hl : l.length ≤ 30) (h : ∀ x ∈ l, Nm x) : (Dt.lst l).Ok 45 ∧ Dt.shw 3 (.lst l) := ⟨ok_lst (by omega) fun x hx => ⟨(h x hx).k, (h x hx).z⟩, shw_lst hl fun x hx => (h x hx).s⟩
theorem nm_rats (hz : ∀ q ∈ qs, Sz 45 q) : ∀ x ∈ qs.map Dt.rat, Nm x := fun x hx => by
  obtain ⟨q, hq, rfl⟩ := List.mem_map.mp hx
  exact .rat (hz q hq)
theorem nm_app {l m : List Dt} (h1 : ∀ x ∈ l, Nm x) (h2 : ∀ x ∈ m, Nm x) : ∀ x ∈ l ++ m, Nm x := fun x hx => (List.mem_append.mp hx).elim (h1 x) (h2 x)
theorem nm_one {d : Dt} (h : Nm d) : ∀ x ∈ [d], Nm x := fun x hx => by rw [List.mem_singleton.mp hx]; exact h
theorem nm_cut {l : List Dt} {lo hi : Option Int} (h : ∀ x ∈ l, Nm x) : ∀ x ∈ cutG l lo hi, Nm x := fun x hx => h x (cutG_mem hx)
theorem badP_ok (h1 : 1 ≤ n) (h8 : n ≤ 8) (lot : LotR n qs) (hz : ∀ q ∈ qs, Sz 45 q) : ∀ x ∈ [Dt.non, .lst [], .lst (qs.map Dt.rat ++ [.int 0]), .lst ([.int 2] ++ cutG (qs.map Dt.rat) (some 1) none), .int 0, .str (Str.ofString "1"), .lst ([.int 2] ++ (List.replicate (((qs.map Dt.rat).length : Int) - 2).toNat [Dt.int 0]).flatten ++ [.int (-1)])], BadP n x := by
  have hl := lot.1
  have z0 := nm_rats hz
  intro x hx
  simp only [List.mem_cons, List.not_mem_nil, or_false] at hx
  rcases hx with rfl | rfl | rfl | rfl | rfl | rfl | rfl
  · exact ⟨okN, rfl, trivial⟩
  · obtain ⟨o, s⟩ := nm_lst (l := []) (by decide) fun _ h => nomatch h
    exact ⟨o, lot_curve (curve_short (by show 0 ≠ n; omega)), s⟩
  · obtain ⟨o, s⟩ := nm_lst (l := qs.map Dt.rat ++ [.int 0]) (by rw [List.length_append, List.length_map]; show _ + 1 ≤ 30; omega) (nm_app z0 (nm_one (.int (by decide))))
    exact ⟨o, lot_curve (curve_short (by rw [List.length_append, List.length_map]; show _ + 1 ≠ n; omega)), s⟩
  · have lc := cutG_len (qs.map Dt.rat) (some 1) none
    rw [List.length_map] at lc
    obtain ⟨o, s⟩ := nm_lst (l := [.int 2] ++ cutG (qs.map Dt.rat) (some 1) none) (by rw [List.length_append]; show 1 + _ ≤ 30; omega) (nm_app (nm_one (.int (by decide))) (nm_cut z0))
    refine ⟨o, ?_, s⟩
    cases hb : lotB (.lst ([.int 2] ++ cutG (qs.map Dt.rat) (some 1) none)) n with
    | false => rfl
    | true =>
      obtain ⟨_, _, _, _, hs⟩ := lotB_all hb
      have e : nums (Dt.items (.lst ([.int 2] ++ cutG (qs.map Dt.rat) (some 1) none))) = ((2 : Int) : Rat) :: qs.drop 1 := by
        show nums ([.int 2] ++ cutG (qs.map Dt.rat) (some 1) none) = _
        rw [cutG_tail, ← List.map_drop]
        show ((2 : Int) : Rat) :: nums ((qs.drop 1).map Dt.rat) = _
        rw [nums_rats]
      rw [e, sumR_cons] at hs
      have h0 := sumR_nonneg (qs.drop 1) fun q hq => lot.2.1 q (List.mem_of_mem_drop hq)
      have : ((2 : Int) : Rat) = 2 := rfl
      grind
  · exact ⟨okI 0, rfl, by show (0 : Int).natAbs < 10 ^ 60; decide⟩
  · exact ⟨okStr _, rfl, shw_one⟩
  · have lr : ((List.replicate (((qs.map Dt.rat).length : Int) - 2).toNat [Dt.int 0]).flatten).length ≤ 8 := by
      rw [List.length_map, List.flatten_replicate_singleton, List.length_replicate]
      omega
    obtain ⟨o, s⟩ := nm_lst (l := [.int 2] ++ (List.replicate (((qs.map Dt.rat).length : Int) - 2).toNat [Dt.int 0]).flatten ++ [.int (-1)]) (by rw [List.length_append, List.length_append]; show 1 + _ + 1 ≤ 30; omega) (nm_app (nm_app (nm_one (.int (by decide))) fun x hx => by
      rw [List.flatten_replicate_singleton] at hx
      rw [(List.mem_replicate.mp hx).2]
      exact .int (by decide)) (nm_one (.int (by decide))))
    refine ⟨o, ?_, s⟩
    cases hb : lotB (.lst ([.int 2] ++ (List.replicate (((qs.map Dt.rat).length : Int) - 2).toNat [Dt.int 0]).flatten ++ [.int (-1)])) n with
    | false => rfl
    | true =>
      obtain ⟨_, _, _, hp, _⟩ := lotB_all hb
      have := hp (.int (-1)) (List.mem_append_right _ (List.mem_singleton.mpr rfl))
      exact absurd this (by decide)
theorem oddP_ok (h1 : 1 ≤ n) (h8 : n ≤ 8) (hl : qs.length = n) (hz : ∀ q ∈ qs, Sz 45 q) : ∀ x ∈ [Dt.non, .lst [], .lst (qs.map Dt.rat ++ [.int 0]), .lst (cutG (qs.map Dt.rat) (some 1) none), .lst ([.non] ++ cutG (qs.map Dt.rat) (some 1) none), .lst ([.bl true] ++ cutG (qs.map Dt.rat) (some 1) none), .int 0], OddP n x := by
  have z0 := nm_rats hz
  have lc := cutG_len (qs.map Dt.rat) (some 1) none
  rw [List.length_map] at lc
  intro x hx
  simp only [List.mem_cons, List.not_mem_nil, or_false] at hx
  rcases hx with rfl | rfl | rfl | rfl | rfl | rfl | rfl
  · exact ⟨okN, rfl, trivial⟩
  · obtain ⟨o, s⟩ := nm_lst (l := []) (by decide) fun _ h => nomatch h
    exact ⟨o, curve_short (by show 0 ≠ n; omega), s⟩
  · obtain ⟨o, s⟩ := nm_lst (l := qs.map Dt.rat ++ [.int 0]) (by rw [List.length_append, List.length_map]; show _ + 1 ≤ 30; omega) (nm_app z0 (nm_one (.int (by decide))))
    exact ⟨o, curve_short (by rw [List.length_append, List.length_map]; show _ + 1 ≠ n; omega), s⟩
  · obtain ⟨o, s⟩ := nm_lst (l := cutG (qs.map Dt.rat) (some 1) none) (by omega) (nm_cut z0)
    exact ⟨o, curve_short (by rw [cutG_tail, List.length_drop, List.length_map]; omega), s⟩
  · obtain ⟨o, s⟩ := nm_lst (l := [.non] ++ cutG (qs.map Dt.rat) (some 1) none) (by rw [List.length_append]; show 1 + _ ≤ 30; omega) (nm_app (nm_one .non) (nm_cut z0))
    exact ⟨o, rfl, s⟩
  · obtain ⟨o, s⟩ := nm_lst (l := [.bl true] ++ cutG (qs.map Dt.rat) (some 1) none) (by rw [List.length_append]; show 1 + _ ≤ 30; omega) (nm_app (nm_one (.bl true)) (nm_cut z0))
    exact ⟨o, rfl, s⟩
  · exact ⟨okI 0, rfl, by show (0 : Int).natAbs < 10 ^ 60; decide⟩
end
end Fm

set_option maxHeartbeats 2000000
namespace Fm
open PySem PySem.Spec PyProof.Rows L2
section
variable {G : Gs} {E : XK} {K : PySem.W.Frag}
end
end Fm

set_option maxHeartbeats 2000000
namespace PySem.SeqAt
open AutoSeq1 (wpAny_loadPart')
open MeetsSeq
open PyProof.Rows PySem.W
section
variable {A : Around} {s : Shared}
end
end PySem.SeqAt
namespace Fm
open PySem PySem.Spec PyProof.Rows L2 PySem.W
section
variable {X : Cx}
end
end Fm

set_option maxHeartbeats 2000000
namespace Fm
open PySem PySem.Spec PyProof.Rows L2
section
variable {G : Gs} {E : XK} {K : PySem.W.Frag}
theorem RL.repI : RL G rRep (fun d e K => ∃ l k, d = .lst l ∧ e = .int k ∧ -(2 ^ 62) ≤ k ∧ k < 2 ^ 62 ∧ l.length * k.toNat ≤ 1000 ∧ K (List.replicate k.toNat l).flatten) where
  run := fun hx h1 h2 ⟨l, n, e1, e2, hn, hn2, hl, k⟩ => by
    subst e1; subst e2
    cases h1 with
    | lst hp r => cases h2 with
      | int =>
        refine ⟨_, _, _, rfl, rfl, (cut_some.mp hp).2, by omega, by omega, Nat.le_trans (m := 1000) (by rw [r.length]; exact hl) (by decide), fun p hp2 => ?_⟩
        exact k p _ _ hp2 (Ex.new hp2) upd_same (r.rep _)
  mono := fun m ⟨l, n, e1, e2, hn, hn2, hl, k⟩ => ⟨l, n, e1, e2, hn, hn2, hl, m _ k⟩
end
end Fm

set_option maxHeartbeats 4000000
namespace Kx
open PySem PySem.Spec PyProof.Rows L2 Fm SX
local macro_rules | `(tactic| walk_at "gv") => `(tactic| ((with_reducible refine' g_var ?gh ?_); (case gh => exact rfl)))
local macro_rules | `(tactic| walk_at "g1") => `(tactic| first
  | walk_at "gv"
  | with_reducible refine g_c ?_ | with_reducible refine g_op ?_ | with_reducible refine g_un ?_ | with_reducible refine g_I0 ?_ | with_reducible refine g_U ?_
  | with_reducible refine g_eqI ?_ | with_reducible refine g_neI ?_ | with_reducible refine g_eqS ?_ | with_reducible refine g_neS ?_
  | with_reducible refine g_test ?_ | with_reducible refine g_B ?_ | with_reducible refine g_bl ?_ | with_reducible refine g_not ?_ | with_reducible refine g_and ?_ | with_reducible refine g_or ?_
  | with_reducible refine g_andV ?_ | with_reducible refine g_orV ?_ | with_reducible refine g_notV ?_ | with_reducible refine g_chain ?_ | with_reducible refine g_if ?_ | with_reducible refine g_ifS ?_
  | with_reducible refine g_seq ?_ | with_reducible refine g_next ?_ | with_reducible refine g_break ?_ | with_reducible refine g_cont ?_ | with_reducible refine g_drop ?_ | with_reducible refine g_ret ?_ | with_reducible refine g_retN ?_
  | with_reducible refine g_asg ?_ | with_reducible refine g_name ?_ | with_reducible refine g_par ?_ | with_reducible refine g_par2 ?_ | with_reducible refine g_fld ?_ | with_reducible refine g_sfld ?_
  | with_reducible refine g_nil ?_ | with_reducible refine g_cons ?_ | with_reducible refine g_tup ?_ | with_reducible refine g_lst ?_ | with_reducible refine g_call ?_ | with_reducible refine g_meth ?_ | with_reducible refine g_make1 ?_ | with_reducible refine g_make ?_ | with_reducible refine g_cb ?_ | with_reducible refine g_sub ?_ | with_reducible refine g_m0 ?_ | with_reducible refine g_gcons ?_ | with_reducible refine g_gnil ?_ | with_reducible refine g_for ?_ | with_reducible refine g_lc ?_ | with_reducible refine g_ilist ?_ | with_reducible refine g_itup ?_ | with_reducible refine g_rng1 ?_ | with_reducible refine g_rng3 ?_ | with_reducible refine g_yes ?_ | with_reducible refine g_sl ?_ | with_reducible refine g_nopart ?_ | with_reducible refine g_part ?_ | with_reducible refine g_exI ?_ | with_reducible refine g_m1 ?_ | with_reducible refine g_isS ?_ | with_reducible refine g_bm ?_ | with_reducible refine g_revL ?_ | with_reducible refine g_istr ?_ | with_reducible refine g_notInS ?_ | with_reducible refine g_absI ?_ | with_reducible refine g_intI ?_ | with_reducible refine g_izip ?_ | with_reducible refine g_ienum ?_ | with_reducible refine g_bm0 ?_ | with_reducible refine g_mko ?_ | with_reducible refine g_methW ?_ | with_reducible refine g_callW ?_
  | with_reducible refine iteT ?_ | with_reducible refine iteF ?_ | with_reducible refine g_gcd ?_)
local macro_rules | `(tactic| walk_at "g") => `(tactic| (repeat (first | walk_at "g1" | dsimp only [cx_K, cx_Kn, b_nt, b_nf])))
local macro_rules | `(tactic| walk_at "mul") => `(tactic| exact mulA (a := 200) (b := 200) (by omega) (by omega) (by decide))
local macro_rules | `(tactic| walk_at "pow") => `(tactic| exact ⟨by omega, by omega, by omega⟩)

def spLaw (K : PySem.W.Frag) : Sp := fun vs H Q _ => ∃ (p : Addr) (ns : List Int), vs = [.ref p] ∧ SqL K H p (ns.map V.int) ∧ ns.length ≤ 1000 ∧ ∀ H', Ex H H' → Q (.bl true) H'
section
variable {P : Program} {w : World} {K : PySem.W.Frag} {mg : Str → Option Value} {base : Heap} {a : Ad}
theorem same_ne {qs : List Rat} {l : List Dt} (h : l.map Dt.num = qs) : (if true = true then !decide (qs = l.map Dt.num) else decide (qs = l.map Dt.num)) = false := by rw [if_pos rfl, h, decide_eq_true rfl]; rfl
def PrI (n : Nat) (x : Dt) : Prop := ∃ hs : List Rat, Hnd x hs ∧ (∃ l, x = .lst l) ∧ hs.length = n ∧ (∀ q ∈ hs, Sz 45 q) ∧ LatB hs
theorem items_pr {n : Nat} {a b c d x : Dt} {i : Nat} (ha : PrI n a) (hb : PrI n b) (hc : PrI n c) (hd : PrI n d) (h : [a, b, c, d][i]? = some x) : PrI n x := by
  have := List.mem_of_getElem? h
  simp only [List.mem_cons, List.not_mem_nil, or_false] at this
  rcases this with rfl | rfl | rfl | rfl <;> assumption
theorem zeros_pr (ms : List Rat) : PrI ms.length (.lst ([] ++ (ms.map Dt.rat).map fun _ => Dt.int 0)) := by
  rw [List.nil_append]
  refine ⟨ms.map fun _ => ((0 : Int) : Rat), ⟨.inl rfl, ?_, ?_⟩, ⟨_, rfl⟩, by rw [List.length_map], fun q hq => ?_, latB_of (E := 1) (b := 1) (by decide) (by decide) (by decide) fun q hq => ?_⟩
  · show (List.all (List.map _ _) _) = true
    rw [List.all_map]
    exact List.all_eq_true.mpr fun _ _ => rfl
  · show nums (List.map _ (List.map _ _)) = _
    unfold nums
    rw [List.map_map, List.map_map]
    rfl
  · obtain ⟨_, _, rfl⟩ := List.mem_map.mp hq
    exact sz_le' (a := 1) ⟨by decide, by decide⟩ (by decide)
  · obtain ⟨_, _, rfl⟩ := List.mem_map.mp hq
    exact LatE.int (by decide)
theorem covers_post {ms ps : List Rat} {l : List Dt} (h : fdCoversL.post [.lst (ms.map .rat), .lst (ps.map .rat)] (.lst l)) : l = (coversR ps ms).map .rat := by
  obtain ⟨ms', ps', e, e2⟩ := h
  injection e with e1 e3
  injection e1 with e1
  injection e3 with e3 _
  injection e3 with e3
  injection e2 with e2
  rw [e2, rats_inj e1, rats_inj e3]
theorem faultL_post {ms hs : List Rat} {r : Dt} (h : fdFaultL.post [.lst (ms.map .rat), .lst (hs.map .rat)] r) : r = .lst [faultD ms hs, .lst ((toldR ms hs).map .rat)] := by
  obtain ⟨ms', ps', e, e2⟩ := h
  injection e with e1 e3
  injection e1 with e1
  injection e3 with e3 _
  injection e3 with e3
  rw [e2, rats_inj e1, rats_inj e3]
theorem askedC_post {j : Int} {qs : List Rat} {d r : Dt} (h : fdAskedC.post [.int j, .scl qs, d] r) : r = askedC j qs d := by
  obtain ⟨j', qs', d', e, rfl⟩ := h
  cases e
  rfl
theorem askedL_post {qs : List Rat} {d r : Dt} (h : fdAskedL.post [.int 0, .scl qs, d] r) : r = askedC 0 qs d := by
  obtain ⟨qs', d', e, rfl⟩ := h
  cases e
  rfl
theorem ok_law (T : Tx K mg a) : FnOk P w K mg base CX0 15 a.f_law a.d_law P_law (spLaw K) := by
  refine def_ok0 T.F_law sc_law (fun vs H Q E h => ?_) (fun cdv A outer s H vs Q E hr h => ?_)
  · obtain ⟨p, ns, rfl, _⟩ := h
    rfl
  · obtain ⟨p, ns, rfl, hp, hns, z⟩ := h
    refine ⟨_, (pss_cons (ps_for PassesOwn.never rfl (pi_range1 (by rfl) T.b_range (pa_cons (pe_callB (cr_max2 rfl) (by rfl) T.b_max (by decide +kernel) (pa_cons pe_int (pa_cons (pe_callB (cr_min2 rfl) (by rfl) T.b_min (by decide +kernel) (pa_cons pe_int (pa_cons (pe_callB call_lenQ (by rfl) T.b_len (by decide +kernel) (pa_cons (pv 0) pa_nil)) pa_nil))) pa_nil))) pa_nil)) (pg_name (i := 1) sc_law.nd rfl (Or.inl rfl)) (pss_cons (ps_set (i := 2) sc_law.nd rfl (Or.inl rfl) (pe_call (ok_Lbox T) (hr.mono (by decide)) (by rfl) T.g_Lbox T.F_Lbox.kp (bd_Lbox T) .nil pass0 (pa_cons (pv 0) (pa_cons (pv 1) pa_nil)))) (pss_cons (ps_set (i := 3) sc_law.nd rfl (Or.inl rfl) (pe_call (ok_Lmarks T) (hr.mono (by decide)) (by rfl) T.g_Lmarks T.F_Lmarks.kp (bd_Lmarks T) .nil pass0 (pa_cons (pv 2) (pa_cons pe_int (pa_cons pe_int pa_nil))))) (pss_cons (ps_set (i := 4) sc_law.nd rfl (Or.inl rfl) (pe_make T.mk_Scale (ok_Scale_init T) (hr.mono (by decide)) (by rfl) T.g_Scale (bd_Scale_init T) .nil passN (pa_cons (pv 3) pa_nil))) (pss_cons (ps_set (i := 5) sc_law.nd rfl (Or.inl rfl) (pe_call (ok_Llot T) (hr.mono (by decide)) (by rfl) T.g_Llot T.F_Llot.kp (bd_Llot T) .nil pass0 (pa_cons (pv 2) (pa_cons (pe_callB call_lenQ (by rfl) T.b_len (by decide +kernel) (pa_cons (pv 3) pa_nil)) pa_nil)))) (pss_cons (ps_set (i := 6) sc_law.nd rfl (Or.inl rfl) (pe_call (ok_Lcovers T) (hr.mono (by decide)) (by rfl) T.g_Lcovers T.F_Lcovers.kp (bd_Lcovers T) .nil pass0 (pa_cons (pv 3) (pa_cons (pv 5) pa_nil)))) (pss_cons (ps_set (i := 7) sc_law.nd rfl (Or.inl rfl) (pe_call (ok_LaskedL T) (hr.mono (by decide)) (by rfl) T.g_Lasked T.F_Lasked.kp (bd_Lasked T) .nil pass0 (pa_cons pe_int (pa_cons (pv 4) (pa_cons (pv 5) pa_nil))))) (pss_cons (ps_if (PW.pt (pw_or (pt_cmpR (op_lsRN hr.units0 T.R (op_cmp (fun _ _ => rfl) T.p_eq (ok_Ratio_eq T) (hr.mono (by decide) : Room 5 _).in1 (bd_Ratio_eq T) pass0)) (pv 7) (pv 6) (nomark _)) (pw_or (pt_cmpR (op_lsRN hr.units0 T.R (op_cmp (fun _ _ => rfl) T.p_eq (ok_Ratio_eq T) (hr.mono (by decide) : Room 5 _).in1 (bd_Ratio_eq T) pass0)) (pe_call (ok_Lasked T) (hr.mono (by decide)) (by rfl) T.g_Lasked T.F_Lasked.kp (bd_Lasked T) .nil pass0 (pa_cons pe_int (pa_cons (pv 4) (pa_cons (pe_callTy call_tuple_of (by rfl) T.b_tuple (by decide +kernel) (pa_cons (pv 6) pa_nil)) pa_nil)))) (pv 5) (nomark _)) (pw_or1 (pt_cmpR op_notN (pe_call (ok_Lasked T) (hr.mono (by decide)) (by rfl) T.g_Lasked T.F_Lasked.kp (bd_Lasked T) .nil pass0 (pa_cons pe_int (pa_cons (pv 4) (pa_cons (pv 6) pa_nil)))) pe_non (nomark _)))))) (pss_one (ps_ret pe_bl)) pss_nil) (pss_cons (ps_if (PW.pt (pw_or (pt_cmpR (op_lsRN hr.units0 T.R (op_cmp (fun _ _ => rfl) T.p_eq (ok_Ratio_eq T) (hr.mono (by decide) : Room 5 _).in1 (bd_Ratio_eq T) pass0)) (pe_call (ok_Lasked T) (hr.mono (by decide)) (by rfl) T.g_Lasked T.F_Lasked.kp (bd_Lasked T) .nil pass0 (pa_cons pe_int (pa_cons (pv 4) (pa_cons (pe_call (ok_Lgiven T) (hr.mono (by decide)) (by rfl) T.g_Lgiven T.F_Lgiven.kp (bd_Lgiven T) .nil pass0 (pa_cons (pv 2) (pa_cons (pv 5) pa_nil))) pa_nil)))) (pv 6) (nomark _)) (pw_or1 (pt_cmpR (op_lsRN hr.units0 T.R (op_cmp (fun _ _ => rfl) T.p_eq (ok_Ratio_eq T) (hr.mono (by decide) : Room 5 _).in1 (bd_Ratio_eq T) pass0)) (pe_call (ok_Lasked T) (hr.mono (by decide)) (by rfl) T.g_Lasked T.F_Lasked.kp (bd_Lasked T) .nil pass0 (pa_cons pe_int (pa_cons (pv 4) (pa_cons (pe_call (ok_Lgiven T) (hr.mono (by decide)) (by rfl) T.g_Lgiven T.F_Lgiven.kp (bd_Lgiven T) .nil pass0 (pa_cons (pv 2) (pa_cons (pv 6) pa_nil))) pa_nil)))) (pv 5) (nomark _))))) (pss_one (ps_ret pe_bl)) pss_nil) (pss_cons (ps_expr (pe_bm0 PySem.F.plainAttrs_list PySem.F.slot_list_clear PySem.F.type_list_clear mt_clear (pv 7))) (pss_cons (ps_set (i := 8) sc_law.nd rfl (Or.inl rfl) (pe_call (ok_Ltake T) (hr.mono (by decide)) (by rfl) T.g_Ltake T.F_Ltake.kp (bd_Ltake T) .nil pass0 (pa_cons (pv 2) (pa_cons (pe_callB call_lenQ (by rfl) T.b_len (by decide +kernel) (pa_cons (pv 3) pa_nil)) pa_nil)))) (pss_cons (ps_set (i := 9) sc_law.nd rfl (Or.inl rfl) (pe_op op_cat (pe_op op_cat (pe_slice sl_list (pv 6) po_none (po_some (pv 8))) (pe_lst (pa_cons (pe_op (op_own T.o_add (ok_Ratio_add T) (hr.mono (by decide)) (bd_Ratio_add T) pass0) (pe_ix ix_list (pv 6) (pv 8) (fun _ _ => rfl)) (pe_make T.mk_Ratio (ok_Ratio_init T) (hr.mono (by decide)) (by rfl) T.g_Ratio (bd_Ratio_init T) .nil pass0 (pa_cons (pe_op op_sub (pe_call (ok_Ltake T) (hr.mono (by decide)) (by rfl) T.g_Ltake T.F_Ltake.kp (bd_Ltake T) .nil pass0 (pa_cons (pv 2) (pa_cons pe_int pa_nil))) pe_int) (pa_cons pe_int pa_nil)))) pa_nil))) (pe_slice sl_list (pv 6) (po_some (pe_op op_add (pv 8) pe_int)) po_none))) (pss_cons (ps_for PassesOwn.never rfl (pi_list (pe_lst (pa_cons (pv 9) (pa_cons (pe_call (ok_Lcurve T) (hr.mono (by decide)) (by rfl) T.g_Lcurve T.F_Lcurve.kp (bd_Lcurve T) .nil pass0 (pa_cons (pv 2) (pa_cons (pe_callB call_lenQ (by rfl) T.b_len (by decide +kernel) (pa_cons (pv 3) pa_nil)) pa_nil))) (pa_cons (pe_lc (own := [("_law_mark", 11)]) (g := (gName 11)) (tt := tYes) rfl sc_law.nd (pi_list (pv 3)) (blkOk_by (N := N_law) (sc := defScope s_law) (by decide +kernel)) (fun _ _ _ _ _ => pg_name (i := 11) sc_law.nd rfl (Or.inl rfl)) (fun _ _ _ _ _ => pts_nil) (fun _ _ _ _ _ => pe_int)) (pa_cons (pe_revL (pv 6)) pa_nil)))))) (pg_name (i := 10) sc_law.nd rfl (Or.inl rfl)) (pss_cons (ps_asg (pe_call (ok_Lfault T) (hr.mono (by decide)) (by rfl) T.g_Lfault T.F_Lfault.kp (bd_Lfault T) .nil pass0 (pa_cons (pv 3) (pa_cons (pe_lc (own := [("_law_price", 14)]) (g := (gName 14)) (tt := tYes) rfl sc_law.nd (pi_seq (pv 10)) (blkOk_by (N := N_law) (sc := defScope s_law) (by decide +kernel)) (fun _ _ _ _ _ => pg_name (i := 14) sc_law.nd rfl (Or.inl rfl)) (fun _ _ _ _ _ => pts_nil) (fun _ _ _ _ _ => (pe_op (op_own T.o_add (ok_Ratio_add T) (hr.mono (by decide)) (bd_Ratio_add T) pass0) (pe_make T.mk_Ratio (ok_Ratio_init T) (hr.mono (by decide)) (by rfl) T.g_Ratio (bd1_Ratio_init T).choose_spec.2 (bd1_Ratio_init T).choose_spec.1 pass0 (pa_cons pe_int pa_nil)) (pv 14)))) pa_nil))) (pg_lst rfl (pgs_cons (pg_name (i := 12) sc_law.nd rfl (Or.inl rfl)) (pgs_cons (pg_name (i := 13) sc_law.nd rfl (Or.inl rfl)) pgs_nil)))) (pss_cons (ps_if (pt_cmpR op_ne (pe_call (ok_Lasked T) (hr.mono (by decide)) (by rfl) T.g_Lasked T.F_Lasked.kp (bd_Lasked T) .nil pass0 (pa_cons pe_int (pa_cons (pv 4) (pa_cons (pv 10) pa_nil)))) (pv 12) (nomark _)) (pss_one (ps_ret pe_bl)) pss_nil) (pss_one (ps_if (pt_cmpR (opR_or op_ne (op_lsRN hr.units0 T.R (op_cmp (fun _ _ => rfl) T.p_eq (ok_Ratio_eq T) (hr.mono (by decide) : Room 5 _).in1 (bd_Ratio_eq T) pass0))) (pe_call (ok_Lasked T) (hr.mono (by decide)) (by rfl) T.g_Lasked T.F_Lasked.kp (bd_Lasked T) .nil pass0 (pa_cons pe_int (pa_cons (pv 4) (pa_cons (pv 10) pa_nil)))) (pe_ifExp (pt_cmpR op_isN (pv 12) pe_non (nomark _)) (pv 13) pe_non) (nomark _)) (pss_one (ps_ret pe_bl)) pss_nil))))) (pss_cons (ps_set (i := 15) sc_law.nd rfl (Or.inl rfl) (pe_ix ix_list (pe_lst (pa_cons pe_non (pa_cons (pe_lst pa_nil) (pa_cons (pe_op op_cat (pv 5) (pe_lst (pa_cons pe_int pa_nil))) (pa_cons (pe_op op_cat (pe_lst (pa_cons pe_int pa_nil)) (pe_slice sl_list (pv 5) (po_some pe_int) po_none)) (pa_cons pe_int (pa_cons pe_str (pa_cons (pe_op op_cat (pe_op op_cat (pe_lst (pa_cons pe_int pa_nil)) (pe_op op_rep (pe_lst (pa_cons pe_int pa_nil)) (pe_op op_sub (pe_callB call_lenQ (by rfl) T.b_len (by decide +kernel) (pa_cons (pv 5) pa_nil)) pe_int))) (pe_lst (pa_cons (pe_un un_neg pe_int) pa_nil))) pa_nil)))))))) (pe_call (ok_Ltake T) (hr.mono (by decide)) (by rfl) T.g_Ltake T.F_Ltake.kp (bd_Ltake T) .nil pass0 (pa_cons (pv 2) (pa_cons pe_int pa_nil))) (fun _ _ => rfl))) (pss_cons (ps_set (i := 16) sc_law.nd rfl (Or.inl rfl) (pe_ix ix_list (pe_lst (pa_cons pe_non (pa_cons (pe_lst pa_nil) (pa_cons (pe_op op_cat (pv 6) (pe_lst (pa_cons pe_int pa_nil))) (pa_cons (pe_slice sl_list (pv 6) (po_some pe_int) po_none) (pa_cons (pe_op op_cat (pe_lst (pa_cons pe_non pa_nil)) (pe_slice sl_list (pv 6) (po_some pe_int) po_none)) (pa_cons (pe_op op_cat (pe_lst (pa_cons pe_bl pa_nil)) (pe_slice sl_list (pv 6) (po_some pe_int) po_none)) (pa_cons pe_int pa_nil)))))))) (pe_call (ok_Ltake T) (hr.mono (by decide)) (by rfl) T.g_Ltake T.F_Ltake.kp (bd_Ltake T) .nil pass0 (pa_cons (pv 2) (pa_cons pe_int pa_nil))) (fun _ _ => rfl))) (pss_cons (ps_if (pt_cmpR (op_neD hr.units) (pe_call (ok_Lasked T) (hr.mono (by decide)) (by rfl) T.g_Lasked T.F_Lasked.kp (bd_Lasked T) .nil pass0 (pa_cons pe_int (pa_cons (pv 4) (pa_cons (pv 15) pa_nil)))) (pe_lst (pa_cons pe_str (pa_cons (pe_call (ok_Lshown T) (hr.mono (by decide)) (by rfl) T.g_Lshown T.F_Lshown.kp (bd_Lshown T) .nil pass0 (pa_cons (pv 15) pa_nil)) pa_nil))) (nomark _)) (pss_one (ps_ret pe_bl)) pss_nil) (pss_one (ps_if (PW.pt (pw_or (pt_cmpR (op_neD hr.units) (pe_call (ok_Lasked T) (hr.mono (by decide)) (by rfl) T.g_Lasked T.F_Lasked.kp (bd_Lasked T) .nil pass0 (pa_cons pe_int (pa_cons (pv 4) (pa_cons (pv 16) pa_nil)))) (pe_lst (pa_cons pe_str (pa_cons (pe_call (ok_Lshown T) (hr.mono (by decide)) (by rfl) T.g_Lshown T.F_Lshown.kp (bd_Lshown T) .nil pass0 (pa_cons (pv 16) pa_nil)) pa_nil))) (nomark _)) (pw_or1 (pt_cmpR (op_neD hr.units) (pe_call (ok_Lasked T) (hr.mono (by decide)) (by rfl) T.g_Lasked T.F_Lasked.kp (bd_Lasked T) .nil pass0 (pa_cons pe_int (pa_cons (pv 4) (pa_cons (pv 16) pa_nil)))) (pe_lst (pa_cons pe_str (pa_cons (pe_call (ok_Lshown T) (hr.mono (by decide)) (by rfl) T.g_Lshown T.F_Lshown.kp (bd_Lshown T) .nil pass0 (pa_cons (pv 16) pa_nil)) pa_nil))) (nomark _))))) (pss_one (ps_ret pe_bl)) pss_nil)))))))))))))))))) (pss_one (ps_ret pe_bl))), ?_⟩
    walk_at "g"
    refine g_lenQ hp ?_
    walk_at "g"
    refine ⟨_, _, rfl, ?_⟩
    walk_at "g"
    refine ⟨_, _, rfl, ?_⟩
    walk_at "g"
    refine ⟨_, rfl, by split <;> split <;> omega, by split <;> split <;> omega, ?_⟩
    have hlap : (if (if (((ns.map V.int).length : Nat) : Int) < 3 then (((ns.map V.int).length : Nat) : Int) else 3) > 1 then (if (((ns.map V.int).length : Nat) : Int) < 3 then (((ns.map V.int).length : Nat) : Int) else 3) else 1).toNat ≤ 100 := by split <;> split <;> omega
    generalize (if (if (((ns.map V.int).length : Nat) : Int) < 3 then (((ns.map V.int).length : Nat) : Int) else 3) > 1 then (if (((ns.map V.int).length : Nat) : Int) < 3 then (((ns.map V.int).length : Nat) : Int) else 3) else 1).toNat = laps at hlap ⊢
    refine lp_R (fun i σ' H' => σ'.length = N_law.length ∧ σ'[0]? = some (some (.ref p)) ∧ Ex H H') ⟨rfl, rfl, Ex.refl _⟩ ?_ ?_
    · rintro i σ' H0 hi ⟨hlen, h0, ex0⟩
      walk_at "g"
      have hl0 : σ'.length = 17 := hlen
      refine ⟨_, by rw [List.getElem?_set_ne (by decide)]; exact h0, _, by rw [List.getElem?_set_self (by rw [hl0]; decide)], p, ns, i, by rw [Int.zero_add], ex0.sql hp, by omega, fun t H1 hT e1 t1 => ?_⟩
      have S0 : St a.G ⟨H1, fun a => a = t, fun _ => False⟩ ((σ'.set 1 (some (.int (0 + (i : Int))))).set 2 (some (.ref t))) H1 ([.ref p, .val (.int (0 + (i : Int))), .box t 0, .un, .un, .un, .un, .un, .un, .un, .un, .un, .un, .un, .un, .un, .un]) := by
        refine St.boxStart (n := 2) (by rw [List.length_set, List.length_set, hl0]; rfl) (by show 2 < 17; decide) (fun j s hj => ?_) t1
        match j, hj with
        | 0, hj => cases hj; exact .inr (.inr (.inl ⟨by decide, _, rfl, by rw [List.getElem?_set_ne (by decide), List.getElem?_set_ne (by decide)]; exact h0⟩))
        | 1, hj => cases hj; exact .inr (.inr (.inr ⟨by decide, _, rfl, by rw [List.getElem?_set_ne (by decide), List.getElem?_set_self (by rw [hl0]; decide)]⟩))
        | 2, hj => cases hj; exact .inl ⟨rfl, rfl, by rw [List.getElem?_set_self (by rw [List.length_set, hl0]; decide)]⟩
        | j + 3, hj =>
          refine .inr (.inl ⟨by omega, ?_⟩)
          have hj : (List.replicate 14 (Fm.Slot.un))[j]? = some s := hj
          rw [List.getElem?_replicate] at hj
          split at hj
          · cases hj; rfl
          · cases hj
      refine PUS.go (G := a.G) (E := E0) (PUS.seq (PUS.set (i := 3) (PUF.toV (PUF.callB (i := 2) (PUA.cons PU.ci (PUA.cons PU.ci PUA.nil))))) (PUS.seq (PUS.set (i := 4) (PU.mkS (PUA.cons (PU.var (i := 3)) PUA.nil))) (PUS.seq (PUS.set (i := 5) (PUF.toV (PUF.callB (i := 2) (PUA.cons (PU.cbn CD.len (PUA.cons (PU.var (i := 3)) PUA.nil)) PUA.nil)))) (PUS.seq (PUS.set (i := 6) (PUF.toV (PUF.call (PUA.cons (PU.var (i := 3)) (PUA.cons (PU.var (i := 5)) PUA.nil))))) (PUS.seq (PUS.setF (i := 7) (PUF.call (PUA.cons PU.ci (PUA.cons (PU.var (i := 4)) (PUA.cons (PU.var (i := 5)) PUA.nil))))) (PUS.seq (PUS.lendA (PVS.ifS (fun _ => (PUT.or (PUT.test (PU.op RD.lsR (PU.var (i := 7)) (PU.var (i := 6)))) (PUT.or (PUT.test (PU.op RD.lsR (PU.call (PUA.cons PU.ci (PUA.cons (PU.var (i := 4)) (PUA.cons (PU.cbn CD.tuple (PUA.cons (PU.var (i := 6)) PUA.nil)) PUA.nil)))) (PU.var (i := 5)))) (PUT.test (PU.op RD.notN (PU.call (PUA.cons PU.ci (PUA.cons (PU.var (i := 4)) (PUA.cons (PU.var (i := 6)) PUA.nil)))) PU.cn))))) (PVS.ret (fun _ => PU.cb)) PVS.next)) (PUS.seq (PUS.ifS (PUT.or (PUT.test (PU.op RD.lsR (PU.call (PUA.cons PU.ci (PUA.cons (PU.var (i := 4)) (PUA.cons (PU.callB (i := 2) (PUA.cons (PU.var (i := 5)) PUA.nil)) PUA.nil)))) (PU.var (i := 6)))) (PUT.test (PU.op RD.lsR (PU.call (PUA.cons PU.ci (PUA.cons (PU.var (i := 4)) (PUA.cons (PU.callB (i := 2) (PUA.cons (PU.var (i := 6)) PUA.nil)) PUA.nil)))) (PU.var (i := 5))))) (PUS.ret PU.cb) PUS.next) (PUS.seq (PUS.clr (i := 7)) (PUS.seq (PUS.set (i := 8) (PU.take (i := 2) (PUA.cons (PU.cbn CD.len (PUA.cons (PU.var (i := 3)) PUA.nil)) PUA.nil))) (PUS.seq (PUS.set (i := 9) (PUF.toV (PUF.op RL.cat (PUF.toV (PUF.op RL.cat (PUF.toV (PUF.slice (PU.var (i := 6)) PUO.none (PUO.some (PU.var (i := 8))))) (PUF.toV (PUF.lst (PUA.cons (PU.op RD.num2 (PU.op RD.ixL (PU.var (i := 6)) (PU.var (i := 8))) (PU.mkR (PUA.cons (PU.op RD.i0 (PU.take (i := 2) (PUA.cons PU.ci PUA.nil)) PU.ci) (PUA.cons PU.ci PUA.nil)))) PUA.nil))))) (PUF.toV (PUF.slice (PU.var (i := 6)) (PUO.some (PU.op RD.i0 (PU.var (i := 8)) PU.ci)) PUO.none))))) (PUS.seq (PUS.for (PUI.list (PUF.toV (PUF.lst (PUA.cons (PU.var (i := 9)) (PUA.cons (PUF.toV (PUF.callB (i := 2) (PUA.cons (PU.cbn CD.len (PUA.cons (PU.var (i := 3)) PUA.nil)) PUA.nil))) (PUA.cons (PUF.toV (PUF.lc (i := 11) (E1 := E0) (E2 := E0) (PUI.list (PU.var (i := 3))) PUT.yes PU.ci)) (PUA.cons (PUF.toV (PUF.revL (PU.var (i := 6)))) PUA.nil))))))) (PUG.name (i := 10)) (PUS.seq (PUS.asg (PU.call (PUA.cons (PU.var (i := 3)) (PUA.cons (PUF.toV (PUF.lc (i := 14) (E1 := E0) (E2 := E0) (PUI.seqV (i := 10)) PUT.yes (PU.op RD.num2 (PU.mkR1 (PUA.cons PU.ci PUA.nil)) (PU.var (i := 14))))) PUA.nil))) (PUG.pairL (i := 12) (j := 13))) (PUS.seq (PUS.ifS (PUT.test (PU.op RD.ne (PU.call (PUA.cons PU.ci (PUA.cons (PU.var (i := 4)) (PUA.cons (PU.var (i := 10)) PUA.nil)))) (PU.var (i := 12)))) (PUS.ret PU.cb) PUS.next) (PUS.ifS (PUT.test (PU.op (RD.or RD.ne RD.lsR) (PU.call (PUA.cons PU.ci (PUA.cons (PU.var (i := 4)) (PUA.cons (PU.var (i := 10)) PUA.nil)))) (PU.ife (PUT.test (PU.op RD.isN (PU.var (i := 12)) PU.cn)) (PU.var (i := 13)) PU.cn))) (PUS.ret PU.cb) PUS.next)))) (PUS.seq (PUS.set (i := 15) (PU.op RD.ixL (PUF.toV (PUF.lst (PUA.cons PU.cn (PUA.cons (PUF.toV (PUF.lst PUA.nil)) (PUA.cons (PUF.toV (PUF.op RL.cat (PU.var (i := 5)) (PUF.toV (PUF.lst (PUA.cons PU.ci PUA.nil))))) (PUA.cons (PUF.toV (PUF.op RL.cat (PUF.toV (PUF.lst (PUA.cons PU.ci PUA.nil))) (PUF.toV (PUF.slice (PU.var (i := 5)) (PUO.some PU.ci) PUO.none)))) (PUA.cons PU.ci (PUA.cons PU.cs (PUA.cons (PUF.toV (PUF.op RL.cat (PUF.toV (PUF.op RL.cat (PUF.toV (PUF.lst (PUA.cons PU.ci PUA.nil))) (PUF.toV (PUF.op RL.repI (PUF.toV (PUF.lst (PUA.cons PU.ci PUA.nil))) (PU.op RD.i0 (PU.cbn CD.len (PUA.cons (PU.var (i := 5)) PUA.nil)) PU.ci))))) (PUF.toV (PUF.lst (PUA.cons (PU.un UD.neg PU.ci) PUA.nil))))) PUA.nil))))))))) (PU.take (i := 2) (PUA.cons PU.ci PUA.nil)))) (PUS.seq (PUS.set (i := 16) (PU.op RD.ixL (PUF.toV (PUF.lst (PUA.cons PU.cn (PUA.cons (PUF.toV (PUF.lst PUA.nil)) (PUA.cons (PUF.toV (PUF.op RL.cat (PU.var (i := 6)) (PUF.toV (PUF.lst (PUA.cons PU.ci PUA.nil))))) (PUA.cons (PUF.toV (PUF.slice (PU.var (i := 6)) (PUO.some PU.ci) PUO.none)) (PUA.cons (PUF.toV (PUF.op RL.cat (PUF.toV (PUF.lst (PUA.cons PU.cn PUA.nil))) (PUF.toV (PUF.slice (PU.var (i := 6)) (PUO.some PU.ci) PUO.none)))) (PUA.cons (PUF.toV (PUF.op RL.cat (PUF.toV (PUF.lst (PUA.cons PU.cb PUA.nil))) (PUF.toV (PUF.slice (PU.var (i := 6)) (PUO.some PU.ci) PUO.none)))) (PUA.cons PU.ci PUA.nil))))))))) (PU.take (i := 2) (PUA.cons PU.ci PUA.nil)))) (PUS.seq (PUS.ifS (PUT.test (PU.op RD.neD (PU.call (PUA.cons PU.ci (PUA.cons (PU.var (i := 4)) (PUA.cons (PU.var (i := 15)) PUA.nil)))) (PUF.toV (PUF.lst (PUA.cons PU.cs (PUA.cons (PU.call (PUA.cons (PU.var (i := 15)) PUA.nil)) PUA.nil)))))) (PUS.ret PU.cb) PUS.next) (PUS.ifS (PUT.or (PUT.test (PU.op RD.neD (PU.call (PUA.cons PU.ci (PUA.cons (PU.var (i := 4)) (PUA.cons (PU.var (i := 16)) PUA.nil)))) (PUF.toV (PUF.lst (PUA.cons PU.cs (PUA.cons (PU.call (PUA.cons (PU.var (i := 16)) PUA.nil)) PUA.nil)))))) (PUT.test (PU.op RD.neD (PU.call (PUA.cons PU.ci (PUA.cons (PU.var (i := 4)) (PUA.cons (PU.var (i := 16)) PUA.nil)))) (PUF.toV (PUF.lst (PUA.cons PU.cs (PUA.cons (PU.call (PUA.cons (PU.var (i := 16)) PUA.nil)) PUA.nil))))))) (PUS.ret PU.cb) PUS.next))))))))))))))) S0 (D := { nx := fun ρ => ρ.length = 17 ∧ ρ[0]? = some (.ref p), rt := fun _ _ => False, rl := fun _ _ => False, bk := fun _ => False, ct := fun _ => False, ex := fun _ => False }) ⟨fun ρ' k σ2 H2 S2 _ => ⟨S2.len.trans k.1, ?_, fun b o hb => ?_⟩, fun _ _ k => k.elim, fun _ _ k => k.elim, fun _ k => k.elim, fun _ k => k.elim, fun _ k => k.elim⟩ ?_
      · have h3 := S2.sl 0 _ k.2
        generalize hz : σ2[0]? = y at h3
        cases y with
        | none => cases h3
        | some y =>
          have h3 : SlR a.G _ H2 y (.ref p) := h3
          cases h3
          rfl
      · have hb0 := ex0 _ _ hb
        exact S2.fr b o (ne_of_none hb0 hT) (e1 _ _ hb0)
      · have bt : boxTop = 2 ^ 50 := rfl
        refine ⟨t, ⟨_, rfl⟩, 0, rfl, by omega, ⟨1, 8, rfl, by decide, by decide, by decide⟩, fun l h => ?_⟩
        obtain ⟨ms, hpw, l1, l8, latc, rfl⟩ := marksB_post (l := 1) (m := 8) h rfl rfl
        have hms : Hnd (.lst (ms.map .rat)) ms := Hnd.lst ms
        have mz : ∀ q ∈ ms, Sz 45 q := fun q hq => lat_sz (latc q hq) (by decide) (by decide) (by decide)
        have lat := latV6 latc
        refine ⟨_, rfl, _, _, rfl, .inl rfl, hms.al, fun x hx => ?_, by rw [List.length_map]; exact l1, by rw [List.length_map]; exact l8, ?_, ?_⟩
        · obtain ⟨q, hq, rfl⟩ := List.mem_map.mp hx
          exact sz_le' (mz q hq) (by decide)
        · rw [nums_rats]; exact hpw.imp fun h => Rat.ne_of_lt h
        rw [nums_rats, isort_climb hpw (List.Perm.refl _)]
        refine ⟨t, ⟨_, rfl⟩, _, rfl, _, .inl rfl, _, rfl, by omega, ⟨ms.length, by rw [List.length_map], l1, l8⟩, fun l2 h2 => ?_⟩
        rw [List.length_map] at h2
        obtain ⟨ps, lot, lats, rfl⟩ := lotB_post h2
        obtain ⟨pl, p0, p1, psz⟩ := id lot
        have pz : ∀ p ∈ ps, Sz 45 p := fun p hp => sz_le' (psz p hp) (by decide)
        refine ⟨_, rfl, _, rfl, ⟨ms, ps, rfl, pl, l8, mz, pz⟩, fun l3 h3 => ?_⟩
        obtain rfl := covers_post h3
        obtain ⟨W, w1, w2, hW⟩ := covers_lat pl l8 latc lats
        have dl := covers_len ps ms
        have dtold := lotOf_covers pl hpw l1 p1 p0
        have dfault := fault_covers pl hpw l1 p1 p0
        have dc : ∀ d : Dt, Hnd d ps → askedC 0 ms d = .lst ((coversR ps ms).map .rat) := fun d hd => by
          unfold askedC
          rw [if_pos rfl, if_pos (hd.lot lot), hd.nu]
        generalize coversR ps ms = due at hW dl dtold dfault dc ⊢
        have dz : ∀ q ∈ due, Sz 45 q := fun q hq => lat_sz (hW q hq) (by decide) (by omega) (by omega)
        have dB : LatB due := latB_of (E := W * 6) (by omega) (by omega) (by decide) hW
        have d2 : ∀ d : Dt, Hnd d due → askedC 2 ms d = .lst (ps.map .rat) := fun d hd => by
          unfold askedC
          rw [if_neg (by decide), if_pos (hd.curve dl), if_neg (by decide), hd.nu, dtold]
        have d1 : ∀ d : Dt, Hnd d due → askedC 1 ms d = .non := fun d hd => by
          unfold askedC
          rw [if_neg (by decide), if_pos (hd.curve dl), if_pos rfl, hd.nu, dfault]
        have preL : ∀ d : Dt, Hnd d ps → fdAskedC.pre [.int 0, .scl ms, d] := fun d hd => ⟨0, ms, d, rfl, l8, mz, hd.ok pz (by omega), fun _ hb => (by rw [hd.lot lot] at hb; cases hb), fun z => absurd rfl z⟩
        have preP : ∀ (j : Int) (d : Dt) (hs : List Rat), j ≠ 0 → Hnd d hs → hs.length = ms.length → (∀ q ∈ hs, Sz 45 q) → LatB hs → fdAskedC.pre [.int j, .scl ms, d] := fun j d hs hj hd hl hq hb => ⟨j, ms, d, rfl, l8, mz, hd.ok hq (by omega), fun z => absurd z hj, fun _ => ⟨hd.price l1 l8 hpw mz lat hl hq hb, fun hc => (by rw [hd.curve hl] at hc; cases hc)⟩⟩
        have hps := Hnd.lst ps
        have hdue := Hnd.lst due
        have rz : ∀ {l : List Rat}, (∀ q ∈ l, Sz 45 q) → ∀ x ∈ l.map Dt.rat, Sz 3000 x.num := fun hl x hx => by
          obtain ⟨q, hq, rfl⟩ := List.mem_map.mp hx
          exact sz_le' (hl q hq) (by decide)
        refine ⟨_, rfl, _, rfl, ⟨ms, _, rfl, l8, mz, hps.ok pz (by omega), fun hb => (by rw [hps.lot lot] at hb; cases hb)⟩, fun l4 h4 => ?_⟩
        have h4 := askedL_post h4
        rw [dc _ hps] at h4
        injection h4 with h4
        subst h4
        refine ⟨rfl, ?_⟩
        refine ⟨_, rfl, _, rfl, due, _, rfl, rfl, hdue.al, rz dz, _, rfl, ?_⟩
        rw [same_ne (nums_rats due)]
        refine ite_f ⟨_, rfl, _, rfl, _, .inl rfl, preP 2 _ due (by decide) (Hnd.tup due) dl dz dB, fun r h => ?_⟩
        rw [askedC_post h, d2 _ (Hnd.tup due)]
        refine ⟨_, rfl, ps, _, rfl, rfl, hps.al, rz pz, _, rfl, ?_⟩
        rw [same_ne (nums_rats ps)]
        refine ite_f ⟨_, rfl, _, rfl, preP 1 _ due (by decide) hdue dl dz dB, fun r h => ?_⟩
        rw [askedC_post h, d1 _ hdue]
        refine ⟨rfl, _, rfl, ite_f ⟨rfl, ?_⟩⟩
        refine ⟨_, rfl, t, ⟨_, rfl⟩, _, rfl, _, rfl, by omega, ⟨ps, rfl, by omega⟩, fun g hg => ⟨preL g (hnd_of hg), fun r h => ?_⟩⟩
        rw [askedC_post h, dc g (hnd_of hg)]
        refine ⟨_, rfl, due, _, rfl, rfl, hdue.al, rz dz, _, rfl, ?_⟩
        rw [same_ne (nums_rats due)]
        refine ite_f ⟨_, rfl, t, ⟨_, rfl⟩, _, rfl, _, rfl, by omega, ⟨due, rfl, by omega⟩, fun g2 hg2 => ⟨preP 2 g2 due (by decide) (hnd_of hg2) dl dz dB, fun r h => ?_⟩⟩
        rw [askedC_post h, d2 g2 (hnd_of hg2)]
        refine ⟨_, rfl, ps, _, rfl, rfl, hps.al, rz pz, _, rfl, ?_⟩
        rw [same_ne (nums_rats ps)]
        refine ite_f ⟨_, rfl, ?_⟩
        refine ⟨t, ⟨_, rfl⟩, _, rfl, _, .inl rfl, _, rfl, by omega, ms.length, by rw [List.length_map], l1, Nat.lt_of_le_of_lt l8 (by decide), fun k hk => ?_⟩
        have hkd : k < due.length := by omega
        refine ⟨_, rfl, _, rfl, _, rfl, _, rfl, _, rfl, _, rfl, _, _, _, rfl, rfl, atF hkd, t, ⟨_, rfl⟩, _, rfl, by omega, 9, rfl, by decide, by decide, fun u hu => ?_⟩
        have uz : LatE 6 3 (Rat.divInt ((u : Int) - 4) 6) := ⟨_, rfl, by omega⟩
        have kz : fnL due k ∈ due := by rw [fnL_at hkd]; exact List.getElem_mem hkd
        refine ⟨_, 4, rfl, rfl, _, 6, rfl, by decide, lt8 (k := 10) (by omega) (by decide), lt8 (k := 10) (by decide) (by decide), _, rfl, rfl, sz_le' (dz _ kz) (by decide), sz_le' (lat_sz (k := 45) uz (by decide) (by decide) (by decide)) (by decide), by show 1 ≤ 1000; decide, ?_⟩
        refine ⟨_, _, rfl, rfl, Nat.le_trans (Nat.add_le_add_right (cutG_len _ _ _) 1) (by rw [List.length_map]; omega), ?_⟩
        refine ⟨_, rfl, _, rfl, _, 1, rfl, rfl, _, rfl, _, rfl, _, _, rfl, rfl, ?_, ?_⟩
        · rw [List.length_append]
          have h1 := cutG_len (due.map Dt.rat) none (some (k : Int))
          have h2 := cutG_len (due.map Dt.rat) (some ((k : Int) + 1)) none
          rw [List.length_map] at h1 h2
          show _ + 1 + _ ≤ 1000
          omega
        have hbl : (due.take k ++ [fnL due k + Rat.divInt ((u : Int) - 4) 6] ++ due.drop (k + 1)).length = ms.length := by
          rw [List.length_append, List.length_append, List.length_take, List.length_drop]
          show _ + 1 + _ = _
          omega
        have lb : ∀ q ∈ due.take k ++ [fnL due k + Rat.divInt ((u : Int) - 4) 6] ++ due.drop (k + 1), LatE (W * 6) 26 q := fun q hq => by
          rcases List.mem_append.mp hq with hq | hq
          · rcases List.mem_append.mp hq with hq | hq
            · exact (hW q (List.mem_of_mem_take hq)).le (by decide)
            · rw [List.mem_singleton.mp hq]
              have uw := LatE.up (F := W) (b' := 6) (by decide) (by omega) (by omega) uz
              rw [Int.mul_comm] at uw
              exact (hW _ kz).add (by omega) (uw.le (by decide))
          · exact (hW q (List.mem_of_mem_drop hq)).le (by decide)
        have pb : PrI ms.length (.lst (cutG (due.map Dt.rat) none (some (k : Int)) ++ [Dt.rat (fnL due k + Rat.divInt ((u : Int) - 4) 6)] ++ cutG (due.map Dt.rat) (some ((k : Int) + 1)) none)) := by
          have e : cutG (due.map Dt.rat) none (some (k : Int)) ++ [Dt.rat (fnL due k + Rat.divInt ((u : Int) - 4) 6)] ++ cutG (due.map Dt.rat) (some ((k : Int) + 1)) none = (due.take k ++ [fnL due k + Rat.divInt ((u : Int) - 4) 6] ++ due.drop (k + 1)).map .rat := by
            rw [cutG_to _ rfl (by rw [List.length_map]; omega), cutG_from _ (k := k + 1) (by omega) (by rw [List.length_map]; omega), List.map_append, List.map_append, List.map_take, List.map_drop]
            rfl
          rw [e]
          exact ⟨_, Hnd.lst _, ⟨_, rfl⟩, hbl, fun q hq => lat_sz (lb q hq) (by decide) (by omega) (by omega), latB_of (E := W * 6) (by omega) (by omega) (by decide) lb⟩
        refine ⟨_, rfl, t, ⟨_, rfl⟩, _, rfl, _, .inl rfl, _, rfl, by omega, ⟨ms.length, by rw [List.length_map], by omega⟩, fun l5 h5 => ?_⟩
        rw [List.length_map] at h5
        obtain ⟨cs, cl, clat, rfl⟩ := curveB_post h5
        have pc : PrI ms.length (.lst (cs.map Dt.rat)) := ⟨cs, Hnd.lst cs, ⟨_, rfl⟩, cl, fun q hq => lat_sz (clat q hq) (by decide) (by decide) (by decide), latB_of (E := 6) (by decide) (by decide) (by decide) clat⟩
        refine ⟨_, rfl, _, rfl, ?_⟩
        refine lcP_map (g := fun _ => .int 0) _ _ rfl (by rw [List.length_nil, List.length_map]; omega) rfl (fun x hx K hK => hK) ?_
        have pz0 : PrI ms.length (.lst ([] ++ (ms.map Dt.rat).map fun _ => Dt.int 0)) := zeros_pr ms
        have pr : PrI ms.length (.lst (due.map Dt.rat).reverse) := by
          rw [← List.map_reverse]
          exact ⟨due.reverse, Hnd.lst _, ⟨_, rfl⟩, by rw [List.length_reverse]; exact dl, fun q hq => dz q (List.mem_reverse.mp hq), latB_of (E := W * 6) (by omega) (by omega) (by decide) fun q hq => hW q (List.mem_reverse.mp hq)⟩
        refine ⟨_, rfl, _, rfl, by show 4 ≤ 1000; decide, _, rfl, ?_⟩
        refine forP_inv (fun c ρ => ∃ (B : Nat) (s10 s12 s13 : Slot), B ≤ 200 ∧ ρ = [.ref p, .val (.int (0 + (i : Int))), .box t B, .val (.lst (ms.map .rat)), .val (.scl ms), .val (.lst (ps.map .rat)), .val (.lst (due.map .rat)), .own [], .val (.int (k : Int)), .val (.lst (cutG (due.map Dt.rat) none (some (k : Int)) ++ [Dt.rat (fnL due k + Rat.divInt ((u : Int) - 4) 6)] ++ cutG (due.map Dt.rat) (some ((k : Int) + 1)) none)), s10, .un, s12, s13, .un, .un, .un]) ⟨_, .un, .un, .un, by decide, rfl⟩ (fun c x ρ Kc hx hI hK => ?_) (fun ρ hI => ?_)
        · obtain ⟨B, s10, s12, s13, hB, rfl⟩ := hI
          obtain ⟨hs, hh, ⟨l6, hl6⟩, hl, hz, hb⟩ := items_pr pb pc pz0 pr hx
          subst hl6
          have eH : ([] : List Dt) ++ l6.map (fun y => Dt.rat (((0 : Int) : Rat) + y.num)) = hs.map .rat := by
            rw [List.nil_append, ← hh.nu]
            unfold nums
            rw [List.map_map]
            exact List.map_congr_left fun y _ => by
              show Dt.rat (((0 : Int) : Rat) + y.num) = .rat y.num
              rw [show ((0 : Int) : Rat) = 0 from rfl, Rat.zero_add]
          have hl6n : l6.length = hs.length := hh.len
          have ea1 : askedC 1 ms (.lst l6) = faultD ms hs := by
            unfold askedC
            rw [if_neg (by decide), if_pos (hh.curve hl), if_pos rfl, hh.nu]
          have ea2 : askedC 2 ms (.lst l6) = lotOfD ms hs := by
            unfold askedC
            rw [if_neg (by decide), if_pos (hh.curve hl), if_neg (by decide), hh.nu]
          have hdd := hb.dd lat hpw hl l8
          have tz := told_sz hdd
          refine ⟨_, rfl, l6, .inl rfl, ?_⟩
          refine lcP_map (g := fun y => .rat (((0 : Int) : Rat) + y.num)) _ _ rfl (by rw [List.length_nil]; omega) rfl (fun y hy K hK => ?_) ?_
          · exact ⟨0, rfl, lt8 (k := 1) (by decide) (by decide), _, rfl, _, rfl, allNum_mem hh.al hy, sz_le' (a := 1) ⟨by decide, by decide⟩ (by decide), sz_le' (hz _ (by rw [← hh.nu]; exact List.mem_map.mpr ⟨y, hy, rfl⟩)) (by decide), hK⟩
          rw [eH]
          refine ⟨⟨ms, hs, rfl, l1, l8, hl, hpw, fun q hq => sz_le' (mz q hq) (by decide), fun q hq => sz_le' (hz q hq) (by decide), hdd⟩, fun r h => ?_⟩
          rw [faultL_post h]
          refine ⟨_, _, rfl, ?_⟩
          refine ⟨_, rfl, _, rfl, preP 1 _ hs (by decide) hh hl hz hb, fun r h => ?_⟩
          rw [askedC_post h, ea1]
          refine ⟨_, rfl, true, fault_eqS ms hs, _, rfl, ite_f ?_⟩
          refine ⟨_, rfl, _, rfl, preP 2 _ hs (by decide) hh hl hz hb, fun r h => ?_⟩
          rw [askedC_post h, ea2]
          rcases fault_cases ms hs with hf | ⟨k', hf⟩
          · rw [show lotOfD ms hs = .lst ((toldR ms hs).map .rat) from by unfold lotOfD; rw [hf]; rfl, hf]
            refine ⟨_, rfl, rfl, _, rfl, ite_t ⟨_, rfl, .inr ⟨toldR ms hs, _, rfl, rfl, (Hnd.lst (toldR ms hs)).al, fun x hx => ?_, _, rfl, ?_⟩⟩⟩
            · obtain ⟨q, hq, rfl⟩ := List.mem_map.mp hx
              exact sz_le' (tz q hq) (by decide)
            · rw [same_ne (nums_rats (toldR ms hs))]
              exact ite_f (hK _ ⟨B, _, _, _, hB, rfl⟩)
          · rw [show lotOfD ms hs = .non from by unfold lotOfD; rw [hf]; rfl, hf]
            exact ⟨_, rfl, rfl, _, rfl, ite_f (.inl ⟨true, rfl, _, rfl, ite_f (hK _ ⟨B, _, _, _, hB, rfl⟩)⟩)⟩
        · obtain ⟨B, s10, s12, s13, hB, rfl⟩ := hI
          have lps : (ps.map Dt.rat).length = ms.length := by rw [List.length_map]; exact pl
          have ldu : (due.map Dt.rat).length = ms.length := by rw [List.length_map]; exact dl
          have lc := cutG_len (ps.map Dt.rat) (some 1) none
          have ld := cutG_len (due.map Dt.rat) (some 1) none
          have lr : ((List.replicate (((ps.map Dt.rat).length : Int) - 2).toNat [Dt.int 0]).flatten).length ≤ 8 := by
            rw [List.flatten_replicate_singleton, List.length_replicate]
            omega
          refine ⟨by decide, _, rfl, by show 1 ≤ 1000; decide, _, _, rfl, rfl, by show _ + 1 ≤ 1000; omega, by show 1 ≤ 1000; decide, _, rfl, 1, rfl, _, rfl, _, _, rfl, rfl, by show 1 + _ ≤ 1000; omega, by show 1 ≤ 1000; decide, by show 1 ≤ 1000; decide, _, rfl, _, .inl rfl, _, 2, rfl, rfl, _, _, rfl, rfl, by omega, by omega, by show 1 * _ ≤ 1000; omega, _, _, rfl, rfl, by show 1 + _ ≤ 1000; omega, 1, rfl, by show 1 ≤ 1000; decide, _, _, rfl, rfl, by rw [List.length_append]; show 1 + _ + 1 ≤ 1000; omega, by show 7 ≤ 1000; decide, t, ⟨_, rfl⟩, _, rfl, by omega, 7, rfl, by decide, by decide, fun k2 hk2 => ?_⟩
          obtain ⟨x, hx, okx, lotx, shwx⟩ := at_all (Q := BadP ms.length) (badP_ok l1 l8 lot pz) (k := k2) hk2
          refine ⟨_, _, _, rfl, rfl, hx, ?_⟩
          refine ⟨by decide, _, rfl, by show 1 ≤ 1000; decide, _, _, rfl, rfl, by show _ + 1 ≤ 1000; omega, _, rfl, 1, rfl, _, rfl, by show 1 ≤ 1000; decide, _, rfl, 1, rfl, _, rfl, _, _, rfl, rfl, by show 1 + _ ≤ 1000; omega, by show 1 ≤ 1000; decide, _, rfl, 1, rfl, _, rfl, _, _, rfl, rfl, by show 1 + _ ≤ 1000; omega, by show 7 ≤ 1000; decide, t, ⟨_, rfl⟩, _, rfl, by omega, 7, rfl, by decide, by decide, fun k3 hk3 => ?_⟩
          obtain ⟨y, hy, oky, curvey, shwy⟩ := at_all (Q := OddP ms.length) (oddP_ok l1 l8 dl dz) (k := k3) hk3
          refine ⟨_, _, _, rfl, rfl, hy, ?_⟩
          have ex : askedC 0 ms x = .lst [.str "lot", .str (S x.txl)] := by
            unfold askedC
            rw [if_pos rfl, if_neg (by rw [lotx]; decide)]
          have ey : ∀ j : Int, j ≠ 0 → askedC j ms y = .lst [.str "numbers", .str (S y.txl)] := fun j hj => by
            unfold askedC
            rw [if_neg hj, if_neg (by rw [curvey]; decide)]
          have prey : ∀ j : Int, j ≠ 0 → fdAskedC.pre [.int j, .scl ms, y] := fun j hj => ⟨j, ms, y, rfl, l8, mz, oky, fun z => absurd z hj, fun _ => ⟨bad_price l1 l8 hpw mz oky curvey, fun _ => shwy⟩⟩
          refine ⟨_, rfl, _, rfl, ⟨0, ms, x, rfl, l8, mz, okx, fun _ _ => shwx, fun z => absurd rfl z⟩, fun r h => ?_⟩
          rw [askedC_post h, ex]
          refine ⟨_, rfl, ⟨x, rfl, shwx⟩, fun r2 h2 => ?_⟩
          obtain ⟨x', e, rfl⟩ := h2
          cases e
          refine ⟨by show 2 ≤ 1000; decide, told_neT shwx (by decide +kernel) ⟨_, rfl, ite_f ?_⟩⟩
          refine ⟨_, rfl, _, rfl, prey 1 (by decide), fun r h => ?_⟩
          rw [askedC_post h, ey 1 (by decide)]
          refine ⟨_, rfl, ⟨y, rfl, shwy⟩, fun r2 h2 => ?_⟩
          obtain ⟨y', e, rfl⟩ := h2
          cases e
          refine ⟨by show 2 ≤ 1000; decide, told_neT shwy (by decide +kernel) ⟨_, rfl, ite_f ?_⟩⟩
          refine ⟨_, rfl, _, rfl, prey 2 (by decide), fun r h => ?_⟩
          rw [askedC_post h, ey 2 (by decide)]
          refine ⟨_, rfl, ⟨y, rfl, shwy⟩, fun r2 h2 => ?_⟩
          obtain ⟨y', e, rfl⟩ := h2
          cases e
          exact ⟨by show 2 ≤ 1000; decide, told_neT shwy (by decide +kernel) ⟨_, rfl, ite_f ⟨rfl, rfl⟩⟩⟩
    · rintro σ2 H2 ⟨_, _, ex⟩
      exact z _ ex
end
end Kx


set_option maxHeartbeats 2000000
namespace Fm
open PySem PySem.Spec PyProof.Rows L2
end Fm

set_option maxHeartbeats 4000000
namespace Kx
open PySem PySem.Spec PyProof.Rows L2 Fm
theorem exm_sub {K : PySem.W.Frag} {A B : Addr} {b : Bool} (h1 : PySem.W.subIn K (.ref B) (.type "BaseException") = some true) (h2 : PySem.W.isClsIn K B = true) (h3 : PySem.W.typeIn K (.ref B) = some (.type "type")) (h4 : PySem.W.subIn K (.ref A) (.ref B) = some b) : PySem.W.exmOne K (.ref A) (.ref B) = some b := by
  have c : (PySem.W.clsIn K B).isSome = true := h2
  unfold PySem.W.exmOne
  rw [h1]
  show PySem.W.kitCls K (.ref A) (.ref B) = some b
  show (if ((PySem.W.clsIn K B).isSome && PySem.W.typeIn K (.ref B) == some (.type "type")) = true then PySem.W.subIn K (.ref A) (.ref B) else none) = some b
  rw [c, h3, if_pos (by simp), h4]
theorem hSay {P : Program} {w : World} {K : PySem.W.Frag} {h : Heap} {mg : Str → Option Value} {fa : Addr} (X : K.In h) (G : h.Ns mainGlobals mg) (hfa : mg ("law" : Str) = some (.ref fa)) (c : SaysM hFacts hDefs K) :
    ∃ fd : FuncData, (∀ (s : Shared) (v : Value), BindsTo s fd ⟨[v], []⟩ [("_law_script", v)]) ∧ ∀ base : Heap, K.In base → base.Ns mainGlobals mg → FnOk P w K mg base CX0 15 fa fd ["_law_script"] (spLaw K) := by
  obtain ⟨d_BadNumber_init, F_BadNumber_init⟩ : ∃ d_BadNumber_init, FunD K "__init__" "BadNumber.__init__" (defArgs s_BadNumber_init) (defBody s_BadNumber_init) (defScope s_BadNumber_init) [] [] (He.ma K (He.ga K "BadNumber") "__init__") d_BadNumber_init := c.def_ 0 (d := hD_BadNumber_init) rfl
  have k_BadNumber_init := F_BadNumber_init.kp
  obtain ⟨d_BadValues_init, F_BadValues_init⟩ : ∃ d_BadValues_init, FunD K "__init__" "BadValues.__init__" (defArgs s_BadValues_init) (defBody s_BadValues_init) (defScope s_BadValues_init) [] [] (He.ma K (He.ga K "BadValues") "__init__") d_BadValues_init := c.def_ 1 (d := hD_BadValues_init) rfl
  have k_BadValues_init := F_BadValues_init.kp
  obtain ⟨d_BadLot_init, F_BadLot_init⟩ : ∃ d_BadLot_init, FunD K "__init__" "BadLot.__init__" (defArgs s_BadLot_init) (defBody s_BadLot_init) (defScope s_BadLot_init) [] [] (He.ma K (He.ga K "BadLot") "__init__") d_BadLot_init := c.def_ 2 (d := hD_BadLot_init) rfl
  have k_BadLot_init := F_BadLot_init.kp
  obtain ⟨d_BadNumbers_init, F_BadNumbers_init⟩ : ∃ d_BadNumbers_init, FunD K "__init__" "BadNumbers.__init__" (defArgs s_BadNumbers_init) (defBody s_BadNumbers_init) (defScope s_BadNumbers_init) [] [] (He.ma K (He.ga K "BadNumbers") "__init__") d_BadNumbers_init := c.def_ 3 (d := hD_BadNumbers_init) rfl
  have k_BadNumbers_init := F_BadNumbers_init.kp
  obtain ⟨d_Ratio_init, F_Ratio_init⟩ : ∃ d_Ratio_init, FunD K "__init__" "Ratio.__init__" (defArgs s_Ratio_init) (defBody s_Ratio_init) (defScope s_Ratio_init) [.int 1] [] (He.ma K (He.ga K "Ratio") "__init__") d_Ratio_init := c.def_ 4 (d := hD_Ratio_init) rfl
  have k_Ratio_init := F_Ratio_init.kp
  obtain ⟨d_Ratio_add, F_Ratio_add⟩ : ∃ d_Ratio_add, FunD K "__add__" "Ratio.__add__" (defArgs s_Ratio_add) (defBody s_Ratio_add) (defScope s_Ratio_add) [] [] (He.ma K (He.ga K "Ratio") "__add__") d_Ratio_add := c.def_ 5 (d := hD_Ratio_add) rfl
  have k_Ratio_add := F_Ratio_add.kp
  obtain ⟨d_Ratio_sub, F_Ratio_sub⟩ : ∃ d_Ratio_sub, FunD K "__sub__" "Ratio.__sub__" (defArgs s_Ratio_sub) (defBody s_Ratio_sub) (defScope s_Ratio_sub) [] [] (He.ma K (He.ga K "Ratio") "__sub__") d_Ratio_sub := c.def_ 6 (d := hD_Ratio_sub) rfl
  have k_Ratio_sub := F_Ratio_sub.kp
  obtain ⟨d_Ratio_mul, F_Ratio_mul⟩ : ∃ d_Ratio_mul, FunD K "__mul__" "Ratio.__mul__" (defArgs s_Ratio_mul) (defBody s_Ratio_mul) (defScope s_Ratio_mul) [] [] (He.ma K (He.ga K "Ratio") "__mul__") d_Ratio_mul := c.def_ 7 (d := hD_Ratio_mul) rfl
  have k_Ratio_mul := F_Ratio_mul.kp
  obtain ⟨d_Ratio_neg, F_Ratio_neg⟩ : ∃ d_Ratio_neg, FunD K "__neg__" "Ratio.__neg__" (defArgs s_Ratio_neg) (defBody s_Ratio_neg) (defScope s_Ratio_neg) [] [] (He.ma K (He.ga K "Ratio") "__neg__") d_Ratio_neg := c.def_ 8 (d := hD_Ratio_neg) rfl
  have k_Ratio_neg := F_Ratio_neg.kp
  obtain ⟨d_Ratio_eq, F_Ratio_eq⟩ : ∃ d_Ratio_eq, FunD K "__eq__" "Ratio.__eq__" (defArgs s_Ratio_eq) (defBody s_Ratio_eq) (defScope s_Ratio_eq) [] [] (He.ma K (He.ga K "Ratio") "__eq__") d_Ratio_eq := c.def_ 9 (d := hD_Ratio_eq) rfl
  have k_Ratio_eq := F_Ratio_eq.kp
  obtain ⟨d_Ratio_lt, F_Ratio_lt⟩ : ∃ d_Ratio_lt, FunD K "__lt__" "Ratio.__lt__" (defArgs s_Ratio_lt) (defBody s_Ratio_lt) (defScope s_Ratio_lt) [] [] (He.ma K (He.ga K "Ratio") "__lt__") d_Ratio_lt := c.def_ 10 (d := hD_Ratio_lt) rfl
  have k_Ratio_lt := F_Ratio_lt.kp
  obtain ⟨d_Ratio_over, F_Ratio_over⟩ : ∃ d_Ratio_over, FunD K "over" "Ratio.over" (defArgs s_Ratio_over) (defBody s_Ratio_over) (defScope s_Ratio_over) [] [] (He.ma K (He.ga K "Ratio") "over") d_Ratio_over := c.def_ 11 (d := hD_Ratio_over) rfl
  have k_Ratio_over := F_Ratio_over.kp
  obtain ⟨d_Ratio_text, F_Ratio_text⟩ : ∃ d_Ratio_text, FunD K "text" "Ratio.text" (defArgs s_Ratio_text) (defBody s_Ratio_text) (defScope s_Ratio_text) [] [] (He.ma K (He.ga K "Ratio") "text") d_Ratio_text := c.def_ 12 (d := hD_Ratio_text) rfl
  have k_Ratio_text := F_Ratio_text.kp
  obtain ⟨d_is_whole, F_is_whole⟩ : ∃ d_is_whole, FunD K "is_whole" "is_whole" (defArgs s_is_whole) (defBody s_is_whole) (defScope s_is_whole) [] [] (He.ga K "is_whole") d_is_whole := c.def_ 13 (d := hD_is_whole) rfl
  have k_is_whole := F_is_whole.kp
  obtain ⟨d_is_number, F_is_number⟩ : ∃ d_is_number, FunD K "is_number" "is_number" (defArgs s_is_number) (defBody s_is_number) (defScope s_is_number) [] [] (He.ga K "is_number") d_is_number := c.def_ 14 (d := hD_is_number) rfl
  have k_is_number := F_is_number.kp
  obtain ⟨d_are_numbers, F_are_numbers⟩ : ∃ d_are_numbers, FunD K "are_numbers" "are_numbers" (defArgs s_are_numbers) (defBody s_are_numbers) (defScope s_are_numbers) [] [] (He.ga K "are_numbers") d_are_numbers := c.def_ 15 (d := hD_are_numbers) rfl
  have k_are_numbers := F_are_numbers.kp
  obtain ⟨d_as_ratio, F_as_ratio⟩ : ∃ d_as_ratio, FunD K "as_ratio" "as_ratio" (defArgs s_as_ratio) (defBody s_as_ratio) (defScope s_as_ratio) [] [] (He.ga K "as_ratio") d_as_ratio := c.def_ 16 (d := hD_as_ratio) rfl
  have k_as_ratio := F_as_ratio.kp
  obtain ⟨d_total, F_total⟩ : ∃ d_total, FunD K "total" "total" (defArgs s_total) (defBody s_total) (defScope s_total) [] [] (He.ga K "total") d_total := c.def_ 17 (d := hD_total) rfl
  have k_total := F_total.kp
  obtain ⟨d_weighed, F_weighed⟩ : ∃ d_weighed, FunD K "weighed" "weighed" (defArgs s_weighed) (defBody s_weighed) (defScope s_weighed) [] [] (He.ga K "weighed") d_weighed := c.def_ 18 (d := hD_weighed) rfl
  have k_weighed := F_weighed.kp
  obtain ⟨d_opposites, F_opposites⟩ : ∃ d_opposites, FunD K "opposites" "opposites" (defArgs s_opposites) (defBody s_opposites) (defScope s_opposites) [] [] (He.ga K "opposites") d_opposites := c.def_ 19 (d := hD_opposites) rfl
  have k_opposites := F_opposites.kp
  obtain ⟨d_numeral, F_numeral⟩ : ∃ d_numeral, FunD K "numeral" "numeral" (defArgs s_numeral) (defBody s_numeral) (defScope s_numeral) [] [] (He.ga K "numeral") d_numeral := c.def_ 20 (d := hD_numeral) rfl
  have k_numeral := F_numeral.kp
  obtain ⟨d_cover, F_cover⟩ : ∃ d_cover, FunD K "cover" "cover" (defArgs s_cover) (defBody s_cover) (defScope s_cover) [] [] (He.ga K "cover") d_cover := c.def_ 21 (d := hD_cover) rfl
  have k_cover := F_cover.kp
  obtain ⟨d_steeper, F_steeper⟩ : ∃ d_steeper, FunD K "steeper" "steeper" (defArgs s_steeper) (defBody s_steeper) (defScope s_steeper) [] [] (He.ga K "steeper") d_steeper := c.def_ 22 (d := hD_steeper) rfl
  have k_steeper := F_steeper.kp
  obtain ⟨d_slopes_of, F_slopes_of⟩ : ∃ d_slopes_of, FunD K "slopes_of" "slopes_of" (defArgs s_slopes_of) (defBody s_slopes_of) (defScope s_slopes_of) [] [] (He.ga K "slopes_of") d_slopes_of := c.def_ 23 (d := hD_slopes_of) rfl
  have k_slopes_of := F_slopes_of.kp
  obtain ⟨d_Scale_init, F_Scale_init⟩ : ∃ d_Scale_init, FunD K "__init__" "Scale.__init__" (defArgs s_Scale_init) (defBody s_Scale_init) (defScope s_Scale_init) [] [] (He.ma K (He.ga K "Scale") "__init__") d_Scale_init := c.def_ 24 (d := hD_Scale_init) rfl
  have k_Scale_init := F_Scale_init.kp
  obtain ⟨d_Scale_len, F_Scale_len⟩ : ∃ d_Scale_len, FunD K "__len__" "Scale.__len__" (defArgs s_Scale_len) (defBody s_Scale_len) (defScope s_Scale_len) [] [] (He.ma K (He.ga K "Scale") "__len__") d_Scale_len := c.def_ 25 (d := hD_Scale_len) rfl
  have k_Scale_len := F_Scale_len.kp
  obtain ⟨d_Scale_marks, F_Scale_marks⟩ : ∃ d_Scale_marks, FunD K "marks" "Scale.marks" (defArgs s_Scale_marks) (defBody s_Scale_marks) (defScope s_Scale_marks) [] [] (He.ma K (He.ga K "Scale") "marks") d_Scale_marks := c.def_ 26 (d := hD_Scale_marks) rfl
  have k_Scale_marks := F_Scale_marks.kp
  obtain ⟨d_insert_new, F_insert_new⟩ : ∃ d_insert_new, FunD K "insert_new" "insert_new" (defArgs s_insert_new) (defBody s_insert_new) (defScope s_insert_new) [] [] (He.ga K "insert_new") d_insert_new := c.def_ 27 (d := hD_insert_new) rfl
  have k_insert_new := F_insert_new.kp
  obtain ⟨d_distinct, F_distinct⟩ : ∃ d_distinct, FunD K "distinct" "distinct" (defArgs s_distinct) (defBody s_distinct) (defScope s_distinct) [] [] (He.ga K "distinct") d_distinct := c.def_ 28 (d := hD_distinct) rfl
  have k_distinct := F_distinct.kp
  obtain ⟨d_is_curve, F_is_curve⟩ : ∃ d_is_curve, FunD K "is_curve" "is_curve" (defArgs s_is_curve) (defBody s_is_curve) (defScope s_is_curve) [] [] (He.ga K "is_curve") d_is_curve := c.def_ 29 (d := hD_is_curve) rfl
  have k_is_curve := F_is_curve.kp
  obtain ⟨d_are_shares, F_are_shares⟩ : ∃ d_are_shares, FunD K "are_shares" "are_shares" (defArgs s_are_shares) (defBody s_are_shares) (defScope s_are_shares) [] [] (He.ga K "are_shares") d_are_shares := c.def_ 30 (d := hD_are_shares) rfl
  have k_are_shares := F_are_shares.kp
  obtain ⟨d_is_lot, F_is_lot⟩ : ∃ d_is_lot, FunD K "is_lot" "is_lot" (defArgs s_is_lot) (defBody s_is_lot) (defScope s_is_lot) [] [] (He.ga K "is_lot") d_is_lot := c.def_ 31 (d := hD_is_lot) rfl
  have k_is_lot := F_is_lot.kp
  obtain ⟨d_check_lot, F_check_lot⟩ : ∃ d_check_lot, FunD K "check_lot" "check_lot" (defArgs s_check_lot) (defBody s_check_lot) (defScope s_check_lot) [] [] (He.ga K "check_lot") d_check_lot := c.def_ 32 (d := hD_check_lot) rfl
  have k_check_lot := F_check_lot.kp
  obtain ⟨d_covers, F_covers⟩ : ∃ d_covers, FunD K "covers" "covers" (defArgs s_covers) (defBody s_covers) (defScope s_covers) [] [] (He.ga K "covers") d_covers := c.def_ 33 (d := hD_covers) rfl
  have k_covers := F_covers.kp
  obtain ⟨d_check_prices, F_check_prices⟩ : ∃ d_check_prices, FunD K "check_prices" "check_prices" (defArgs s_check_prices) (defBody s_check_prices) (defScope s_check_prices) [] [] (He.ga K "check_prices") d_check_prices := c.def_ 34 (d := hD_check_prices) rfl
  have k_check_prices := F_check_prices.kp
  obtain ⟨d_shares_told, F_shares_told⟩ : ∃ d_shares_told, FunD K "shares_told" "shares_told" (defArgs s_shares_told) (defBody s_shares_told) (defScope s_shares_told) [] [] (He.ga K "shares_told") d_shares_told := c.def_ 35 (d := hD_shares_told) rfl
  have k_shares_told := F_shares_told.kp
  obtain ⟨d_fault, F_fault⟩ : ∃ d_fault, FunD K "fault" "fault" (defArgs s_fault) (defBody s_fault) (defScope s_fault) [] [] (He.ga K "fault") d_fault := c.def_ 36 (d := hD_fault) rfl
  have k_fault := F_fault.kp
  obtain ⟨d_lot_of_covers, F_lot_of_covers⟩ : ∃ d_lot_of_covers, FunD K "lot_of_covers" "lot_of_covers" (defArgs s_lot_of_covers) (defBody s_lot_of_covers) (defScope s_lot_of_covers) [] [] (He.ga K "lot_of_covers") d_lot_of_covers := c.def_ 37 (d := hD_lot_of_covers) rfl
  have k_lot_of_covers := F_lot_of_covers.kp
  obtain ⟨d_Lshown, F_Lshown⟩ : ∃ d_Lshown, FunD K "_law_shown" "_law_shown" (defArgs s_Lshown) (defBody s_Lshown) (defScope s_Lshown) [] [] (He.ga K "_law_shown") d_Lshown := c.def_ 38 (d := hD_Lshown) rfl
  have k_Lshown := F_Lshown.kp
  obtain ⟨d_Lcell, F_Lcell⟩ : ∃ d_Lcell, FunD K "_law_cell" "_law_cell" (defArgs s_Lcell) (defBody s_Lcell) (defScope s_Lcell) [] [] (He.ga K "_law_cell") d_Lcell := c.def_ 39 (d := hD_Lcell) rfl
  have k_Lcell := F_Lcell.kp
  obtain ⟨d_Lbox, F_Lbox⟩ : ∃ d_Lbox, FunD K "_law_box" "_law_box" (defArgs s_Lbox) (defBody s_Lbox) (defScope s_Lbox) [] [] (He.ga K "_law_box") d_Lbox := c.def_ 40 (d := hD_Lbox) rfl
  have k_Lbox := F_Lbox.kp
  obtain ⟨d_Ltake, F_Ltake⟩ : ∃ d_Ltake, FunD K "_law_take" "_law_take" (defArgs s_Ltake) (defBody s_Ltake) (defScope s_Ltake) [] [] (He.ga K "_law_take") d_Ltake := c.def_ 41 (d := hD_Ltake) rfl
  have k_Ltake := F_Ltake.kp
  obtain ⟨d_Lmarks, F_Lmarks⟩ : ∃ d_Lmarks, FunD K "_law_marks" "_law_marks" (defArgs s_Lmarks) (defBody s_Lmarks) (defScope s_Lmarks) [] [] (He.ga K "_law_marks") d_Lmarks := c.def_ 42 (d := hD_Lmarks) rfl
  have k_Lmarks := F_Lmarks.kp
  obtain ⟨d_Llot, F_Llot⟩ : ∃ d_Llot, FunD K "_law_lot" "_law_lot" (defArgs s_Llot) (defBody s_Llot) (defScope s_Llot) [] [] (He.ga K "_law_lot") d_Llot := c.def_ 43 (d := hD_Llot) rfl
  have k_Llot := F_Llot.kp
  obtain ⟨d_Lcurve, F_Lcurve⟩ : ∃ d_Lcurve, FunD K "_law_curve" "_law_curve" (defArgs s_Lcurve) (defBody s_Lcurve) (defScope s_Lcurve) [] [] (He.ga K "_law_curve") d_Lcurve := c.def_ 44 (d := hD_Lcurve) rfl
  have k_Lcurve := F_Lcurve.kp
  obtain ⟨d_Lmean, F_Lmean⟩ : ∃ d_Lmean, FunD K "_law_mean" "_law_mean" (defArgs s_Lmean) (defBody s_Lmean) (defScope s_Lmean) [] [] (He.ga K "_law_mean") d_Lmean := c.def_ 45 (d := hD_Lmean) rfl
  have k_Lmean := F_Lmean.kp
  obtain ⟨d_Lcovers, F_Lcovers⟩ : ∃ d_Lcovers, FunD K "_law_covers" "_law_covers" (defArgs s_Lcovers) (defBody s_Lcovers) (defScope s_Lcovers) [] [] (He.ga K "_law_covers") d_Lcovers := c.def_ 46 (d := hD_Lcovers) rfl
  have k_Lcovers := F_Lcovers.kp
  obtain ⟨d_Lfault, F_Lfault⟩ : ∃ d_Lfault, FunD K "_law_fault" "_law_fault" (defArgs s_Lfault) (defBody s_Lfault) (defScope s_Lfault) [] [] (He.ga K "_law_fault") d_Lfault := c.def_ 47 (d := hD_Lfault) rfl
  have k_Lfault := F_Lfault.kp
  obtain ⟨d_Lasked, F_Lasked⟩ : ∃ d_Lasked, FunD K "_law_asked" "_law_asked" (defArgs s_Lasked) (defBody s_Lasked) (defScope s_Lasked) [] [] (He.ga K "_law_asked") d_Lasked := c.def_ 48 (d := hD_Lasked) rfl
  have k_Lasked := F_Lasked.kp
  obtain ⟨d_Lgiven, F_Lgiven⟩ : ∃ d_Lgiven, FunD K "_law_given" "_law_given" (defArgs s_Lgiven) (defBody s_Lgiven) (defScope s_Lgiven) [] [] (He.ga K "_law_given") d_Lgiven := c.def_ 49 (d := hD_Lgiven) rfl
  have k_Lgiven := F_Lgiven.kp
  obtain ⟨d_law, F_law⟩ : ∃ d_law, FunD K "law" "law" (defArgs s_law) (defBody s_law) (defScope s_law) [] [] (He.ga K "law") d_law := c.def_ 50 (d := hD_law) rfl
  have k_law := F_law.kp
  have aC_BadNumber : PySem.W.nsIn K mainGlobals "BadNumber" = some (some (.ref (He.ga K "BadNumber"))) := of_decide_eq_true (c.fact 0 rfl)
  have aC_BadValues : PySem.W.nsIn K mainGlobals "BadValues" = some (some (.ref (He.ga K "BadValues"))) := of_decide_eq_true (c.fact 1 rfl)
  have aC_BadLot : PySem.W.nsIn K mainGlobals "BadLot" = some (some (.ref (He.ga K "BadLot"))) := of_decide_eq_true (c.fact 2 rfl)
  have aC_BadNumbers : PySem.W.nsIn K mainGlobals "BadNumbers" = some (some (.ref (He.ga K "BadNumbers"))) := of_decide_eq_true (c.fact 3 rfl)
  have aC_Ratio : PySem.W.nsIn K mainGlobals "Ratio" = some (some (.ref (He.ga K "Ratio"))) := of_decide_eq_true (c.fact 4 rfl)
  have aC_Scale : PySem.W.nsIn K mainGlobals "Scale" = some (some (.ref (He.ga K "Scale"))) := of_decide_eq_true (c.fact 5 rfl)
  have a_BadNumber_init : PySem.W.findIn K (.ref (He.ga K "BadNumber")) "__init__" = some (some (.ref (He.ma K (He.ga K "BadNumber") "__init__"))) := of_decide_eq_true (c.fact 6 rfl)
  have a_BadValues_init : PySem.W.findIn K (.ref (He.ga K "BadValues")) "__init__" = some (some (.ref (He.ma K (He.ga K "BadValues") "__init__"))) := of_decide_eq_true (c.fact 7 rfl)
  have a_BadLot_init : PySem.W.findIn K (.ref (He.ga K "BadLot")) "__init__" = some (some (.ref (He.ma K (He.ga K "BadLot") "__init__"))) := of_decide_eq_true (c.fact 8 rfl)
  have a_BadNumbers_init : PySem.W.findIn K (.ref (He.ga K "BadNumbers")) "__init__" = some (some (.ref (He.ma K (He.ga K "BadNumbers") "__init__"))) := of_decide_eq_true (c.fact 9 rfl)
  have a_Ratio_init : PySem.W.findIn K (.ref (He.ga K "Ratio")) "__init__" = some (some (.ref (He.ma K (He.ga K "Ratio") "__init__"))) := of_decide_eq_true (c.fact 10 rfl)
  have i_Ratio_init : PySem.W.isFn K (.ref (He.ma K (He.ga K "Ratio") "__init__")) = true := c.fact 11 rfl
  have a_Ratio_add : PySem.W.findIn K (.ref (He.ga K "Ratio")) "__add__" = some (some (.ref (He.ma K (He.ga K "Ratio") "__add__"))) := of_decide_eq_true (c.fact 12 rfl)
  have i_Ratio_add : PySem.W.isFn K (.ref (He.ma K (He.ga K "Ratio") "__add__")) = true := c.fact 13 rfl
  have a_Ratio_sub : PySem.W.findIn K (.ref (He.ga K "Ratio")) "__sub__" = some (some (.ref (He.ma K (He.ga K "Ratio") "__sub__"))) := of_decide_eq_true (c.fact 14 rfl)
  have i_Ratio_sub : PySem.W.isFn K (.ref (He.ma K (He.ga K "Ratio") "__sub__")) = true := c.fact 15 rfl
  have a_Ratio_mul : PySem.W.findIn K (.ref (He.ga K "Ratio")) "__mul__" = some (some (.ref (He.ma K (He.ga K "Ratio") "__mul__"))) := of_decide_eq_true (c.fact 16 rfl)
  have i_Ratio_mul : PySem.W.isFn K (.ref (He.ma K (He.ga K "Ratio") "__mul__")) = true := c.fact 17 rfl
  have a_Ratio_neg : PySem.W.findIn K (.ref (He.ga K "Ratio")) "__neg__" = some (some (.ref (He.ma K (He.ga K "Ratio") "__neg__"))) := of_decide_eq_true (c.fact 18 rfl)
  have i_Ratio_neg : PySem.W.isFn K (.ref (He.ma K (He.ga K "Ratio") "__neg__")) = true := c.fact 19 rfl
  have a_Ratio_eq : PySem.W.findIn K (.ref (He.ga K "Ratio")) "__eq__" = some (some (.ref (He.ma K (He.ga K "Ratio") "__eq__"))) := of_decide_eq_true (c.fact 20 rfl)
  have i_Ratio_eq : PySem.W.isFn K (.ref (He.ma K (He.ga K "Ratio") "__eq__")) = true := c.fact 21 rfl
  have a_Ratio_lt : PySem.W.findIn K (.ref (He.ga K "Ratio")) "__lt__" = some (some (.ref (He.ma K (He.ga K "Ratio") "__lt__"))) := of_decide_eq_true (c.fact 22 rfl)
  have i_Ratio_lt : PySem.W.isFn K (.ref (He.ma K (He.ga K "Ratio") "__lt__")) = true := c.fact 23 rfl
  have a_Ratio_over : PySem.W.findIn K (.ref (He.ga K "Ratio")) "over" = some (some (.ref (He.ma K (He.ga K "Ratio") "over"))) := of_decide_eq_true (c.fact 24 rfl)
  have i_Ratio_over : PySem.W.isFn K (.ref (He.ma K (He.ga K "Ratio") "over")) = true := c.fact 25 rfl
  have a_Ratio_text : PySem.W.findIn K (.ref (He.ga K "Ratio")) "text" = some (some (.ref (He.ma K (He.ga K "Ratio") "text"))) := of_decide_eq_true (c.fact 26 rfl)
  have i_Ratio_text : PySem.W.isFn K (.ref (He.ma K (He.ga K "Ratio") "text")) = true := c.fact 27 rfl
  have a_is_whole : PySem.W.nsIn K mainGlobals "is_whole" = some (some (.ref (He.ga K "is_whole"))) := of_decide_eq_true (c.fact 28 rfl)
  have a_is_number : PySem.W.nsIn K mainGlobals "is_number" = some (some (.ref (He.ga K "is_number"))) := of_decide_eq_true (c.fact 29 rfl)
  have a_are_numbers : PySem.W.nsIn K mainGlobals "are_numbers" = some (some (.ref (He.ga K "are_numbers"))) := of_decide_eq_true (c.fact 30 rfl)
  have a_as_ratio : PySem.W.nsIn K mainGlobals "as_ratio" = some (some (.ref (He.ga K "as_ratio"))) := of_decide_eq_true (c.fact 31 rfl)
  have a_total : PySem.W.nsIn K mainGlobals "total" = some (some (.ref (He.ga K "total"))) := of_decide_eq_true (c.fact 32 rfl)
  have a_weighed : PySem.W.nsIn K mainGlobals "weighed" = some (some (.ref (He.ga K "weighed"))) := of_decide_eq_true (c.fact 33 rfl)
  have a_opposites : PySem.W.nsIn K mainGlobals "opposites" = some (some (.ref (He.ga K "opposites"))) := of_decide_eq_true (c.fact 34 rfl)
  have a_numeral : PySem.W.nsIn K mainGlobals "numeral" = some (some (.ref (He.ga K "numeral"))) := of_decide_eq_true (c.fact 35 rfl)
  have a_cover : PySem.W.nsIn K mainGlobals "cover" = some (some (.ref (He.ga K "cover"))) := of_decide_eq_true (c.fact 36 rfl)
  have a_steeper : PySem.W.nsIn K mainGlobals "steeper" = some (some (.ref (He.ga K "steeper"))) := of_decide_eq_true (c.fact 37 rfl)
  have a_slopes_of : PySem.W.nsIn K mainGlobals "slopes_of" = some (some (.ref (He.ga K "slopes_of"))) := of_decide_eq_true (c.fact 38 rfl)
  have a_Scale_init : PySem.W.findIn K (.ref (He.ga K "Scale")) "__init__" = some (some (.ref (He.ma K (He.ga K "Scale") "__init__"))) := of_decide_eq_true (c.fact 39 rfl)
  have i_Scale_init : PySem.W.isFn K (.ref (He.ma K (He.ga K "Scale") "__init__")) = true := c.fact 40 rfl
  have a_Scale_len : PySem.W.findIn K (.ref (He.ga K "Scale")) "__len__" = some (some (.ref (He.ma K (He.ga K "Scale") "__len__"))) := of_decide_eq_true (c.fact 41 rfl)
  have i_Scale_len : PySem.W.isFn K (.ref (He.ma K (He.ga K "Scale") "__len__")) = true := c.fact 42 rfl
  have a_Scale_marks : PySem.W.findIn K (.ref (He.ga K "Scale")) "marks" = some (some (.ref (He.ma K (He.ga K "Scale") "marks"))) := of_decide_eq_true (c.fact 43 rfl)
  have i_Scale_marks : PySem.W.isFn K (.ref (He.ma K (He.ga K "Scale") "marks")) = true := c.fact 44 rfl
  have a_insert_new : PySem.W.nsIn K mainGlobals "insert_new" = some (some (.ref (He.ga K "insert_new"))) := of_decide_eq_true (c.fact 45 rfl)
  have a_distinct : PySem.W.nsIn K mainGlobals "distinct" = some (some (.ref (He.ga K "distinct"))) := of_decide_eq_true (c.fact 46 rfl)
  have a_is_curve : PySem.W.nsIn K mainGlobals "is_curve" = some (some (.ref (He.ga K "is_curve"))) := of_decide_eq_true (c.fact 47 rfl)
  have a_are_shares : PySem.W.nsIn K mainGlobals "are_shares" = some (some (.ref (He.ga K "are_shares"))) := of_decide_eq_true (c.fact 48 rfl)
  have a_is_lot : PySem.W.nsIn K mainGlobals "is_lot" = some (some (.ref (He.ga K "is_lot"))) := of_decide_eq_true (c.fact 49 rfl)
  have a_check_lot : PySem.W.nsIn K mainGlobals "check_lot" = some (some (.ref (He.ga K "check_lot"))) := of_decide_eq_true (c.fact 50 rfl)
  have a_covers : PySem.W.nsIn K mainGlobals "covers" = some (some (.ref (He.ga K "covers"))) := of_decide_eq_true (c.fact 51 rfl)
  have a_check_prices : PySem.W.nsIn K mainGlobals "check_prices" = some (some (.ref (He.ga K "check_prices"))) := of_decide_eq_true (c.fact 52 rfl)
  have a_shares_told : PySem.W.nsIn K mainGlobals "shares_told" = some (some (.ref (He.ga K "shares_told"))) := of_decide_eq_true (c.fact 53 rfl)
  have a_fault : PySem.W.nsIn K mainGlobals "fault" = some (some (.ref (He.ga K "fault"))) := of_decide_eq_true (c.fact 54 rfl)
  have a_lot_of_covers : PySem.W.nsIn K mainGlobals "lot_of_covers" = some (some (.ref (He.ga K "lot_of_covers"))) := of_decide_eq_true (c.fact 55 rfl)
  have a_Lshown : PySem.W.nsIn K mainGlobals "_law_shown" = some (some (.ref (He.ga K "_law_shown"))) := of_decide_eq_true (c.fact 56 rfl)
  have a_Lcell : PySem.W.nsIn K mainGlobals "_law_cell" = some (some (.ref (He.ga K "_law_cell"))) := of_decide_eq_true (c.fact 57 rfl)
  have a_Lbox : PySem.W.nsIn K mainGlobals "_law_box" = some (some (.ref (He.ga K "_law_box"))) := of_decide_eq_true (c.fact 58 rfl)
  have a_Ltake : PySem.W.nsIn K mainGlobals "_law_take" = some (some (.ref (He.ga K "_law_take"))) := of_decide_eq_true (c.fact 59 rfl)
  have a_Lmarks : PySem.W.nsIn K mainGlobals "_law_marks" = some (some (.ref (He.ga K "_law_marks"))) := of_decide_eq_true (c.fact 60 rfl)
  have a_Llot : PySem.W.nsIn K mainGlobals "_law_lot" = some (some (.ref (He.ga K "_law_lot"))) := of_decide_eq_true (c.fact 61 rfl)
  have a_Lcurve : PySem.W.nsIn K mainGlobals "_law_curve" = some (some (.ref (He.ga K "_law_curve"))) := of_decide_eq_true (c.fact 62 rfl)
  have a_Lmean : PySem.W.nsIn K mainGlobals "_law_mean" = some (some (.ref (He.ga K "_law_mean"))) := of_decide_eq_true (c.fact 63 rfl)
  have a_Lcovers : PySem.W.nsIn K mainGlobals "_law_covers" = some (some (.ref (He.ga K "_law_covers"))) := of_decide_eq_true (c.fact 64 rfl)
  have a_Lfault : PySem.W.nsIn K mainGlobals "_law_fault" = some (some (.ref (He.ga K "_law_fault"))) := of_decide_eq_true (c.fact 65 rfl)
  have a_Lasked : PySem.W.nsIn K mainGlobals "_law_asked" = some (some (.ref (He.ga K "_law_asked"))) := of_decide_eq_true (c.fact 66 rfl)
  have a_Lgiven : PySem.W.nsIn K mainGlobals "_law_given" = some (some (.ref (He.ga K "_law_given"))) := of_decide_eq_true (c.fact 67 rfl)
  have a_law : PySem.W.nsIn K mainGlobals "law" = some (some (.ref (He.ga K "law"))) := of_decide_eq_true (c.fact 68 rfl)
  have olk_BadNumber := oclsB_ok (c.fact 69 rfl)
  have osa_BadNumber : PySem.W.findIn K (.ref (He.ga K "BadNumber")) "__setattr__" = some (some (.builtin "object.__setattr__")) := of_decide_eq_true (c.fact 70 rfl)
  have oex_BadNumber : PySem.W.subIn K (.ref (He.ga K "BadNumber")) (.type "BaseException") = some true := of_decide_eq_true (c.fact 71 rfl)
  have oty_BadNumber : PySem.W.typeIn K (.ref (He.ga K "BadNumber")) = some (.type "type") := of_decide_eq_true (c.fact 72 rfl)
  have okp_BadNumber : PySem.W.keepIn K (.ref (He.ga K "BadNumber")) = true := c.fact 73 rfl
  have oti_BadNumber : PySem.W.typeIn K (.ref (He.ma K (He.ga K "BadNumber") "__init__")) = some (.type "function") := of_decide_eq_true (c.fact 74 rfl)
  have oxa_BadNumber_given : PySem.W.findIn K (.ref (He.ga K "BadNumber")) "given" = some none := of_decide_eq_true (c.fact 75 rfl)
  have olk_BadValues := oclsB_ok (c.fact 76 rfl)
  have osa_BadValues : PySem.W.findIn K (.ref (He.ga K "BadValues")) "__setattr__" = some (some (.builtin "object.__setattr__")) := of_decide_eq_true (c.fact 77 rfl)
  have oex_BadValues : PySem.W.subIn K (.ref (He.ga K "BadValues")) (.type "BaseException") = some true := of_decide_eq_true (c.fact 78 rfl)
  have oty_BadValues : PySem.W.typeIn K (.ref (He.ga K "BadValues")) = some (.type "type") := of_decide_eq_true (c.fact 79 rfl)
  have okp_BadValues : PySem.W.keepIn K (.ref (He.ga K "BadValues")) = true := c.fact 80 rfl
  have oti_BadValues : PySem.W.typeIn K (.ref (He.ma K (He.ga K "BadValues") "__init__")) = some (.type "function") := of_decide_eq_true (c.fact 81 rfl)
  have oxa_BadValues_given : PySem.W.findIn K (.ref (He.ga K "BadValues")) "given" = some none := of_decide_eq_true (c.fact 82 rfl)
  have olk_BadLot := oclsB_ok (c.fact 83 rfl)
  have osa_BadLot : PySem.W.findIn K (.ref (He.ga K "BadLot")) "__setattr__" = some (some (.builtin "object.__setattr__")) := of_decide_eq_true (c.fact 84 rfl)
  have oex_BadLot : PySem.W.subIn K (.ref (He.ga K "BadLot")) (.type "BaseException") = some true := of_decide_eq_true (c.fact 85 rfl)
  have oty_BadLot : PySem.W.typeIn K (.ref (He.ga K "BadLot")) = some (.type "type") := of_decide_eq_true (c.fact 86 rfl)
  have okp_BadLot : PySem.W.keepIn K (.ref (He.ga K "BadLot")) = true := c.fact 87 rfl
  have oti_BadLot : PySem.W.typeIn K (.ref (He.ma K (He.ga K "BadLot") "__init__")) = some (.type "function") := of_decide_eq_true (c.fact 88 rfl)
  have oga_BadLot : PySem.W.findIn K (.ref (He.ga K "BadLot")) "__getattribute__" = some (some (.builtin "BaseException.__getattribute__")) := of_decide_eq_true (c.fact 89 rfl)
  have ogg_BadLot : PySem.W.findIn K (.ref (He.ga K "BadLot")) "__getattr__" = some none := of_decide_eq_true (c.fact 90 rfl)
  have ohd_BadLot : PySem.W.hasDictIn K (He.ga K "BadLot") = true := c.fact 91 rfl
  have ois_BadLot : PySem.W.isClsIn K (He.ga K "BadLot") = true := c.fact 92 rfl
  have oss_BadLot : PySem.W.subIn K (.ref (He.ga K "BadLot")) (.ref (He.ga K "BadLot")) = some true := of_decide_eq_true (c.fact 93 rfl)
  have oxa_BadLot_given : PySem.W.findIn K (.ref (He.ga K "BadLot")) "given" = some none := of_decide_eq_true (c.fact 94 rfl)
  have olk_BadNumbers := oclsB_ok (c.fact 95 rfl)
  have osa_BadNumbers : PySem.W.findIn K (.ref (He.ga K "BadNumbers")) "__setattr__" = some (some (.builtin "object.__setattr__")) := of_decide_eq_true (c.fact 96 rfl)
  have oex_BadNumbers : PySem.W.subIn K (.ref (He.ga K "BadNumbers")) (.type "BaseException") = some true := of_decide_eq_true (c.fact 97 rfl)
  have oty_BadNumbers : PySem.W.typeIn K (.ref (He.ga K "BadNumbers")) = some (.type "type") := of_decide_eq_true (c.fact 98 rfl)
  have okp_BadNumbers : PySem.W.keepIn K (.ref (He.ga K "BadNumbers")) = true := c.fact 99 rfl
  have oti_BadNumbers : PySem.W.typeIn K (.ref (He.ma K (He.ga K "BadNumbers") "__init__")) = some (.type "function") := of_decide_eq_true (c.fact 100 rfl)
  have oga_BadNumbers : PySem.W.findIn K (.ref (He.ga K "BadNumbers")) "__getattribute__" = some (some (.builtin "BaseException.__getattribute__")) := of_decide_eq_true (c.fact 101 rfl)
  have ogg_BadNumbers : PySem.W.findIn K (.ref (He.ga K "BadNumbers")) "__getattr__" = some none := of_decide_eq_true (c.fact 102 rfl)
  have ohd_BadNumbers : PySem.W.hasDictIn K (He.ga K "BadNumbers") = true := c.fact 103 rfl
  have ois_BadNumbers : PySem.W.isClsIn K (He.ga K "BadNumbers") = true := c.fact 104 rfl
  have oss_BadNumbers : PySem.W.subIn K (.ref (He.ga K "BadNumbers")) (.ref (He.ga K "BadNumbers")) = some true := of_decide_eq_true (c.fact 105 rfl)
  have oxa_BadNumbers_given : PySem.W.findIn K (.ref (He.ga K "BadNumbers")) "given" = some none := of_decide_eq_true (c.fact 106 rfl)
  have oso_BadNumbers_BadLot : PySem.W.subIn K (.ref (He.ga K "BadNumbers")) (.ref (He.ga K "BadLot")) = some false := of_decide_eq_true (c.fact 107 rfl)
  have z_abs : PySem.W.nsIn K mainGlobals "abs" = some none := of_decide_eq_true (c.fact 108 rfl)
  have z_all : PySem.W.nsIn K mainGlobals "all" = some none := of_decide_eq_true (c.fact 109 rfl)
  have z_bool : PySem.W.nsIn K mainGlobals "bool" = some none := of_decide_eq_true (c.fact 110 rfl)
  have z_dict : PySem.W.nsIn K mainGlobals "dict" = some none := of_decide_eq_true (c.fact 111 rfl)
  have z_enumerate : PySem.W.nsIn K mainGlobals "enumerate" = some none := of_decide_eq_true (c.fact 112 rfl)
  have z_int : PySem.W.nsIn K mainGlobals "int" = some none := of_decide_eq_true (c.fact 113 rfl)
  have z_isinstance : PySem.W.nsIn K mainGlobals "isinstance" = some none := of_decide_eq_true (c.fact 114 rfl)
  have z_len : PySem.W.nsIn K mainGlobals "len" = some none := of_decide_eq_true (c.fact 115 rfl)
  have z_list : PySem.W.nsIn K mainGlobals "list" = some none := of_decide_eq_true (c.fact 116 rfl)
  have z_max : PySem.W.nsIn K mainGlobals "max" = some none := of_decide_eq_true (c.fact 117 rfl)
  have z_min : PySem.W.nsIn K mainGlobals "min" = some none := of_decide_eq_true (c.fact 118 rfl)
  have z_range : PySem.W.nsIn K mainGlobals "range" = some none := of_decide_eq_true (c.fact 119 rfl)
  have z_repr : PySem.W.nsIn K mainGlobals "repr" = some none := of_decide_eq_true (c.fact 120 rfl)
  have z_str : PySem.W.nsIn K mainGlobals "str" = some none := of_decide_eq_true (c.fact 121 rfl)
  have z_sum : PySem.W.nsIn K mainGlobals "sum" = some none := of_decide_eq_true (c.fact 122 rfl)
  have z_tuple : PySem.W.nsIn K mainGlobals "tuple" = some none := of_decide_eq_true (c.fact 123 rfl)
  have z_zip : PySem.W.nsIn K mainGlobals "zip" = some none := of_decide_eq_true (c.fact 124 rfl)
  have ac_MOST_VALUES := intB_ok X G (c.fact 125 rfl)
  have r_gcd : PySem.W.nsIn K mainGlobals "gcd" = some (some (.builtin "math.gcd")) := of_decide_eq_true (c.fact 126 rfl)
  have r_pg : PySem.W.plainGet K (He.ga K "Ratio") Str.empty = true := c.fact 127 rfl
  have r_hd : PySem.W.hasDictIn K (He.ga K "Ratio") = true := c.fact 128 rfl
  have r_po : PySem.W.plainOver K (He.ga K "Ratio") = true := c.fact 129 rfl
  have r_sa : PySem.W.findIn K (.ref (He.ga K "Ratio")) "__setattr__" = some (some (.builtin "object.__setattr__")) := of_decide_eq_true (c.fact 130 rfl)
  have r_nT : PySem.W.findIn K (.ref (He.ga K "Ratio")) "top" = some none := of_decide_eq_true (c.fact 131 rfl)
  have r_nB : PySem.W.findIn K (.ref (He.ga K "Ratio")) "bottom" = some none := of_decide_eq_true (c.fact 132 rfl)
  have r_ha : PySem.W.findIn K (.ref (He.ga K "Ratio")) "__class__" = some (some (.builtin "object.__class__")) := of_decide_eq_true (c.fact 133 rfl)
  have r_hn : PySem.W.specialIn K (.builtin "object.__class__") "__get__" = some (some (.builtin "getset_descriptor.__get__")) := of_decide_eq_true (c.fact 134 rfl)
  have r_htk : PySem.W.takesIn K (.builtin "object.__class__") = some true := of_decide_eq_true (c.fact 135 rfl)
  have r_hm : PySem.W.mroIn K (He.ga K "Ratio") (.type "object") = some true := of_decide_eq_true (c.fact 136 rfl)
  have r_si : PySem.W.subIn K (.ref (He.ga K "Ratio")) (.type "int") = some false := of_decide_eq_true (c.fact 137 rfl)
  have r_own : PySem.W.isClsIn K (He.ga K "Ratio") = true := c.fact 138 rfl
  have r_ty : PySem.W.typeIn K (.ref (He.ga K "Ratio")) = some (.type "type") := of_decide_eq_true (c.fact 139 rfl)
  have r_mk : PySem.W.makesIn K (He.ga K "Ratio") = true := c.fact 140 rfl
  have r_kp : PySem.W.keepIn K (.ref (He.ga K "Ratio")) = true := c.fact 141 rfl
  have r_sf : PySem.W.selfFirst K (He.ga K "Ratio") = true := c.fact 142 rfl
  have r_sub : PySem.W.subIn K (.type "int") (.ref (He.ga K "Ratio")) = some false := of_decide_eq_true (c.fact 143 rfl)
  have r_ne : PySem.W.findIn K (.ref (He.ga K "Ratio")) "__ne__" = some (some (.builtin "object.__ne__")) := of_decide_eq_true (c.fact 144 rfl)
  have r_ob : PySem.W.subIn K (.ref (He.ga K "Ratio")) (.type "object") = some true := of_decide_eq_true (c.fact 145 rfl)
  have r_nbool : PySem.W.subIn K (.type "bool") (.ref (He.ga K "Ratio")) = some false := of_decide_eq_true (c.fact 146 rfl)
  have r_nNoneType : PySem.W.subIn K (.type "NoneType") (.ref (He.ga K "Ratio")) = some false := of_decide_eq_true (c.fact 147 rfl)
  have r_nstr : PySem.W.subIn K (.type "str") (.ref (He.ga K "Ratio")) = some false := of_decide_eq_true (c.fact 148 rfl)
  have r_nlist : PySem.W.subIn K (.type "list") (.ref (He.ga K "Ratio")) = some false := of_decide_eq_true (c.fact 149 rfl)
  have r_ntuple : PySem.W.subIn K (.type "tuple") (.ref (He.ga K "Ratio")) = some false := of_decide_eq_true (c.fact 150 rfl)
  have r_ndict : PySem.W.subIn K (.type "dict") (.ref (He.ga K "Ratio")) = some false := of_decide_eq_true (c.fact 151 rfl)
  have r_radd : PySem.W.findIn K (.ref (He.ga K "Ratio")) "__radd__" = some none := of_decide_eq_true (c.fact 152 rfl)
  have r_iadd := isSomeB (c.fact 153 rfl)
  have r_jadd := isSomeB (c.fact 154 rfl)
  have r_rsub : PySem.W.findIn K (.ref (He.ga K "Ratio")) "__rsub__" = some none := of_decide_eq_true (c.fact 155 rfl)
  have r_isub := isSomeB (c.fact 156 rfl)
  have r_jsub := isSomeB (c.fact 157 rfl)
  have r_rmul : PySem.W.findIn K (.ref (He.ga K "Ratio")) "__rmul__" = some none := of_decide_eq_true (c.fact 158 rfl)
  have r_imul := isSomeB (c.fact 159 rfl)
  have r_jmul := isSomeB (c.fact 160 rfl)
  have s_pg : PySem.W.plainGet K (He.ga K "Scale") Str.empty = true := c.fact 161 rfl
  have s_hd : PySem.W.hasDictIn K (He.ga K "Scale") = true := c.fact 162 rfl
  have s_po : PySem.W.plainOver K (He.ga K "Scale") = true := c.fact 163 rfl
  have s_sa : PySem.W.findIn K (.ref (He.ga K "Scale")) "__setattr__" = some (some (.builtin "object.__setattr__")) := of_decide_eq_true (c.fact 164 rfl)
  have s_nM : PySem.W.findIn K (.ref (He.ga K "Scale")) "_marks" = some none := of_decide_eq_true (c.fact 165 rfl)
  have s_ha : PySem.W.findIn K (.ref (He.ga K "Scale")) "__class__" = some (some (.builtin "object.__class__")) := of_decide_eq_true (c.fact 166 rfl)
  have s_hm : PySem.W.mroIn K (He.ga K "Scale") (.type "object") = some true := of_decide_eq_true (c.fact 167 rfl)
  have s_own : PySem.W.isClsIn K (He.ga K "Scale") = true := c.fact 168 rfl
  have s_ty : PySem.W.typeIn K (.ref (He.ga K "Scale")) = some (.type "type") := of_decide_eq_true (c.fact 169 rfl)
  have s_rat : PySem.W.subIn K (.ref (He.ga K "Ratio")) (.ref (He.ga K "Scale")) = some false := of_decide_eq_true (c.fact 170 rfl)
  have s_mk : PySem.W.makesIn K (He.ga K "Scale") = true := c.fact 171 rfl
  have s_kp : PySem.W.keepIn K (.ref (He.ga K "Scale")) = true := c.fact 172 rfl
  have s_nm : PySem.W.findIn K (.ref (He.ga K "Ratio")) "marks" = some none := of_decide_eq_true (c.fact 173 rfl)
  have s_rl : PySem.W.subIn K (.ref (He.ga K "Ratio")) (.type "list") = some false := of_decide_eq_true (c.fact 174 rfl)
  have s_rt : PySem.W.subIn K (.ref (He.ga K "Ratio")) (.type "tuple") = some false := of_decide_eq_true (c.fact 175 rfl)
  have s_rd : PySem.W.subIn K (.ref (He.ga K "Ratio")) (.type "dict") = some false := of_decide_eq_true (c.fact 176 rfl)
  have s_nint : PySem.W.subIn K (.type "int") (.ref (He.ga K "Scale")) = some false := of_decide_eq_true (c.fact 177 rfl)
  have s_nbool : PySem.W.subIn K (.type "bool") (.ref (He.ga K "Scale")) = some false := of_decide_eq_true (c.fact 178 rfl)
  have s_nNoneType : PySem.W.subIn K (.type "NoneType") (.ref (He.ga K "Scale")) = some false := of_decide_eq_true (c.fact 179 rfl)
  have s_nstr : PySem.W.subIn K (.type "str") (.ref (He.ga K "Scale")) = some false := of_decide_eq_true (c.fact 180 rfl)
  have s_nlist : PySem.W.subIn K (.type "list") (.ref (He.ga K "Scale")) = some false := of_decide_eq_true (c.fact 181 rfl)
  have s_ntuple : PySem.W.subIn K (.type "tuple") (.ref (He.ga K "Scale")) = some false := of_decide_eq_true (c.fact 182 rfl)
  have s_ndict : PySem.W.subIn K (.type "dict") (.ref (He.ga K "Scale")) = some false := of_decide_eq_true (c.fact 183 rfl)
  have e := hfa.symm.trans (PySem.W.mg_of X G a_law)
  cases e
  have b := FunD.bindsA (ps := ["_law_script"]) F_law fun _ _ _ _ _ _ us hl => match us, hl with | [_], _ => rfl
  have T : Tx K mg { C_BadNumber := (He.ga K "BadNumber"), C_BadValues := (He.ga K "BadValues"), C_BadLot := (He.ga K "BadLot"), C_BadNumbers := (He.ga K "BadNumbers"), C_Ratio := (He.ga K "Ratio"), C_Scale := (He.ga K "Scale"), f_BadNumber_init := (He.ma K (He.ga K "BadNumber") "__init__"), d_BadNumber_init := d_BadNumber_init, f_BadValues_init := (He.ma K (He.ga K "BadValues") "__init__"), d_BadValues_init := d_BadValues_init, f_BadLot_init := (He.ma K (He.ga K "BadLot") "__init__"), d_BadLot_init := d_BadLot_init, f_BadNumbers_init := (He.ma K (He.ga K "BadNumbers") "__init__"), d_BadNumbers_init := d_BadNumbers_init, f_Ratio_init := (He.ma K (He.ga K "Ratio") "__init__"), d_Ratio_init := d_Ratio_init, f_Ratio_add := (He.ma K (He.ga K "Ratio") "__add__"), d_Ratio_add := d_Ratio_add, f_Ratio_sub := (He.ma K (He.ga K "Ratio") "__sub__"), d_Ratio_sub := d_Ratio_sub, f_Ratio_mul := (He.ma K (He.ga K "Ratio") "__mul__"), d_Ratio_mul := d_Ratio_mul, f_Ratio_neg := (He.ma K (He.ga K "Ratio") "__neg__"), d_Ratio_neg := d_Ratio_neg, f_Ratio_eq := (He.ma K (He.ga K "Ratio") "__eq__"), d_Ratio_eq := d_Ratio_eq, f_Ratio_lt := (He.ma K (He.ga K "Ratio") "__lt__"), d_Ratio_lt := d_Ratio_lt, f_Ratio_over := (He.ma K (He.ga K "Ratio") "over"), d_Ratio_over := d_Ratio_over, f_Ratio_text := (He.ma K (He.ga K "Ratio") "text"), d_Ratio_text := d_Ratio_text, f_is_whole := (He.ga K "is_whole"), d_is_whole := d_is_whole, f_is_number := (He.ga K "is_number"), d_is_number := d_is_number, f_are_numbers := (He.ga K "are_numbers"), d_are_numbers := d_are_numbers, f_as_ratio := (He.ga K "as_ratio"), d_as_ratio := d_as_ratio, f_total := (He.ga K "total"), d_total := d_total, f_weighed := (He.ga K "weighed"), d_weighed := d_weighed, f_opposites := (He.ga K "opposites"), d_opposites := d_opposites, f_numeral := (He.ga K "numeral"), d_numeral := d_numeral, f_cover := (He.ga K "cover"), d_cover := d_cover, f_steeper := (He.ga K "steeper"), d_steeper := d_steeper, f_slopes_of := (He.ga K "slopes_of"), d_slopes_of := d_slopes_of, f_Scale_init := (He.ma K (He.ga K "Scale") "__init__"), d_Scale_init := d_Scale_init, f_Scale_len := (He.ma K (He.ga K "Scale") "__len__"), d_Scale_len := d_Scale_len, f_Scale_marks := (He.ma K (He.ga K "Scale") "marks"), d_Scale_marks := d_Scale_marks, f_insert_new := (He.ga K "insert_new"), d_insert_new := d_insert_new, f_distinct := (He.ga K "distinct"), d_distinct := d_distinct, f_is_curve := (He.ga K "is_curve"), d_is_curve := d_is_curve, f_are_shares := (He.ga K "are_shares"), d_are_shares := d_are_shares, f_is_lot := (He.ga K "is_lot"), d_is_lot := d_is_lot, f_check_lot := (He.ga K "check_lot"), d_check_lot := d_check_lot, f_covers := (He.ga K "covers"), d_covers := d_covers, f_check_prices := (He.ga K "check_prices"), d_check_prices := d_check_prices, f_shares_told := (He.ga K "shares_told"), d_shares_told := d_shares_told, f_fault := (He.ga K "fault"), d_fault := d_fault, f_lot_of_covers := (He.ga K "lot_of_covers"), d_lot_of_covers := d_lot_of_covers, f_Lshown := (He.ga K "_law_shown"), d_Lshown := d_Lshown, f_Lcell := (He.ga K "_law_cell"), d_Lcell := d_Lcell, f_Lbox := (He.ga K "_law_box"), d_Lbox := d_Lbox, f_Ltake := (He.ga K "_law_take"), d_Ltake := d_Ltake, f_Lmarks := (He.ga K "_law_marks"), d_Lmarks := d_Lmarks, f_Llot := (He.ga K "_law_lot"), d_Llot := d_Llot, f_Lcurve := (He.ga K "_law_curve"), d_Lcurve := d_Lcurve, f_Lmean := (He.ga K "_law_mean"), d_Lmean := d_Lmean, f_Lcovers := (He.ga K "_law_covers"), d_Lcovers := d_Lcovers, f_Lfault := (He.ga K "_law_fault"), d_Lfault := d_Lfault, f_Lasked := (He.ga K "_law_asked"), d_Lasked := d_Lasked, f_Lgiven := (He.ga K "_law_given"), d_Lgiven := d_Lgiven, f_law := (He.ga K "law"), d_law := d_law } := {
    g_BadNumber := PySem.W.mg_of X G aC_BadNumber,
    g_BadValues := PySem.W.mg_of X G aC_BadValues,
    g_BadLot := PySem.W.mg_of X G aC_BadLot,
    g_BadNumbers := PySem.W.mg_of X G aC_BadNumbers,
    g_Ratio := PySem.W.mg_of X G aC_Ratio,
    g_Scale := PySem.W.mg_of X G aC_Scale,
    F_BadNumber_init := F_BadNumber_init,
    F_BadValues_init := F_BadValues_init,
    F_BadLot_init := F_BadLot_init,
    F_BadNumbers_init := F_BadNumbers_init,
    F_Ratio_init := F_Ratio_init,
    F_Ratio_add := F_Ratio_add,
    F_Ratio_sub := F_Ratio_sub,
    F_Ratio_mul := F_Ratio_mul,
    F_Ratio_neg := F_Ratio_neg,
    m_Ratio_neg := ⟨a_Ratio_neg, i_Ratio_neg, k_Ratio_neg⟩,
    F_Ratio_eq := F_Ratio_eq,
    F_Ratio_lt := F_Ratio_lt,
    F_Ratio_over := F_Ratio_over,
    m_Ratio_over := ⟨a_Ratio_over, i_Ratio_over, k_Ratio_over⟩,
    F_Ratio_text := F_Ratio_text,
    m_Ratio_text := ⟨a_Ratio_text, i_Ratio_text, k_Ratio_text⟩,
    g_is_whole := PySem.W.mg_of X G a_is_whole,
    F_is_whole := F_is_whole,
    g_is_number := PySem.W.mg_of X G a_is_number,
    F_is_number := F_is_number,
    g_are_numbers := PySem.W.mg_of X G a_are_numbers,
    F_are_numbers := F_are_numbers,
    g_as_ratio := PySem.W.mg_of X G a_as_ratio,
    F_as_ratio := F_as_ratio,
    g_total := PySem.W.mg_of X G a_total,
    F_total := F_total,
    g_weighed := PySem.W.mg_of X G a_weighed,
    F_weighed := F_weighed,
    g_opposites := PySem.W.mg_of X G a_opposites,
    F_opposites := F_opposites,
    g_numeral := PySem.W.mg_of X G a_numeral,
    F_numeral := F_numeral,
    g_cover := PySem.W.mg_of X G a_cover,
    F_cover := F_cover,
    g_steeper := PySem.W.mg_of X G a_steeper,
    F_steeper := F_steeper,
    g_slopes_of := PySem.W.mg_of X G a_slopes_of,
    F_slopes_of := F_slopes_of,
    F_Scale_init := F_Scale_init,
    F_Scale_len := F_Scale_len,
    F_Scale_marks := F_Scale_marks,
    m_Scale_marks := ⟨a_Scale_marks, i_Scale_marks, k_Scale_marks⟩,
    g_insert_new := PySem.W.mg_of X G a_insert_new,
    F_insert_new := F_insert_new,
    g_distinct := PySem.W.mg_of X G a_distinct,
    F_distinct := F_distinct,
    g_is_curve := PySem.W.mg_of X G a_is_curve,
    F_is_curve := F_is_curve,
    g_are_shares := PySem.W.mg_of X G a_are_shares,
    F_are_shares := F_are_shares,
    g_is_lot := PySem.W.mg_of X G a_is_lot,
    F_is_lot := F_is_lot,
    g_check_lot := PySem.W.mg_of X G a_check_lot,
    F_check_lot := F_check_lot,
    g_covers := PySem.W.mg_of X G a_covers,
    F_covers := F_covers,
    g_check_prices := PySem.W.mg_of X G a_check_prices,
    F_check_prices := F_check_prices,
    g_shares_told := PySem.W.mg_of X G a_shares_told,
    F_shares_told := F_shares_told,
    g_fault := PySem.W.mg_of X G a_fault,
    F_fault := F_fault,
    g_lot_of_covers := PySem.W.mg_of X G a_lot_of_covers,
    F_lot_of_covers := F_lot_of_covers,
    g_Lshown := PySem.W.mg_of X G a_Lshown,
    F_Lshown := F_Lshown,
    g_Lcell := PySem.W.mg_of X G a_Lcell,
    F_Lcell := F_Lcell,
    g_Lbox := PySem.W.mg_of X G a_Lbox,
    F_Lbox := F_Lbox,
    g_Ltake := PySem.W.mg_of X G a_Ltake,
    F_Ltake := F_Ltake,
    g_Lmarks := PySem.W.mg_of X G a_Lmarks,
    F_Lmarks := F_Lmarks,
    g_Llot := PySem.W.mg_of X G a_Llot,
    F_Llot := F_Llot,
    g_Lcurve := PySem.W.mg_of X G a_Lcurve,
    F_Lcurve := F_Lcurve,
    g_Lmean := PySem.W.mg_of X G a_Lmean,
    F_Lmean := F_Lmean,
    g_Lcovers := PySem.W.mg_of X G a_Lcovers,
    F_Lcovers := F_Lcovers,
    g_Lfault := PySem.W.mg_of X G a_Lfault,
    F_Lfault := F_Lfault,
    g_Lasked := PySem.W.mg_of X G a_Lasked,
    F_Lasked := F_Lasked,
    g_Lgiven := PySem.W.mg_of X G a_Lgiven,
    F_Lgiven := F_Lgiven,
    F_law := F_law,
    oc_BadNumber := ⟨olk_BadNumber, osa_BadNumber, oex_BadNumber, oty_BadNumber, okp_BadNumber⟩,
    ti_BadNumber := oti_BadNumber,
    fi_BadNumber := a_BadNumber_init,
    xa_BadNumber_given := oxa_BadNumber_given,
    oc_BadValues := ⟨olk_BadValues, osa_BadValues, oex_BadValues, oty_BadValues, okp_BadValues⟩,
    ti_BadValues := oti_BadValues,
    fi_BadValues := a_BadValues_init,
    xa_BadValues_given := oxa_BadValues_given,
    oc_BadLot := ⟨olk_BadLot, osa_BadLot, oex_BadLot, oty_BadLot, okp_BadLot⟩,
    ti_BadLot := oti_BadLot,
    fi_BadLot := a_BadLot_init,
    xf_BadLot := ⟨oga_BadLot, ogg_BadLot, oex_BadLot, ohd_BadLot⟩,
    xs_BadLot := exm_sub oex_BadLot ois_BadLot oty_BadLot oss_BadLot,
    xa_BadLot_given := oxa_BadLot_given,
    oc_BadNumbers := ⟨olk_BadNumbers, osa_BadNumbers, oex_BadNumbers, oty_BadNumbers, okp_BadNumbers⟩,
    ti_BadNumbers := oti_BadNumbers,
    fi_BadNumbers := a_BadNumbers_init,
    xf_BadNumbers := ⟨oga_BadNumbers, ogg_BadNumbers, oex_BadNumbers, ohd_BadNumbers⟩,
    xs_BadNumbers := exm_sub oex_BadNumbers ois_BadNumbers oty_BadNumbers oss_BadNumbers,
    xa_BadNumbers_given := oxa_BadNumbers_given,
    xo_BadNumbers_BadLot := exm_sub oex_BadLot ois_BadLot oty_BadLot oso_BadNumbers_BadLot,
    b_abs := PySem.W.mg_none_of X G z_abs,
    b_all := PySem.W.mg_none_of X G z_all,
    b_bool := PySem.W.mg_none_of X G z_bool,
    b_dict := PySem.W.mg_none_of X G z_dict,
    b_enumerate := PySem.W.mg_none_of X G z_enumerate,
    b_int := PySem.W.mg_none_of X G z_int,
    b_isinstance := PySem.W.mg_none_of X G z_isinstance,
    b_len := PySem.W.mg_none_of X G z_len,
    b_list := PySem.W.mg_none_of X G z_list,
    b_max := PySem.W.mg_none_of X G z_max,
    b_min := PySem.W.mg_none_of X G z_min,
    b_range := PySem.W.mg_none_of X G z_range,
    b_repr := PySem.W.mg_none_of X G z_repr,
    b_str := PySem.W.mg_none_of X G z_str,
    b_sum := PySem.W.mg_none_of X G z_sum,
    b_tuple := PySem.W.mg_none_of X G z_tuple,
    b_zip := PySem.W.mg_none_of X G z_zip,
    c_MOST_VALUES := ac_MOST_VALUES,
    g_gcd := PySem.W.mg_of X G r_gcd,
    R := ⟨⟨r_pg, r_hd, r_po, r_sa⟩, r_nT, r_nB, r_ha, r_hn, r_htk, r_hm, r_si, r_own, r_ty, List.forall_mem_cons.mpr ⟨r_sub, List.forall_mem_cons.mpr ⟨r_nbool, List.forall_mem_cons.mpr ⟨r_nNoneType, List.forall_mem_cons.mpr ⟨r_nstr, List.forall_mem_cons.mpr ⟨r_nlist, List.forall_mem_cons.mpr ⟨r_ntuple, List.forall_mem_cons.mpr ⟨r_ndict, List.forall_mem_nil _⟩⟩⟩⟩⟩⟩⟩⟩,
    mk_Ratio := ⟨r_mk, a_Ratio_init, i_Ratio_init, r_kp⟩,
    o_add := ⟨r_sf, a_Ratio_add, i_Ratio_add, r_radd, r_iadd, r_jadd, r_sub⟩,
    o_sub := ⟨r_sf, a_Ratio_sub, i_Ratio_sub, r_rsub, r_isub, r_jsub, r_sub⟩,
    o_mul := ⟨r_sf, a_Ratio_mul, i_Ratio_mul, r_rmul, r_imul, r_jmul, r_sub⟩,
    p_lt := ⟨a_Ratio_lt, i_Ratio_lt⟩,
    p_eq := ⟨a_Ratio_eq, i_Ratio_eq⟩,
    p_ne := ⟨r_ne, a_Ratio_eq, i_Ratio_eq, r_ob⟩,
    RS := ⟨⟨s_pg, s_hd, s_po, s_sa⟩, s_nM, s_ha, s_hm, s_own, s_ty, List.forall_mem_cons.mpr ⟨s_nint, List.forall_mem_cons.mpr ⟨s_nbool, List.forall_mem_cons.mpr ⟨s_nNoneType, List.forall_mem_cons.mpr ⟨s_nstr, List.forall_mem_cons.mpr ⟨s_nlist, List.forall_mem_cons.mpr ⟨s_ntuple, List.forall_mem_cons.mpr ⟨s_ndict, List.forall_mem_nil _⟩⟩⟩⟩⟩⟩⟩, s_rat⟩,
    R2 := ⟨s_rl, s_rt, s_rd⟩,
    mk_Scale := ⟨s_mk, a_Scale_init, i_Scale_init, s_kp⟩,
    ln_Scale := a_Scale_len,
    lf_Scale := i_Scale_len,
    neS := (fun e => by have e2 : He.ga K "Ratio" = He.ga K "Scale" := e; rw [← e2, s_nm] at a_Scale_marks; cases a_Scale_marks) }
  exact ⟨_, fun s v => b s [v] rfl, fun base _ _ => ok_law T⟩
end Kx
open PySem PySem.W PySem.Calls PyProof.Rows
set_option maxRecDepth 100000 in
set_option maxHeartbeats 0 in
theorem PySem.Challenge.cw_firstmeans_k45_covers_told_back_holds : PySem.Challenge.rw_firstmeans_k45_covers_told_back.Holds := by
  w_on; o_law
  refine HandSHeadRun.head_imp (r := OpenLaw.row PySem.Challenge.rw_firstmeans_k45_covers_told_back) (q := Kx.hQ) (H := Kx.hk) (ob := Kx.hOb) (M := 60000) (loose := Kx.hNames) (d := HandSHeadRun.topDef (OpenLaw.row PySem.Challenge.rw_firstmeans_k45_covers_told_back).prog 58) (kwd := []) Kx.hOb_eq Kx.hRun (by kernel_rfl) (by kernel_rfl) (by kernel_rfl) (by rfl) (by first | assumption | decide +kernel) (by decide +kernel) ⟨rfl, rfl, rfl, rfl, rfl, by decide +kernel⟩ ?hw ?hc
  case hw => w_witness2
  case hc =>
    refine L2.walk_ofE (l := PySem.Challenge.rw_firstmeans_k45_covers_told_back) (n := 63) (k := 15) (x := "_law_script") (CX := L2.CX0) rfl (by decide) (by kernel_rfl) ⟨rfl, by decide, by decide⟩ ?F (fun _ _ _ _ z => z)
    intro w mg fa h Y G hmg0
    obtain ⟨K, KX, c⟩ := Y
    have hmg : mg ("law" : PySem.Str) = some (.ref fa) := by
      have e : (HandSHeadRun.topDef (OpenLaw.row PySem.Challenge.rw_firstmeans_k45_covers_told_back).prog 58).name = ("law" : PySem.Str) := by kernel_rfl
      rw [← e]
      exact hmg0
    obtain ⟨fd, hb, hF⟩ := Kx.hSay (P := (PySem.Challenge.rw_firstmeans_k45_covers_told_back).prog) (w := w) KX G hmg c
    exact ⟨K, fd, Kx.spLaw K, KX, hb, fun H a ns hl _ hS => ⟨a, ns, rfl, hS, by omega, fun _ _ => rfl⟩, hF⟩



