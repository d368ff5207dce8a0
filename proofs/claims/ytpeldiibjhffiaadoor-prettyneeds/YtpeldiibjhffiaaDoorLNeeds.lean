/-
  PrettyNeeds is proved for every input: without any one pair of its brackets the text of an expression is read as another one, or as none. Its conditions are the row's own: what is handed in reads as data, and the tables that the standard library reads are as its text lays them.
-/
import Derived.Test.YtpeldiibjhffiaaDoorRows
import Derived.Test.YtpeldiibjhffiaaDoorCards
import Derived.Test.YtpeldiibjhffiaaDoorTie
import Derived.SevenTiedAt
import Derived.Test.YtpeldiibjhffiaaDoorOvr
import Derived.Test.YtpeldiibjhffiaaDoorG40
namespace Go.Proofs.YtpeldiibjhffiaaDoor
open Go.RowKit Go.Deep

theorem needs_walk (a : Ex) (pa : Option Addr) (pn pc : Nat) (w : World) (htab : TabOk w) (hA : ExAt false (fun _ => True) w a pa pn) :
    Calls Tryd.prog 7 #[.agg #[.int .i64 a.1.kind, .int .i64 a.1.num, .string (bs a.1.text), .slice pa pn pc, .int .i64 a.1.pl]] w fun e w' => e = .returned (.bool true) ∧ Below w.heap.size w w' := by
  by_cases hz : (exprB a).2 = 0
  · by_cases hl : 600 < (bs (exprB a).1).size
    · exact needs_long a pa pn pc w htab hA hz hl
    · have he : exprB a = ((exprB a).1, 0) := by rw [← hz]
      obtain ⟨hr, h2⟩ := exprB_ok he
      rw [h2] at he hl
      exact needs_read a pa pn pc w htab hA he hr (by rw [bs_size] at hl; omega)
  · exact needs_bad a pa pn pc w htab hA hz


namespace prettyNeeds
open Go.ChangeShapes Go.WideShapes Go.ChangeAt Go.RowKit
open Go.ChangeMaps (open_string shut_string)

set_option maxRecDepth 100000 in
theorem lifted (os : Os) (started : os.Started) (H : Type) (enc : TypeId × Value → H) :
    ReturnsInHanded {} Tryd.checked os 7 .any (fun w args => (Rows.prettyNeedsSpec.pre enc Tryd.prog Tryd.f7 [] false w args ∧ laidMetH Tryd.prog theLaid w) ∧ sizedMet enc Tryd.prog Tryd.f7 (OpenSpec.ofChange Rows.prettyNeedsSpec) false w args)
      (Rows.prettyNeedsSpec.post enc Tryd.prog Tryd.f7 false true false false) := by
  refine returnsInHanded_of_change_and (C := Tryd.checked) (X := fun w _ => laidMetH Tryd.prog theLaid w) (fun _ _ _ hh h => h.of_heap hh) own started (by kernel_rfl) Tryd.func7
    (ChangeSpec.witness_shaped (enc := enc) (C := Tryd.checked) (os := os) (X := fun w _ => laidMetH Tryd.prog theLaid w) false (World.doorLaid Tryd.prog 400 os) #[.agg #[.int .i64 0, .int .i64 0, .string ⟨#[]⟩, .slice none 0 0, .int .i64 0]] 8 rfl (World.shaped_of_RefB (by kernel_rfl) (by kernel_rfl)) (by kernel_rfl) (by kernel_rfl) (by kernel_rfl) (door_met os _)) ?_
  intro W base args ds gs before hval0 hW _ hsz0 hL _
  have hval : ∀ (j : Nat) t v, Tryd.f7.params[j]? = some t → args[j]? = some v → Value.okWide Tryd.prog W .any base t v := hval0
  have hsz : (DataW.weightsEach Tryd.prog (Tryd.f7.params.toList ++ Rows.prettyNeedsSpec.plain.varTypes Tryd.prog) (ds ++ gs)).all (· ≤ reachBytes) = true := hsz0
  have hW' := hW
  obtain ⟨p, q, hA0, hV, rfl, hfz, hnd⟩ := hW
  have hA : DataW.TrodAll enc Tryd.prog W 0 (fun _ => true) true Tryd.f7.params.toList args.toList ds p := hA0
  rw [Tryd.params7] at hA hval hsz
  obtain ⟨v0, vs0, d0, ds0, p0, q0, hargs, rfl, rfl, h0, r0⟩ := trodAll_cons hA
  obtain ⟨rfl, rfl, rfl⟩ := trodAll_nil r0
  obtain rfl : args = #[v0] := by cases args; simp_all
  obtain ⟨rfl, rfl⟩ := trodVars_none hV
  have hw : ∀ (j : Nat) (t : TypeId) (d : DataW H), ([40] ++ Rows.prettyNeedsSpec.plain.varTypes Tryd.prog)[j]? = some t → ([d0] ++ [])[j]? = some d → ∀ n ∈ d.weights Tryd.prog t, n ≤ reachBytes := fun j t d ht hd n hn =>
    of_decide_eq_true (List.all_eq_true.1 hsz _ (DataW.weights_mem_each ht hd n hn))
  obtain ⟨cs0, rfl, hcs0⟩ := okWide_struct Tryd.underlying40 (hval 0 40 v0 rfl rfl)
  have lt0 : ∀ x ∈ p0, x.block < W.heap.size := by obtain ⟨m, hm⟩ := h0; exact DataW.trod_lt m _ _ _ hm
  obtain ⟨x0, a0, len0, cap0, e0, w0⟩ := expr_in hcs0 h0 (hw 0 40 d0 rfl rfl)
  subst e0
  clear hA0 hval0
  refine (needs_walk x0 a0 len0 cap0 W (tab_of_laid hL) w0).mono fun e W' ⟨he, bel⟩ => ?_
  subst he
  exact ⟨_, rfl, _, _, _, [], _, [], hW', trodAll_mk1 (shut_bool Tryd.underlying4 _), (trodAll_cons_mk (Below.trod laidOut (by kernel_rfl) (of_decide_eq_true (by kernel_rfl)) h0 bel lt0) trodAll_mk0), rfl, bel.frame _, fun h => by cases h⟩
end prettyNeeds

theorem prettyNeeds_holds : Rows.PrettyNeedsSaid :=
  OpenClaim.holds_of_wide 7 Tryd.f7 rfl rfl rfl rfl rfl rfl rfl ⟨rfl, rfl, rfl, rfl, rfl⟩ rfl rfl rfl rfl rfl (by kernel_rfl) Tryd.func7 (by kernel_rfl)
    (of_decide_eq_true (by kernel_rfl)) (by unfold Func.isWrapper; first | (rw [if_pos (by decide +kernel)]; kernel_rfl) | (rw [if_neg (by decide +kernel)]; exact ⟨rfl, rfl⟩))
    (fun os started H enc _ => prettyNeeds.lifted os started H enc)

theorem prettyNeedsCard_holds : Rows.PrettyNeedsCardSaid :=
  Claim7.holds_tied_plain_at .later [] [.data, .data, .data] true (true, "2cc4468302e316018ec97142d67c77dc637a12be2100efdb9e5087b4b51305a0") false
    prettyNeeds_holds (fun _ h => by cases h) (by kernel_rfl) (fun _ h => by cases h) prettyNeeds_row_tie rfl ⟨rfl, rfl⟩ (by kernel_rfl) rfl
    (fun f fn hf hfn => by
      obtain rfl : f = 7 := Option.some.inj ((show Tryd.prog.funcNamed Rows.prettyNeedsRow.func = some 7 by kernel_rfl).symm.trans hf) |>.symm
      obtain rfl : fn = Tryd.f7 := (Option.some.inj (Tryd.func7.symm.trans hfn)).symm
      exact ⟨by kernel_rfl, fun j t ht => by
        rw [Tryd.params7] at ht
        have hm : t ∈ [40] := by simpa using Array.mem_of_getElem? ht
        have hall : ([40].all fun u => !Tryd.prog.wantsStandIn u) = true := by kernel_rfl
        exact (show Tryd.prog.wantsStandIn t = false by simpa using List.all_eq_true.1 hall t hm)⟩)
    (by kernel_rfl)
end Go.Proofs.YtpeldiibjhffiaaDoor
