/-
  PrettyExprs is proved for every input: of any two expressions Expr says the text, or what is wrong, as the document says it. Its conditions are the row's own: what is handed in reads as data, and the tables that the standard library reads are as its text lays them.
-/
import Derived.Test.YtpeldiibjhffiaaGreatDoorRows
import Derived.Test.YtpeldiibjhffiaaGreatDoorCards
import Derived.Test.YtpeldiibjhffiaaGreatDoorTie
import Derived.SevenTiedAt
import Derived.Test.YtpeldiibjhffiaaGreatDoorOvr
import Derived.Test.YtpeldiibjhffiaaGreatDoorG34
import Derived.Test.YtpeldiibjhffiaaGreatDoorG35
import Derived.Test.YtpeldiibjhffiaaGreatDoorG27
namespace Go.Proofs.YtpeldiibjhffiaaGreatDoor
open Go.RowKit Go.Deep

theorem one_rgt (e : Ex) : rgtF 32 (ofL [e]) = rgtE 1 e := by
  have := rgtF_cons (d := 0) (by omega) 0 0 e.1 e.2 .nil
  simp only [rgtF, Bool.and_true] at this
  simpa [ofL, nd, rgtF] using this
theorem owned_text {w : World} {base : Nat} {ao : Option Addr} {n cap : Nat} {t : List UInt8} (h : w.ownsRow base 5 1 (.slice ao n cap) n (bV t)) :
    (convert 42 9 (.slice ao n cap)).run Tryz.prog w = .ok (.string ⟨t.toArray⟩) w := by
  have hl : t.length = n := by have := h.1; rw [bV_length] at this; omega
  rcases h.2 with ⟨hv, rfl⟩ | ⟨g, cap', cur, hv, hb, hg, _⟩
  · cases hv
    have ht : t = [] := List.eq_nil_of_length_eq_zero hl
    subst ht
    rw [run_convert_bytes_string w 42 9 5 none 0 0 Tryz.underlying42 Tryz.underlying5 Tryz.underlying9]
    rfl
  · cases hv
    subst hl
    refine run_convert_bytes_back w 42 9 5 ⟨g, 0, none⟩ cap t Tryz.underlying42 Tryz.underlying5 Tryz.underlying9 ?_
    intro j hj
    exact h.cells (g := g) rfl j (.int .u8 (t[j].toNat : Int)) (by simp [bV, Lib.byteCells, hj])
set_option maxRecDepth 20000 in
set_option maxHeartbeats 4000000 in
theorem wexprP_calls {o : Bool} {S : Nat → Prop} (e : Ex) (ka : Option Addr) (kn kc : Nat) (w : World) (hE : ExAt o S w e ka kn) :
    Calls Tryz.prog 6 #[.agg #[.int .i64 e.1.kind, .int .i64 e.1.num, .string (bs e.1.text), .slice ka kn kc, .int .i64 e.1.pl]] w fun e' w' => TextPost (exprB e) w e' w' := by
  have hb0 : Below w.heap.size w (w.alloc (.cells #[.int .i64 e.1.kind, .int .i64 e.1.num, .string (bs e.1.text), .slice ka kn kc, .int .i64 e.1.pl] 24)) := low_alloc _ _
  have HRt : Hid (Calls Tryz.prog 13 #[.agg #[.int .i64 e.1.kind, .int .i64 e.1.num, .string (bs e.1.text), .slice ka kn kc, .int .i64 e.1.pl], .int .i64 1] (w.alloc (.cells #[.int .i64 e.1.kind, .int .i64 e.1.num, .string (bs e.1.text), .slice ka kn kc, .int .i64 e.1.pl] 24)) fun e' w' => e' = .returned (.bool (rgtF 32 (ofL [e]))) ∧ Below (w.alloc (.cells #[.int .i64 e.1.kind, .int .i64 e.1.num, .string (bs e.1.text), .slice ka kn kc, .int .i64 e.1.pl] 24)).heap.size (w.alloc (.cells #[.int .i64 e.1.kind, .int .i64 e.1.num, .string (bs e.1.text), .slice ka kn kc, .int .i64 e.1.pl] 24)) w') := by
    have := rightE_calls (szF e.2 + 1) e ka kn kc 1 _ o S (hE.below hb0) (by omega)
    rw [← one_rgt] at this
    exact this
  have H0 : Hid (Below w.heap.size w (w.alloc (.cells #[.int .i64 e.1.kind, .int .i64 e.1.num, .string (bs e.1.text), .slice ka kn kc, .int .i64 e.1.pl] 24)) ∧ (w.alloc (.cells #[.int .i64 e.1.kind, .int .i64 e.1.num, .string (bs e.1.text), .slice ka kn kc, .int .i64 e.1.pl] 24)).heap[w.heap.size]? = some (.cells #[.int .i64 e.1.kind, .int .i64 e.1.num, .string (bs e.1.text), .slice ka kn kc, .int .i64 e.1.pl] 24 (0, 0))) := ⟨hb0, heap_alloc_new w _⟩
  have HF : Hid (ExAt o S w e ka kn) := hE
  have HP : Hid (exprB e = if rgtF 32 (ofL [e]) then (if (txE e).length ≤ 4000 then (txE e, 0) else ([], 2)) else ([], 80)) := rfl
  clear hE hb0
  cases hr : rgtF 32 (ofL [e]) with
  | false =>
    have HE : Hid (exprB e = ([], 80)) := by have := HP.out; rw [hr, if_neg (by decide)] at this; exact this
    rw [hr] at HRt
    generalize exprB e = X at *
    clear hr HP
    go_enter Tryz.func6, Tryz.ntmps6
    go_wp2_with fail
    refine HRt.out.mono ?_
    rintro e' w2 ⟨rfl, hb2⟩
    have HB : Hid (Below w.heap.size w w2) := H0.out.1.trans (hb2.mono H0.out.1.size)
    clear hb2 HRt
    go_wp2
    go_ret2
    exact text_post HE.out rfl HB.out
  | true =>
    have HR : Hid (ExR e) := by
      have h1 := (rgt_hds _ _ hr).1
      simp only [ofL, nd, hdsR, Bool.and_eq_true] at h1
      exact ⟨h1.1, h1.2.1⟩
    have HP2 : Hid (exprB e = if (txE e).length ≤ 4000 then (txE e, 0) else ([], 2)) := by have := HP.out; rw [hr, if_pos rfl] at this; exact this
    rw [hr] at HRt
    generalize exprB e = X at *
    clear hr HP
    go_enter Tryz.func6, Tryz.ntmps6
    go_wp2_with fail
    refine HRt.out.mono ?_
    rintro e' w2 ⟨rfl, hb2⟩
    have hbw : Below w.heap.size w w2 := H0.out.1.trans (hb2.mono H0.out.1.size)
    have hbx : (w2.alloc (.cells #[.slice none 0 0] 53)).heap[w.heap.size]? = some (.cells #[.int .i64 e.1.kind, .int .i64 e.1.num, .string (bs e.1.text), .slice ka kn kc, .int .i64 e.1.pl] 24 (0, 0)) := heap_old (by rw [hb2.block _ (lt_block H0.out.2)]; exact H0.out.2)
    have x0 := blk (i := 0) hbx rfl
    have x1 := blk (i := 1) hbx rfl
    have x2 := blk (i := 2) hbx rfl
    have x3 := blk (i := 3) hbx rfl
    have x4 := blk (i := 4) hbx rfl
    have hW0 : WAt w2 w2.heap.size [] (w2.alloc (.cells #[.slice none 0 0] 53)) := ⟨[], none, 0, heap_alloc_new w2 _, World.ownsRow_nil _ _ _ _, ⟨fun _ => rfl, fun h => by simp at h⟩, by simp, Nat.le_refl _, low_alloc _ _⟩
    have HLe : Hid (Calls Tryz.prog 14 #[.pointer (some ⟨w2.heap.size, 0, none⟩), .agg #[.int .i64 e.1.kind, .int .i64 e.1.num, .string (bs e.1.text), .slice ka kn kc, .int .i64 e.1.pl], .bool false] (w2.alloc (.cells #[.slice none 0 0] 53)) (WPost w2 w2.heap.size [] (txE e) (w2.alloc (.cells #[.slice none 0 0] 53)))) :=
      wkid_calls (wexpr_calls (szF e.2 + 1) e ka kn kc (HF.out.below hbw) (by omega) HR.out) false [] _ hW0
    have HB : Hid (Below w.heap.size w w2) := hbw
    clear hb2 HRt hbw hbx H0 HF hW0
    go_wp2_with fail
    refine HLe.out.mono ?_
    rintro e' w4 ⟨rfl, hS4, hk4⟩
    rw [List.nil_append] at hS4
    clear x0 x1 x2 x3 x4
    obtain ⟨T', ta, tcap, hbk, hown, hwt, hsm, hbb, hlow⟩ := hS4
    have hc := blk (i := 0) hbk rfl
    have HBf : Hid (Below w.heap.size w w4) := HB.out.trans (hlow.mono HB.out.size)
    have hconv := owned_text hown
    by_cases h4 : 4000 < T'.length
    · have hd4 : decide ((4000 : Int) < (T'.length : Int)) = true := by simp only [decide_eq_true_eq]; omega
      have HE : Hid (X = ([], 2)) := by
        have h1 := HP2.out
        rw [if_neg (fun h => by rw [hwt.1 h] at h4; omega)] at h1
        exact h1
      generalize T'.length = m at *
      clear HP2 hbk hown hwt hbb hlow h4 hsm hk4 HLe
      go_wp2
      go_ret2
      exact text_post HE.out rfl HBf.out
    · have hd4 : decide ((4000 : Int) < (T'.length : Int)) = false := by simp only [decide_eq_false_iff_not]; omega
      have HE : Hid (X = (T', 0)) := by
        have h1 := HP2.out
        have h2 : (txE e).length ≤ 4000 := by
          rcases Nat.lt_or_ge 4000 (txE e).length with h | h
          · exact absurd (hwt.2 h) h4
          · exact h
        rw [if_pos h2, ← hwt.1 h2] at h1
        exact h1
      generalize T'.length = m at *
      clear HP2 hbk hown hwt hbb hlow h4 hsm hk4 HLe
      go_wp2
      go_ret2
      exact text_post HE.out rfl HBf.out
set_option maxRecDepth 20000 in
set_option maxHeartbeats 4000000 in
theorem exprs_walk (ea : Ex) (a1 : Option Addr) (n1 c1 : Nat) (eb : Ex) (a2 : Option Addr) (n2 c2 : Nat) (w : World) (htab : TabOk w) (hE1 : ExAt false (fun _ => True) w ea a1 n1) (hE2 : ExAt false (fun _ => True) w eb a2 n2) :
    Calls Tryz.prog 3 #[.agg #[.int .i64 ea.1.kind, .int .i64 ea.1.num, .string (bs ea.1.text), .slice a1 n1 c1, .int .i64 ea.1.pl], .agg #[.int .i64 eb.1.kind, .int .i64 eb.1.num, .string (bs eb.1.text), .slice a2 n2 c2, .int .i64 eb.1.pl]] w fun e w' => e = .returned (.bool true) ∧ Below w.heap.size w w' := by
  have HA : Hid (∀ W, Below w.heap.size w W → Calls Tryz.prog 4 #[] W fun e w' => e = .returned (.bool true) ∧ Below W.heap.size W w') := fun W hW => awake_calls W (htab.below hW)
  have HPa : Hid (∀ W, Below w.heap.size w W → Calls Tryz.prog 5 #[.agg #[.int .i64 ea.1.kind, .int .i64 ea.1.num, .string (bs ea.1.text), .slice a1 n1 c1, .int .i64 ea.1.pl]] W fun e w' => e = .returned (.tuple #[.string (bs (exprB ea).1), .int .i64 (exprB ea).2]) ∧ Below W.heap.size W w') := fun W hW => text_bs (exprP_calls ea a1 n1 c1 W (hE1.below hW) (htab.below hW))
  have HPb : Hid (∀ W, Below w.heap.size w W → Calls Tryz.prog 5 #[.agg #[.int .i64 eb.1.kind, .int .i64 eb.1.num, .string (bs eb.1.text), .slice a2 n2 c2, .int .i64 eb.1.pl]] W fun e w' => e = .returned (.tuple #[.string (bs (exprB eb).1), .int .i64 (exprB eb).2]) ∧ Below W.heap.size W w') := fun W hW => text_bs (exprP_calls eb a2 n2 c2 W (hE2.below hW) (htab.below hW))
  have HQa : Hid (∀ W, Below w.heap.size w W → Calls Tryz.prog 6 #[.agg #[.int .i64 ea.1.kind, .int .i64 ea.1.num, .string (bs ea.1.text), .slice a1 n1 c1, .int .i64 ea.1.pl]] W fun e w' => e = .returned (.tuple #[.string (bs (exprB ea).1), .int .i64 (exprB ea).2]) ∧ Below W.heap.size W w') := fun W hW => text_bs (wexprP_calls ea a1 n1 c1 W (hE1.below hW))
  have HQb : Hid (∀ W, Below w.heap.size w W → Calls Tryz.prog 6 #[.agg #[.int .i64 eb.1.kind, .int .i64 eb.1.num, .string (bs eb.1.text), .slice a2 n2 c2, .int .i64 eb.1.pl]] W fun e w' => e = .returned (.tuple #[.string (bs (exprB eb).1), .int .i64 (exprB eb).2]) ∧ Below W.heap.size W w') := fun W hW => text_bs (wexprP_calls eb a2 n2 c2 W (hE2.below hW))
  have HV : Hid (Below w.heap.size w ((w.alloc (.cells #[.int .i64 ea.1.kind, .int .i64 ea.1.num, .string (bs ea.1.text), .slice a1 n1 c1, .int .i64 ea.1.pl] 24)).alloc (.cells #[.int .i64 eb.1.kind, .int .i64 eb.1.num, .string (bs eb.1.text), .slice a2 n2 c2, .int .i64 eb.1.pl] 24)) ∧ ((w.alloc (.cells #[.int .i64 ea.1.kind, .int .i64 ea.1.num, .string (bs ea.1.text), .slice a1 n1 c1, .int .i64 ea.1.pl] 24)).alloc (.cells #[.int .i64 eb.1.kind, .int .i64 eb.1.num, .string (bs eb.1.text), .slice a2 n2 c2, .int .i64 eb.1.pl] 24)).heap[w.heap.size]? = some (.cells #[.int .i64 ea.1.kind, .int .i64 ea.1.num, .string (bs ea.1.text), .slice a1 n1 c1, .int .i64 ea.1.pl] 24 (0, 0)) ∧ ((w.alloc (.cells #[.int .i64 ea.1.kind, .int .i64 ea.1.num, .string (bs ea.1.text), .slice a1 n1 c1, .int .i64 ea.1.pl] 24)).alloc (.cells #[.int .i64 eb.1.kind, .int .i64 eb.1.num, .string (bs eb.1.text), .slice a2 n2 c2, .int .i64 eb.1.pl] 24)).heap[w.heap.size + 1]? = some (.cells #[.int .i64 eb.1.kind, .int .i64 eb.1.num, .string (bs eb.1.text), .slice a2 n2 c2, .int .i64 eb.1.pl] 24 (0, 0))) := ⟨below_two w _ _, heap_old (heap_alloc_new w _), twoN_new w _ _⟩
  have HN : Hid (∀ W W', (Below w.heap.size w W ∧ W.heap[w.heap.size]? = some (.cells #[.int .i64 ea.1.kind, .int .i64 ea.1.num, .string (bs ea.1.text), .slice a1 n1 c1, .int .i64 ea.1.pl] 24 (0, 0)) ∧ W.heap[w.heap.size + 1]? = some (.cells #[.int .i64 eb.1.kind, .int .i64 eb.1.num, .string (bs eb.1.text), .slice a2 n2 c2, .int .i64 eb.1.pl] 24 (0, 0))) → Below W.heap.size W W' → (Below w.heap.size w W' ∧ W'.heap[w.heap.size]? = some (.cells #[.int .i64 ea.1.kind, .int .i64 ea.1.num, .string (bs ea.1.text), .slice a1 n1 c1, .int .i64 ea.1.pl] 24 (0, 0)) ∧ W'.heap[w.heap.size + 1]? = some (.cells #[.int .i64 eb.1.kind, .int .i64 eb.1.num, .string (bs eb.1.text), .slice a2 n2 c2, .int .i64 eb.1.pl] 24 (0, 0)))) := fun W W' h hb => ⟨h.1.trans (hb.mono h.1.size), by rw [hb.block _ (lt_block h.2.1)]; exact h.2.1, by rw [hb.block _ (lt_block h.2.2)]; exact h.2.2⟩
  generalize bs (exprB ea).1 = s1 at *
  generalize (exprB ea).2 = z1 at *
  generalize bs (exprB eb).1 = s2 at *
  generalize (exprB eb).2 = z2 at *
  clear hE1 hE2 htab
  generalize ea.1.kind = ka1 at *
  generalize ea.1.num = kb1 at *
  generalize bs ea.1.text = kc1 at *
  generalize ea.1.pl = kd1 at *
  generalize eb.1.kind = ka2 at *
  generalize eb.1.num = kb2 at *
  generalize bs eb.1.text = kc2 at *
  generalize eb.1.pl = kd2 at *
  go_enter Tryz.func3, Tryz.ntmps3
  go_wp2_with fail
  refine (HA.out _ HV.out.1).mono ?_
  rintro e w1 ⟨rfl, hb1⟩
  have H1 : Hid (Below w.heap.size w w1 ∧ w1.heap[w.heap.size]? = some (.cells #[.int .i64 ka1, .int .i64 kb1, .string kc1, .slice a1 n1 c1, .int .i64 kd1] 24 (0, 0)) ∧ w1.heap[w.heap.size + 1]? = some (.cells #[.int .i64 ka2, .int .i64 kb2, .string kc2, .slice a2 n2 c2, .int .i64 kd2] 24 (0, 0))) := HN.out _ _ HV.out hb1
  clear hb1 HV HA
  have x0 := blk (i := 0) H1.out.2.1 rfl
  have x1 := blk (i := 1) H1.out.2.1 rfl
  have x2 := blk (i := 2) H1.out.2.1 rfl
  have x3 := blk (i := 3) H1.out.2.1 rfl
  have x4 := blk (i := 4) H1.out.2.1 rfl
  go_wp2_with fail
  refine (HPa.out _ H1.out.1).mono ?_
  rintro e w2 ⟨rfl, hb2⟩
  have H2 : Hid (Below w.heap.size w w2 ∧ w2.heap[w.heap.size]? = some (.cells #[.int .i64 ka1, .int .i64 kb1, .string kc1, .slice a1 n1 c1, .int .i64 kd1] 24 (0, 0)) ∧ w2.heap[w.heap.size + 1]? = some (.cells #[.int .i64 ka2, .int .i64 kb2, .string kc2, .slice a2 n2 c2, .int .i64 kd2] 24 (0, 0))) := HN.out _ _ H1.out hb2
  clear hb2 H1 x0 x1 x2 x3 x4
  have x0 := blk (i := 0) H2.out.2.2 rfl
  have x1 := blk (i := 1) H2.out.2.2 rfl
  have x2 := blk (i := 2) H2.out.2.2 rfl
  have x3 := blk (i := 3) H2.out.2.2 rfl
  have x4 := blk (i := 4) H2.out.2.2 rfl
  go_wp2_with fail
  refine (HPb.out _ H2.out.1).mono ?_
  rintro e w3 ⟨rfl, hb3⟩
  have H3 : Hid (Below w.heap.size w w3 ∧ w3.heap[w.heap.size]? = some (.cells #[.int .i64 ka1, .int .i64 kb1, .string kc1, .slice a1 n1 c1, .int .i64 kd1] 24 (0, 0)) ∧ w3.heap[w.heap.size + 1]? = some (.cells #[.int .i64 ka2, .int .i64 kb2, .string kc2, .slice a2 n2 c2, .int .i64 kd2] 24 (0, 0))) := HN.out _ _ H2.out hb3
  clear hb3 H2 x0 x1 x2 x3 x4
  have x0 := blk (i := 0) H3.out.2.1 rfl
  have x1 := blk (i := 1) H3.out.2.1 rfl
  have x2 := blk (i := 2) H3.out.2.1 rfl
  have x3 := blk (i := 3) H3.out.2.1 rfl
  have x4 := blk (i := 4) H3.out.2.1 rfl
  go_wp2_with fail
  refine (HQa.out _ H3.out.1).mono ?_
  rintro e w4 ⟨rfl, hb4⟩
  have H4 : Hid (Below w.heap.size w w4 ∧ w4.heap[w.heap.size]? = some (.cells #[.int .i64 ka1, .int .i64 kb1, .string kc1, .slice a1 n1 c1, .int .i64 kd1] 24 (0, 0)) ∧ w4.heap[w.heap.size + 1]? = some (.cells #[.int .i64 ka2, .int .i64 kb2, .string kc2, .slice a2 n2 c2, .int .i64 kd2] 24 (0, 0))) := HN.out _ _ H3.out hb4
  clear hb4 H3 x0 x1 x2 x3 x4
  have x0 := blk (i := 0) H4.out.2.2 rfl
  have x1 := blk (i := 1) H4.out.2.2 rfl
  have x2 := blk (i := 2) H4.out.2.2 rfl
  have x3 := blk (i := 3) H4.out.2.2 rfl
  have x4 := blk (i := 4) H4.out.2.2 rfl
  go_wp2_with fail
  refine (HQb.out _ H4.out.1).mono ?_
  rintro e w5 ⟨rfl, hb5⟩
  have H5 : Hid (Below w.heap.size w w5 ∧ w5.heap[w.heap.size]? = some (.cells #[.int .i64 ka1, .int .i64 kb1, .string kc1, .slice a1 n1 c1, .int .i64 kd1] 24 (0, 0)) ∧ w5.heap[w.heap.size + 1]? = some (.cells #[.int .i64 ka2, .int .i64 kb2, .string kc2, .slice a2 n2 c2, .int .i64 kd2] 24 (0, 0))) := HN.out _ _ H4.out hb5
  clear hb5 H4 x0 x1 x2 x3 x4
  have HB : Hid (Below w.heap.size w w5) := H5.out.1
  clear H5 HPa HPb HQa HQb HN
  go_wp2
  go_ret
  exact ⟨rfl, HB.out⟩


namespace prettyExprs
open Go.ChangeShapes Go.WideShapes Go.ChangeAt Go.RowKit
open Go.ChangeMaps (open_string shut_string)

set_option maxRecDepth 100000 in
theorem lifted (os : Os) (started : os.Started) (H : Type) (enc : TypeId × Value → H) :
    ReturnsInHanded {} Tryz.checked os 3 .any (fun w args => (Rows.prettyExprsSpec.pre enc Tryz.prog Tryz.f3 [] false w args ∧ laidMetH Tryz.prog theLaid w) ∧ sizedMet enc Tryz.prog Tryz.f3 (OpenSpec.ofChange Rows.prettyExprsSpec) false w args)
      (Rows.prettyExprsSpec.post enc Tryz.prog Tryz.f3 false true false false) := by
  refine returnsInHanded_of_change_and (C := Tryz.checked) (X := fun w _ => laidMetH Tryz.prog theLaid w) (fun _ _ _ hh h => h.of_heap hh) own started (by kernel_rfl) Tryz.func3
    (ChangeSpec.witness_shaped (enc := enc) (C := Tryz.checked) (os := os) (X := fun w _ => laidMetH Tryz.prog theLaid w) false (World.doorLaid Tryz.prog 400 os) #[.agg #[.int .i64 0, .int .i64 0, .string ⟨#[]⟩, .slice none 0 0, .int .i64 0], .agg #[.int .i64 0, .int .i64 0, .string ⟨#[]⟩, .slice none 0 0, .int .i64 0]] 8 rfl (World.shaped_of_RefB (by kernel_rfl) (by kernel_rfl)) (by kernel_rfl) (by kernel_rfl) (by kernel_rfl) (door_met os _)) ?_
  intro W base args ds gs before hval0 hW _ hsz0 hL _
  have hval : ∀ (j : Nat) t v, Tryz.f3.params[j]? = some t → args[j]? = some v → Value.okWide Tryz.prog W .any base t v := hval0
  have hsz : (DataW.weightsEach Tryz.prog (Tryz.f3.params.toList ++ Rows.prettyExprsSpec.plain.varTypes Tryz.prog) (ds ++ gs)).all (· ≤ reachBytes) = true := hsz0
  have hW' := hW
  obtain ⟨p, q, hA0, hV, rfl, hfz, hnd⟩ := hW
  have hA : DataW.TrodAll enc Tryz.prog W 0 (fun _ => true) true Tryz.f3.params.toList args.toList ds p := hA0
  rw [Tryz.params3] at hA hval hsz
  obtain ⟨v0, vs0, d0, ds0, p0, q0, hargs, rfl, rfl, h0, r0⟩ := trodAll_cons hA
  obtain ⟨v1, vs1, d1, ds1, p1, q1, rfl, rfl, rfl, h1, r1⟩ := trodAll_cons r0
  obtain ⟨rfl, rfl, rfl⟩ := trodAll_nil r1
  obtain rfl : args = #[v0, v1] := by cases args; simp_all
  obtain ⟨rfl, rfl⟩ := trodVars_none hV
  have hw : ∀ (j : Nat) (t : TypeId) (d : DataW H), ([24, 24] ++ Rows.prettyExprsSpec.plain.varTypes Tryz.prog)[j]? = some t → ([d0, d1] ++ [])[j]? = some d → ∀ n ∈ d.weights Tryz.prog t, n ≤ reachBytes := fun j t d ht hd n hn =>
    of_decide_eq_true (List.all_eq_true.1 hsz _ (DataW.weights_mem_each ht hd n hn))
  obtain ⟨cs0, rfl, hcs0⟩ := okWide_struct Tryz.underlying24 (hval 0 24 v0 rfl rfl)
  have lt0 : ∀ x ∈ p0, x.block < W.heap.size := by obtain ⟨m, hm⟩ := h0; exact DataW.trod_lt m _ _ _ hm
  obtain ⟨x0, a0, len0, cap0, e0, w0⟩ := expr_in hcs0 h0 (hw 0 24 d0 rfl rfl)
  obtain ⟨cs1, rfl, hcs1⟩ := okWide_struct Tryz.underlying24 (hval 1 24 v1 rfl rfl)
  have lt1 : ∀ x ∈ p1, x.block < W.heap.size := by obtain ⟨m, hm⟩ := h1; exact DataW.trod_lt m _ _ _ hm
  obtain ⟨x1, a1, len1, cap1, e1, w1⟩ := expr_in hcs1 h1 (hw 1 24 d1 rfl rfl)
  subst e0 e1
  clear hA0 hval0
  refine (exprs_walk x0 a0 len0 cap0 x1 a1 len1 cap1 W (tab_of_laid hL) w0 w1).mono fun e W' ⟨he, bel⟩ => ?_
  subst he
  exact ⟨_, rfl, _, _, _, [], _, [], hW', trodAll_mk1 (shut_bool Tryz.underlying4 _), (trodAll_cons_mk (Below.trod laidOut (by kernel_rfl) (of_decide_eq_true (by kernel_rfl)) h0 bel lt0) (trodAll_cons_mk (Below.trod laidOut (by kernel_rfl) (of_decide_eq_true (by kernel_rfl)) h1 bel lt1) trodAll_mk0)), rfl, bel.frame _, fun h => by cases h⟩
end prettyExprs

theorem prettyExprs_holds : Rows.PrettyExprsSaid :=
  OpenClaim.holds_of_wide 3 Tryz.f3 rfl rfl rfl rfl rfl rfl rfl ⟨rfl, rfl, rfl, rfl, rfl⟩ rfl rfl rfl rfl rfl (by kernel_rfl) Tryz.func3 (by kernel_rfl)
    (of_decide_eq_true (by kernel_rfl)) (by unfold Func.isWrapper; first | (rw [if_pos (by decide +kernel)]; kernel_rfl) | (rw [if_neg (by decide +kernel)]; exact ⟨rfl, rfl⟩))
    (fun os started H enc _ => prettyExprs.lifted os started H enc)

theorem prettyExprsCard_holds : Rows.PrettyExprsCardSaid :=
  Claim7.holds_tied_plain_at .later [] [.data, .data, .data] true (true, "cc618d951ef84616879144f5fd7a3488711b73e2ee9b27e38e47cdf4c138107f") false
    prettyExprs_holds (fun _ h => by cases h) (by kernel_rfl) (fun _ h => by cases h) prettyExprs_row_tie rfl ⟨rfl, rfl⟩ (by kernel_rfl) rfl
    (fun f fn hf hfn => by
      obtain rfl : f = 3 := Option.some.inj ((show Tryz.prog.funcNamed Rows.prettyExprsRow.func = some 3 by kernel_rfl).symm.trans hf) |>.symm
      obtain rfl : fn = Tryz.f3 := (Option.some.inj (Tryz.func3.symm.trans hfn)).symm
      exact ⟨by kernel_rfl, fun j t ht => by
        rw [Tryz.params3] at ht
        have hm : t ∈ [24, 24] := by simpa using Array.mem_of_getElem? ht
        have hall : ([24, 24].all fun u => !Tryz.prog.wantsStandIn u) = true := by kernel_rfl
        exact (show Tryz.prog.wantsStandIn t = false by simpa using List.all_eq_true.1 hall t hm)⟩)
    (by kernel_rfl)
end Go.Proofs.YtpeldiibjhffiaaGreatDoor
