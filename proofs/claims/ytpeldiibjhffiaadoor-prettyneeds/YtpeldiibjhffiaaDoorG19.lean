/-
  Parse. The chapter's examples. Same: of lists of expressions, of trees.
-/
import Derived.Recover
import Derived.Test.YtpeldiibjhffiaaDoorDeep
import Derived.Test.YtpeldiibjhffiaaDoorG17
import Derived.Test.YtpeldiibjhffiaaDoorG18
namespace Go.Proofs.YtpeldiibjhffiaaDoor
open Go.RowKit Go.Deep

def endW (x : Rs (List It)) : List It × Int × Int :=
  match x.val with
  | none => ([], 70, plOf x.rest)
  | some its => if (flt x.many (0, 0)).1 ≠ 0 then ([], flt x.many (0, 0)) else if (deepR its).1 ≠ 0 then ([], deepR its) else (its, 0, 0)
def parseW (s : List UInt8) : List It × Int × Int := if (scanB s).2.2 ≠ 0 then ([], (scanB s).2.2, ((scanB s).2.1 : Int)) else endW (sourceG (scanB s).1)
def TreePost (a : List It × Int × Int) (w : World) (e : Ending) (w' : World) : Prop :=
  ∃ ao n c, e = .returned (.tuple #[.agg #[.slice ao n c], .agg #[.int .i64 a.2.1, .int .i64 a.2.2]]) ∧ n ≤ 4002 ∧ ItsAt true (fun g => w.heap.size ≤ g) w' a.1 ao n ∧ Below w.heap.size w w'
theorem catch_panicking (pb gt gf : Nat) (z0 z1 c a : Int) (pv : Value) (older : List PanicEntry) (w : World) (h2 : w.cell? ⟨pb, 2, none⟩ = some (.int .i64 c)) (h3 : w.cell? ⟨pb, 3, none⟩ = some (.int .i64 a))
    (ht : w.cell? ⟨gt, 0, none⟩ = some (.slice none 0 0)) (htf : w.frozen? ⟨gt, 0, none⟩ = false) (hf0 : w.cell? ⟨gf, 0, none⟩ = some (.int .i64 z0)) (hf1 : w.cell? ⟨gf, 1, none⟩ = some (.int .i64 z1)) (hff0 : w.frozen? ⟨gf, 0, none⟩ = false) (hff1 : w.frozen? ⟨gf, 1, none⟩ = false) (hne : ¬ gt = gf) :
    CallsD Tryd.prog 24 #[.pointer (some ⟨pb, 0, none⟩), .pointer (some ⟨gt, 0, none⟩), .pointer (some ⟨gf, 0, none⟩)] (.panicking ({ v := .iface 32 pv, recovered := false } :: older)) w fun e u' w' =>
      e = .returned (.tuple #[]) ∧ u' = .panicking ({ v := .iface 32 pv, recovered := true } :: older) ∧ w' = ((w.setCell ⟨gt, 0, none⟩ (.slice none 0 0)).setCell ⟨gf, 0, none⟩ (.int .i64 c)).setCell ⟨gf, 1, none⟩ (.int .i64 a) := by
  refine callsD_of_wpS Tryd.func24 rfl fun c₀ cs hu => ?_
  apply wpS_seq
  apply wpS_region
  simp [wpOpsS, go_sem, recoverD, hu, Tryd.ntmps24, Exit.thenS]
  refine wpS_cond (t := true) (by simp [Act.eval, Array.replicate]) ?_
  simp only [if_true]
  apply wpS_region
  simp [wpOpsS, go_sem, h2, h3, ht, htf, hf0, hf1, hff0, hff1, bodyPostS, results, Tryd.results24]
theorem catch_idle (pb gt gf : Nat) (w : World) :
    CallsD Tryd.prog 24 #[.pointer (some ⟨pb, 0, none⟩), .pointer (some ⟨gt, 0, none⟩), .pointer (some ⟨gf, 0, none⟩)] .returning w fun e u' w' => e = .returned (.tuple #[]) ∧ u' = .returning ∧ w' = w := by
  refine callsD_of_wpS Tryd.func24 rfl fun c₀ cs hu => ?_
  apply wpS_seq
  apply wpS_region
  simp [wpOpsS, go_sem, recoverD, hu, Tryd.ntmps24, Exit.thenS]
  refine wpS_cond (t := false) (by simp [Act.eval, Array.replicate]) ?_
  simp only [Bool.false_eq_true, if_false]
  refine wpS_of_wp (wp_skip ?_)
  cases c₀
  simp_all [bodyPostS, results, Tryd.results24]
/-- Blocks that are as they were: the two results, and what was made since. -/
structure RL (b : Nat) (ta : Option Addr) (tn tc : Nat) (T : List Tk) (w : World) (l : List Tk) (f : Int × Int) (W : World) : Prop where
  p : PAt b ta tn tc T l f W
  low : Below w.heap.size w W
  nb : w.heap.size + 1 < b
  rt : W.heap[w.heap.size]? = some (.cells #[.slice none 0 0] 24 (0, 0))
  rf : W.heap[w.heap.size + 1]? = some (.cells #[.int .i64 0, .int .i64 0] 32 (0, 0))
section
variable {b : Nat} {ta : Option Addr} {tn tc : Nat} {T : List Tk} {w : World} {l : List Tk} {f : Int × Int} {W W' : World}
theorem RL.go (h : RL b ta tn tc T w l f W) (hk : Kp b W W') {l' : List Tk} {f' : Int × Int} (hp : PAt b ta tn tc T l' f' W') : RL b ta tn tc T w l' f' W' := by
  have hnb := h.nb
  have h1 := h.low.size
  exact ⟨hp, h.low.trans (hk.below (by omega) h1), hnb, by rw [hk.block _ (lt_block h.rt) (by omega)]; exact h.rt, by rw [hk.block _ (lt_block h.rf) (by omega)]; exact h.rf⟩
theorem RL.facts (h : RL b ta tn tc T w l f W) : W.cell? ⟨b, 2, none⟩ = some (.int .i64 f.1) ∧ W.cell? ⟨b, 3, none⟩ = some (.int .i64 f.2) ∧ W.cell? ⟨w.heap.size, 0, none⟩ = some (.slice none 0 0) ∧ W.frozen? ⟨w.heap.size, 0, none⟩ = false ∧
    W.cell? ⟨w.heap.size + 1, 0, none⟩ = some (.int .i64 0) ∧ W.cell? ⟨w.heap.size + 1, 1, none⟩ = some (.int .i64 0) ∧ W.frozen? ⟨w.heap.size + 1, 0, none⟩ = false ∧ W.frozen? ⟨w.heap.size + 1, 1, none⟩ = false ∧ W.frozen? ⟨b, 2, none⟩ = false ∧ W.frozen? ⟨b, 3, none⟩ = false := by
  obtain ⟨k, _, _, hb⟩ := h.p.block
  exact ⟨blk hb rfl, blk hb rfl, blk h.rt rfl, blkf 0 h.rt, blk h.rf rfl, blk h.rf rfl, blkf 0 h.rf, blkf 1 h.rf, blkf 2 hb, blkf 3 hb⟩
end
set_option maxRecDepth 20000 in
set_option maxHeartbeats 4000000 in
theorem parse_calls (s : ByteArray) (w : World) : Calls Tryd.prog 12 #[.string s] w fun e w' => TreePost (parseW s.data.toList) w e w' := by
  have hres : Tryd.f12.results = #[.cell 2 24, .cell 3 32] := by kernel_rfl
  have hmf : ∀ (fn : Fn) (first cap : Array Value) (w : World), (Instr.makeFunc fn first cap).run Tryd.prog w = .ok (.func fn first cap) w := fun _ _ _ _ => rfl
  have HSc : Hid (∀ w, Calls Tryd.prog 23 #[.string s] w fun e w' => ScanPost (scanB s.data.toList) w e w') := fun w => scan_calls s w
  have HP : Hid (parseW s.data.toList = if (scanB s.data.toList).2.2 ≠ 0 then ([], (scanB s.data.toList).2.2, ((scanB s.data.toList).2.1 : Int)) else endW (sourceG (scanB s.data.toList).1)) := rfl
  have HG : Hid ((scanB s.data.toList).2.2 = 0 → ∃ T', (scanB s.data.toList).1 = T' ++ [endTk s.data.toList.length]) := fun h => by
    obtain ⟨_, _, T', h1, _⟩ := scan_good h
    exact ⟨T', h1⟩
  have HTk : Hid ((∀ t ∈ (scanB s.data.toList).1, TkOk t) ∧ (scanB s.data.toList).1.length ≤ 4001) := ⟨scan_ok _, scan_few _⟩
  generalize parseW s.data.toList = A at *
  generalize scanB s.data.toList = sc at *
  obtain ⟨T, at0, z⟩ := sc
  by_cases hz : z = 0
  · subst hz
    have q : ((0 : Int) != 0) = false := rfl
    have HA : Hid (A = endW (sourceG T)) := by
      have := HP.out
      rw [if_neg (by simp)] at this; exact this
    obtain ⟨T', hT'⟩ := HG.out rfl
    have HT' : Hid (T = T' ++ [endTk s.data.toList.length]) := hT'
    clear HP HG hT'
    go_enter_defers Tryd.func12, Tryd.ntmps12
    go_wp2_with fail
    refine (HSc.out _).mono ?_
    rintro e w1 ⟨v, rfl, ho1, hb1⟩
    have hsz : ((w.alloc (.cells #[.slice none 0 0] 24)).alloc (.cells #[.int .i64 0, .int .i64 0] 32)).heap.size = w.heap.size + 2 := by simp
    have ht0 : w1.heap[w.heap.size]? = some (.cells #[.slice none 0 0] 24 (0, 0)) := by
      rw [hb1.block _ (by rw [hsz]; omega)]; exact heap_old (heap_alloc_new w _)
    have hf0 : w1.heap[w.heap.size + 1]? = some (.cells #[.int .i64 0, .int .i64 0] 32 (0, 0)) := by
      rw [hb1.block _ (by rw [hsz]; omega)]
      have := heap_alloc_new (w.alloc (.cells #[.slice none 0 0] 24)) (.cells #[.int .i64 0, .int .i64 0] 32)
      rwa [show (w.alloc (.cells #[.slice none 0 0] 24)).heap.size = w.heap.size + 1 by simp] at this
    have HB : Hid (Below w.heap.size w w1) := below_box' (below_box' hb1 |> fun h => h)
    obtain ⟨ao, cap, rfl⟩ := owned_shape ho1
    have hsz1 : w.heap.size + 2 ≤ w1.heap.size := by have := hb1.size; rw [hsz] at this; exact this
    have HR0 : Hid (RL w1.heap.size ao T.length cap T w T (0, 0) (w1.alloc (.cells #[.slice ao T.length cap, .int .i64 0, .int .i64 0, .int .i64 0] 66))) := by
      have hbel : Below w1.heap.size w1 (w1.alloc (.cells #[.slice ao T.length cap, .int .i64 0, .int .i64 0, .int .i64 0] 66)) := (Below.refl _ _).alloc (Nat.le_refl _) _
      have htk : TksAt w1 ao T.length T := owned_tks ho1 HTk.out.1
      have hpos : 0 < T.length := by rw [HT'.out]; simp
      refine ⟨⟨⟨0, rfl, hpos, heap_alloc_new w1 _⟩, htk.below hbel, fun x hx => ?_, ⟨T', _, HT'.out, rfl⟩, HTk.out.2⟩, HB.out.trans (hbel.mono HB.out.size), by omega, heap_old ht0, heap_old hf0⟩
      obtain ⟨b', off', hao, hc⟩ := htk.cells hpos
      have hc0 := (hc 0 T[0] (by simp)).1
      rw [hao] at hx
      cases hx
      exact World.block_lt_of_cell? w1 _ hc0
    clear ht0 hf0 ho1 hb1 hsz HSc HB
    have HSo : Hid (∀ W, PAt w1.heap.size ao T.length cap T T (0, 0) W → Calls Tryd.prog 25 #[.pointer (some ⟨w1.heap.size, 0, none⟩)] W (PPost w1.heap.size ao T.length cap T (0, 0) (sourceG T) (VIts W.heap.size) W)) := fun W hW => source_calls (exprN mx) (expr_suf (fac_suf mx)) (fun l f w h hl => exprN_calls mx l f w h hl) T (0, 0) W hW
    generalize sourceG T = X at *
    cases hx : X.val with
    | none =>
      have HN : Hid (∀ W, PAt w1.heap.size ao T.length cap T T (0, 0) W → Calls Tryd.prog 25 #[.pointer (some ⟨w1.heap.size, 0, none⟩)] W fun e w' => ∃ v, e = .panicked [{ v := .iface 32 v, recovered := false }] ∧ Kp w1.heap.size W w' ∧ PAt w1.heap.size ao T.length cap T X.rest (70, plOf X.rest) w') := fun W hW => calls_no (HSo.out W hW) hx
      have HA2 : Hid (A = ([], 70, plOf X.rest)) := by
        show A = _
        rw [HA.out]; unfold endW; rw [hx]
      clear hx HSo HA
      go_wp2_with fail
      refine (HN.out _ HR0.out.p).mono ?_
      rintro e w2 ⟨v, rfl, hk2, hp2⟩
      have HR2 : Hid (RL w1.heap.size ao T.length cap T w X.rest (70, plOf X.rest) w2) := HR0.out.go hk2 hp2
      clear hk2 hp2 HR0 HN
      obtain ⟨r2, r3, rt0, rtf, rf0, rf1, rff0, rff1, rb2, rb3⟩ := HR2.out.facts
      have HBf : Hid (Below w.heap.size w (((w2.setCell ⟨w.heap.size, 0, none⟩ (.slice none 0 0)).setCell ⟨w.heap.size + 1, 0, none⟩ (.int .i64 70)).setCell ⟨w.heap.size + 1, 1, none⟩ (.int .i64 (plOf X.rest)))) := ((HR2.out.low.setCell (p := ⟨w.heap.size, 0, none⟩) (Nat.le_refl _) _).setCell (p := ⟨w.heap.size + 1, 0, none⟩) (Nat.le_succ _) _).setCell (p := ⟨w.heap.size + 1, 1, none⟩) (Nat.le_succ _) _
      refine leaves_cons (f := 24) (args := #[.pointer (some ⟨w1.heap.size, 0, none⟩), .pointer (some ⟨w.heap.size, 0, none⟩), .pointer (some ⟨w.heap.size + 1, 0, none⟩)]) (by simp) (by simp [go_sem]) ?_
      refine (catch_panicking w1.heap.size w.heap.size (w.heap.size + 1) 0 0 70 (plOf X.rest) _ [] _ r2 r3 rt0 rtf rf0 rf1 rff0 rff1 (by omega)).mono ?_
      rintro e u' w'' ⟨rfl, rfl, rfl⟩
      refine ⟨.tuple #[.agg #[.slice none 0 0], .agg #[.int .i64 70, .int .i64 (plOf X.rest)]], ?_, ?_⟩
      · simp only [results, hres]
        go_simp
      · rw [HA2.out]
        exact ⟨none, 0, 0, rfl, by omega, rfl, HBf.out⟩
    | some its =>
      have HN : Hid (∀ W, PAt w1.heap.size ao T.length cap T T (0, 0) W → Calls Tryd.prog 25 #[.pointer (some ⟨w1.heap.size, 0, none⟩)] W fun e w' => ∃ io n ic, e = .returned (.slice io n ic) ∧ (n ≤ 4002 ∧ ItsAt true (fun g => W.heap.size ≤ g) w' its io n) ∧ Kp w1.heap.size W w' ∧ PAt w1.heap.size ao T.length cap T X.rest (flt X.many (0, 0)) w') := fun W hW => by
        refine (calls_ok (HSo.out W hW) hx).mono ?_
        rintro e w' ⟨v, he, ⟨io, n, ic, hv, hE⟩, hK, hP⟩
        exact ⟨io, n, ic, by rw [he, hv], hE, hK, hP⟩
      have HA2 : Hid (A = if (flt X.many (0, 0)).1 ≠ 0 then ([], flt X.many (0, 0)) else if (deepR its).1 ≠ 0 then ([], deepR its) else (its, 0, 0)) := by
        show A = _
        rw [HA.out]; unfold endW; rw [hx]
      clear hx HSo HA
      generalize flt X.many (0, 0) = fm at *
      generalize X.rest = lr at *
      obtain ⟨f1, f2⟩ := fm
      go_wp2_with fail
      refine (HN.out _ HR0.out.p).mono ?_
      rintro e w2 ⟨io, n, ic, rfl, ⟨hn2, hI2⟩, hk2, hp2⟩
      have HR2 : Hid (RL w1.heap.size ao T.length cap T w lr (f1, f2) w2) := HR0.out.go hk2 hp2
      have HI2 : Hid (ItsAt true (fun g => w1.heap.size + 1 ≤ g) w2 its io n) := hI2.base fun g _ hg => by
        have h5 : (w1.alloc (.cells #[.slice ao T.length cap, .int .i64 0, .int .i64 0, .int .i64 0] 66)).heap.size ≤ g := hg
        simpa using h5
      clear hk2 hp2 HR0 HN hI2
      obtain ⟨r2, r3, rt0, rtf, rf0, rf1, rff0, rff1, rb2, rb3⟩ := HR2.out.facts
      by_cases h1 : f1 = 0
      · subst h1
        have q1 : ((0 : Int) == 0) = true := rfl
        have HD : Hid (Calls Tryd.prog 26 #[.slice io n ic] w2 fun e w' => e = .returned (.agg #[.int .i64 (deepR its).1, .int .i64 (deepR its).2]) ∧ Below w2.heap.size w2 w') := tooDeep_calls its io n ic w2 HI2.out hn2
        generalize deepR its = dp at *
        obtain ⟨d1, d2⟩ := dp
        go_wp2_with fail
        refine HD.out.mono ?_
        rintro e w3 ⟨rfl, hb3⟩
        have HR3 : Hid (RL w1.heap.size ao T.length cap T w lr (0, f2) w3) := HR2.out.go (Kp.of_below hb3) (HR2.out.p.below hb3)
        have HI3 : Hid (ItsAt true (fun g => w1.heap.size + 1 ≤ g) w3 its io n) := HI2.out.below hb3
        clear hb3 HR2 HI2 HD r2 r3 rt0 rtf rf0 rf1 rff0 rff1 rb2 rb3
        obtain ⟨r2, r3, rt0, rtf, rf0, rf1, rff0, rff1, rb2, rb3⟩ := HR3.out.facts
        have HL3 : Hid (Below w.heap.size w ((w3.setCell ⟨w1.heap.size, 2, none⟩ (.int .i64 d1)).setCell ⟨w1.heap.size, 3, none⟩ (.int .i64 d2))) := (HR3.out.low.setCell (p := ⟨w1.heap.size, 2, none⟩) (by show w.heap.size ≤ w1.heap.size; omega) _).setCell (p := ⟨w1.heap.size, 3, none⟩) (by show w.heap.size ≤ w1.heap.size; omega) _
        have HI4 : Hid (∀ u0 u1 u2 u3 u4, ItsAt true (fun g => w.heap.size ≤ g) (((((w3.setCell ⟨w1.heap.size, 2, none⟩ u0).setCell ⟨w1.heap.size, 3, none⟩ u1).setCell ⟨w.heap.size, 0, none⟩ u2).setCell ⟨w.heap.size + 1, 0, none⟩ u3).setCell ⟨w.heap.size + 1, 1, none⟩ u4) its io n) := fun u0 u1 u2 u3 u4 => by
          refine ItsAt.base (fun g _ hg => ?_) (itsAt_keep (fun g _ hg => ?_) HI3.out)
          · have h5 : w1.heap.size + 1 ≤ g := hg
            show w.heap.size ≤ g
            omega
          · have h5 : w1.heap.size + 1 ≤ g := hg
            exact heap_other (heap_other (heap_other (heap_other (heap_other rfl (by omega)) (by omega)) (by omega)) (by omega)) (by omega)
        have hne1 : ¬ w1.heap.size = w.heap.size := by omega
        have hne2 : ¬ w1.heap.size = w.heap.size + 1 := by omega
        have hne3 : ¬ w.heap.size = w1.heap.size := by omega
        have hne4 : ¬ w.heap.size + 1 = w1.heap.size := by omega
        clear HR3 HI3
        by_cases h2 : d1 = 0
        · subst h2
          have q2 : ((0 : Int) != 0) = false := rfl
          have HA3 : Hid (A = (its, 0, 0)) := by
            have := HA2.out
            rw [if_neg (by simp), if_neg (by simp)] at this; exact this
          clear HA2
          go_wp2_with fail
          refine leaves_cons (f := 24) (args := #[.pointer (some ⟨w1.heap.size, 0, none⟩), .pointer (some ⟨w.heap.size, 0, none⟩), .pointer (some ⟨w.heap.size + 1, 0, none⟩)]) (by simp) (by simp [go_sem]) ?_
          refine (catch_idle w1.heap.size w.heap.size (w.heap.size + 1) _).mono ?_
          rintro e u' w'' ⟨rfl, rfl, rfl⟩
          refine ⟨.tuple #[.agg #[.slice io n ic], .agg #[.int .i64 0, .int .i64 0]], ?_, ?_⟩
          · simp only [results, hres]
            go_simp
          · rw [HA3.out]
            exact ⟨io, n, ic, rfl, hn2, HI4.out _ _ _ _ _, (((HL3.out.setCell (p := ⟨w.heap.size, 0, none⟩) (Nat.le_refl _) _).setCell (p := ⟨w.heap.size + 1, 0, none⟩) (Nat.le_succ _) _).setCell (p := ⟨w.heap.size + 1, 1, none⟩) (Nat.le_succ _) _)⟩
        · have q2 : (d1 != 0) = true := by simpa using h2
          have HA3 : Hid (A = ([], d1, d2)) := by
            have := HA2.out
            rw [if_neg (by simp), if_pos (by simpa using h2)] at this; exact this
          clear HA2 h2
          go_wp2_with fail
          go_region
          go_wp2_with fail
          refine leaves_cons (f := 24) (args := #[.pointer (some ⟨w1.heap.size, 0, none⟩), .pointer (some ⟨w.heap.size, 0, none⟩), .pointer (some ⟨w.heap.size + 1, 0, none⟩)]) (by simp) (by simp [go_sem]) ?_
          refine (catch_idle w1.heap.size w.heap.size (w.heap.size + 1) _).mono ?_
          rintro e u' w'' ⟨rfl, rfl, rfl⟩
          refine ⟨.tuple #[.agg #[.slice none 0 0], .agg #[.int .i64 d1, .int .i64 d2]], ?_, ?_⟩
          · simp only [results, hres]
            go_simp
          · rw [HA3.out]
            exact ⟨none, 0, 0, rfl, by omega, rfl, by first | exact (((HL3.out.drew.setCell (p := ⟨w.heap.size, 0, none⟩) (Nat.le_refl _) _).setCell (p := ⟨w.heap.size + 1, 0, none⟩) (Nat.le_succ _) _).setCell (p := ⟨w.heap.size + 1, 1, none⟩) (Nat.le_succ _) _) | exact (((HL3.out.setCell (p := ⟨w.heap.size, 0, none⟩) (Nat.le_refl _) _).setCell (p := ⟨w.heap.size + 1, 0, none⟩) (Nat.le_succ _) _).setCell (p := ⟨w.heap.size + 1, 1, none⟩) (Nat.le_succ _) _)⟩
      · have q1 : (f1 == 0) = false := by rw [beq_eq_false_iff_ne]; exact h1
        have q2 : (f1 != 0) = true := by simpa using h1
        have HA3 : Hid (A = ([], f1, f2)) := by
          have := HA2.out
          rw [if_pos (by simpa using h1)] at this; exact this
        clear HA2 h1
        go_wp2_with fail
        go_region
        go_wp2_with fail
        refine leaves_cons (f := 24) (args := #[.pointer (some ⟨w1.heap.size, 0, none⟩), .pointer (some ⟨w.heap.size, 0, none⟩), .pointer (some ⟨w.heap.size + 1, 0, none⟩)]) (by simp) (by simp [go_sem]) ?_
        refine (catch_idle w1.heap.size w.heap.size (w.heap.size + 1) _).mono ?_
        rintro e u' w'' ⟨rfl, rfl, rfl⟩
        refine ⟨.tuple #[.agg #[.slice none 0 0], .agg #[.int .i64 f1, .int .i64 f2]], ?_, ?_⟩
        · simp only [results, hres]
          go_simp
        · rw [HA3.out]
          exact ⟨none, 0, 0, rfl, by omega, rfl, by first | exact (((HR2.out.low.drew.setCell (p := ⟨w.heap.size, 0, none⟩) (Nat.le_refl _) _).setCell (p := ⟨w.heap.size + 1, 0, none⟩) (Nat.le_succ _) _).setCell (p := ⟨w.heap.size + 1, 1, none⟩) (Nat.le_succ _) _) | exact (((HR2.out.low.setCell (p := ⟨w.heap.size, 0, none⟩) (Nat.le_refl _) _).setCell (p := ⟨w.heap.size + 1, 0, none⟩) (Nat.le_succ _) _).setCell (p := ⟨w.heap.size + 1, 1, none⟩) (Nat.le_succ _) _)⟩
  · have q : (z != 0) = true := by simpa using hz
    have HA : Hid (A = ([], z, (at0 : Int))) := by
      have := HP.out
      rw [if_pos (by simpa using hz)] at this; exact this
    clear hz HP HG HTk
    go_enter_defers Tryd.func12, Tryd.ntmps12
    go_wp2_with fail
    refine (HSc.out _).mono ?_
    rintro e w1 ⟨v, rfl, ho1, hb1⟩
    have hsz : ((w.alloc (.cells #[.slice none 0 0] 24)).alloc (.cells #[.int .i64 0, .int .i64 0] 32)).heap.size = w.heap.size + 2 := by simp
    have ht0 : w1.heap[w.heap.size]? = some (.cells #[.slice none 0 0] 24 (0, 0)) := by
      rw [hb1.block _ (by rw [hsz]; omega)]; exact heap_old (heap_alloc_new w _)
    have hf0 : w1.heap[w.heap.size + 1]? = some (.cells #[.int .i64 0, .int .i64 0] 32 (0, 0)) := by
      rw [hb1.block _ (by rw [hsz]; omega)]
      have := heap_alloc_new (w.alloc (.cells #[.slice none 0 0] 24)) (.cells #[.int .i64 0, .int .i64 0] 32)
      rwa [show (w.alloc (.cells #[.slice none 0 0] 24)).heap.size = w.heap.size + 1 by simp] at this
    have HB : Hid (Below w.heap.size w w1) := below_box' (below_box' hb1 |> fun h => h)
    have t0 := blk (i := 0) ht0 rfl
    have tf := blkf 0 ht0
    have g0 := blk (i := 0) hf0 rfl
    have g1 := blk (i := 1) hf0 rfl
    have gf0 := blkf 0 hf0
    have gf1 := blkf 1 hf0
    obtain ⟨ao, cap, rfl⟩ := owned_shape ho1
    have HBf : Hid (Below w.heap.size w (((w1.setCell ⟨w.heap.size, 0, none⟩ (.slice none 0 0)).setCell ⟨w.heap.size + 1, 0, none⟩ (.int .i64 z)).setCell ⟨w.heap.size + 1, 1, none⟩ (.int .i64 (at0 : Int)))) := ((HB.out.setCell (p := ⟨w.heap.size, 0, none⟩) (Nat.le_refl _) _).setCell (p := ⟨w.heap.size + 1, 0, none⟩) (Nat.le_succ _) _).setCell (p := ⟨w.heap.size + 1, 1, none⟩) (Nat.le_succ _) _
    clear ht0 hf0 ho1 hb1 hsz HSc
    go_wp2
    refine ⟨.tuple #[.agg #[.slice none 0 0], .agg #[.int .i64 z, .int .i64 (at0 : Int)]], ?_, ?_⟩
    · simp only [results, hres]
      go_simp
    · rw [HA.out]
      exact ⟨none, 0, 0, rfl, by omega, rfl, HBf.out⟩
end Go.Proofs.YtpeldiibjhffiaaDoor
namespace Go.Proofs.YtpeldiibjhffiaaDoor
open Go.RowKit Go.Deep

def awB : List UInt8 := [109, 97, 116, 99, 104, 32, 50, 59, 32, 103, 97, 112, 32, 52, 44, 32, 49, 32, 43, 32, 50, 32, 42, 32, 51, 59]
def awMul : Ex := (⟨7, 0, [], 22⟩, ofL [(⟨1, 2, [], 20⟩, .nil), (⟨1, 3, [], 24⟩, .nil)])
def awAdd : Ex := (⟨5, 0, [], 18⟩, ofL [(⟨1, 1, [], 16⟩, .nil), awMul])
def awT : List It := [⟨3, [], ofL [(⟨1, 2, [], 6⟩, .nil)], 0⟩, ⟨6, [], ofL [(⟨1, 4, [], 13⟩, .nil), awAdd], 9⟩]
theorem aw1 : parseW awB = (awT, 0, 0) := by kernel_rfl
theorem aw2 : parseW [109, 97, 116, 99, 104, 32, 59] = ([], 70, 6) := by kernel_rfl
theorem keepc {W W' : World} (h : Below W.heap.size W W') {p : Addr} {u : Value} (hc : W.cell? p = some u) : W'.cell? p = some u := by
  rw [h.cell (World.block_lt_of_cell? W _ hc)]; exact hc
/-- What is read of the example's tree. -/
theorem aw_cells {S : Nat → Prop} {w : World} {ao : Option Addr} {n : Nat} (h : ItsAt true S w awT ao n) : n = 2 ∧ ∃ g off g5 off5 k5 g6 off6 k6, ao = some ⟨g, off, none⟩ ∧
    w.cell? ⟨g, off + 4, none⟩ = some (.int .i64 6) ∧ w.cell? ⟨g, off + 4 + 2, none⟩ = some (.slice (some ⟨g5, off5, none⟩) 2 k5) ∧ w.cell? ⟨g, off + 4 + 3, none⟩ = some (.int .i64 9) ∧
    w.cell? ⟨g5, off5 + 5, none⟩ = some (.int .i64 5) ∧ w.cell? ⟨g5, off5 + 5 + 1, none⟩ = some (.int .i64 0) ∧ w.cell? ⟨g5, off5 + 5 + 2, none⟩ = some (.string ⟨#[]⟩) ∧ w.cell? ⟨g5, off5 + 5 + 3, none⟩ = some (.slice (some ⟨g6, off6, none⟩) 2 k6) ∧ w.cell? ⟨g5, off5 + 5 + 4, none⟩ = some (.int .i64 18) ∧
    w.cell? ⟨g6, off6 + 5, none⟩ = some (.int .i64 7) := by
  obtain ⟨g, off, _, _, _, m, rfl, ha, _, _, _, _, _, _, hr⟩ := h
  obtain ⟨g', off', ka, kn, kc, m', rfl, ha', _, _, _, _, hc, hf, hr'⟩ := hr
  cases ha'
  have hm : m' = 0 := hr'
  subst hm
  obtain ⟨g5, off5, _, _, _, m5, rfl, rfl, _, _, _, _, _, _, hr5⟩ := hf
  obtain ⟨g5', off5', ka5, kn5, kc5, m5', rfl, ha5, _, _, _, _, hc5, hf5, hr5'⟩ := hr5
  cases ha5
  have hm5 : m5' = 0 := hr5'
  subst hm5
  obtain ⟨g6, off6, _, _, _, m6, rfl, rfl, _, _, _, _, _, _, hr6⟩ := hf5
  obtain ⟨g6', off6', ka6, kn6, kc6, m6', rfl, ha6, _, _, _, _, hc6, _, hr6'⟩ := hr6
  cases ha6
  have hm6 : m6' = 0 := hr6'
  subst hm6
  exact ⟨rfl, g, off, g5, off5, kc, g6, off6, kc5, ha, hc 0 _ rfl, hc 2 _ rfl, hc 3 _ rfl, hc5 0 _ rfl, hc5 1 _ rfl, hc5 2 _ rfl, hc5 3 _ rfl, hc5 4 _ rfl, hc6 0 _ rfl⟩
end Go.Proofs.YtpeldiibjhffiaaDoor
namespace Go.Proofs.YtpeldiibjhffiaaDoor
open Go.RowKit Go.Deep

def sameH (a b : Hd) : Bool := decide (a.kind = b.kind) && (decide (a.num = b.num) && decide (a.text = b.text))
def sameF : Fo → Fo → Bool
  | .nil, .nil => true
  | .node _ _ h k r, .node _ _ h' k' r' => sameH h h' && (sameF k k' && sameF r r')
  | _, _ => false
def sameI : List It → List It → Bool
  | [], [] => true
  | i :: r, j :: s => (decide (i.kind = j.kind) && (decide (i.name = j.name) && sameF i.args j.args)) && sameI r s
  | _, _ => false
theorem sameF_len : ∀ (F G : Fo), lenF F ≠ lenF G → sameF F G = false
  | .nil, .nil, h => absurd rfl h
  | .nil, .node _ _ _ _ _, _ => rfl
  | .node _ _ _ _ _, .nil, _ => rfl
  | .node _ _ _ _ r, .node _ _ _ _ s, h => by
    have : sameF r s = false := sameF_len r s (by simp [lenF] at h; exact h)
    simp [sameF, this]
theorem sameI_len : ∀ (L M : List It), L.length ≠ M.length → sameI L M = false
  | [], [], h => absurd rfl h
  | [], _ :: _, _ => rfl
  | _ :: _, [], _ => rfl
  | _ :: r, _ :: s, h => by
    have : sameI r s = false := sameI_len r s (by simpa using h)
    simp [sameI, this]
theorem sameF_refl : ∀ (F : Fo), sameF F F = true
  | .nil => rfl
  | .node _ _ h k r => by simp [sameF, sameH, sameF_refl k, sameF_refl r]
theorem sameI_refl : ∀ (L : List It), sameI L L = true
  | [] => rfl
  | i :: r => by simp [sameI, sameF_refl, sameI_refl r]
set_option maxRecDepth 20000 in
set_option maxHeartbeats 4000000 in
theorem sameAll_calls : ∀ (N : Nat) (F G : Fo) (ao bo : Option Addr) (n c m d : Nat) (w : World) (o o' : Bool) (S S' : Nat → Prop), FoAt o S w F ao n → FoAt o' S' w G bo m → n ≤ maxLen → m ≤ maxLen → szF F < N →
    Calls Tryd.prog 27 #[.slice ao n c, .slice bo m d] w fun e' w' => e' = .returned (.bool (sameF F G)) ∧ Below w.heap.size w w'
  | 0, _, _, _, _, _, _, _, _, _, _, _, _, _, _, _, _, _, h => by omega
  | N + 1, F, G, ao, bo, n, c, m, d, w, o, o', S, S', hF, hG, hn, hm, hN => by
    have IH : Hid (∀ (F G : Fo) (ao bo : Option Addr) (n c m d : Nat) (w : World), FoAt o S w F ao n → FoAt o' S' w G bo m → n ≤ maxLen → m ≤ maxLen → szF F < N →
      Calls Tryd.prog 27 #[.slice ao n c, .slice bo m d] w fun e' w' => e' = .returned (.bool (sameF F G)) ∧ Below w.heap.size w w') := fun F G ao bo n c m d w h1 h2 h3 h4 h5 => sameAll_calls N F G ao bo n c m d w o o' S S' h1 h2 h3 h4 h5
    have hm2 := hm
    have hn2 := hn
    unfold maxLen at hm2 hn2
    by_cases hnm : n = m
    · subst hnm
      have q0 : ((n : Int) != (n : Int)) = false := by simp
      obtain ⟨g, off, hka, hF'⟩ := foAt_addr hF
      obtain ⟨g', off', hkb, hG'⟩ := foAt_addr hG
      generalize hD : sameF F G = D at *
      have H0 : Hid (FoAt o S w F (some ⟨g, off + 0 * 5, none⟩) (n - 0) ∧ FoAt o' S' w G (some ⟨g', off' + 0 * 5, none⟩) (n - 0) ∧ szF F ≤ N ∧ sameF F G = D) := ⟨hF', hG', by omega, hD⟩
      clear hF hG hF' hG' hD hN
      go_enter Tryd.func27, Tryd.ntmps27
      go_wp2_with fail
      go_loopg [15] n (fun k iv wr => ∃ (F' G' : Fo) (i : Nat), iv = .int .i64 (i : Int) ∧ i + k = n ∧ Hid (FoAt o S wr F' (some ⟨g, off + i * 5, none⟩) (n - i) ∧ FoAt o' S' wr G' (some ⟨g', off' + i * 5, none⟩) (n - i) ∧ szF F' ≤ N ∧ sameF F' G' = D ∧ Below w.heap.size w wr))
      case atStart => exact ⟨F, G, 0, rfl, by omega, H0.out.1, H0.out.2.1, H0.out.2.2.1, H0.out.2.2.2, Below.refl _ _⟩
      case round =>
        clear H0
        obtain ⟨F', G', i, rfl, hik, HT⟩ := hrel
        by_cases hi : i < n
        · obtain ⟨b1, o1, h1, k1, r1, ka1, kc1, kk1, rfl, -, hok1, hkc1, ⟨c0, c1, c2, c3, c4⟩, hk1, hr1⟩ := foAt_head HT.out.1 hi
          obtain ⟨b2, o2, h2, k2, r2, ka2, kc2, kk2, rfl, -, hok2, hkc2, ⟨d0, d1, d2, d3, d4⟩, hk2, hr2⟩ := foAt_head HT.out.2.1 hi
          have hka2 := hka (by omega)
          have hkb2 := hkb (by omega)
          subst hka2
          subst hkb2
          have HBB : Hid (∀ o o', Below wr.heap.size wr ((wr.alloc o).alloc o')) := fun o o' => ((Below.refl _ _).alloc (Nat.le_refl _) o).alloc (by simp) o'
          have d0' := fun o => keepc ((Below.refl wr.heap.size wr).alloc (Nat.le_refl _) o) d0
          have d1' := fun o => keepc ((Below.refl wr.heap.size wr).alloc (Nat.le_refl _) o) d1
          have d2' := fun o => keepc ((Below.refl wr.heap.size wr).alloc (Nat.le_refl _) o) d2
          have d3' := fun o => keepc ((Below.refl wr.heap.size wr).alloc (Nat.le_refl _) o) d3
          have d4' := fun o => keepc ((Below.refl wr.heap.size wr).alloc (Nat.le_refl _) o) d4
          have HR : Hid (FoAt o S wr r1 (some ⟨g, off + (i + 1) * 5, none⟩) (n - (i + 1)) ∧ FoAt o' S' wr r2 (some ⟨g', off' + (i + 1) * 5, none⟩) (n - (i + 1)) ∧ szF k1 < N ∧ szF r1 ≤ N ∧ (sameH h1 h2 && (sameF k1 k2 && sameF r1 r2)) = D ∧ Below w.heap.size w wr) := by
            obtain ⟨_, _, h3, h4, h5⟩ := HT.out
            simp only [szF] at h3
            exact ⟨hr1, hr2, by omega, by omega, h4, h5⟩
          have HKd : Hid (∀ W, Below wr.heap.size wr W → Calls Tryd.prog 27 #[.slice ka1 kc1 kk1, .slice ka2 kc2 kk2] W fun e' w' => e' = .returned (.bool (sameF k1 k2)) ∧ Below W.heap.size W w') := fun W hW => IH.out k1 k2 ka1 ka2 kc1 kk1 kc2 kk2 W (hk1.below hW) (hk2.below hW) hkc1 hkc2 HR.out.2.2.1
          have HBw : Hid (∀ o o', Below w.heap.size w ((wr.alloc o).alloc o')) := fun o o' => HR.out.2.2.2.2.2.trans ((HBB.out o o').mono HR.out.2.2.2.2.2.size)
          clear HT hk1 hk2 hr1 hr2 hok1 hok2 hkc1 hkc2 IH d0 d1 d2 d3 d4
          by_cases e1 : h1.kind = h2.kind
          · have q1 : (h1.kind != h2.kind) = false := by simp [e1]
            by_cases e2 : h1.num = h2.num
            · have q2 : (h1.num != h2.num) = false := by simp [e2]
              by_cases e3 : h1.text = h2.text
              · have q3 : ((bs h1.text).toList == (bs h2.text).toList) = true := by rw [e3]; simp
                have HS : Hid (sameH h1 h2 = true) := by show sameH h1 h2 = true; simp [sameH, e1, e2, e3]
                clear e1 e2 e3
                cases hk : sameF k1 k2 with
                | true =>
                  rw [hk] at HKd HR
                  go_wp2_with fail
                  refine (HKd.out _ (HBB.out _ _)).mono ?_
                  rintro e' w3 ⟨rfl, hb3⟩
                  have HX : Hid (FoAt o S w3 r1 (some ⟨g, off + (i + 1) * 5, none⟩) (n - (i + 1)) ∧ FoAt o' S' w3 r2 (some ⟨g', off' + (i + 1) * 5, none⟩) (n - (i + 1)) ∧ szF r1 ≤ N ∧ sameF r1 r2 = D ∧ Below w.heap.size w w3) := by
                    obtain ⟨a1, a2, _, a4, a5, a6⟩ := HR.out
                    have hb4 := (HBB.out _ _).trans (hb3.mono (HBB.out _ _).size)
                    rw [HS.out] at a5
                    exact ⟨a1.below hb4, a2.below hb4, a4, by simpa using a5, a6.trans (hb4.mono a6.size)⟩
                  clear hb3 HR HKd HBB HBw
                  go_wp2_with fail
                  go_roundg (gk - 1)
                  case measure => omega
                  case rel => exact ⟨r1, r2, i + 1, by go_num, by omega, HX.out⟩
                | false =>
                  rw [hk] at HKd HR
                  go_wp2_with fail
                  refine (HKd.out _ (HBB.out _ _)).mono ?_
                  rintro e' w3 ⟨rfl, hb3⟩
                  have HX : Hid (D = false ∧ Below w.heap.size w w3) := ⟨by rw [← HR.out.2.2.2.2.1]; simp, (HBw.out _ _).trans (hb3.mono (HBw.out _ _).size)⟩
                  clear hb3 HR HKd HBB HBw
                  go_wp2
                  go_ret
                  exact ⟨ret_bool HX.out.1.symm, HX.out.2⟩
              · have q3 : ((bs h1.text).toList == (bs h2.text).toList) = false := by rw [bs_toList, bs_toList, beq_eq_false_iff_ne]; exact e3
                have HX : Hid (D = false) := by show D = false; rw [← HR.out.2.2.2.2.1]; simp [sameH, e3]
                clear e1 e2 e3 HR HKd HBB
                go_wp2
                go_ret
                exact ⟨ret_bool HX.out.symm, HBw.out _ _⟩
            · have q2 : (h1.num != h2.num) = true := by simpa using e2
              have HX : Hid (D = false) := by show D = false; rw [← HR.out.2.2.2.2.1]; simp [sameH, e2]
              clear e1 e2 HR HKd HBB
              go_wp2
              go_ret
              exact ⟨ret_bool HX.out.symm, HBw.out _ _⟩
          · have q1 : (h1.kind != h2.kind) = true := by simpa using e1
            have HX : Hid (D = false) := by show D = false; rw [← HR.out.2.2.2.2.1]; simp [sameH, e1]
            clear e1 HR HKd HBB
            go_wp2
            go_ret
            exact ⟨ret_bool HX.out.symm, HBw.out _ _⟩
        · have HX : Hid (D = true ∧ Below w.heap.size w wr) := by
            obtain ⟨a1, a2, _, a4, a5⟩ := HT.out
            rw [show n - i = 0 by omega] at a1 a2
            rw [foAt_end a1, foAt_end a2] at a4
            exact ⟨a4.symm, a5⟩
          clear HT
          go_wp2
          go_ret
          exact ⟨ret_bool HX.out.1.symm, HX.out.2⟩
    · have q0 : ((n : Int) != (m : Int)) = true := by simp; omega
      have HX : Hid (sameF F G = false) := sameF_len F G (by rw [← foAt_len hF, ← foAt_len hG]; exact hnm)
      clear hF hG hN hnm IH
      go_enter Tryd.func27, Tryd.ntmps27
      go_wp2
      go_ret
      exact ⟨ret_bool HX.out.symm, Below.refl _ _⟩
set_option maxRecDepth 20000 in
set_option maxHeartbeats 4000000 in
theorem same_calls (L M : List It) (ao bo : Option Addr) (n c m d : Nat) (w : World) (o o' : Bool) (S S' : Nat → Prop) (hF : ItsAt o S w L ao n) (hG : ItsAt o' S' w M bo m) (hn : n ≤ maxLen) (hm : m ≤ maxLen) :
    Calls Tryd.prog 13 #[.agg #[.slice ao n c], .agg #[.slice bo m d]] w fun e' w' => e' = .returned (.bool (sameI L M)) ∧ Below w.heap.size w w' := by
  have hm2 := hm
  have hn2 := hn
  unfold maxLen at hm2 hn2
  have hbx : Below w.heap.size w ((w.alloc (.cells #[.slice ao n c] 24)).alloc (.cells #[.slice bo m d] 24)) := ((Below.refl _ _).alloc (Nat.le_refl _) _).alloc (by simp) _
  have ha0 : ((w.alloc (.cells #[.slice ao n c] 24)).alloc (.cells #[.slice bo m d] 24)).heap[w.heap.size]? = some (.cells #[.slice ao n c] 24 (0, 0)) := heap_old (heap_alloc_new w _)
  have hb0 : ((w.alloc (.cells #[.slice ao n c] 24)).alloc (.cells #[.slice bo m d] 24)).heap[w.heap.size + 1]? = some (.cells #[.slice bo m d] 24 (0, 0)) := by
    have := heap_alloc_new (w.alloc (.cells #[.slice ao n c] 24)) (.cells #[.slice bo m d] 24)
    rwa [show (w.alloc (.cells #[.slice ao n c] 24)).heap.size = w.heap.size + 1 by simp] at this
  by_cases hnm : n = m
  · subst hnm
    have q0 : ((n : Int) != (n : Int)) = false := by simp
    obtain ⟨g, off, hka, hF'⟩ := itsAt_addr hF
    obtain ⟨g', off', hkb, hG'⟩ := itsAt_addr hG
    generalize hD : sameI L M = D at *
    have H0 : Hid (ItsAt o S ((w.alloc (.cells #[.slice ao n c] 24)).alloc (.cells #[.slice bo n d] 24)) L (some ⟨g, off + 0 * 4, none⟩) (n - 0) ∧ ItsAt o' S' ((w.alloc (.cells #[.slice ao n c] 24)).alloc (.cells #[.slice bo n d] 24)) M (some ⟨g', off' + 0 * 4, none⟩) (n - 0) ∧ sameI L M = D ∧ Below w.heap.size w ((w.alloc (.cells #[.slice ao n c] 24)).alloc (.cells #[.slice bo n d] 24)) ∧ ((w.alloc (.cells #[.slice ao n c] 24)).alloc (.cells #[.slice bo n d] 24)).heap[w.heap.size + 1]? = some (.cells #[.slice bo n d] 24 (0, 0))) := ⟨hF'.below hbx, hG'.below hbx, hD, hbx, hb0⟩
    clear hF hG hF' hG' hD ha0 hb0 hbx
    go_enter Tryd.func13, Tryd.ntmps13
    go_wp2_with fail
    go_loopg [18] n (fun k iv wr => ∃ (F' G' : List It) (i : Nat), iv = .int .i64 (i : Int) ∧ i + k = n ∧ Hid (ItsAt o S wr F' (some ⟨g, off + i * 4, none⟩) (n - i) ∧ ItsAt o' S' wr G' (some ⟨g', off' + i * 4, none⟩) (n - i) ∧ sameI F' G' = D ∧ Below w.heap.size w wr ∧ wr.heap[w.heap.size + 1]? = some (.cells #[.slice bo n d] 24 (0, 0))))
    case atStart => exact ⟨L, M, 0, rfl, by omega, H0.out⟩
    case round =>
      clear H0
      obtain ⟨F', G', i, rfl, hik, HT⟩ := hrel
      by_cases hi : i < n
      · obtain ⟨h1, r1, ka1, kc1, kk1, rfl, -, hok1, hkc1, ⟨c0, c1, c2, c3⟩, hk1, hr1⟩ := itsAt_head HT.out.1 hi
        obtain ⟨h2, r2, ka2, kc2, kk2, rfl, -, hok2, hkc2, ⟨d0, d1, d2, d3⟩, hk2, hr2⟩ := itsAt_head HT.out.2.1 hi
        have hka2 := hka (by omega)
        have hkb2 := hkb (by omega)
        subst hka2
        subst hkb2
        have HBB : Hid (∀ o o', Below wr.heap.size wr ((wr.alloc o).alloc o')) := fun o o' => ((Below.refl _ _).alloc (Nat.le_refl _) o).alloc (by simp) o'
        have d0' := fun o => keepc ((Below.refl wr.heap.size wr).alloc (Nat.le_refl _) o) d0
        have d1' := fun o => keepc ((Below.refl wr.heap.size wr).alloc (Nat.le_refl _) o) d1
        have d2' := fun o => keepc ((Below.refl wr.heap.size wr).alloc (Nat.le_refl _) o) d2
        have d3' := fun o => keepc ((Below.refl wr.heap.size wr).alloc (Nat.le_refl _) o) d3
        have hq' := fun o => keepc ((Below.refl wr.heap.size wr).alloc (Nat.le_refl _) o) (blk (i := 0) HT.out.2.2.2.2 rfl)
        have HR : Hid (ItsAt o S wr r1 (some ⟨g, off + (i + 1) * 4, none⟩) (n - (i + 1)) ∧ ItsAt o' S' wr r2 (some ⟨g', off' + (i + 1) * 4, none⟩) (n - (i + 1)) ∧ ((decide (h1.kind = h2.kind) && (decide (h1.name = h2.name) && sameF h1.args h2.args)) && sameI r1 r2) = D ∧ Below w.heap.size w wr ∧ wr.heap[w.heap.size + 1]? = some (.cells #[.slice (some ⟨g', off', none⟩) n d] 24 (0, 0))) := ⟨hr1, hr2, HT.out.2.2.1, HT.out.2.2.2.1, HT.out.2.2.2.2⟩
        have HKd : Hid (∀ W, Below wr.heap.size wr W → Calls Tryd.prog 27 #[.slice ka1 kc1 kk1, .slice ka2 kc2 kk2] W fun e' w' => e' = .returned (.bool (sameF h1.args h2.args)) ∧ Below W.heap.size W w') := fun W hW => sameAll_calls _ h1.args h2.args ka1 ka2 kc1 kk1 kc2 kk2 W o o' S S' (hk1.below hW) (hk2.below hW) hkc1 hkc2 (Nat.lt_succ_self _)
        have HBw : Hid (∀ o o', Below w.heap.size w ((wr.alloc o).alloc o')) := fun o o' => HR.out.2.2.2.1.trans ((HBB.out o o').mono HR.out.2.2.2.1.size)
        clear HT hk1 hk2 hr1 hr2 hok1 hok2 hkc1 hkc2 d0 d1 d2 d3
        by_cases e1 : h1.kind = h2.kind
        · have q1 : (h1.kind != h2.kind) = false := by simp [e1]
          by_cases e3 : h1.name = h2.name
          · have q3 : ((bs h1.name).toList == (bs h2.name).toList) = true := by rw [e3]; simp
            have HS : Hid (decide (h1.kind = h2.kind) = true ∧ decide (h1.name = h2.name) = true) := ⟨by simp [e1], by simp [e3]⟩
            clear e1 e3
            cases hk : sameF h1.args h2.args with
            | true =>
              rw [hk] at HKd HR
              go_wp2_with fail
              refine (HKd.out _ (HBB.out _ _)).mono ?_
              rintro e' w3 ⟨rfl, hb3⟩
              have HX : Hid (ItsAt o S w3 r1 (some ⟨g, off + (i + 1) * 4, none⟩) (n - (i + 1)) ∧ ItsAt o' S' w3 r2 (some ⟨g', off' + (i + 1) * 4, none⟩) (n - (i + 1)) ∧ sameI r1 r2 = D ∧ Below w.heap.size w w3 ∧ w3.heap[w.heap.size + 1]? = some (.cells #[.slice (some ⟨g', off', none⟩) n d] 24 (0, 0))) := by
                obtain ⟨a1, a2, a5, a6, a7⟩ := HR.out
                have hb4 := (HBB.out _ _).trans (hb3.mono (HBB.out _ _).size)
                rw [HS.out.1, HS.out.2] at a5
                exact ⟨a1.below hb4, a2.below hb4, by simpa using a5, a6.trans (hb4.mono a6.size), by rw [hb4.block _ (lt_block a7)]; exact a7⟩
              clear hb3 HR HKd HBB HBw
              go_wp2_with fail
              go_roundg (gk - 1)
              case measure => omega
              case rel => exact ⟨r1, r2, i + 1, by go_num, by omega, HX.out⟩
            | false =>
              rw [hk] at HKd HR
              go_wp2_with fail
              refine (HKd.out _ (HBB.out _ _)).mono ?_
              rintro e' w3 ⟨rfl, hb3⟩
              have HX : Hid (D = false ∧ Below w.heap.size w w3) := ⟨by rw [← HR.out.2.2.1]; simp, (HBw.out _ _).trans (hb3.mono (HBw.out _ _).size)⟩
              clear hb3 HR HKd HBB HBw
              go_wp2
              go_ret
              exact ⟨ret_bool HX.out.1.symm, HX.out.2⟩
          · have q3 : ((bs h1.name).toList == (bs h2.name).toList) = false := by rw [bs_toList, bs_toList, beq_eq_false_iff_ne]; exact e3
            have HX : Hid (D = false) := by show D = false; rw [← HR.out.2.2.1]; simp [e3]
            clear e1 e3 HR HKd HBB
            go_wp2
            go_ret
            exact ⟨ret_bool HX.out.symm, HBw.out _ _⟩
        · have q1 : (h1.kind != h2.kind) = true := by simpa using e1
          have HX : Hid (D = false) := by show D = false; rw [← HR.out.2.2.1]; simp [e1]
          clear e1 HR HKd HBB
          go_wp2
          go_ret
          exact ⟨ret_bool HX.out.symm, HBw.out _ _⟩
      · have HX : Hid (D = true ∧ Below w.heap.size w wr) := by
          obtain ⟨a1, a2, a4, a5, _⟩ := HT.out
          rw [show n - i = 0 by omega] at a1 a2
          rw [itsAt_end a1, itsAt_end a2] at a4
          exact ⟨a4.symm, a5⟩
        clear HT
        go_wp2
        go_ret
        exact ⟨ret_bool HX.out.1.symm, HX.out.2⟩
  · have q0 : ((n : Int) != (m : Int)) = true := by simp; omega
    have HX : Hid (sameI L M = false ∧ Below w.heap.size w ((w.alloc (.cells #[.slice ao n c] 24)).alloc (.cells #[.slice bo m d] 24))) := ⟨sameI_len L M (by rw [← itsAt_len hF, ← itsAt_len hG]; exact hnm), hbx⟩
    clear hF hG hnm hbx ha0 hb0
    go_enter Tryd.func13, Tryd.ntmps13
    go_wp2
    go_ret
    exact ⟨ret_bool HX.out.1.symm, HX.out.2⟩

end Go.Proofs.YtpeldiibjhffiaaDoor
