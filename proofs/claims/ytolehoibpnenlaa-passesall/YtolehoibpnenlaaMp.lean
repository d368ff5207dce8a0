/-
  The document's: an edge, its cost in numbers. The document's: is a state a gap state?
-/
import Derived.Test.YtolehoibpnenlaaMo
namespace Go.Proofs.Ytolehoibpnenlaa
open Go.RowKit Go.Deep Go.Maps

/-- A recurrence and the numbers of its definitions. -/
structure DvAt (w : World) (x : Rc) (da : Option Addr) (dn : Nat) (sa : Option Addr) (sn : Nat) (ta : Option Addr) (tn : Nat) (va : Option Addr) (vn : Nat) (vs : List Int) : Prop where
  rc : RcAt w x da dn sa sn ta tn
  nums : IntA w va vn vs
  ok : SOk vs.length x.states
theorem DvAt.below {w w' : World} {x : Rc} {da : Option Addr} {dn : Nat} {sa : Option Addr} {sn : Nat} {ta : Option Addr} {tn : Nat} {va : Option Addr} {vn : Nat} {vs : List Int} (h : DvAt w x da dn sa sn ta tn va vn vs) (hb : Below w.heap.size w w') : DvAt w' x da dn sa sn ta tn va vn vs := ⟨h.rc.below hb, h.nums.below hb, h.ok⟩
def ecV (vs : List Int) (o : Option (Int × Int)) : Int := match o with | none => 0 | some e => costN vs e.2
set_option maxRecDepth 20000 in
set_option maxHeartbeats 2000000 in
theorem edgeOf_calls (x : Rc) (da : Option Addr) (dn dc : Nat) (sa : Option Addr) (sn sc : Nat) (ta : Option Addr) (tn tc : Nat) (va : Option Addr) (vn vc : Nat) (vs : List Int) (w : World) (h : DvAt w x da dn sa sn ta tn va vn vs) (t : Nat) (u : Int) (ht : t < tn) :
    Calls Try.prog 64 #[.agg (rcCells x da dn dc sa sn sc ta tn tc), .slice va vn vc, .int .i64 (t : Int), .int .i64 u] w fun e w' => e = .returned (.tuple #[.int .i64 (ecV vs (edgeB x.states u t)), .bool (edgeB x.states u t).isSome]) ∧ Below w.heap.size w w' := by
  have hb0 : Below w.heap.size w (w.alloc (.cells (rcCells x da dn dc sa sn sc ta tn tc) 26)) := (Below.refl _ _).alloc (Nat.le_refl _) _
  have htl : t < x.states.length := by rw [h.rc.states.length]; exact ht
  obtain ⟨s, hs⟩ : ∃ s, x.states.getD t (0, []) = s := ⟨_, rfl⟩
  have hst := st_at htl
  rw [hs] at hst
  obtain ⟨g1, o1, hta, hcs⟩ := h.rc.states.cells (by omega)
  obtain ⟨ea, en, ec, k1, k2, k3⟩ := hcs t s hst
  obtain ⟨o, ho⟩ : ∃ o, edgeB x.states u t = o := ⟨_, rfl⟩
  have HO : Hid ((s.2.drop 0).find? (fun e => decide (e.1 = u)) = o ∧ s.2.length = en ∧ ∀ e ∈ s.2, -1 ≤ e.2 ∧ e.2 < vn ∨ e.2 = -1) := ⟨by rw [List.drop_zero, ← ho, edgeB, Int.toNat_natCast, hs], k3.length, fun e he => by
    have := sok_costs h.ok s (List.mem_of_getElem? hst) e he
    rwa [h.nums.length] at this⟩
  rw [ho]
  have hen : en ≤ 9223372036854775807 := by have := k3.short; unfold maxLen at this; omega
  have HB0 : Hid (Below w.heap.size w (w.alloc (.cells (rcCells x da dn dc sa sn sc ta tn tc) 26))) := hb0
  have HW : Hid (∀ W, Below w.heap.size w W → PcsAt W ea en s.2 ∧ IntA W va vn vs) := fun W hW => ⟨k3.below hW, h.nums.below hW⟩
  have l1 : (w.alloc (.cells (rcCells x da dn dc sa sn sc ta tn tc) 26)).cell? ⟨g1, o1 + t * 2 + 1, none⟩ = some (.slice ea en ec) := Lib.cell?_alloc_some _ k2
  have htd : (t : Int) < (tn : Int) := by omega
  rw [hta] at HB0 l1 ⊢
  clear h hb0 htl hs hst hta hcs k1 k2 k3 ho
  unfold rcCells at HB0 l1 ⊢
  go_enter Try.func64, Try.ntmps64
  go_wp2
  clear l1
  go_loopg [11] en (fun q kv wr => ∃ (k : Nat), k + q = en ∧ kv = .int .i64 k ∧ Hid ((s.2.drop k).find? (fun e => decide (e.1 = u)) = o ∧ Below w.heap.size w wr))
  case atStart => exact ⟨0, by omega, rfl, HO.out.1, HB0.out⟩
  case round =>
    clear HB0
    obtain ⟨k, hkq, rfl, HQ⟩ := hrel
    by_cases hlt : k < en
    · obtain ⟨e, he⟩ : ∃ e, s.2[k]? = some e := ⟨s.2[k]'(by rw [HO.out.2.1]; exact hlt), List.getElem?_eq_getElem _⟩
      obtain ⟨g2, o2, rfl, hce⟩ := (HW.out wr HQ.out.2).1.cells (by omega)
      obtain ⟨d1, d2⟩ := hce k e he
      have hfd := HQ.out.1
      rw [find_drop u he] at hfd
      have hec := HO.out.2.2 e (List.mem_of_getElem? he)
      have hz0 : decide ((k : Int) < (en : Int)) = true := by simp; omega
      have hzd : (k : Int) < (en : Int) := by omega
      clear hce he
      by_cases heu : e.1 = u
      · rw [if_pos heu] at hfd
        have hee : (e.1 == u) = true := by simpa using heu
        by_cases hc0 : e.2 < 0
        · have hd0 : decide (e.2 < 0) = true := by simpa using hc0
          have HE : Hid (ecV vs o = 0 ∧ o.isSome = true ∧ Below w.heap.size w wr) := by
            rw [← hfd]
            refine ⟨?_, rfl, HQ.out.2⟩
            show costN vs e.2 = 0
            rw [costN, if_pos (by omega)]
          clear hfd heu HQ hc0
          go_wp2
          go_ret2
          exact ⟨by rw [HE.out.1, HE.out.2.1]; rfl, HE.out.2.2⟩
        · have hd0 : decide (e.2 < 0) = false := by simpa using hc0
          obtain ⟨c, hc⟩ : ∃ c : Nat, e.2 = (c : Int) := ⟨e.2.toNat, by omega⟩
          have hcl : c < vn := by omega
          have hcv : vs[c]? = some (vAt vs (c : Int)) := by
            have hl := (HW.out wr HQ.out.2).2.length
            rw [vAt, Int.toNat_natCast, List.getD_eq_getElem?_getD, List.getElem?_eq_getElem (by omega)]
            rfl
          obtain ⟨g3, o3, rfl, hv3⟩ := (HW.out wr HQ.out.2).2.isI c _ hcv
          have HE : Hid (ecV vs o = vAt vs (c : Int) ∧ o.isSome = true ∧ Below w.heap.size w wr) := by
            rw [← hfd]
            refine ⟨?_, rfl, HQ.out.2⟩
            show costN vs e.2 = _
            rw [costN, if_neg (by omega), hc]
          rw [hc] at d2 hd0
          have hcd : (c : Int) < (vn : Int) := by omega
          clear hfd heu HQ hc0 hc hcv hec
          go_wp2
          go_ret2
          exact ⟨by rw [HE.out.1, HE.out.2.1]; rfl, HE.out.2.2⟩
      · rw [if_neg heu] at hfd
        have hee : (e.1 == u) = false := by simpa using heu
        have HN : Hid ((s.2.drop (k + 1)).find? (fun e => decide (e.1 = u)) = o ∧ Below w.heap.size w wr) := ⟨hfd, HQ.out.2⟩
        clear hfd heu HQ
        go_wp2
        go_roundg (gk - 1)
        case measure => omega
        case rel => exact ⟨k + 1, by omega, by go_num, HN.out⟩
    · have hz0 : decide ((k : Int) < (en : Int)) = false := by simp; omega
      have HE : Hid (o = none ∧ Below w.heap.size w wr) := by
        have h1 := HQ.out.1
        rw [List.drop_eq_nil_of_le (by rw [HO.out.2.1]; omega)] at h1
        exact ⟨h1.symm, HQ.out.2⟩
      clear HQ
      go_wp2
      go_ret2
      exact ⟨by rw [HE.out.1]; rfl, HE.out.2⟩
end Go.Proofs.Ytolehoibpnenlaa
namespace Go.Proofs.Ytolehoibpnenlaa
open Go.RowKit Go.Deep Go.Maps

/-- What is known of the states that were looked at. -/
structure GI (vs : List Int) (l : List St) (s k : Nat) (opens : Int) (many : Nat) : Prop where
  few : many ≤ k
  zero : many = 0 → ∀ e ∈ othersB l s, ¬ e.1 < (k : Int) - 1
  some' : 0 < many → ∃ e ∈ othersB l s, e.1 < (k : Int) - 1 ∧ costN vs e.2 = opens
  same : ∀ e ∈ othersB l s, e.1 < (k : Int) - 1 → costN vs e.2 = opens
theorem oth_iff {l : List St} {s : Nat} {e : Int × Int} : e ∈ othersB l s ↔ e ∈ (l.getD s (0, [])).2 ∧ e.1 ≠ s := by
  simp [othersB, List.mem_filter]
section
variable {nd : Int} {vs : List Int} {l : List St} {s k : Nat} {opens : Int} {many : Nat}
theorem GI.start (h : SOk nd l) : GI vs l s 0 0 0 := by
  have hlow : ∀ e ∈ othersB l s, ¬ e.1 < ((0 : Nat) : Int) - 1 := fun e he => by
    have := ((sok_rise h s).1 e (oth_iff.1 he).1).1
    omega
  exact ⟨Nat.le_refl _, fun _ => hlow, fun h0 => by omega, fun e he hk => absurd hk (hlow e he)⟩
theorem GI.skip (h : GI vs l s k opens many) (hn : ∀ e ∈ othersB l s, e.1 ≠ (k : Int) - 1) : GI vs l s (k + 1) opens many := by
  have hk : ∀ e ∈ othersB l s, e.1 < ((k + 1 : Nat) : Int) - 1 → e.1 < (k : Int) - 1 := fun e he hlt => by
    have := hn e he
    omega
  refine ⟨by have := h.few; omega, fun h0 e he hlt => h.zero h0 e he (hk e he hlt), fun h0 => ?_, fun e he hlt => h.same e he (hk e he hlt)⟩
  obtain ⟨e, h1, h2, h3⟩ := h.some' h0
  exact ⟨e, h1, by omega, h3⟩
theorem GI.take (hok : SOk nd l) (h : GI vs l s k opens many) {e : Int × Int} (he : e ∈ othersB l s) (hk : e.1 = (k : Int) - 1) (hc : many = 0 ∨ costN vs e.2 = opens) : GI vs l s (k + 1) (costN vs e.2) (many + 1) := by
  have huniq : ∀ z ∈ othersB l s, z.1 = (k : Int) - 1 → z = e := fun z hz hzk => by
    have h1 := (edgeB_iff (u := (k : Int) - 1) (s := s) hok).2 ⟨(oth_iff.1 hz).1, hzk⟩
    have h2 := (edgeB_iff (u := (k : Int) - 1) (s := s) hok).2 ⟨(oth_iff.1 he).1, hk⟩
    rw [h1] at h2
    injection h2
  refine ⟨by have := h.few; omega, fun h0 => by omega, fun _ => ⟨e, he, by omega, rfl⟩, fun z hz hlt => ?_⟩
  by_cases hzk : z.1 = (k : Int) - 1
  · rw [huniq z hz hzk]
  · have hz2 : z.1 < (k : Int) - 1 := by omega
    rcases hc with h0 | h0
    · exact absurd hz2 (h.zero h0 z hz)
    · rw [h.same z hz hz2, h0]
end
theorem gap_two {vs : List Int} {l : List St} {s : Nat} {a b : Int × Int} (ha : a ∈ othersB l s) (hb : b ∈ othersB l s) (h : costN vs a.2 ≠ costN vs b.2) : gapB vs l s = none := by
  rw [gapB]
  split
  · rfl
  · split
    · rfl
    · split
      · rfl
      · rename_i o r ho
        rw [if_neg]
        intro hall
        rw [List.all_eq_true] at hall
        have h1 := hall a (by rw [← ho]; exact ha)
        have h2 := hall b (by rw [← ho]; exact hb)
        rw [decide_eq_true_eq] at h1 h2
        exact h (h1.trans h2.symm)
theorem gap_all {vs : List Int} {l : List St} {s : Nat} {own e : Int × Int} {c : Int} (h1 : edgeB l s s = some own) (h2 : (l.getD s (0, [])).1 ≠ 1) (he : e ∈ othersB l s) (hc : ∀ e ∈ othersB l s, costN vs e.2 = c) : gapB vs l s = some (c, costN vs own.2) := by
  cases ho : othersB l s with
  | nil => rw [ho] at he; simp at he
  | cons o r =>
    rw [gap_is h1 h2 ho]
    rw [ho] at hc
    have hco := hc o (by simp)
    rw [if_pos, hco]
    rw [List.all_eq_true]
    intro z hz
    rw [hc z hz, hco]
    simp
/-- What is told of a gap state. -/
def GapPost (G : Option (Int × Int)) (w : World) (e : Ending) (w' : World) : Prop := ∃ a b : Int, e = .returned (.tuple #[.int .i64 a, .int .i64 b, .bool G.isSome]) ∧ (∀ q, G = some q → q = (a, b)) ∧ Below w.heap.size w w'
set_option maxRecDepth 20000 in
set_option maxHeartbeats 4000000 in
theorem gapState_calls (x : Rc) (da : Option Addr) (dn dc : Nat) (sa : Option Addr) (sn sc : Nat) (ta : Option Addr) (tn tc : Nat) (va : Option Addr) (vn vc : Nat) (vs : List Int) (w : World) (h : DvAt w x da dn sa sn ta tn va vn vs) (s : Nat) (hs : s < tn) :
    Calls Try.prog 41 #[.agg (rcCells x da dn dc sa sn sc ta tn tc), .slice va vn vc, .int .i64 (s : Int)] w fun e w' => GapPost (gapB vs x.states s) w e w' := by
  have hres : Try.f41.results = #[.tmp 6, .tmp 7, .tmp 8] := by kernel_rfl
  have htn9 : tn ≤ 9 := by rw [← h.rc.states.length]; exact h.ok.1
  have hsl : s < x.states.length := by rw [h.rc.states.length]; exact hs
  obtain ⟨st, hst⟩ : ∃ st, x.states.getD s (0, []) = st := ⟨_, rfl⟩
  have hsa := st_at hsl
  rw [hst] at hsa
  obtain ⟨g1, o1, hta, hcs⟩ := h.rc.states.cells (by omega)
  obtain ⟨ea, en, ec, k1, k2, k3⟩ := hcs s st hsa
  have HE : Hid (∀ W (u : Int), Below w.heap.size w W → Calls Try.prog 64 #[.agg (rcCells x da dn dc sa sn sc ta tn tc), .slice va vn vc, .int .i64 (s : Int), .int .i64 u] W fun e w' => e = .returned (.tuple #[.int .i64 (ecV vs (edgeB x.states u s)), .bool (edgeB x.states u s).isSome]) ∧ Below W.heap.size W w') := fun W u hW => edgeOf_calls x da dn dc sa sn sc ta tn tc va vn vc vs W (h.below hW) s u hs
  have HOK : Hid (SOk vs.length x.states ∧ x.states.length = tn ∧ (x.states.getD s (0, [])).1 = st.1) := ⟨h.ok, h.rc.states.length, by rw [hst]⟩
  have HB0 : Hid (Rb w (rcCells x da dn dc sa sn sc ta tn tc) (w.alloc (.cells (rcCells x da dn dc sa sn sc ta tn tc) 26))) := Rb.start _ _
  have l0 : (w.alloc (.cells (rcCells x da dn dc sa sn sc ta tn tc) 26)).cell? ⟨g1, o1 + s * 2, none⟩ = some (.int .i64 st.1) := Lib.cell?_alloc_some _ k1
  obtain ⟨G, hG⟩ : ∃ G, gapB vs x.states s = G := ⟨_, rfl⟩
  have HG : Hid (gapB vs x.states s = G) := hG
  rw [hG]
  have hsd : (s : Int) < (tn : Int) := by omega
  rw [hta] at HE HB0 l0 ⊢
  clear h hsl hst hsa hta hcs k1 k2 k3 hG
  obtain ⟨ta', hta'⟩ : ∃ ta', (some ⟨g1, o1, none⟩ : Option Addr) = ta' := ⟨_, rfl⟩
  unfold rcCells at HB0 HE l0 ⊢
  by_cases hk1 : st.1 = 1
  · have hke : (st.1 == (1 : Int)) = true := by simpa using hk1
    have HN : Hid (G = none) := by show _ = _; rw [← HG.out]; exact gap_kind (by rw [HOK.out.2.2]; exact hk1)
    clear hk1 hta'
    go_enter Try.func41, Try.ntmps41
    go_wp2
    refine bodyPost_ret (v := .tuple #[.int .i64 0, .int .i64 0, .bool false]) ?_ rfl ?_
    · simp only [results, hres]
      go_simp
    · exact ⟨0, 0, by rw [HN.out]; rfl, (fun q hq => by rw [HN.out] at hq; cases hq), HB0.out.low⟩
  · have hke : (st.1 == (1 : Int)) = false := by simpa using hk1
    have HK1 : Hid ((x.states.getD s (0, [])).1 ≠ 1) := by rw [HOK.out.2.2]; exact hk1
    clear hk1
    obtain ⟨E, hE⟩ : ∃ E, edgeB x.states s s = E := ⟨_, rfl⟩
    have HEs : Hid (edgeB x.states s s = E) := hE
    obtain ⟨own, how⟩ : ∃ own, E.isSome = own := ⟨_, rfl⟩
    have HOw : Hid (E.isSome = own) := how
    have HEE : Hid (∀ W, Below w.heap.size w W → Calls Try.prog 64 #[.agg #[.int .i64 x.letters, .slice da dn dc, .slice sa sn sc, .int .i64 x.beg, .int .i64 x.fin, .int .i64 x.front, .int .i64 x.back, .bool x.banded, .int .i64 x.lo, .int .i64 x.hi, .slice (some ⟨g1, o1, none⟩) tn tc], .slice va vn vc, .int .i64 (s : Int), .int .i64 (s : Int)] W fun e w' => e = .returned (.tuple #[.int .i64 (ecV vs E), .bool own]) ∧ Below W.heap.size W w') := fun W hW => by
      have := HE.out W s hW
      rw [hE, how] at this
      exact this
    clear hE how hta'
    go_enter Try.func41, Try.ntmps41
    go_wp2_with fail
    refine (HEE.out _ HB0.out.low).mono ?_
    rintro e w1 ⟨rfl, hb1⟩
    have HB1 : Hid (Rb w #[.int .i64 x.letters, .slice da dn dc, .slice sa sn sc, .int .i64 x.beg, .int .i64 x.fin, .int .i64 x.front, .int .i64 x.back, .bool x.banded, .int .i64 x.lo, .int .i64 x.hi, .slice (some ⟨g1, o1, none⟩) tn tc] w1) := HB0.out.next hb1
    clear hb1 HB0 HEE l0
    go_wp2
    go_loopg [11, 12, 13, 14, 15] (tn + 1) (fun q ov mv uv _ _ wr => ∃ (k many : Nat) (opens : Int), k + q = tn + 1 ∧ uv = .int .i64 ((k : Int) - 1) ∧ ov = .int .i64 opens ∧ mv = .int .i64 (many : Int) ∧ Hid (GI vs x.states s k opens many ∧ Rb w #[.int .i64 x.letters, .slice da dn dc, .slice sa sn sc, .int .i64 x.beg, .int .i64 x.fin, .int .i64 x.front, .int .i64 x.back, .bool x.banded, .int .i64 x.lo, .int .i64 x.hi, .slice (some ⟨g1, o1, none⟩) tn tc] wr))
    case atStart => exact ⟨0, 0, 0, by omega, rfl, rfl, rfl, GI.start HOK.out.1, HB1.out⟩
    case round =>
      clear HB1
      obtain ⟨k, many, opens, hkq, rfl, rfl, rfl, HQ⟩ := hrel
      have hmk : many ≤ k := HQ.out.1.few
      have c0 : wr.cell? ⟨w.heap.size, 0, none⟩ = some (.int .i64 x.letters) := blk HQ.out.2.box rfl
      have c1 : wr.cell? ⟨w.heap.size, 1, none⟩ = some (.slice da dn dc) := blk HQ.out.2.box rfl
      have c2 : wr.cell? ⟨w.heap.size, 2, none⟩ = some (.slice sa sn sc) := blk HQ.out.2.box rfl
      have c3 : wr.cell? ⟨w.heap.size, 3, none⟩ = some (.int .i64 x.beg) := blk HQ.out.2.box rfl
      have c4 : wr.cell? ⟨w.heap.size, 4, none⟩ = some (.int .i64 x.fin) := blk HQ.out.2.box rfl
      have c5 : wr.cell? ⟨w.heap.size, 5, none⟩ = some (.int .i64 x.front) := blk HQ.out.2.box rfl
      have c6 : wr.cell? ⟨w.heap.size, 6, none⟩ = some (.int .i64 x.back) := blk HQ.out.2.box rfl
      have c7 : wr.cell? ⟨w.heap.size, 7, none⟩ = some (.bool x.banded) := blk HQ.out.2.box rfl
      have c8 : wr.cell? ⟨w.heap.size, 8, none⟩ = some (.int .i64 x.lo) := blk HQ.out.2.box rfl
      have c9 : wr.cell? ⟨w.heap.size, 9, none⟩ = some (.int .i64 x.hi) := blk HQ.out.2.box rfl
      have c10 : wr.cell? ⟨w.heap.size, 10, none⟩ = some (.slice (some ⟨g1, o1, none⟩) tn tc) := blk HQ.out.2.box rfl
      by_cases hlt : k < tn + 1
      · have hz0 : decide ((k : Int) - 1 < (tn : Int)) = true := by simp; omega
        have hzd : (k : Int) - 1 < (tn : Int) := by omega
        obtain ⟨F, hF⟩ : ∃ F, edgeB x.states ((k : Int) - 1) s = F := ⟨_, rfl⟩
        obtain ⟨is, his⟩ : ∃ is, F.isSome = is := ⟨_, rfl⟩
        obtain ⟨u, hu⟩ : ∃ u : Int, (k : Int) - 1 = u := ⟨_, rfl⟩
        have HC : Hid (Calls Try.prog 64 #[.agg #[.int .i64 x.letters, .slice da dn dc, .slice sa sn sc, .int .i64 x.beg, .int .i64 x.fin, .int .i64 x.front, .int .i64 x.back, .bool x.banded, .int .i64 x.lo, .int .i64 x.hi, .slice (some ⟨g1, o1, none⟩) tn tc], .slice va vn vc, .int .i64 (s : Int), .int .i64 u] wr fun e w' => e = .returned (.tuple #[.int .i64 (ecV vs F), .bool is]) ∧ Below wr.heap.size wr w') := by
          have := HE.out wr ((k : Int) - 1) HQ.out.2.low
          rw [hF, his, hu] at this
          exact this
        have HF : Hid (edgeB x.states u s = F ∧ F.isSome = is ∧ u = (k : Int) - 1) := ⟨by rw [← hu]; exact hF, his, hu.symm⟩
        have hu1 : -1 ≤ u := by omega
        have hu2 : u ≤ 9 := by omega
        rw [hu] at hz0 hzd ⊢
        clear hF his hu
        go_wp2_with fail
        refine HC.out.mono ?_
        rintro e w2 ⟨rfl, hb2⟩
        have HB2 : Hid (Rb w #[.int .i64 x.letters, .slice da dn dc, .slice sa sn sc, .int .i64 x.beg, .int .i64 x.fin, .int .i64 x.front, .int .i64 x.back, .bool x.banded, .int .i64 x.lo, .int .i64 x.hi, .slice (some ⟨g1, o1, none⟩) tn tc] w2) := HQ.out.2.next hb2
        clear hb2 HC c0 c1 c2 c3 c4 c5 c6 c7 c8 c9 c10
        by_cases hus : u = s
        · have hue : (u == (s : Int)) = true := by simpa using hus
          have HN : Hid (GI vs x.states s (k + 1) opens many) := HQ.out.1.skip fun e he => by
            have := (oth_iff.1 he).2
            have := HF.out.2.2
            omega
          clear hus HQ
          go_wp2
          go_roundg (gk - 1)
          case measure => omega
          case rel => exact ⟨k + 1, many, opens, by omega, by rw [HF.out.2.2]; go_num, rfl, rfl, HN.out, HB2.out⟩
        · have hue : (u == (s : Int)) = false := by simpa using hus
          cases F with
          | none =>
            obtain rfl : false = is := HF.out.2.1
            have HN : Hid (GI vs x.states s (k + 1) opens many) := HQ.out.1.skip fun e he hk => by
              have h1 := (edgeB_iff (u := u) (s := s) HOK.out.1).2 ⟨(oth_iff.1 he).1, by rw [hk]; exact HF.out.2.2.symm⟩
              rw [HF.out.1] at h1
              cases h1
            clear hus HQ
            go_wp2
            go_roundg (gk - 1)
            case measure => omega
            case rel => exact ⟨k + 1, many, opens, by omega, by rw [HF.out.2.2]; go_num, rfl, rfl, HN.out, HB2.out⟩
          | some e =>
            obtain rfl : true = is := HF.out.2.1
            have HM : Hid (e ∈ othersB x.states s ∧ e.1 = (k : Int) - 1) := by
              have h1 := (edgeB_iff (u := u) (s := s) HOK.out.1).1 HF.out.1
              exact ⟨oth_iff.2 ⟨h1.1, by rw [h1.2]; exact hus⟩, by rw [h1.2]; exact HF.out.2.2⟩
            obtain ⟨c, hc⟩ : ∃ c, costN vs e.2 = c := ⟨_, rfl⟩
            have hec : ecV vs (some e) = c := hc
            rw [hec]
            have HCc : Hid (costN vs e.2 = c) := hc
            clear hus hc hec
            by_cases hm0 : many = 0
            · have hmd : decide ((0 : Int) < (many : Int)) = false := by simp; omega
              have HN : Hid (GI vs x.states s (k + 1) c (many + 1)) := by
                rw [← HCc.out]
                exact HQ.out.1.take HOK.out.1 HM.out.1 HM.out.2 (.inl hm0)
              subst hm0
              clear HQ hmd
              go_wp2
              go_roundg (gk - 1)
              case measure => omega
              case rel => exact ⟨k + 1, 0 + 1, c, by omega, by rw [HF.out.2.2]; go_num, rfl, by go_num, HN.out, HB2.out⟩
            · have hmd : decide ((0 : Int) < (many : Int)) = true := by simp; omega
              by_cases hco : c = opens
              · have hce : (c != opens) = false := by simpa using hco
                have HN : Hid (GI vs x.states s (k + 1) c (many + 1)) := by
                  rw [← HCc.out]
                  exact HQ.out.1.take HOK.out.1 HM.out.1 HM.out.2 (.inr (by rw [HCc.out]; exact hco))
                clear HQ hco
                go_wp2
                go_roundg (gk - 1)
                case measure => omega
                case rel => exact ⟨k + 1, many + 1, c, by omega, by rw [HF.out.2.2]; go_num, rfl, by go_num, HN.out, HB2.out⟩
              · have hce : (c != opens) = true := by simpa using hco
                have HN : Hid (G = none) := by
                  show _ = _
                  rw [← HG.out]
                  obtain ⟨z, h1, h2, h3⟩ := HQ.out.1.some' (by omega)
                  exact gap_two HM.out.1 h1 (by rw [HCc.out, h3]; exact hco)
                clear HQ hco
                go_wp2
                refine bodyPost_ret (v := .tuple #[.int .i64 0, .int .i64 0, .bool false]) ?_ rfl ?_
                · simp only [results, hres]
                  go_simp
                · exact ⟨0, 0, by rw [HN.out]; rfl, (fun q hq => by rw [HN.out] at hq; cases hq), HB2.out.low⟩
      · have hz0 : decide ((k : Int) - 1 < (tn : Int)) = false := by simp; omega
        have HF : Hid (∀ e ∈ othersB x.states s, e.1 < (k : Int) - 1) := fun e he => by
          have h1 := ((sok_rise HOK.out.1 s).1 e (oth_iff.1 he).1).2
          rw [HOK.out.2.1] at h1
          omega
        cases own with
        | false =>
          have HN : Hid (G = none) := by
            show _ = _
            rw [← HG.out]
            refine gap_none ?_
            rw [HEs.out]
            have := HOw.out
            cases E with
            | none => rfl
            | some e => cases this
          go_wp2
          refine bodyPost_ret (v := .tuple #[.int .i64 opens, .int .i64 (ecV vs E), .bool false]) ?_ rfl ?_
          · simp only [results, hres]
            go_simp
          · exact ⟨opens, ecV vs E, by rw [HN.out]; rfl, (fun q hq => by rw [HN.out] at hq; cases hq), HQ.out.2.low⟩
        | true =>
          by_cases hm0 : many = 0
          · have hmd : decide ((0 : Int) < (many : Int)) = false := by simp; omega
            have HN : Hid (G = none) := by
              show _ = _
              rw [← HG.out]
              refine gap_few ?_
              cases ho : othersB x.states s with
              | nil => rfl
              | cons z r =>
                have hz : z ∈ othersB x.states s := by rw [ho]; simp
                exact absurd (HF.out z hz) (HQ.out.1.zero hm0 z hz)
            subst hm0
            clear hmd
            go_wp2
            refine bodyPost_ret (v := .tuple #[.int .i64 opens, .int .i64 (ecV vs E), .bool false]) ?_ rfl ?_
            · simp only [results, hres]
              go_simp
            · exact ⟨opens, ecV vs E, by rw [HN.out]; rfl, (fun q hq => by rw [HN.out] at hq; cases hq), HQ.out.2.low⟩
          · have hmd : decide ((0 : Int) < (many : Int)) = true := by simp; omega
            have HN : Hid (G = some (opens, ecV vs E)) := by
              show _ = _
              rw [← HG.out]
              obtain ⟨z, h1, h2, h3⟩ := HQ.out.1.some' (by omega)
              have hE := HEs.out
              have how := HOw.out
              cases E with
              | none => cases how
              | some ow => exact gap_all hE HK1.out h1 fun e he => HQ.out.1.same e he (HF.out e he)
            go_wp2
            refine bodyPost_ret (v := .tuple #[.int .i64 opens, .int .i64 (ecV vs E), .bool true]) ?_ rfl ?_
            · simp only [results, hres]
              go_simp
              omega
            · exact ⟨opens, ecV vs E, by rw [HN.out]; rfl, (fun q hq => by rw [HN.out] at hq; cases hq; rfl), HQ.out.2.low⟩
end Go.Proofs.Ytolehoibpnenlaa
