/-
  The walk of fastq.Parse.
-/
import Derived.Test.YtcpoiaclicmmmaaTake
namespace Go.Proofs.Ytcpoiaclicmmmaa
open Go.RowKit

def ParsePost (text : ByteArray) (w : World) (e : Ending) (w' : World) : Prop :=
  ∃ sv qs, e = .returned (.tuple #[sv, .int .i64 ((parseQ text.data.toList).2.1 : Int), .int .i64 ((parseQ text.data.toList).2.2 : Int)]) ∧ w'.ownsRow w.heap.size 29 4 sv qs.length (rowCells qs) ∧ qs.map Rd.P = (parseQ text.data.toList).1 ∧ Below w.heap.size w w'
theorem parse_post {text : ByteArray} {w w' : World} {l : List Pr} {k n : Nat} {sv : Value} {qs : List Rd} {x y : Int} (h : parseQ text.data.toList = (l, k, n)) (ho : w'.ownsRow w.heap.size 29 4 sv qs.length (rowCells qs)) (hq : qs.map Rd.P = l) (hb : Below w.heap.size w w') (hx : x = k) (hy : y = n) :
    ParsePost text w (.returned (.tuple #[sv, .int .i64 x, .int .i64 y])) w' := by
  subst hx; subst hy
  exact ⟨sv, qs, by rw [h], ho, by rw [h]; exact hq, hb⟩

def restSize (b : Nat) (w : World) : Nat := match w.cell? ⟨b, 0, none⟩ with
  | some (.string s) => s.size
  | _ => 0
theorem Stands.size {B b : Nat} {rest line : ByteArray} {num : Nat} {st : List Pr} {ph : Ph} {w : World} (h : Stands B b rest line num st ph w) : restSize b w = rest.size := by
  obtain ⟨sv, qs, had, q, ti, hr, _⟩ := h
  simp [restSize, hr.cell0]

theorem stands_new (B : Nat) (text : ByteArray) (w : World) (hB : B ≤ w.heap.size) : Stands B w.heap.size text ⟨#[]⟩ 0 [] .p0 (w.alloc (.cells #[.string text, .string ⟨#[]⟩, .int .i64 0, .slice none 0 0, .int .i64 0, .string ⟨#[]⟩, .string ⟨#[]⟩, .string ⟨#[]⟩, .string ⟨#[]⟩, .string ⟨#[]⟩] 45)) :=
  ⟨.slice none 0 0, [], 0, (⟨#[]⟩, ⟨#[]⟩, ⟨#[]⟩, ⟨#[]⟩), ⟨#[]⟩, ⟨hB, by rw [heap_alloc_new]; rfl, World.ownsRow_nil _ _ _ _⟩, rfl, by decide, fun h => (by cases h), rfl⟩

set_option maxHeartbeats 2000000 in
theorem parse_calls (text : ByteArray) (w : World) : Calls Try.prog 8 #[.string text] w fun e w' => ParsePost text w e w' := by
  by_cases hbig : 1048576 < text.size
  · have HE : Hid (ParsePost text w (.returned (.tuple #[.slice none 0 0, .int .i64 0, .int .i64 2])) w) :=
      parse_post (l := []) (k := 0) (n := 2) (qs := []) (by unfold parseQ; rw [size_toList, if_pos hbig]) (World.ownsRow_nil _ _ _ _) rfl (Below.refl _ _) rfl rfl
    have hd : decide ((1048576 : Int) < text.size) = true := by simp; omega
    go_enter Try.func8, Try.ntmps8
    go_wp2
    go_ret3
    exact HE.out
  · have hd : decide ((1048576 : Int) < text.size) = false := by simp; omega
    have HP : Hid (parseQ text.data.toList = goQ [] .p0 0 (linesB text.data.toList)) := by
      show parseQ _ = _
      unfold parseQ; rw [size_toList, if_neg hbig]
    go_enter Try.func8, Try.ntmps8
    go_wp2_with fail
    refine (of_calls text w).mono ?_
    rintro e w1 ⟨rfl, hb1⟩
    have HB1 : Hid (Below w.heap.size w w1) := hb1
    have HS1 := stands_new w.heap.size text w1 hb1.size
    have HB2 : Hid (Below w.heap.size w (w1.alloc (.cells #[.string text, .string ⟨#[]⟩, .int .i64 0, .slice none 0 0, .int .i64 0, .string ⟨#[]⟩, .string ⟨#[]⟩, .string ⟨#[]⟩, .string ⟨#[]⟩, .string ⟨#[]⟩] 45))) := hb1.alloc hb1.size _
    have HS2 : Hid (Stands w.heap.size w1.heap.size text ⟨#[]⟩ 0 [] .p0 (w1.alloc (.cells #[.string text, .string ⟨#[]⟩, .int .i64 0, .slice none 0 0, .int .i64 0, .string ⟨#[]⟩, .string ⟨#[]⟩, .string ⟨#[]⟩, .string ⟨#[]⟩, .string ⟨#[]⟩] 45))) := HS1
    clear hb1 HS1
    go_wp2_with fail
    generalize hbw : w1.heap.size = b at *
    generalize w1.alloc (.cells #[.string text, .string ⟨#[]⟩, .int .i64 0, .slice none 0 0, .int .i64 0, .string ⟨#[]⟩, .string ⟨#[]⟩, .string ⟨#[]⟩, .string ⟨#[]⟩, .string ⟨#[]⟩] 45) = w2 at *
    clear hbw HB1
    go_loopw [13] (fun _ wr => ∃ rest line num st ph, Stands w.heap.size b rest line num st ph wr ∧ Below w.heap.size w wr ∧ goQ st ph num (linesB rest.data.toList) = parseQ text.data.toList ∧ num + rest.size ≤ 1048576) (fun _ wr => restSize b wr)
    case atStart => exact ⟨text, ⟨#[]⟩, 0, [], .p0, HS2.out, HB2.out, HP.out.symm, by omega⟩
    case round =>
      obtain ⟨rest, line, num, st, ph, hst, hbel, hgo, hle⟩ := hrel
      have HST : Hid (Stands w.heap.size b rest line num st ph wr) := hst
      have HB : Hid (Below w.heap.size w wr) := hbel
      have HG : Hid (goQ st ph num (linesB rest.data.toList) = parseQ text.data.toList) := hgo
      have HM : Hid (restSize b wr = rest.size) := hst.size
      obtain ⟨sv, qs, had, q, ti, hr, hq, hsl, hin, hph⟩ := hst
      have HR : Hid (RAt w.heap.size b rest line num sv qs had q ti wr) := hr
      have HLK : Hid (qs.map Rd.P = st.reverse ∧ st.length ≤ 256 ∧ (ph.inside = true → st.length < 256) ∧ PhAt ph had q ti) := ⟨hq, hsl, hin, hph⟩
      clear hbel hgo hr hq hsl hin hph HP HS2 HB2
      by_cases h0 : rest.data.toList = []
      · have HN : Hid (Calls Try.prog 17 #[.pointer (some ⟨b, 0, none⟩)] wr fun e w' => e = .returned (.bool false) ∧ w' = wr) := next_none _ b rest line num sv qs had q ti wr HR.out h0
        have HE : Hid (goQ st ph num [] = parseQ text.data.toList) := by
          have := HG.out; rw [h0, linesB_nil] at this; exact this
        have hc4 := HR.out.cell4
        have hc3 := HR.out.cell3
        clear h0 HG HST
        cases hop : ph.inside with
        | true =>
          have hne : had ≠ 0 ∧ had ≤ 3 := by
            have hph := HLK.out.2.2.2
            cases ph using Ph.elim with
            | p0 => cases hop
            | p1 t => have : had = 1 := hph.1; omega
            | p2 t bs => have : had = 2 := hph.1; omega
            | p3 t bs => have : had = 3 := hph.1; omega
          have hd : ((had : Int) == 0) = false := by simp; omega
          have HNu : Hid (Calls Try.prog 20 #[.pointer (some ⟨b, 0, none⟩)] wr fun e w' => e = .returned (.int .i64 num) ∧ w' = wr) := number_calls _ b rest line num sv qs had q ti wr HR.out
          have HE2 : Hid (ParsePost text w (.returned (.tuple #[.slice none 0 0, .int .i64 (num + 1), .int .i64 30])) wr) :=
            parse_post (l := []) (k := num + 1) (n := 30) (qs := []) (by rw [← HE.out]; simp [goQ, hop]) (World.ownsRow_nil _ _ _ _) rfl HB.out rfl rfl
          clear hop HE HR HLK hne
          go_wp2_with (first
            | (go_at_call 17; refine HN.out.mono ?_; rintro e w' ⟨rfl, rfl⟩)
            | (go_at_call 20; refine HNu.out.mono ?_; rintro e w' ⟨rfl, rfl⟩))
          go_ret3
          exact HE2.out
        | false =>
          have hz : had = 0 := by
            have hph := HLK.out.2.2.2
            cases ph using Ph.elim with
            | p0 => exact hph
            | p1 t => cases hop
            | p2 t bs => cases hop
            | p3 t bs => cases hop
          have HE2 : Hid (ParsePost text w (.returned (.tuple #[sv, .int .i64 0, .int .i64 0])) wr) :=
            parse_post (l := st.reverse) (k := 0) (n := 0) (by rw [← HE.out]; simp [goQ, hop]) HR.out.reads HLK.out.1 HB.out rfl rfl
          subst hz
          clear hop HE HR HLK
          go_wp2_with (go_at_call 17; refine HN.out.mono ?_; rintro e w' ⟨rfl, rfl⟩)
          go_ret3
          exact HE2.out
      · have hrl : rest.size ≤ 1048576 := by omega
        have hpos : 0 < rest.size := by
          rw [← size_toList]; exact List.length_pos_iff.2 h0
        have HN : Hid (Calls Try.prog 17 #[.pointer (some ⟨b, 0, none⟩)] wr fun e w' => e = .returned (.bool true) ∧ ∃ r l, r.data.toList = tailB 10 rest.data.toList ∧ l.data.toList = trimB (headB 10 rest.data.toList) ∧ RAt w.heap.size b r l (num + 1) sv qs had q ti w' ∧ Below w.heap.size wr w') := next_calls _ b rest line num sv qs had q ti wr HR.out h0 hrl (by omega)
        have HE : Hid (goQ st ph num (trimB (headB 10 rest.data.toList) :: linesB (tailB 10 rest.data.toList)) = parseQ text.data.toList) := by
          have := HG.out; rw [linesB_next _ h0] at this; exact this
        clear h0 HG HST
        go_wp2_with fail
        refine HN.out.mono ?_
        rintro e w3 ⟨rfl, r, l, hr1, hl1, hr3, hb3⟩
        have HB3 : Hid (Below w.heap.size w w3) := HB.out.trans hb3
        have hrs : r.size < rest.size := by
          have := tailB_length_le 10 rest.data.toList
          rw [← hr1, size_toList, size_toList] at this; omega
        have hls : l.size ≤ 1048576 := by
          have h1 := trimB_length_le (headB 10 rest.data.toList)
          have h2 := headB_length_le 10 rest.data.toList
          rw [← hl1, size_toList] at h1
          rw [size_toList] at h2
          omega
        rw [← hr1, ← hl1] at HE
        have HLi : Hid (Calls Try.prog 19 #[.pointer (some ⟨b, 0, none⟩)] w3 fun e w' => e = .returned (.string l) ∧ w' = w3) := line_calls _ b r l (num + 1) sv qs had q ti w3 hr3
        have HTk : Hid (Calls Try.prog 18 #[.pointer (some ⟨b, 0, none⟩), .string l] w3 fun e w' => StepPost w.heap.size b r l (num + 1) (stepQ st ph l.data.toList) w3 e w') := take_calls _ b r l (num + 1) st ph l w3 ⟨sv, qs, had, q, ti, hr3, HLK.out⟩ hls
        clear hr1 hl1 hr3 hb3 HN HR HB HLK
        go_wp2_with (go_at_call 19; refine HLi.out.mono ?_; rintro e w' ⟨rfl, rfl⟩)
        refine HTk.out.mono ?_
        rintro e w4 hpost
        cases ho : stepQ st ph l.data.toList with
        | none =>
          rw [ho] at hpost
          obtain ⟨hb4, rfl, sv4, qs4, had4, q4, ti4, hr4⟩ := hpost
          have HNu : Hid (Calls Try.prog 20 #[.pointer (some ⟨b, 0, none⟩)] w4 fun e w' => e = .returned (.int .i64 ((num + 1 : Nat) : Int)) ∧ w' = w4) := number_calls _ b r l (num + 1) sv4 qs4 had4 q4 ti4 w4 hr4
          have HE2 : Hid (ParsePost text w (.returned (.tuple #[.slice none 0 0, .int .i64 ((num + 1 : Nat) : Int), .int .i64 30])) w4) :=
            parse_post (l := []) (k := num + 1) (n := 30) (qs := []) (by rw [← HE.out]; simp [goQ, ho]) (World.ownsRow_nil _ _ _ _) rfl (HB3.out.trans hb4) rfl rfl
          clear hb4 hr4 ho HE HLi HTk
          generalize ((num + 1 : Nat) : Int) = z at *
          go_wp2_with (go_at_call 20; refine HNu.out.mono ?_; rintro e w' ⟨rfl, rfl⟩)
          go_ret3
          exact HE2.out
        | some s' =>
          rw [ho] at hpost
          obtain ⟨hb4, rfl, hst4⟩ := hpost
          obtain ⟨st', ph'⟩ := s'
          have HE2 : Hid (goQ st' ph' (num + 1) (linesB r.data.toList) = parseQ text.data.toList) := by
            have := HE.out; simp only [goQ, ho] at this; exact this
          have HS4 : Hid (Stands w.heap.size b r l (num + 1) st' ph' w4) := hst4
          have HB4 : Hid (Below w.heap.size w w4) := HB3.out.trans hb4
          clear hb4 hst4 ho HE HLi HTk
          go_wp2
          go_roundw
          case rel => exact ⟨r, l, num + 1, st', ph', HS4.out, HB4.out, HE2.out, by omega⟩
          case measure => rw [HM.out, HS4.out.size]; exact hrs
end Go.Proofs.Ytcpoiaclicmmmaa
