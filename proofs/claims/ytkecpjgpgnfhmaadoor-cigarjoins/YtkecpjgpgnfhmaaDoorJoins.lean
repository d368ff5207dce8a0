/-
  CigarJoins is proved for every two texts: the runs of two rows of columns, one behind the other, are those of both, the last one of the first and the first one of the second as one if they have one Op. No condition; the tables that the standard library reads are tied to the program's text.
-/
import Derived.Test.YtkecpjgpgnfhmaaDoorRows
import Derived.Test.YtkecpjgpgnfhmaaDoorCards
import Derived.Test.YtkecpjgpgnfhmaaDoorTie
import Derived.Test.YtkecpjgpgnfhmaaDoorAwake
import Derived.Test.YtkecpjgpgnfhmaaDoorSame
import Derived.Test.YtkecpjgpgnfhmaaDoorOver
import Derived.Test.YtkecpjgpgnfhmaaDoorBackPlain
import Derived.Laws.AppendOwnNone
import Derived.Deep.DeepCutAuto
import Derived.BigRegion
namespace Go.Proofs.YtkecpjgpgnfhmaaDoor
open Go.RowKit

theorem of_fits (s : List UInt8) : ((ofA s).1.length ≤ 131072) ∧ ∀ r ∈ (ofA s).1, 1 ≤ r.2 ∧ r.2 ≤ 131072 := by
  unfold ofA
  split
  · exact ⟨by simp, fun _ h => by cases h⟩
  · split
    · have := runs_ok s
      exact ⟨Nat.le_trans this.few (by omega), fun r hr => by have := this.lens r hr; omega⟩
    · exact ⟨by simp, fun _ h => by cases h⟩
theorem cat_list (a b : ByteArray) : (a ++ b).data.toList = a.data.toList ++ b.data.toList := by simp
theorem row_ones (l : List Rn) : ∀ v ∈ rowCells l, v.oneCell' = true := by
  intro u hu
  unfold rowCells at hu
  obtain ⟨q, _, hq⟩ := List.mem_flatMap.1 hu
  exact rn_oneCell q u hq
theorem joinFirst_fits {L : List Rn} {m : Rn} (hL : ∀ r ∈ L, 1 ≤ r.2 ∧ r.2 ≤ 131072) (hm : 1 ≤ m.2 ∧ m.2 ≤ 131072) : ∀ r ∈ joinFirst L m, 1 ≤ r.2 ∧ r.2 ≤ 262144 := by
  rcases List.eq_nil_or_concat L with rfl | ⟨l, r, rfl⟩
  · intro x hx; simp [joinFirst] at hx; subst hx; omega
  · rw [List.concat_eq_append] at *
    have hr := hL r (by simp)
    have hl : ∀ x ∈ l, 1 ≤ x.2 ∧ x.2 ≤ 262144 := fun x hx => by have := hL x (by simp [hx]); omega
    rw [joinFirst_snoc]
    intro x hx
    split at hx
    · simp at hx
      rcases hx with hx | rfl
      · exact hl x hx
      · simp; omega
    · simp at hx
      rcases hx with hx | rfl | rfl
      · exact hl x hx
      · omega
      · omega
theorem joinFirst_length (L : List Rn) (m : Rn) : (joinFirst L m).length ≤ L.length + 1 := by
  rcases List.eq_nil_or_concat L with rfl | ⟨l, r, rfl⟩
  · simp [joinFirst]
  · rw [List.concat_eq_append, joinFirst_snoc]; split <;> simp
theorem joinR_fits {L M : List Rn} (hL : ∀ r ∈ L, 1 ≤ r.2 ∧ r.2 ≤ 131072) (hM : ∀ r ∈ M, 1 ≤ r.2 ∧ r.2 ≤ 131072) : ∀ r ∈ joinR L M, 1 ≤ r.2 ∧ r.2 ≤ 262144 := by
  cases M with
  | nil => intro r hr; have := hL r hr; omega
  | cons m ms =>
    intro r hr
    rcases List.mem_append.1 hr with hr | hr
    · exact joinFirst_fits hL (hM m (by simp)) r hr
    · have := hM r (by simp [hr]); omega
theorem joinR_length (L M : List Rn) : (joinR L M).length ≤ L.length + M.length := by
  cases M with
  | nil => simp [joinR]
  | cons m ms => have := joinFirst_length L m; simp only [joinR, List.length_append, List.length_cons]; omega
theorem joinR_one (L : List Rn) (M : List Rn) (m : Rn) (h : M[0]? = some m) : joinR L (M.take (0 + 1)) = joinFirst L m := by
  cases M with
  | nil => simp at h
  | cons x xs => simp at h; subst h; simp [joinR]

/-- A row of runs that is the statement's own, in a world that has grown since. -/
def RowAt (B : Nat) (l : List Rn) (v : Value) (w w' : World) : Prop := w'.ownsRow B 29 2 v l.length (rowCells l) ∧ Below B w w'
theorem RowAt.row {B : Nat} {l : List Rn} {v : Value} {w w' : World} {n : Nat} (h : RowAt B l v w w') (hn : l.length = n) : w'.ownsRow B 29 2 v n (rowCells l) := by subst hn; exact h.1

set_option maxRecDepth 100000 in
set_option maxHeartbeats 600000 in
theorem joins_walk (a b : ByteArray) (w : World) (htab : TabOk w) (ha : a.size ≤ maxLen) (hb : b.size ≤ maxLen) :
    Calls Tryd.prog 7 #[.string a, .string b] w fun e w' => e = .returned (.bool true) ∧ Below w.heap.size w w' := by
  have ham := ha
  have hbm := hb
  unfold maxLen at ham hbm
  by_cases hba : 1073741823 < a.size
  · have hd : decide ((1073741823 : Int) < (a.size : Int)) = true := by simp; omega
    go_enter Tryd.func7, Tryd.ntmps7
    go_wp2
    go_ret
    exact ⟨rfl, Below.refl _ _⟩
  have hd1 : decide ((1073741823 : Int) < (a.size : Int)) = false := by simp; omega
  by_cases hbb : 1073741823 < b.size
  · have hd : decide ((1073741823 : Int) < (b.size : Int)) = true := by simp; omega
    go_enter Tryd.func7, Tryd.ntmps7
    go_wp2
    go_ret
    exact ⟨rfl, Below.refl _ _⟩
  have hd2 : decide ((1073741823 : Int) < (b.size : Int)) = false := by simp; omega
  have has : a.size ≤ 1073741823 := by omega
  have hbs : b.size ≤ 1073741823 := by omega
  have hcat : ∀ W, (Op.stringOp .add a b).run Tryd.prog W = .ok (.string (a ++ b)) W := fun W => run_string_add_sum W _ _ (by omega)
  have HOa : Hid (∀ w, Calls Tryd.prog 9 #[.string a] w fun e w' => RunsPost (ofA a.data.toList) w e w') := fun w => of_calls a w ha
  have HOb : Hid (∀ w, Calls Tryd.prog 9 #[.string b] w fun e w' => RunsPost (ofA b.data.toList) w e w') := fun w => of_calls b w hb
  have HOc : Hid (∀ w, Calls Tryd.prog 9 #[.string (a ++ b)] w fun e w' => RunsPost (ofA (a.data.toList ++ b.data.toList)) w e w') := fun w => by
    have := of_calls (a ++ b) w (by rw [ByteArray.size_append]; unfold maxLen; omega)
    rwa [cat_list] at this
  have hfa := of_fits a.data.toList
  have hfb := of_fits b.data.toList
  have HLong : Hid (131072 < a.size + b.size → ofA (a.data.toList ++ b.data.toList) = ([], 2)) := fun h => of_long (by rw [size_toList, size_toList]; exact h)
  have HJoin : Hid (a.size + b.size ≤ 131072 → ofA (a.data.toList ++ b.data.toList) = if (ofA a.data.toList).2 = 0 ∧ (ofA b.data.toList).2 = 0 then (joinR (ofA a.data.toList).1 (ofA b.data.toList).1, 0) else ([], 40)) := fun h => of_join (by rw [size_toList, size_toList]; exact h)
  clear ha hb
  go_enter Tryd.func7, Tryd.ntmps7
  go_wp2_with fail
  refine (awake_calls w htab).mono ?_
  rintro e w1 ⟨rfl, hb1⟩
  have HB1 : Hid (Below w.heap.size w w1) := hb1
  clear hb1 htab
  go_wp2_with fail
  refine (HOa.out _).mono ?_
  rintro e w2 ⟨lv, rfl, hlo, hb2⟩
  generalize ofA a.data.toList = A1 at *
  obtain ⟨L, z1⟩ := A1
  simp only at hlo hfa HJoin
  have HB2 : Hid (Below w.heap.size w w2) := HB1.out.trans (hb2.mono HB1.out.size)
  have HLO2 : Hid (w2.ownsRow w1.heap.size 29 2 lv L.length (rowCells L)) := hlo
  clear hlo hb2 HOa
  go_wp2_with fail
  refine (HOb.out _).mono ?_
  rintro e w3 ⟨mv, rfl, hmo, hb3⟩
  generalize ofA b.data.toList = A2 at *
  obtain ⟨M, z2⟩ := A2
  simp only at hmo hfb HJoin
  have HB3 : Hid (Below w.heap.size w w3) := HB2.out.trans (hb3.mono HB2.out.size)
  have HLO3 : Hid (w3.ownsRow w1.heap.size 29 2 lv L.length (rowCells L)) := owned_below HLO2.out hb3
  have HMO3 : Hid (w3.ownsRow w2.heap.size 29 2 mv M.length (rowCells M)) := hmo
  clear hmo hb3 HOb HLO2
  go_wp2_with fail
  refine (HOc.out _).mono ?_
  rintro e w4 ⟨nv, rfl, hno, hb4⟩
  generalize ofA (a.data.toList ++ b.data.toList) = A3 at *
  obtain ⟨N, z3⟩ := A3
  simp only at hno
  have HB4 : Hid (Below w.heap.size w w4) := HB3.out.trans (hb4.mono HB3.out.size)
  have HLO4 : Hid (w4.ownsRow w1.heap.size 29 2 lv L.length (rowCells L)) := owned_below HLO3.out hb4
  have HMO4 : Hid (w4.ownsRow w2.heap.size 29 2 mv M.length (rowCells M)) := owned_below HMO3.out hb4
  have HNO4 : Hid (w4.ownsRow w3.heap.size 29 2 nv N.length (rowCells N)) := hno
  clear hno hb4 HOc HLO3 HMO3 hcat HB1 HB2 HB3
  by_cases hlong : 131072 < a.size + b.size
  · have hd3 : decide ((131072 : Int) < (a.size : Int) + (b.size : Int)) = true := by simp; omega
    have h := HLong.out hlong
    simp only [Prod.mk.injEq] at h
    obtain ⟨rfl, rfl⟩ := h
    clear HJoin HLong
    go_wp2
    go_ret
    exact ⟨rfl, HB4.out⟩
  have hd3 : decide ((131072 : Int) < (a.size : Int) + (b.size : Int)) = false := by simp; omega
  have hj := HJoin.out (by omega)
  clear HJoin HLong
  obtain ⟨nao, ncap, rfl⟩ := owned_shape HNO4.out
  by_cases hz1 : z1 = 0
  · by_cases hz2 : z2 = 0
    · rw [if_pos ⟨hz1, hz2⟩] at hj
      subst hz1
      subst hz2
      simp only [Prod.mk.injEq] at hj
      obtain ⟨hN, rfl⟩ := hj
      have HN : Hid (N = joinR L M) := hN
      obtain ⟨lao, lcap, rfl⟩ := owned_shape HLO4.out
      obtain ⟨mao, mcap, rfl⟩ := owned_shape HMO4.out
      obtain ⟨i0, hi, hz0, hzz1, hzz2⟩ := info_parts info29
      have hl0 := hfa.1
      have hm0 := hfb.1
      have HFL : Hid (∀ r ∈ L, 1 ≤ r.2 ∧ r.2 ≤ 131072) := hfa.2
      have HFM : Hid (∀ r ∈ M, 1 ≤ r.2 ∧ r.2 ≤ 131072) := hfb.2
      clear hN hfa hfb
      go_upto_region 12 with (fail)
      go_cut [12] (fun v wc => RowAt w4.heap.size L v w4 wc)
      case first =>
        cases lao with
        | none =>
          have hL : L.length = 0 ∧ lcap = 0 := by
            rcases HLO4.out.2 with ⟨hv, hn⟩ | ⟨g, cap', cur, hv, _⟩
            · simp at hv; exact ⟨by rw [hv.1]; rfl, hv.2⟩
            · simp at hv
          obtain ⟨hL0, rfl⟩ := hL
          have hLn : L = [] := List.eq_nil_of_length_eq_zero hL0
          subst hLn
          go_wp2_with (at_builtin; go_loud (refine wpList_append_own_none rfl _ _ 23 rfl w4.heap.size 29 i0 2 Tryd.underlying23 hi (.slice none 0 0) 0 [] rfl (World.ownsRow_nil _ _ _ _) rfl ?_))
          go_wp2
          go_meet
          exact ⟨World.ownsRow_nil _ _ _ _, Below.refl _ _⟩
        | some ad =>
          obtain ⟨g, hg⟩ : ∃ g, ad = ⟨g, 0, none⟩ := by
            rcases HLO4.out.2 with ⟨hv, hn⟩ | ⟨g, cap', cur, hv, _⟩
            · simp at hv
            · simp at hv; exact ⟨g, hv.1⟩
          subst hg
          have HSrc : Hid (∀ j u, (rowCells L)[j]? = some u → w4.cell? ((⟨g, 0, none⟩ : Addr).add j) = some u) := fun j u hj => by
            rw [Go.WideShapes.add_plain, Nat.zero_add]
            exact (owned_cells HLO4.out j u hj).1
          go_wp2_with (at_builtin; go_loud (refine wpList_append_own _ rfl _ _ 23 rfl w4.heap.size 29 i0 (.agg #[.int .u8 0, .int .i64 0]) 2 16 Tryd.underlying23 hi hz0 hzz1 hzz2 rfl (by decide) (.slice none 0 0) 0 [] rfl (World.ownsRow_nil _ _ _ _) ⟨g, 0, none⟩ L.length lcap (rowCells L) rfl (rowCells_length L) HSrc.out (row_ones L) ?c3 ?c4 ?c5 ?_))
          case c3 => unfold maxLen; omega
          case c4 => omega
          case c5 => exact Nat.le_refl _
          intro v' w5 hown' hgrow' _
          go_wp2
          go_meet
          exact ⟨by simpa using hown', (Below.refl _ _).grown hgrow' (Nat.le_refl _) (fun k hk => by cases hk)⟩
      case rest =>
        obtain ⟨hwo, hwb⟩ := hcut
        have HMB : Hid (∀ W, Below w4.heap.size w4 W → W.ownsRow w2.heap.size 29 2 (.slice mao M.length mcap) M.length (rowCells M)) := fun W hW => owned_below HMO4.out hW
        have HNB : Hid (∀ W, Below w4.heap.size w4 W → W.ownsRow w3.heap.size 29 2 (.slice nao N.length ncap) N.length (rowCells N)) := fun W hW => owned_below HNO4.out hW
        have HWC : Hid (RowAt w4.heap.size L u12 w4 wc) := ⟨hwo, hwb⟩
        clear hwo hwb HLO4 HMO4 HNO4
        have hsw : w.heap.size ≤ w4.heap.size := HB4.out.size
        generalize hmn : M.length = mn at *
        have HMn : Hid (M.length = mn) := hmn
        clear hmn
        go_wp2_with fail
        go_loopw [12, 13] (fun v iv wq => ∃ i : Nat, i ≤ mn ∧ iv = .int .i64 i ∧ RowAt w4.heap.size (joinR L (M.take i)) v w4 wq) (fun _ iv _ => mn - (intOf iv).toNat)
        case atStart => exact ⟨0, Nat.zero_le _, rfl, HWC.out⟩
        case round =>
          obtain ⟨i, him, rfl, hrow⟩ := hrel
          obtain ⟨jao, jcap, rfl⟩ := owned_shape hrow.1
          have HJ : Hid (RowAt w4.heap.size (joinR L (M.take i)) (.slice jao (joinR L (M.take i)).length jcap) w4 wr) := hrow
          have hs4 : w4.heap.size ≤ wr.heap.size := hrow.2.size
          have hjl := joinR_length L (M.take i)
          have htl : (M.take i).length ≤ i := List.length_take_le _ _
          clear hrow HWC
          by_cases hlt : i < mn
          · have hdk : decide ((i : Int) < (mn : Int)) = true := by simp; omega
            have hmo := HMB.out wr HJ.out.2
            obtain ⟨gm, cm, hvm, _⟩ := owned_some hmo (by omega)
            simp only [Value.slice.injEq] at hvm
            obtain ⟨rfl, _, rfl⟩ := hvm
            obtain ⟨m, hm⟩ : ∃ m, M[i]? = some m := ⟨_, List.getElem?_eq_getElem (by rw [HMn.out]; exact hlt)⟩
            obtain ⟨r1, r2⟩ := rowCells_get M i m hm
            have c1 := (owned_cells hmo _ _ r1).1
            have c2 := (owned_cells hmo _ _ r2).1
            have hmf := HFM.out m (List.mem_of_getElem? hm)
            have hu := UInt8.toNat_lt m.1
            have HM : Hid (M[i]? = some m) := hm
            have hmn0 : (0 : Int) < (mn : Int) := by omega
            clear hmo r1 r2 hm
            have hkn : (joinR L (M.take i)).length ≤ 262144 := by omega
            have HD : Hid ((¬ i = 0 ∧ joinR L (M.take (i + 1)) = joinR L (M.take i) ++ [m]) ∨ (i = 0 ∧ joinR L (M.take i) = L ∧ joinR L (M.take (i + 1)) = joinFirst L m)) := by
              rcases Nat.eq_zero_or_pos i with hi0 | hi0
              · exact .inr ⟨hi0, by rw [hi0]; rfl, by rw [hi0] at HM ⊢; exact joinR_one L M m HM.out⟩
              · exact .inl ⟨by omega, joinR_next L M i m hi0 HM.out⟩
            clear HM hjl htl
            generalize joinR L (M.take i) = J at *
            generalize hkk : J.length = kn at *
            have HK : Hid (J.length = kn) := hkk
            clear hkk
            have HC : Hid ((joinR L (M.take (i + 1)) = J ++ [m] ∧ (((i : Int) == 0) = false ∨ (((i : Int) == 0) = true ∧ decide ((0 : Int) < (kn : Int)) = false ∧ decide (0 < kn) = false))) ∨ (i = 0 ∧ ∃ (kk : Nat) (l' : List Rn) (r : Rn), kn = kk + 1 ∧ l'.length = kk ∧ J = l' ++ [r] ∧ r ∈ L ∧ joinR L (M.take (i + 1)) = joinFirst J m)) := by
              rcases HD.out with ⟨hi0, e⟩ | ⟨hi0, e1, e2⟩
              · exact .inl ⟨e, .inl (by rw [beq_eq_false_iff_ne]; omega)⟩
              · rcases List.eq_nil_or_concat J with hJ | ⟨l', r, hJ⟩
                · refine .inl ⟨?_, .inr ⟨by rw [beq_iff_eq]; omega, ?_, ?_⟩⟩
                  · rw [e2, ← e1, hJ]; rfl
                  · have := HK.out; rw [hJ] at this; simp at this; simp; omega
                  · have := HK.out; rw [hJ] at this; simp at this; simp; omega
                · rw [List.concat_eq_append] at hJ
                  refine .inr ⟨hi0, l'.length, l', r, ?_, rfl, hJ, ?_, ?_⟩
                  · rw [← HK.out, hJ]; simp
                  · rw [← e1, hJ]; simp
                  · rw [e2, e1]
            clear HD
            have HApp : Hid (∀ (W : World), RowAt w4.heap.size J (.slice jao kn jcap) w4 W → joinR L (M.take (i + 1)) = J ++ [m] → ∀ (v' : Value) (w3' : World) (o : Obj), w3'.ownsRow w4.heap.size 29 2 v' (kn + 1) (rowCells J ++ rnCells m) → (W.alloc o).grownBy w3' (Value.slice jao kn jcap).ownBlock → RowAt w4.heap.size (joinR L (M.take (i + 1))) v' w4 w3') := by
              intro W hW e v' w3' o ho hg
              refine ⟨?_, hW.2.trans (below_append hW.1 hW.2.size hg)⟩
              rw [e, rowCells_snoc, List.length_append, HK.out]
              exact ho
            have HQ : Hid (∀ n, RowAt w4.heap.size J (.slice jao kn jcap) w4 (wr.drewN n) ∧ (wr.drewN n).cell? ⟨gm, i * 2, none⟩ = some (.int .u8 (m.1.toNat : Int)) ∧ (wr.drewN n).cell? ⟨gm, i * 2 + 1, none⟩ = some (.int .i64 m.2) ∧ w4.heap.size ≤ (wr.drewN n).heap.size) := fun n => by
              have hbd : Below wr.heap.size wr (wr.drewN n) := below_drewN (Below.refl _ _) n
              refine ⟨⟨owned_below HJ.out.1 hbd, below_drewN HJ.out.2 n⟩, ?_, ?_, Nat.le_trans hs4 hbd.size⟩
              · rw [hbd.cell (World.block_lt_of_cell? wr _ c1)]; exact c1
              · rw [hbd.cell (World.block_lt_of_cell? wr _ c2)]; exact c2
            rcases HC.out with ⟨e, hD⟩ | ⟨hi0, kk, l', r, hkk, hlk, hJ, hrL, e⟩
            · have HE : Hid (joinR L (M.take (i + 1)) = J ++ [m]) := e
              clear HC e
              rcases hD with h1 | ⟨h1, h2, h3⟩ <;> (
                go_wp2_with fail
                go_quiet (fail)
                obtain ⟨hJq, c1q, c2q, hsq⟩ := HQ.out nq
                have HJq : Hid (RowAt w4.heap.size J (.slice jao kn jcap) w4 (wr.drewN nq)) := hJq
                clear hJq HQ c1 c2 HJ
                generalize wr.drewN nq = wz at *
                go_wp2_with (at_builtin; go_loud (refine wpList_append_own _ rfl _ _ 23 rfl w4.heap.size 29 i0 (.agg #[.int .u8 0, .int .i64 0]) 2 16 Tryd.underlying23 hi hz0 hzz1 hzz2 rfl (by decide) (.slice jao kn jcap) kn (rowCells J) rfl ((HJq.out.row HK.out).alloc _) ⟨_, 0, none⟩ 1 1 (rnCells m) rfl rfl (cell_two_new _ _ _ _) (rn_oneCell _) ?c3 ?c4 ?c5 ?_))
                case c3 => unfold maxLen; omega
                case c4 => omega
                case c5 => simp; omega
                intro v' w5 hown' hgrow' _
                have HR5 : Hid (RowAt w4.heap.size (joinR L (M.take (i + 1))) v' w4 w5) := HApp.out wz HJq.out HE.out v' w5 _ hown' hgrow'
                clear hown' hgrow'
                go_wp2
                go_roundw
                case rel => exact ⟨i + 1, by omega, by go_num, HR5.out⟩
                case measure => simp [intOf]; omega)
            · have HJl : Hid (J = l' ++ [r] ∧ l'.length = kk) := ⟨hJ, hlk⟩
              have hrf := HFL.out r hrL
              have HE : Hid (joinR L (M.take (i + 1)) = joinFirst J m) := e
              have h1 : ((i : Int) == 0) = true := by rw [beq_iff_eq]; omega
              have HI0 : Hid (i = 0) := hi0
              subst hkk
              clear hJ hlk e hrL hi0 HC
              obtain ⟨gj, cj, hvj, hbj, hcj, _⟩ := owned_some (HJ.out.row HK.out) (by omega)
              simp only [Value.slice.injEq] at hvj
              obtain ⟨rfl, _, rfl⟩ := hvj
              have hgr : J[kk]? = some r := by rw [HJl.out.1, ← HJl.out.2]; simp
              obtain ⟨r1, r2⟩ := rowCells_get J kk r hgr
              obtain ⟨d1, f1⟩ := owned_cells (HJ.out.row HK.out) _ _ r1
              obtain ⟨d2, f2⟩ := owned_cells (HJ.out.row HK.out) _ _ r2
              have m1 : wr.cell? ⟨gm, 0, none⟩ = some (.int .u8 (m.1.toNat : Int)) := by have := c1; rw [HI0.out] at this; simpa using this
              have m2 : wr.cell? ⟨gm, 1, none⟩ = some (.int .i64 m.2) := by have := c2; rw [HI0.out] at this; simpa using this
              have hkd : decide ((0 : Int) < (kk : Int) + 1) = true := by simp <;> omega
              have hk2 : (kk : Int) < (kk : Int) + 1 := by omega
              have hwk : IntKind.i64.wrap (kk : Int) = (kk : Int) := by rw [IntKind.wrap_i64]; omega
              have hur := UInt8.toNat_lt r.1
              have HGr : Hid (J[kk]? = some r) := hgr
              clear r1 r2 hgr
              by_cases hop : r.1 = m.1
              · have hdq : ((r.1.toNat : Int) == (m.1.toNat : Int)) = true := by rw [hop]; simp
                have HE2 : Hid (joinR L (M.take (i + 1)) = J.set kk (r.1, r.2 + m.2)) := by
                  show _ = _
                  rw [HE.out, HJl.out.1, joinFirst_snoc, if_pos hop, ← HJl.out.2]; simp
                have HSt : Hid (∀ n, RowAt w4.heap.size (joinR L (M.take (i + 1))) (.slice (some ⟨gj, 0, none⟩) (kk + 1) jcap) w4 ((wr.setCell ⟨gj, kk * 2 + 1, none⟩ (.int .i64 (r.2 + m.2))).drewN n)) := fun n => by
                  have h := owned_set (HJ.out.row HK.out) (kk * 2 + 1) (.int .i64 (r.2 + m.2))
                  rw [rowCells_set _ _ _ _ HGr.out] at h
                  have hbd : Below (wr.setCell ⟨gj, kk * 2 + 1, none⟩ (.int .i64 (r.2 + m.2))).heap.size (wr.setCell ⟨gj, kk * 2 + 1, none⟩ (.int .i64 (r.2 + m.2))) ((wr.setCell ⟨gj, kk * 2 + 1, none⟩ (.int .i64 (r.2 + m.2))).drewN n) := below_drewN (Below.refl _ _) n
                  refine ⟨?_, below_drewN (HJ.out.2.setCell (p := (⟨gj, kk * 2 + 1, none⟩ : Addr)) hbj _) n⟩
                  rw [HE2.out, List.length_set, HK.out]
                  exact owned_below h hbd
                clear HE HApp HQ HGr hop
                go_wp2_with fail
                go_quiet (fail)
                go_wp2_with fail
                go_region
                all_goals go_wp2
                all_goals go_roundw
                case rel => exact ⟨i + 1, by omega, by go_num, HSt.out (nq + 1)⟩
                case measure => simp [intOf]; omega
              · have hdq : ((r.1.toNat : Int) == (m.1.toNat : Int)) = false := nat_byte hop
                have HE2 : Hid (joinR L (M.take (i + 1)) = J ++ [m]) := by
                  show _ = _
                  rw [HE.out, HJl.out.1, joinFirst_snoc, if_neg hop]
                clear HE HGr hop
                go_wp2_with fail
                go_quiet (fail)
                obtain ⟨hJq, c1q, c2q, hsq⟩ := HQ.out nq
                have HJq : Hid (RowAt w4.heap.size J (.slice (some ⟨gj, 0, none⟩) (kk + 1) jcap) w4 (wr.drewN nq)) := hJq
                clear hJq HQ c1 c2 HJ d1 d2 f1 f2 m1 m2
                generalize wr.drewN nq = wz at *
                go_wp2_with (at_builtin; go_loud (refine wpList_append_own _ rfl _ _ 23 rfl w4.heap.size 29 i0 (.agg #[.int .u8 0, .int .i64 0]) 2 16 Tryd.underlying23 hi hz0 hzz1 hzz2 rfl (by decide) (.slice (some ⟨gj, 0, none⟩) (kk + 1) jcap) (kk + 1) (rowCells J) rfl ((HJq.out.row HK.out).alloc _) ⟨_, 0, none⟩ 1 1 (rnCells m) rfl rfl (cell_two_new _ _ _ _) (rn_oneCell _) ?c3 ?c4 ?c5 ?_))
                case c3 => unfold maxLen; omega
                case c4 => omega
                case c5 => simp; omega
                intro v' w5 hown' hgrow' _
                have HR5 : Hid (RowAt w4.heap.size (joinR L (M.take (i + 1))) v' w4 w5) := HApp.out wz HJq.out HE2.out v' w5 _ hown' hgrow'
                clear hown' hgrow'
                go_wp2
                go_roundw
                case rel => exact ⟨i + 1, by omega, by go_num, HR5.out⟩
                case measure => simp [intOf]; omega
          · have hdk : decide ((i : Int) < (mn : Int)) = false := by simp; omega
            have HTk : Hid (M.take i = M) := List.take_of_length_le (by rw [HMn.out]; omega)
            have HFJ : Hid (∀ r ∈ joinR L M, fitI r.2) := fun r hr => by have := joinR_fits HFL.out HFM.out r hr; unfold fitI; omega
            have HSame : Hid (Calls Tryd.prog 11 #[.slice nao N.length ncap, .slice jao (joinR L (M.take i)).length jcap] wr fun e w' => e = .returned (.bool true) ∧ ∃ k, w' = wr.drewN k) := by
              have hj := HJ.out.1
              have hn := HNB.out wr HJ.out.2
              rw [HTk.out] at hj ⊢
              have h1 := same_calls nao jao N.length (joinR L M).length ncap jcap N (joinR L M) wr (owned_rns hn (by rw [HN.out]; exact HFJ.out)) (owned_rns hj HFJ.out)
              rw [decide_eq_true HN.out] at h1
              exact h1
            have HBw : Hid (Below w.heap.size w wr) := HB4.out.trans (HJ.out.2.mono hsw)
            generalize (joinR L (M.take i)).length = jn at *
            generalize N.length = nn at *
            clear HJ HMB HNB hjl htl
            go_wp2_with fail
            refine HSame.out.mono ?_
            rintro e w6 ⟨rfl, kd, hw6⟩
            have HB6 : Hid (Below w.heap.size w w6) := by rw [hw6]; exact below_drewN HBw.out kd
            clear hw6 HSame HBw
            go_wp2
            go_ret
            exact ⟨rfl, HB6.out⟩
    · rw [if_neg (fun h => hz2 h.2)] at hj
      simp only [Prod.mk.injEq] at hj
      obtain ⟨rfl, rfl⟩ := hj
      have hb1 : (z1 != 0) = false := by rw [hz1]; rfl
      have hb2 : (z2 != 0) = true := by rw [bne_iff_ne]; exact hz2
      clear hz1 hz2
      go_wp2
      go_ret
      exact ⟨rfl, HB4.out⟩
  · rw [if_neg (fun h => hz1 h.1)] at hj
    simp only [Prod.mk.injEq] at hj
    obtain ⟨rfl, rfl⟩ := hj
    have hb1 : (z1 != 0) = true := by rw [bne_iff_ne]; exact hz1
    clear hz1
    go_wp2
    go_ret
    exact ⟨rfl, HB4.out⟩

namespace cigarJoins
open Go.ChangeShapes Go.WideShapes Go.ChangeAt Go.RowKit
open Go.ChangeMaps (open_string shut_string)

set_option maxRecDepth 100000 in
theorem lifted (os : Os) (started : os.Started) (H : Type) (enc : TypeId × Value → H) :
    ReturnsInHanded {} Tryd.checked os 7 .any (fun w args => (Rows.cigarJoinsSpec.pre enc Tryd.prog Tryd.f7 [] false w args ∧ laidMetH Tryd.prog theLaid w) ∧ sizedMet enc Tryd.prog Tryd.f7 (OpenSpec.ofChange Rows.cigarJoinsSpec) false w args)
      (Rows.cigarJoinsSpec.post enc Tryd.prog Tryd.f7 false true false false) := by
  refine returnsInHanded_of_change_and (C := Tryd.checked) (X := fun w _ => laidMetH Tryd.prog theLaid w) (fun _ _ _ hh h => h.of_heap hh) own started (by kernel_rfl) Tryd.func7
    (ChangeSpec.witness_shaped (enc := enc) (C := Tryd.checked) (os := os) (X := fun w _ => laidMetH Tryd.prog theLaid w) false (World.doorLaid Tryd.prog 400 os) #[.string ByteArray.empty, .string ByteArray.empty] 8 rfl (World.shaped_of_RefB (by kernel_rfl) (by kernel_rfl)) (by kernel_rfl) (by kernel_rfl) (by kernel_rfl) (door_met os _)) ?_
  intro W base args ds gs before hval0 hW _ _ hL _
  have hval : ∀ (j : Nat) t v, Tryd.f7.params[j]? = some t → args[j]? = some v → Value.okWide Tryd.prog W .any base t v := hval0
  have hW' := hW
  obtain ⟨p, q, hA0, hV, rfl, hfz, hnd⟩ := hW
  have hA : DataW.TrodAll enc Tryd.prog W 0 (fun _ => true) true Tryd.f7.params.toList args.toList ds p := hA0
  rw [Tryd.params7] at hA hval
  obtain ⟨v0, vs0, d0, ds0, p0, q0, hargs, rfl, rfl, h0, r0⟩ := trodAll_cons hA
  obtain ⟨v1, vs1, d1, ds1, p1, q1, rfl, rfl, rfl, h1, r1⟩ := trodAll_cons r0
  obtain ⟨rfl, rfl, rfl⟩ := trodAll_nil r1
  obtain rfl : args = #[v0, v1] := by cases args; simp_all
  obtain ⟨rfl, rfl⟩ := trodVars_none hV
  obtain ⟨a0, rfl, rfl, rfl, w0⟩ := open_string Tryd.underlying9 (hval 0 9 v0 rfl rfl) h0
  obtain ⟨a1, rfl, rfl, rfl, w1⟩ := open_string Tryd.underlying9 (hval 1 9 v1 rfl rfl) h1
  clear hA0 hval0
  refine (joins_walk a0 a1 W (tab_of_laid hL) w0 w1).mono fun e W' ⟨he, bel⟩ => ?_
  subst he
  exact ⟨_, rfl, _, _, _, [], _, [], hW', trodAll_mk1 (shut_bool Tryd.underlying4 _), (trodAll_cons_mk (shut_string Tryd.underlying9 w0) (trodAll_cons_mk (shut_string Tryd.underlying9 w1) trodAll_mk0)), rfl, bel.frame _, fun h => by cases h⟩
end cigarJoins

theorem cigarJoins_holds : Rows.CigarJoinsSaid :=
  OpenClaim.holds_of_wide 7 Tryd.f7 rfl rfl rfl rfl rfl rfl rfl ⟨rfl, rfl, rfl, rfl, rfl⟩ rfl rfl rfl rfl rfl (by kernel_rfl) Tryd.func7 (by kernel_rfl)
    (of_decide_eq_true (by kernel_rfl)) (by unfold Func.isWrapper; first | (rw [if_pos (by decide +kernel)]; kernel_rfl) | (rw [if_neg (by decide +kernel)]; exact ⟨rfl, rfl⟩))
    (fun os started H enc _ => cigarJoins.lifted os started H enc)

theorem cigarJoinsCard_holds : Rows.CigarJoinsCardSaid :=
  Claim7.holds_tied_plain_at .later [] [.data, .data, .data] true (true, "27ffa17bcc795c925a63e409735585b54e98368bad0007acabe989891e486ae0") false
    cigarJoins_holds (fun _ h => by cases h) (by kernel_rfl) (fun _ h => by cases h) cigarJoins_row_tie rfl ⟨rfl, rfl⟩ (by kernel_rfl) rfl
    (fun f fn hf hfn => by
      obtain rfl : f = 7 := Option.some.inj ((show Tryd.prog.funcNamed Rows.cigarJoinsRow.func = some 7 by kernel_rfl).symm.trans hf) |>.symm
      obtain rfl : fn = Tryd.f7 := (Option.some.inj (Tryd.func7.symm.trans hfn)).symm
      exact ⟨by kernel_rfl, fun j t ht => by
        rw [Tryd.params7] at ht
        have hm : t ∈ [9, 9] := by simpa using Array.mem_of_getElem? ht
        have hall : ([9, 9].all fun u => !Tryd.prog.wantsStandIn u) = true := by kernel_rfl
        exact (show Tryd.prog.wantsStandIn t = false by simpa using List.all_eq_true.1 hall t hm)⟩)
    (by kernel_rfl)
end Go.Proofs.YtkecpjgpgnfhmaaDoor
