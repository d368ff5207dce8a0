/-
  The walk of sam's Record.
-/
import Derived.Test.YtdhphipdpjhhbaaGreatDoorRecord
namespace Go.Proofs.YtdhphipdpjhhbaaGreatDoor
open Go.RowKit

theorem zero_post {l : List UInt8} {w W : World} (h : recB l = none) (hb : Below w.heap.size w W) : RecPost (recA l) w (.returned (.tuple #[.agg #[.string ⟨#[]⟩, .bool false, .string ⟨#[]⟩, .int .i64 0, .slice none 0 0, .string ⟨#[]⟩, .string ⟨#[]⟩, .int .i64 0], .int .i64 51])) W := by
  rw [recA_none h]
  exact ⟨RV.mk ⟨#[]⟩ false ⟨#[]⟩ 0 none 0 0 ⟨#[]⟩ ⟨#[]⟩ 0, rfl, rfl, World.ownsRow_nil _ _ _ _, hb⟩
/-- Where Record stands: its answer, the fields, the record that was read. -/
structure RcAt (w : World) (fs rs : Array Value) (g1 g2 : Nat) (v : Value) (l : List Rn) (W : World) : Prop where
  low : Below w.heap.size w W
  ans : W.heap[w.heap.size]? = some (.cells zero8 24 (0, 0))
  fld : W.heap[g1]? = some (.cells fs 57 (0, 0))
  got : W.heap[g2]? = some (.cells rs 24 (0, 0))
  own : W.ownsRow w.heap.size 37 2 v l.length (rowCells l)
theorem RcAt.next {w W W' : World} {fs rs : Array Value} {g1 g2 : Nat} {v : Value} {l : List Rn} (h : RcAt w fs rs g1 g2 v l W) (hb : Below W.heap.size W W') : RcAt w fs rs g1 g2 v l W' :=
  ⟨h.low.trans (hb.mono h.low.size), keepB h.ans hb, keepB h.fld hb, keepB h.got hb, owned_below h.own hb⟩

set_option maxRecDepth 20000 in
set_option maxHeartbeats 4000000 in
theorem record_calls (s : ByteArray) (w : World) (hs : s.size ≤ 1048576) (hstd : Std w) :
    Calls Tryz.prog 15 #[.string s] w fun e w' => RecPost (recA s.data.toList) w e w' := by
  have hres : Tryz.f15.results = #[.cell 2 24, .tmp 3] := by kernel_rfl
  have HStd : Hid (∀ W, Below w.heap.size w W → Std W) := fun W hW => hstd.below hW
  clear hstd
  go_enter Tryz.func15, Tryz.ntmps15
  go_wp2_with fail
  refine (split_line s _ hs (HStd.out _ (below_new _ _))).mono ?_
  rintro e w1 ⟨f, ok, rfl, hok, hfL, hb1⟩
  have hans : w1.heap[w.heap.size]? = some (.cells zero8 24 (0, 0)) := by rw [hb1.block _ (by simp)]; exact heap_alloc_new w _
  have HL1 : Hid (Below w.heap.size w w1) := below_box hb1
  have HA1 : Hid (w1.heap[w.heap.size]? = some (.cells zero8 24 (0, 0))) := hans
  clear hb1
  cases ok with
  | false =>
    have HN : Hid (recB s.data.toList = none) := recB_wrong hok.symm
    obtain ⟨a0, a1, a2, a3, a4, a5, a6, a7, a8, a9, a10, a11⟩ := f
    have a0_ : ∀ o, (w1.alloc o).cell? ⟨w.heap.size, 0, none⟩ = some (.string ⟨#[]⟩) := fun o => cellB (keepB hans (below_new w1 o)) rfl
    have a1_ : ∀ o, (w1.alloc o).cell? ⟨w.heap.size, 1, none⟩ = some (.bool false) := fun o => cellB (keepB hans (below_new w1 o)) rfl
    have a2_ : ∀ o, (w1.alloc o).cell? ⟨w.heap.size, 2, none⟩ = some (.string ⟨#[]⟩) := fun o => cellB (keepB hans (below_new w1 o)) rfl
    have a3_ : ∀ o, (w1.alloc o).cell? ⟨w.heap.size, 3, none⟩ = some (.int .i64 0) := fun o => cellB (keepB hans (below_new w1 o)) rfl
    have a4_ : ∀ o, (w1.alloc o).cell? ⟨w.heap.size, 4, none⟩ = some (.slice none 0 0) := fun o => cellB (keepB hans (below_new w1 o)) rfl
    have a5_ : ∀ o, (w1.alloc o).cell? ⟨w.heap.size, 5, none⟩ = some (.string ⟨#[]⟩) := fun o => cellB (keepB hans (below_new w1 o)) rfl
    have a6_ : ∀ o, (w1.alloc o).cell? ⟨w.heap.size, 6, none⟩ = some (.string ⟨#[]⟩) := fun o => cellB (keepB hans (below_new w1 o)) rfl
    have a7_ : ∀ o, (w1.alloc o).cell? ⟨w.heap.size, 7, none⟩ = some (.int .i64 0) := fun o => cellB (keepB hans (below_new w1 o)) rfl
    have af_ : ∀ o j, (w1.alloc o).frozen? ⟨w.heap.size, j, none⟩ = false := fun o j => freeB (keepB hans (below_new w1 o)) j
    clear hok hfL hans
    go_wp2
    refine bodyPost_ret (v := .tuple #[.agg #[.string ⟨#[]⟩, .bool false, .string ⟨#[]⟩, .int .i64 0, .slice none 0 0, .string ⟨#[]⟩, .string ⟨#[]⟩, .int .i64 0], .int .i64 51]) ?_ rfl (zero_post HN.out ?_)
    · simp only [results, hres]
      go_simp
    · exact below8 (HL1.out.alloc HL1.out.size _) (Nat.le_refl _) _ _ _ _ _ _ _ _
  | true =>
    have HOk : Hid (okF (cuts 9 s.data.toList) = true) := hok.symm
    have HfL : Hid (f.L = padF (cuts 9 s.data.toList)) := hfL rfl
    have HRd : Hid (∀ W, Below w.heap.size w W → Calls Tryz.prog 33 #[f.val] W fun e w' => ReadPost (readV f) W e w') := fun W hW => read_calls f W (fun x hx => by
      rw [HfL.out] at hx
      have hp := cuts_piece 9 _ s.data.toList (Nat.le_refl _)
      rw [size_toList] at hp
      unfold padF at hx
      split at hx
      · rcases List.mem_append.1 hx with hx | hx
        · exact Nat.le_trans (hp x hx) hs
        · simp at hx; subst hx; exact Nat.zero_le _
      · exact Nat.le_trans (hp x hx) hs) (HStd.out W hW)
    have hE : ∀ g : FV, ∀ W, (Op.equalIn 10000 57 g.val f.val).run Tryz.prog W = .ok (decide (g.L = f.L)) W := fun g W => equal_fields g f W
    have HE : Hid (∀ g : FV, ∀ W, (Op.equalIn 10000 57 g.val f.val).run Tryz.prog W = .ok (decide (g.L = f.L)) W) := hE
    clear hok hfL hE
    generalize hfe : f = f' at *
    obtain ⟨a0, a1, a2, a3, a4, a5, a6, a7, a8, a9, a10, a11⟩ := f'
    simp only [FV.val] at HRd HE ⊢
    go_wp2_with fail
    refine (HRd.out _ (HL1.out.alloc HL1.out.size _)).mono ?_
    rintro e w2 ⟨v, ok2, rfl, hok2, hrd, hb2⟩
    have HA2 : Hid (w2.heap[w.heap.size]? = some (.cells zero8 24 (0, 0))) := keepB (keepB HA1.out (below_new w1 _)) hb2
    have HF2 : Hid (w2.heap[w1.heap.size]? = some (.cells #[.string a0, .string a1, .string a2, .string a3, .string a4, .string a5, .string a6, .string a7, .string a8, .string a9, .string a10, .string a11] 57 (0, 0))) := keepB (heap_alloc_new w1 _) hb2
    have HL2 : Hid (Below w.heap.size w w2) := HL1.out.trans ((below_box hb2).mono HL1.out.size)
    have hw12 : w1.heap.size < w2.heap.size := by have := hb2.size; simp at this; omega
    have hw01 : w.heap.size < w1.heap.size := lt_block HA1.out
    clear hans HRd
    cases ok2 with
    | false =>
      have HN : Hid (recB s.data.toList = none) := recB_no HfL.out (by
        cases h : readV _ with
        | none => rfl
        | some r => rw [h] at hok2; cases hok2)
      obtain ⟨nm, m, rf, p, ao, len, cap, b, q, sc⟩ := v
      have a0_ : ∀ o, (w2.alloc o).cell? ⟨w.heap.size, 0, none⟩ = some (.string ⟨#[]⟩) := fun o => cellB (keepB HA2.out (below_new w2 o)) rfl
      have a1_ : ∀ o, (w2.alloc o).cell? ⟨w.heap.size, 1, none⟩ = some (.bool false) := fun o => cellB (keepB HA2.out (below_new w2 o)) rfl
      have a2_ : ∀ o, (w2.alloc o).cell? ⟨w.heap.size, 2, none⟩ = some (.string ⟨#[]⟩) := fun o => cellB (keepB HA2.out (below_new w2 o)) rfl
      have a3_ : ∀ o, (w2.alloc o).cell? ⟨w.heap.size, 3, none⟩ = some (.int .i64 0) := fun o => cellB (keepB HA2.out (below_new w2 o)) rfl
      have a4_ : ∀ o, (w2.alloc o).cell? ⟨w.heap.size, 4, none⟩ = some (.slice none 0 0) := fun o => cellB (keepB HA2.out (below_new w2 o)) rfl
      have a5_ : ∀ o, (w2.alloc o).cell? ⟨w.heap.size, 5, none⟩ = some (.string ⟨#[]⟩) := fun o => cellB (keepB HA2.out (below_new w2 o)) rfl
      have a6_ : ∀ o, (w2.alloc o).cell? ⟨w.heap.size, 6, none⟩ = some (.string ⟨#[]⟩) := fun o => cellB (keepB HA2.out (below_new w2 o)) rfl
      have a7_ : ∀ o, (w2.alloc o).cell? ⟨w.heap.size, 7, none⟩ = some (.int .i64 0) := fun o => cellB (keepB HA2.out (below_new w2 o)) rfl
      have af_ : ∀ o j, (w2.alloc o).frozen? ⟨w.heap.size, j, none⟩ = false := fun o j => freeB (keepB HA2.out (below_new w2 o)) j
      clear hok2 hrd HE hb2 HfL HOk HA1
      go_wp2
      go_quiet (fail)
      go_wp2
      refine bodyPost_ret (v := .tuple #[.agg #[.string ⟨#[]⟩, .bool false, .string ⟨#[]⟩, .int .i64 0, .slice none 0 0, .string ⟨#[]⟩, .string ⟨#[]⟩, .int .i64 0], .int .i64 51]) ?_ rfl (zero_post HN.out ?_)
      · simp only [results, hres]
        go_simp
      · exact below8 (below_drewN (HL2.out.alloc HL2.out.size _) _) (Nat.le_refl _) _ _ _ _ _ _ _ _
    | true =>
      obtain ⟨r, hr⟩ := Option.isSome_iff_exists.1 hok2.symm
      obtain ⟨hvR, hown⟩ := hrd r hr
      obtain ⟨nm, m, rf, p, ao, len, cap, b, q, sc⟩ := v
      obtain ⟨ao', cap', he⟩ := owned_shape hown
      have hlen : len = r.runs.length := by cases he; rfl
      have hz := readS_sizes hr
      have hfits := readS_fit hr
      have hrf := readS_runs hr
      have hsz : nm.size ≤ 1048576 ∧ rf.size ≤ 1048576 ∧ b.size ≤ 1048576 ∧ q.size ≤ 1048576 := by
        have hp : ∀ x ∈ (f.L), x.length ≤ 1048576 := fun x hx => by
          rw [hfe] at hx
          rw [HfL.out] at hx
          have hp := cuts_piece 9 _ s.data.toList (Nat.le_refl _)
          rw [size_toList] at hp
          unfold padF at hx
          split at hx
          · rcases List.mem_append.1 hx with hx | hx
            · exact Nat.le_trans (hp x hx) hs
            · simp at hx; subst hx; exact Nat.zero_le _
          · exact Nat.le_trans (hp x hx) hs
        rw [hfe] at hp
        simp only [FV.L, FV.eleven, List.map_cons, List.map_nil, List.cons_append, List.nil_append, List.forall_mem_cons] at hp
        obtain ⟨p0, _, p2, _, _, _, _, _, _, p9, p10, _, _⟩ := hp
        have h1 : nm.data.toList = r.name := congrArg Rec.name hvR
        have h2 : rf.data.toList = r.ref := congrArg Rec.ref hvR
        have h3 : b.data.toList = r.bases := congrArg Rec.bases hvR
        have h4 : q.data.toList = r.quals := congrArg Rec.quals hvR
        obtain ⟨y1, y2, y3, y4⟩ := hz
        refine ⟨by rw [← size_toList, h1, y1]; exact p0, ?_, by rw [← size_toList, h3, y2]; exact p9, by rw [← size_toList, h4, y3]; exact p10⟩
        rw [← size_toList, h2]
        rcases y4 with y4 | y4
        · rw [y4]; exact p2
        · rw [y4]; exact Nat.zero_le _
      obtain ⟨zn, zr, zb, zq⟩ := hsz
      generalize hg1 : w1.heap.size = g1 at *
      generalize hg2 : w2.heap.size = g2 at *
      have hJ0 : RcAt w #[.string a0, .string a1, .string a2, .string a3, .string a4, .string a5, .string a6, .string a7, .string a8, .string a9, .string a10, .string a11] #[.string nm, .bool m, .string rf, .int .i64 p, .slice ao len cap, .string b, .string q, .int .i64 sc] g1 g2 (.slice ao len cap) r.runs (w2.alloc (.cells #[.string nm, .bool m, .string rf, .int .i64 p, .slice ao len cap, .string b, .string q, .int .i64 sc] 24)) := by
        refine ⟨HL2.out.alloc HL2.out.size _, keepB HA2.out (below_new w2 _), keepB HF2.out (below_new w2 _), by rw [← hg2]; exact heap_alloc_new w2 _, ?_⟩
        exact owned_below (owned_base hown (by have := HL1.out.size; simp; omega)) (below_new w2 _)
      have HJS : Hid (∀ W, RcAt w #[.string a0, .string a1, .string a2, .string a3, .string a4, .string a5, .string a6, .string a7, .string a8, .string a9, .string a10, .string a11] #[.string nm, .bool m, .string rf, .int .i64 p, .slice ao len cap, .string b, .string q, .int .i64 sc] g1 g2 (.slice ao len cap) r.runs W → W.cell? ⟨g2, 0, none⟩ = some (.string nm) ∧ W.cell? ⟨g2, 1, none⟩ = some (.bool m) ∧ W.cell? ⟨g2, 2, none⟩ = some (.string rf) ∧ W.cell? ⟨g2, 3, none⟩ = some (.int .i64 p) ∧ W.cell? ⟨g2, 4, none⟩ = some (.slice ao len cap) ∧ W.cell? ⟨g2, 5, none⟩ = some (.string b) ∧ W.cell? ⟨g2, 6, none⟩ = some (.string q) ∧ W.cell? ⟨g2, 7, none⟩ = some (.int .i64 sc) ∧ W.cell? ⟨g1, 0, none⟩ = some (.string a0) ∧ W.cell? ⟨g1, 1, none⟩ = some (.string a1) ∧ W.cell? ⟨g1, 2, none⟩ = some (.string a2) ∧ W.cell? ⟨g1, 3, none⟩ = some (.string a3) ∧ W.cell? ⟨g1, 4, none⟩ = some (.string a4) ∧ W.cell? ⟨g1, 5, none⟩ = some (.string a5) ∧ W.cell? ⟨g1, 6, none⟩ = some (.string a6) ∧ W.cell? ⟨g1, 7, none⟩ = some (.string a7) ∧ W.cell? ⟨g1, 8, none⟩ = some (.string a8) ∧ W.cell? ⟨g1, 9, none⟩ = some (.string a9) ∧ W.cell? ⟨g1, 10, none⟩ = some (.string a10) ∧ W.cell? ⟨g1, 11, none⟩ = some (.string a11)) := by
        intro W hJ
        exact ⟨cellB hJ.got rfl, cellB hJ.got rfl, cellB hJ.got rfl, cellB hJ.got rfl, cellB hJ.got rfl, cellB hJ.got rfl, cellB hJ.got rfl, cellB hJ.got rfl, cellB hJ.fld rfl, cellB hJ.fld rfl, cellB hJ.fld rfl, cellB hJ.fld rfl, cellB hJ.fld rfl, cellB hJ.fld rfl, cellB hJ.fld rfl, cellB hJ.fld rfl, cellB hJ.fld rfl, cellB hJ.fld rfl, cellB hJ.fld rfl, cellB hJ.fld rfl⟩
      have hRok : ∀ W, RcAt w #[.string a0, .string a1, .string a2, .string a3, .string a4, .string a5, .string a6, .string a7, .string a8, .string a9, .string a10, .string a11] #[.string nm, .bool m, .string rf, .int .i64 p, .slice ao len cap, .string b, .string q, .int .i64 sc] g1 g2 (.slice ao len cap) r.runs W → RecOk W ⟨nm, m, rf, p, ao, len, cap, b, q, sc⟩ r.runs := by
        intro W hJ
        have hp : p = r.pos := congrArg Rec.pos hvR
        have hsc : sc = r.score := congrArg Rec.score hvR
        have hx := hJ.own
        rw [← hlen] at hx
        refine ⟨by show nm.size ≤ _; unfold maxLen; omega, by show rf.size ≤ _; unfold maxLen; omega, by show b.size ≤ _; unfold maxLen; omega, by show q.size ≤ _; unfold maxLen; omega, by show fitI p; rw [hp]; exact hfits.2, by show fitI sc; rw [hsc]; exact hfits.1, owned_rns hx hrf⟩
      have HIs : Hid (∀ W, Hid (RcAt w #[.string a0, .string a1, .string a2, .string a3, .string a4, .string a5, .string a6, .string a7, .string a8, .string a9, .string a10, .string a11] #[.string nm, .bool m, .string rf, .int .i64 p, .slice ao len cap, .string b, .string q, .int .i64 sc] g1 g2 (.slice ao len cap) r.runs W) → Calls Tryz.prog 27 #[.agg #[.string nm, .bool m, .string rf, .int .i64 p, .slice ao len cap, .string b, .string q, .int .i64 sc]] W fun e w' => e = .returned (.bool (rightR r)) ∧ Hid (RcAt w #[.string a0, .string a1, .string a2, .string a3, .string a4, .string a5, .string a6, .string a7, .string a8, .string a9, .string a10, .string a11] #[.string nm, .bool m, .string rf, .int .i64 p, .slice ao len cap, .string b, .string q, .int .i64 sc] g1 g2 (.slice ao len cap) r.runs w') ∧ (w'.cell? ⟨g2, 0, none⟩ = some (.string nm) ∧ w'.cell? ⟨g2, 1, none⟩ = some (.bool m) ∧ w'.cell? ⟨g2, 2, none⟩ = some (.string rf) ∧ w'.cell? ⟨g2, 3, none⟩ = some (.int .i64 p) ∧ w'.cell? ⟨g2, 4, none⟩ = some (.slice ao len cap) ∧ w'.cell? ⟨g2, 5, none⟩ = some (.string b) ∧ w'.cell? ⟨g2, 6, none⟩ = some (.string q) ∧ w'.cell? ⟨g2, 7, none⟩ = some (.int .i64 sc) ∧ w'.cell? ⟨g1, 0, none⟩ = some (.string a0) ∧ w'.cell? ⟨g1, 1, none⟩ = some (.string a1) ∧ w'.cell? ⟨g1, 2, none⟩ = some (.string a2) ∧ w'.cell? ⟨g1, 3, none⟩ = some (.string a3) ∧ w'.cell? ⟨g1, 4, none⟩ = some (.string a4) ∧ w'.cell? ⟨g1, 5, none⟩ = some (.string a5) ∧ w'.cell? ⟨g1, 6, none⟩ = some (.string a6) ∧ w'.cell? ⟨g1, 7, none⟩ = some (.string a7) ∧ w'.cell? ⟨g1, 8, none⟩ = some (.string a8) ∧ w'.cell? ⟨g1, 9, none⟩ = some (.string a9) ∧ w'.cell? ⟨g1, 10, none⟩ = some (.string a10) ∧ w'.cell? ⟨g1, 11, none⟩ = some (.string a11))) := by
        intro W hJ
        refine (isRight_calls ⟨nm, m, rf, p, ao, len, cap, b, q, sc⟩ r.runs W (hRok W hJ.out)).mono ?_
        rintro e w' ⟨rfl, hb⟩
        rw [hvR]
        exact ⟨rfl, hJ.out.next hb, HJS.out _ (hJ.out.next hb)⟩
      have HWr : Hid (∀ W, Hid (RcAt w #[.string a0, .string a1, .string a2, .string a3, .string a4, .string a5, .string a6, .string a7, .string a8, .string a9, .string a10, .string a11] #[.string nm, .bool m, .string rf, .int .i64 p, .slice ao len cap, .string b, .string q, .int .i64 sc] g1 g2 (.slice ao len cap) r.runs W) → Calls Tryz.prog 29 #[.agg #[.string nm, .bool m, .string rf, .int .i64 p, .slice ao len cap, .string b, .string q, .int .i64 sc]] W fun e w' => ∃ b0 b1 b2 b3 b4 b5 b6 b7 b8 b9 b10 b11 : ByteArray, e = .returned (.agg #[.string b0, .string b1, .string b2, .string b3, .string b4, .string b5, .string b6, .string b7, .string b8, .string b9, .string b10, .string b11]) ∧ Hid (RcAt w #[.string a0, .string a1, .string a2, .string a3, .string a4, .string a5, .string a6, .string a7, .string a8, .string a9, .string a10, .string a11] #[.string nm, .bool m, .string rf, .int .i64 p, .slice ao len cap, .string b, .string q, .int .i64 sc] g1 g2 (.slice ao len cap) r.runs w') ∧ (w'.cell? ⟨g2, 0, none⟩ = some (.string nm) ∧ w'.cell? ⟨g2, 1, none⟩ = some (.bool m) ∧ w'.cell? ⟨g2, 2, none⟩ = some (.string rf) ∧ w'.cell? ⟨g2, 3, none⟩ = some (.int .i64 p) ∧ w'.cell? ⟨g2, 4, none⟩ = some (.slice ao len cap) ∧ w'.cell? ⟨g2, 5, none⟩ = some (.string b) ∧ w'.cell? ⟨g2, 6, none⟩ = some (.string q) ∧ w'.cell? ⟨g2, 7, none⟩ = some (.int .i64 sc) ∧ w'.cell? ⟨g1, 0, none⟩ = some (.string a0) ∧ w'.cell? ⟨g1, 1, none⟩ = some (.string a1) ∧ w'.cell? ⟨g1, 2, none⟩ = some (.string a2) ∧ w'.cell? ⟨g1, 3, none⟩ = some (.string a3) ∧ w'.cell? ⟨g1, 4, none⟩ = some (.string a4) ∧ w'.cell? ⟨g1, 5, none⟩ = some (.string a5) ∧ w'.cell? ⟨g1, 6, none⟩ = some (.string a6) ∧ w'.cell? ⟨g1, 7, none⟩ = some (.string a7) ∧ w'.cell? ⟨g1, 8, none⟩ = some (.string a8) ∧ w'.cell? ⟨g1, 9, none⟩ = some (.string a9) ∧ w'.cell? ⟨g1, 10, none⟩ = some (.string a10) ∧ w'.cell? ⟨g1, 11, none⟩ = some (.string a11)) ∧ ∀ V, (Op.equalIn 10000 57 (.agg #[.string b0, .string b1, .string b2, .string b3, .string b4, .string b5, .string b6, .string b7, .string b8, .string b9, .string b10, .string b11]) (.agg #[.string a0, .string a1, .string a2, .string a3, .string a4, .string a5, .string a6, .string a7, .string a8, .string a9, .string a10, .string a11])).run Tryz.prog V = .ok (decide (twelveF r = f.L)) V) := by
        intro W hJ
        refine (write_calls ⟨nm, m, rf, p, ao, len, cap, b, q, sc⟩ r.runs W (hRok W hJ.out) (HStd.out W hJ.out.low)).mono ?_
        rintro e w' ⟨g, rfl, hgL, hb⟩
        rw [hvR] at hgL
        have := HE.out g
        rw [hgL] at this
        obtain ⟨b0, b1, b2, b3, b4, b5, b6, b7, b8, b9, b10, b11⟩ := g
        refine ⟨b0, b1, b2, b3, b4, b5, b6, b7, b8, b9, b10, b11, rfl, hJ.out.next hb, HJS.out _ (hJ.out.next hb), ?_⟩
        rw [hfe]
        exact this
      have HGood : Hid (rightR r = true → twelveF r = f.L → recB s.data.toList = some r) := fun h1 h2 => recB_good HOk.out HfL.out hr h1 (by rw [h2, hfe])
      have HBad : Hid (rightR r = false ∨ twelveF r ≠ f.L → recB s.data.toList = none) := fun h => recB_bad HfL.out hr (by rcases h with h | h; exact .inl h; exact .inr (fun e => h (by rw [e, hfe])))
      have HJ0 : Hid (RcAt w #[.string a0, .string a1, .string a2, .string a3, .string a4, .string a5, .string a6, .string a7, .string a8, .string a9, .string a10, .string a11] #[.string nm, .bool m, .string rf, .int .i64 p, .slice ao len cap, .string b, .string q, .int .i64 sc] g1 g2 (.slice ao len cap) r.runs (w2.alloc (.cells #[.string nm, .bool m, .string rf, .int .i64 p, .slice ao len cap, .string b, .string q, .int .i64 sc] 24)).drew) := hJ0.next (Below.refl _ _).drew
      have HS0 : Hid ((w2.alloc (.cells #[.string nm, .bool m, .string rf, .int .i64 p, .slice ao len cap, .string b, .string q, .int .i64 sc] 24)).drew.cell? ⟨g2, 0, none⟩ = some (.string nm) ∧ (w2.alloc (.cells #[.string nm, .bool m, .string rf, .int .i64 p, .slice ao len cap, .string b, .string q, .int .i64 sc] 24)).drew.cell? ⟨g2, 1, none⟩ = some (.bool m) ∧ (w2.alloc (.cells #[.string nm, .bool m, .string rf, .int .i64 p, .slice ao len cap, .string b, .string q, .int .i64 sc] 24)).drew.cell? ⟨g2, 2, none⟩ = some (.string rf) ∧ (w2.alloc (.cells #[.string nm, .bool m, .string rf, .int .i64 p, .slice ao len cap, .string b, .string q, .int .i64 sc] 24)).drew.cell? ⟨g2, 3, none⟩ = some (.int .i64 p) ∧ (w2.alloc (.cells #[.string nm, .bool m, .string rf, .int .i64 p, .slice ao len cap, .string b, .string q, .int .i64 sc] 24)).drew.cell? ⟨g2, 4, none⟩ = some (.slice ao len cap) ∧ (w2.alloc (.cells #[.string nm, .bool m, .string rf, .int .i64 p, .slice ao len cap, .string b, .string q, .int .i64 sc] 24)).drew.cell? ⟨g2, 5, none⟩ = some (.string b) ∧ (w2.alloc (.cells #[.string nm, .bool m, .string rf, .int .i64 p, .slice ao len cap, .string b, .string q, .int .i64 sc] 24)).drew.cell? ⟨g2, 6, none⟩ = some (.string q) ∧ (w2.alloc (.cells #[.string nm, .bool m, .string rf, .int .i64 p, .slice ao len cap, .string b, .string q, .int .i64 sc] 24)).drew.cell? ⟨g2, 7, none⟩ = some (.int .i64 sc) ∧ (w2.alloc (.cells #[.string nm, .bool m, .string rf, .int .i64 p, .slice ao len cap, .string b, .string q, .int .i64 sc] 24)).drew.cell? ⟨g1, 0, none⟩ = some (.string a0) ∧ (w2.alloc (.cells #[.string nm, .bool m, .string rf, .int .i64 p, .slice ao len cap, .string b, .string q, .int .i64 sc] 24)).drew.cell? ⟨g1, 1, none⟩ = some (.string a1) ∧ (w2.alloc (.cells #[.string nm, .bool m, .string rf, .int .i64 p, .slice ao len cap, .string b, .string q, .int .i64 sc] 24)).drew.cell? ⟨g1, 2, none⟩ = some (.string a2) ∧ (w2.alloc (.cells #[.string nm, .bool m, .string rf, .int .i64 p, .slice ao len cap, .string b, .string q, .int .i64 sc] 24)).drew.cell? ⟨g1, 3, none⟩ = some (.string a3) ∧ (w2.alloc (.cells #[.string nm, .bool m, .string rf, .int .i64 p, .slice ao len cap, .string b, .string q, .int .i64 sc] 24)).drew.cell? ⟨g1, 4, none⟩ = some (.string a4) ∧ (w2.alloc (.cells #[.string nm, .bool m, .string rf, .int .i64 p, .slice ao len cap, .string b, .string q, .int .i64 sc] 24)).drew.cell? ⟨g1, 5, none⟩ = some (.string a5) ∧ (w2.alloc (.cells #[.string nm, .bool m, .string rf, .int .i64 p, .slice ao len cap, .string b, .string q, .int .i64 sc] 24)).drew.cell? ⟨g1, 6, none⟩ = some (.string a6) ∧ (w2.alloc (.cells #[.string nm, .bool m, .string rf, .int .i64 p, .slice ao len cap, .string b, .string q, .int .i64 sc] 24)).drew.cell? ⟨g1, 7, none⟩ = some (.string a7) ∧ (w2.alloc (.cells #[.string nm, .bool m, .string rf, .int .i64 p, .slice ao len cap, .string b, .string q, .int .i64 sc] 24)).drew.cell? ⟨g1, 8, none⟩ = some (.string a8) ∧ (w2.alloc (.cells #[.string nm, .bool m, .string rf, .int .i64 p, .slice ao len cap, .string b, .string q, .int .i64 sc] 24)).drew.cell? ⟨g1, 9, none⟩ = some (.string a9) ∧ (w2.alloc (.cells #[.string nm, .bool m, .string rf, .int .i64 p, .slice ao len cap, .string b, .string q, .int .i64 sc] 24)).drew.cell? ⟨g1, 10, none⟩ = some (.string a10) ∧ (w2.alloc (.cells #[.string nm, .bool m, .string rf, .int .i64 p, .slice ao len cap, .string b, .string q, .int .i64 sc] 24)).drew.cell? ⟨g1, 11, none⟩ = some (.string a11)) := HJS.out _ HJ0.out
      have HvR : Hid ((⟨nm, m, rf, p, ao, len, cap, b, q, sc⟩ : RV).R r.runs = r) := hvR
      have HJr : Hid (∀ W, RcAt w #[.string a0, .string a1, .string a2, .string a3, .string a4, .string a5, .string a6, .string a7, .string a8, .string a9, .string a10, .string a11] #[.string nm, .bool m, .string rf, .int .i64 p, .slice ao len cap, .string b, .string q, .int .i64 sc] g1 g2 (.slice ao len cap) r.runs W → (∀ k u, zero8[k]? = some u → W.cell? ⟨w.heap.size, k, none⟩ = some u) ∧ (∀ k, W.frozen? ⟨w.heap.size, k, none⟩ = false)) := fun W hJ => ⟨fun k u hk => cellB hJ.ans hk, freeB hJ.ans⟩
      clear hok2 hrd hb2 HfL HOk HA1 HA2 HF2 hvR hown he hlen hz hfits hrf hRok hJ0 HL1 HL2 HE HStd hr zn zr zb zq
      go_wp2
      generalize w2.alloc (.cells #[.string nm, .bool m, .string rf, .int .i64 p, .slice ao len cap, .string b, .string q, .int .i64 sc] 24) = wx at *
      cases hR : rightR r with
      | false =>
        have HN : Hid (recB s.data.toList = none) := HBad.out (.inl hR)
        rw [hR] at HIs
        clear HGood HBad HWr hfe
        obtain ⟨q0, q1, q2, q3, q4, q5, q6, q7, q8, q9, q10, q11, q12, q13, q14, q15, q16, q17, q18, q19⟩ := HS0.out
        (first | go_region_with (first | (go_at_call 27; refine (HIs.out _ (by with_reducible assumption)).mono ?_; rintro e w3 ⟨rfl, hK3, hS3⟩)) | fail)
        all_goals (
          clear q0 q1 q2 q3 q4 q5 q6 q7 q8 q9 q10 q11 q12 q13 q14 q15 q16 q17 q18 q19
          clear hS3 HS0 HJ0
          obtain ⟨hz, hzf⟩ := HJr.out w3 hK3.out
          have z0 := hz 0 (.string ⟨#[]⟩) rfl
          have z1 := hz 1 (.bool false) rfl
          have z2 := hz 2 (.string ⟨#[]⟩) rfl
          have z3 := hz 3 (.int .i64 0) rfl
          have z4 := hz 4 (.slice none 0 0) rfl
          have z5 := hz 5 (.string ⟨#[]⟩) rfl
          have z6 := hz 6 (.string ⟨#[]⟩) rfl
          have z7 := hz 7 (.int .i64 0) rfl
          clear hz HIs HJr
          go_wp2
          refine bodyPost_ret (v := .tuple #[.agg #[.string ⟨#[]⟩, .bool false, .string ⟨#[]⟩, .int .i64 0, .slice none 0 0, .string ⟨#[]⟩, .string ⟨#[]⟩, .int .i64 0], .int .i64 51]) ?_ rfl (zero_post HN.out ?_)
          · simp only [results, hres]
            go_simp
          · exact below8 hK3.out.low (Nat.le_refl _) _ _ _ _ _ _ _ _)
      | true =>
        rw [hR] at HIs
        by_cases hT : twelveF r = f.L
        · have HG : Hid (recB s.data.toList = some r) := HGood.out hR hT
          rw [decide_eq_true hT] at HWr
          clear HGood HBad hfe hT
          go_region_held3 (fun W => W.cell? ⟨g2, 0, none⟩ = some (.string nm) ∧ W.cell? ⟨g2, 1, none⟩ = some (.bool m) ∧ W.cell? ⟨g2, 2, none⟩ = some (.string rf) ∧ W.cell? ⟨g2, 3, none⟩ = some (.int .i64 p) ∧ W.cell? ⟨g2, 4, none⟩ = some (.slice ao len cap) ∧ W.cell? ⟨g2, 5, none⟩ = some (.string b) ∧ W.cell? ⟨g2, 6, none⟩ = some (.string q) ∧ W.cell? ⟨g2, 7, none⟩ = some (.int .i64 sc) ∧ W.cell? ⟨g1, 0, none⟩ = some (.string a0) ∧ W.cell? ⟨g1, 1, none⟩ = some (.string a1) ∧ W.cell? ⟨g1, 2, none⟩ = some (.string a2) ∧ W.cell? ⟨g1, 3, none⟩ = some (.string a3) ∧ W.cell? ⟨g1, 4, none⟩ = some (.string a4) ∧ W.cell? ⟨g1, 5, none⟩ = some (.string a5) ∧ W.cell? ⟨g1, 6, none⟩ = some (.string a6) ∧ W.cell? ⟨g1, 7, none⟩ = some (.string a7) ∧ W.cell? ⟨g1, 8, none⟩ = some (.string a8) ∧ W.cell? ⟨g1, 9, none⟩ = some (.string a9) ∧ W.cell? ⟨g1, 10, none⟩ = some (.string a10) ∧ W.cell? ⟨g1, 11, none⟩ = some (.string a11)) (first | with_reducible assumption | with_reducible exact HS0.out) (first | (go_at_call 27; refine (HIs.out _ (by with_reducible assumption)).mono ?_; rintro e w3 ⟨rfl, hK3, hS3⟩) | (go_at_call 29; refine (HWr.out _ (by with_reducible assumption)).mono ?_; rintro e w4 ⟨b0, b1, b2, b3, b4, b5, b6, b7, b8, b9, b10, b11, rfl, hK4, hS4, hEq⟩))
          obtain ⟨s0, s1, s2, s3, s4, s5, s6, s7, _⟩ := hS4
          clear hS3 HS0 HJ0 hK3 hEq
          obtain ⟨hz, hzf⟩ := HJr.out w4 hK4.out
          have z0 := hz 0 (.string ⟨#[]⟩) rfl
          have z1 := hz 1 (.bool false) rfl
          have z2 := hz 2 (.string ⟨#[]⟩) rfl
          have z3 := hz 3 (.int .i64 0) rfl
          have z4 := hz 4 (.slice none 0 0) rfl
          have z5 := hz 5 (.string ⟨#[]⟩) rfl
          have z6 := hz 6 (.string ⟨#[]⟩) rfl
          have z7 := hz 7 (.int .i64 0) rfl
          clear hz HIs HWr HJr
          go_wp2
          refine bodyPost_ret (v := .tuple #[.agg #[.string nm, .bool m, .string rf, .int .i64 p, .slice ao len cap, .string b, .string q, .int .i64 sc], .int .i64 0]) ?_ rfl ?_
          · simp only [results, hres]
            go_simp
          · rw [recA_some HG.out]
            refine ⟨RV.mk nm m rf p ao len cap b q sc, rfl, HvR.out, ?_, below8 hK4.out.low (Nat.le_refl _) _ _ _ _ _ _ _ _⟩
            have n1 := owned_ne hK4.out.own hK4.out.ans (by decide)
            exact owned_setNe (owned_setNe (owned_setNe (owned_setNe (owned_setNe (owned_setNe (owned_setNe (owned_setNe hK4.out.own n1) n1) n1) n1) n1) n1) n1) n1
        · have HN : Hid (recB s.data.toList = none) := HBad.out (.inr hT)
          rw [decide_eq_false hT] at HWr
          clear HGood HBad hfe hT
          go_region_held3 (fun W => W.cell? ⟨g2, 0, none⟩ = some (.string nm) ∧ W.cell? ⟨g2, 1, none⟩ = some (.bool m) ∧ W.cell? ⟨g2, 2, none⟩ = some (.string rf) ∧ W.cell? ⟨g2, 3, none⟩ = some (.int .i64 p) ∧ W.cell? ⟨g2, 4, none⟩ = some (.slice ao len cap) ∧ W.cell? ⟨g2, 5, none⟩ = some (.string b) ∧ W.cell? ⟨g2, 6, none⟩ = some (.string q) ∧ W.cell? ⟨g2, 7, none⟩ = some (.int .i64 sc) ∧ W.cell? ⟨g1, 0, none⟩ = some (.string a0) ∧ W.cell? ⟨g1, 1, none⟩ = some (.string a1) ∧ W.cell? ⟨g1, 2, none⟩ = some (.string a2) ∧ W.cell? ⟨g1, 3, none⟩ = some (.string a3) ∧ W.cell? ⟨g1, 4, none⟩ = some (.string a4) ∧ W.cell? ⟨g1, 5, none⟩ = some (.string a5) ∧ W.cell? ⟨g1, 6, none⟩ = some (.string a6) ∧ W.cell? ⟨g1, 7, none⟩ = some (.string a7) ∧ W.cell? ⟨g1, 8, none⟩ = some (.string a8) ∧ W.cell? ⟨g1, 9, none⟩ = some (.string a9) ∧ W.cell? ⟨g1, 10, none⟩ = some (.string a10) ∧ W.cell? ⟨g1, 11, none⟩ = some (.string a11)) (first | with_reducible assumption | with_reducible exact HS0.out) (first | (go_at_call 27; refine (HIs.out _ (by with_reducible assumption)).mono ?_; rintro e w3 ⟨rfl, hK3, hS3⟩) | (go_at_call 29; refine (HWr.out _ (by with_reducible assumption)).mono ?_; rintro e w4 ⟨b0, b1, b2, b3, b4, b5, b6, b7, b8, b9, b10, b11, rfl, hK4, hS4, hEq⟩))
          clear hS3 HS0 HJ0 hK3 hEq hS4
          obtain ⟨hz, hzf⟩ := HJr.out w4 hK4.out
          have z0 := hz 0 (.string ⟨#[]⟩) rfl
          have z1 := hz 1 (.bool false) rfl
          have z2 := hz 2 (.string ⟨#[]⟩) rfl
          have z3 := hz 3 (.int .i64 0) rfl
          have z4 := hz 4 (.slice none 0 0) rfl
          have z5 := hz 5 (.string ⟨#[]⟩) rfl
          have z6 := hz 6 (.string ⟨#[]⟩) rfl
          have z7 := hz 7 (.int .i64 0) rfl
          clear hz HIs HWr HJr
          go_wp2
          refine bodyPost_ret (v := .tuple #[.agg #[.string ⟨#[]⟩, .bool false, .string ⟨#[]⟩, .int .i64 0, .slice none 0 0, .string ⟨#[]⟩, .string ⟨#[]⟩, .int .i64 0], .int .i64 51]) ?_ rfl (zero_post HN.out ?_)
          · simp only [results, hres]
            go_simp
          · exact below8 hK4.out.low (Nat.le_refl _) _ _ _ _ _ _ _ _
end Go.Proofs.YtdhphipdpjhhbaaGreatDoor
