/-
  Sequences and records in memory; the walks of MayBeWritten and of a reference's line.
-/
import Derived.Test.YtdhphipdpjhhbaaGreatDoorRefs
import Derived.Test.YtdhphipdpjhhbaaGreatDoorRefRec
import Derived.Test.YtdhphipdpjhhbaaGreatDoorDigits
namespace Go.Proofs.YtdhphipdpjhhbaaGreatDoor
open Go.RowKit

/-- A sequence as a value. -/
abbrev Sq := ByteArray × ByteArray × ByteArray
def Sq.P (q : Sq) : Sqp := (q.1.data.toList, q.2.1.data.toList, q.2.2.data.toList)
def Sq.short (q : Sq) : Prop := q.1.size ≤ maxLen ∧ q.2.1.size ≤ maxLen ∧ q.2.2.size ≤ maxLen
structure SqsAt (w : World) (ao : Option Addr) (len : Nat) (qs : List Sq) : Prop where
  length : qs.length = len
  short : len ≤ maxLen
  fine : ∀ q ∈ qs, q.short
  cells : 0 < len → ∃ b off, ao = some ⟨b, off, none⟩ ∧ ∀ i q, qs[i]? = some q → w.cell? ⟨b, off + i * 3, none⟩ = some (.string q.1) ∧ w.cell? ⟨b, off + i * 3 + 1, none⟩ = some (.string q.2.1) ∧ w.cell? ⟨b, off + i * 3 + 2, none⟩ = some (.string q.2.2)
theorem SqsAt.below {w w' : World} {ao : Option Addr} {len : Nat} {qs : List Sq} (h : SqsAt w ao len qs) (hb : Below w.heap.size w w') : SqsAt w' ao len qs := by
  refine ⟨h.length, h.short, h.fine, fun h0 => ?_⟩
  obtain ⟨b, off, e, hc⟩ := h.cells h0
  refine ⟨b, off, e, fun i q hi => ?_⟩
  obtain ⟨h1, h2, h3⟩ := hc i q hi
  exact ⟨by rw [hb.cell (World.block_lt_of_cell? w _ h1)]; exact h1, by rw [hb.cell (World.block_lt_of_cell? w _ h2)]; exact h2, by rw [hb.cell (World.block_lt_of_cell? w _ h3)]; exact h3⟩
/-- A record in memory: its value, its runs. -/
abbrev Rl := RV × List Rn
def Rl.R (x : Rl) : Rec := x.1.R x.2
structure RecsAt (w : World) (ao : Option Addr) (len : Nat) (xs : List Rl) : Prop where
  length : xs.length = len
  short : len ≤ maxLen
  fine : ∀ x ∈ xs, RecOk w x.1 x.2
  cells : 0 < len → ∃ b off, ao = some ⟨b, off, none⟩ ∧ ∀ i x, xs[i]? = some x → w.cell? ⟨b, off + i * 8, none⟩ = some (.string x.1.name) ∧ w.cell? ⟨b, off + i * 8 + 1, none⟩ = some (.bool x.1.mapped) ∧ w.cell? ⟨b, off + i * 8 + 2, none⟩ = some (.string x.1.ref) ∧ w.cell? ⟨b, off + i * 8 + 3, none⟩ = some (.int .i64 x.1.pos) ∧ w.cell? ⟨b, off + i * 8 + 4, none⟩ = some (.slice x.1.ao x.1.len x.1.cap) ∧ w.cell? ⟨b, off + i * 8 + 5, none⟩ = some (.string x.1.bases) ∧ w.cell? ⟨b, off + i * 8 + 6, none⟩ = some (.string x.1.quals) ∧ w.cell? ⟨b, off + i * 8 + 7, none⟩ = some (.int .i64 x.1.score)
theorem RecsAt.below {w w' : World} {ao : Option Addr} {len : Nat} {xs : List Rl} (h : RecsAt w ao len xs) (hb : Below w.heap.size w w') : RecsAt w' ao len xs := by
  refine ⟨h.length, h.short, fun x hx => (h.fine x hx).below hb, fun h0 => ?_⟩
  obtain ⟨b, off, e, hc⟩ := h.cells h0
  refine ⟨b, off, e, fun i q hi => ?_⟩
  obtain ⟨h1, h2, h3, h4, h5, h6, h7, h8⟩ := hc i q hi
  have hk : ∀ {p : Addr} {u : Value}, w.cell? p = some u → w'.cell? p = some u := fun hp => by rw [hb.cell (World.block_lt_of_cell? w _ hp)]; exact hp
  exact ⟨hk h1, hk h2, hk h3, hk h4, hk h5, hk h6, hk h7, hk h8⟩

set_option maxRecDepth 20000 in
theorem mayBeWritten_calls (q : Sq) (w : World) (h : q.short) :
    Calls Tryz.prog 66 #[.agg #[.string q.1, .string q.2.1, .string q.2.2]] w fun e w' => e = .returned (.bool (seqOkB q.P)) ∧ Below w.heap.size w w' := by
  obtain ⟨a, b, c⟩ := q
  have H1 : Hid (∀ W, Calls Tryz.prog 50 #[.string a] W fun e w' => e = .returned (.bool (nameB a.data.toList)) ∧ w' = W) := fun W => isName_calls a W h.1
  have H2 : Hid (∀ W, Calls Tryz.prog 91 #[.string b] W fun e w' => e = .returned (.bool (noteB b.data.toList)) ∧ w' = W) := fun W => isNote_calls b W h.2.1
  have H3 : Hid (∀ W, Calls Tryz.prog 51 #[.string c] W fun e w' => e = .returned (.bool (basesB c.data.toList)) ∧ w' = W) := fun W => areBases_calls c W h.2.2
  have HE : Hid (seqOkB (Sq.P (a, b, c)) = (nameB a.data.toList && (noteB b.data.toList && basesB c.data.toList))) := rfl
  have HN : Hid (∀ o, Below w.heap.size w (w.alloc o)) := below_new w
  clear h
  generalize seqOkB (Sq.P (a, b, c)) = Z at *
  generalize nameB a.data.toList = A at *
  generalize noteB b.data.toList = B at *
  generalize basesB c.data.toList = C at *
  go_enter Tryz.func66, Tryz.ntmps66
  go_wp2_with (first
    | (go_at_call 50; refine (H1.out _).mono ?_; rintro e w' ⟨rfl, rfl⟩; clear H1)
    | (go_at_call 91; refine (H2.out _).mono ?_; rintro e w' ⟨rfl, rfl⟩; clear H2)
    | (go_at_call 51; refine (H3.out _).mono ?_; rintro e w' ⟨rfl, rfl⟩; clear H3))
  all_goals (go_ret; refine ⟨ret_bool ?_, HN.out _⟩; rw [HE.out]; clear HE HN; simp_all)

set_option maxRecDepth 20000 in
set_option maxHeartbeats 2000000 in
theorem refLine2_calls (f : Rv) (w : World) (hf : f.1.size ≤ 1048576 ∧ fitI f.2) (hs : Std w) :
    Calls Tryz.prog 68 #[.agg #[.string f.1, .int .i64 f.2]] w fun e w' => StrPost (refLine f.P) w e w' := by
  obtain ⟨n, z⟩ := f
  obtain ⟨hn, hz⟩ := hf
  have hl := Lib.itoa_length_le z hz.1 hz.2
  simp only at hn
  have HI : Hid (∀ W, Hid (Below w.heap.size w W ∧ W.heap[w.heap.size]? = some (.cells #[.string n, .int .i64 z] 83 (0, 0))) → Calls Tryz.prog 56 #[.int .i64 z] W fun e w' => ∃ t : ByteArray, e = .returned (.string t) ∧ t.data.toList = Lib.itoa z ∧ t.size ≤ 21 ∧ Hid (Below w.heap.size w w' ∧ w'.heap[w.heap.size]? = some (.cells #[.string n, .int .i64 z] 83 (0, 0))) ∧ (w'.cell? ⟨w.heap.size, 0, none⟩ = some (.string n) ∧ w'.cell? ⟨w.heap.size, 1, none⟩ = some (.int .i64 z))) := by
    intro W hW
    refine (itoa_calls z W hz (hs.below hW.out.1)).mono ?_
    rintro e w' ⟨rfl, hb⟩
    have h2 := keepB hW.out.2 hb
    exact ⟨_, rfl, mk_list _, by rw [mk_size]; exact hl, ⟨hW.out.1.trans (hb.mono hW.out.1.size), h2⟩, cellB h2 rfl, cellB h2 rfl⟩
  obtain ⟨s1, hs1, hc1⟩ : ∃ s1 : ByteArray, s1 = ⟨#[64, 83, 81, 9, 83, 78, 58]⟩ ++ n ∧ ∀ W, (Op.stringOp .add ⟨#[64, 83, 81, 9, 83, 78, 58]⟩ n).run Tryz.prog W = .ok (.string s1) W := ⟨_, rfl, fun W => run_string_add_sum W _ _ (by show 7 + n.size ≤ _; omega)⟩
  have hz1 : s1.size ≤ 1048600 := by rw [hs1, ← size_toList, ba_append, List.length_append, size_toList]; show 7 + _ ≤ _; rw [size_toList]; omega
  obtain ⟨s2, hs2, hc2⟩ : ∃ s2 : ByteArray, s2 = s1 ++ ⟨#[9, 76, 78, 58]⟩ ∧ ∀ W, (Op.stringOp .add s1 ⟨#[9, 76, 78, 58]⟩).run Tryz.prog W = .ok (.string s2) W := ⟨_, rfl, fun W => run_string_add_sum W _ _ (by show s1.size + 4 ≤ _; omega)⟩
  have hz2 : s2.size ≤ 1048700 := by rw [hs2, ← size_toList, ba_append, List.length_append, size_toList]; show _ + 4 ≤ _; omega
  have HS12 : Hid (s2.data.toList = refMark ++ (n.data.toList ++ lenMark)) := by
    show _ = _
    rw [hs2, ba_append, hs1, ba_append, List.append_assoc]; rfl
  have HC3 : Hid (∀ t : ByteArray, t.size ≤ 21 → ∀ W, (Op.stringOp .add s2 t).run Tryz.prog W = .ok (.string (s2 ++ t)) W) := fun t ht W => run_string_add_sum W _ _ (by omega)
  clear hs hs1 hs2
  go_enter Tryz.func68, Tryz.ntmps68
  go_wp2
  generalize hwx : w.alloc (.cells #[.string n, .int .i64 z] 83) = wx
  have hJ : Below w.heap.size w wx.drew ∧ wx.drew.heap[w.heap.size]? = some (.cells #[.string n, .int .i64 z] 83 (0, 0)) := by
    subst hwx; exact ⟨(below_new w _).drew, heap_alloc_new w _⟩
  have HJ0 : Hid (Below w.heap.size w wx.drew ∧ wx.drew.heap[w.heap.size]? = some (.cells #[.string n, .int .i64 z] 83 (0, 0))) := hJ
  have HS0 : Hid (wx.drew.cell? ⟨w.heap.size, 0, none⟩ = some (.string n) ∧ wx.drew.cell? ⟨w.heap.size, 1, none⟩ = some (.int .i64 z)) := ⟨cellB hJ.2 rfl, cellB hJ.2 rfl⟩
  clear hwx hJ
  go_region_held3 (fun W => W.cell? ⟨w.heap.size, 0, none⟩ = some (.string n) ∧ W.cell? ⟨w.heap.size, 1, none⟩ = some (.int .i64 z))
    (first | with_reducible assumption | with_reducible exact HS0.out)
    (first | (go_at_call 56; refine (HI.out _ (by with_reducible assumption)).mono ?_; rintro e w1 ⟨t, rfl, ht, hts, hK1, hS1⟩; have hc3 := HC3.out t hts))
  have HT : Hid (t.data.toList = Lib.itoa z) := ht
  clear ht
  go_wp2
  go_ret
  exact ⟨_, rfl, by rw [ba_append, HT.out, HS12.out]; simp [refLine, Rv.P], hK1.out.1⟩
end Go.Proofs.YtdhphipdpjhhbaaGreatDoor
