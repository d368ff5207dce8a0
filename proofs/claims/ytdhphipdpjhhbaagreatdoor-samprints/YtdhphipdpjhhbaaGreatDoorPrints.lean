/-
  SamPrints: any references and records as a file; what is handed in stays as it is.
-/
import Derived.Test.YtdhphipdpjhhbaaGreatDoorRows
import Derived.Test.YtdhphipdpjhhbaaGreatDoorCards
import Derived.Test.YtdhphipdpjhhbaaGreatDoorTie
import Derived.Test.YtdhphipdpjhhbaaGreatDoorAwake
import Derived.Test.YtdhphipdpjhhbaaGreatDoorRows8
import Derived.Test.YtdhphipdpjhhbaaGreatDoorWeighs
import Derived.Test.YtdhphipdpjhhbaaGreatDoorRefFile
import Derived.Test.YtdhphipdpjhhbaaGreatDoorOver
import Derived.WalkKit
namespace Go.Proofs.YtdhphipdpjhhbaaGreatDoor
open Go.RowKit

def markB : ByteArray := ⟨#[109, 97, 114, 107]⟩
def markQ : Sq := (⟨#[109, 97, 114, 107]⟩, ⟨#[]⟩, ⟨#[]⟩)
def markV : RV := ⟨⟨#[109, 97, 114, 107]⟩, false, ⟨#[]⟩, 0, none, 0, 0, ⟨#[]⟩, ⟨#[]⟩, 0⟩
def lentV (v : RV) (g : Nat) : RV := { v with ao := some ⟨g, 0, none⟩, cap := v.len + 2 }
/-- Where SamPrints stands: its own sequences, its own records, the first k of them lent. -/
structure PsAt (w : World) (xs : List Rl) (len n gq gm : Nat) (QS : List Sq) (MS : List RV) (k : Nat) (W : World) : Prop where
  low : Below w.heap.size w W
  own : W.ownsRow w.heap.size 42 3 (.slice (some ⟨gq, 0, none⟩) (len + 2) (len + 2)) (len + 2) (QS.flatMap sqRow)
  mine : W.ownsRow w.heap.size 24 8 (.slice (some ⟨gm, 0, none⟩) (n + 2) (n + 2)) (n + 2) (MS.flatMap rvRow)
  lent : ∀ i x, xs[i]? = some x → i < k → ∃ g, MS[i]? = some (lentV x.1 g) ∧ W.ownsRow w.heap.size 37 2 (.slice (some ⟨g, 0, none⟩) (x.1.len + 2) (x.1.len + 2)) (x.1.len + 2) (rowCells (lentL x.2))
theorem PsAt.next {w : World} {xs : List Rl} {len n gq gm : Nat} {QS : List Sq} {MS : List RV} {k : Nat} {W W' : World} (h : PsAt w xs len n gq gm QS MS k W) (hb : Below W.heap.size W W') : PsAt w xs len n gq gm QS MS k W' :=
  ⟨h.low.trans (hb.mono h.low.size), owned_below h.own hb, owned_below h.mine hb, fun i x hx hi => by
    obtain ⟨g, h1, h2⟩ := h.lent i x hx hi
    exact ⟨g, h1, owned_below h2 hb⟩⟩
theorem PsAt.count {w : World} {xs : List Rl} {len n gq gm : Nat} {QS : List Sq} {MS : List RV} {k : Nat} {W : World} (h : PsAt w xs len n gq gm QS MS k W) : MS.length = n + 2 := by
  have := h.mine.1
  rw [flat_length rv_len] at this; omega
theorem PsAt.put {w : World} {xs : List Rl} {len n gq gm : Nat} {QS : List Sq} {MS : List RV} {k : Nat} {W : World} (h : PsAt w xs len n gq gm QS MS k W) (hk : k < n + 2) {x : Rl} (hx : xs[k]? = some x) {g B : Nat} (hB : w.heap.size ≤ B)
    (ho : W.ownsRow B 37 2 (.slice (some ⟨g, 0, none⟩) (x.1.len + 2) (x.1.len + 2)) (x.1.len + 2) (rowCells (lentL x.2))) :
    PsAt w xs len n gq gm QS (MS.set k (lentV x.1 g)) (k + 1) ((((((((W.setCell ⟨gm, k * 8, none⟩ (.string x.1.name)).setCell ⟨gm, k * 8 + 1, none⟩ (.bool x.1.mapped)).setCell ⟨gm, k * 8 + 2, none⟩ (.string x.1.ref)).setCell ⟨gm, k * 8 + 3, none⟩ (.int .i64 x.1.pos)).setCell ⟨gm, k * 8 + 4, none⟩ (.slice (some ⟨g, 0, none⟩) x.1.len (x.1.len + 2))).setCell ⟨gm, k * 8 + 5, none⟩ (.string x.1.bases)).setCell ⟨gm, k * 8 + 6, none⟩ (.string x.1.quals)).setCell ⟨gm, k * 8 + 7, none⟩ (.int .i64 x.1.score)) := by
  have hlt : k < MS.length := by rw [h.count]; exact hk
  obtain ⟨u, hu⟩ : ∃ u, MS[k]? = some u := ⟨_, List.getElem?_eq_getElem hlt⟩
  obtain ⟨cs, hcs⟩ := row_block h.mine
  have ho' : W.ownsRow w.heap.size 37 2 (.slice (some ⟨g, 0, none⟩) (x.1.len + 2) (x.1.len + 2)) (x.1.len + 2) (rowCells (lentL x.2)) := by
    refine ⟨ho.1, ?_⟩
    rcases ho.2 with h1 | ⟨g', cap', cur, hv, hb, rest⟩
    · exact .inl h1
    · exact .inr ⟨g', cap', cur, hv, by omega, rest⟩
  refine ⟨block8 h.low (row_base h.mine) _ _ _ _ _ _ _ _ _, set8_other h.own hcs (by decide) _ _ _ _ _ _ _ _ _, set8_row h.mine hu (lentV x.1 g), fun i y hy hi => ?_⟩
  by_cases hik : i = k
  · subst hik
    rw [hx] at hy; cases hy
    exact ⟨g, by rw [List.getElem?_set_self hlt], set8_other ho' hcs (by decide) _ _ _ _ _ _ _ _ _⟩
  · obtain ⟨g', h1, h2⟩ := h.lent i y hy (by omega)
    exact ⟨g', by rw [List.getElem?_set_ne (fun e => hik e.symm)]; exact h1, set8_other h2 hcs (by decide) _ _ _ _ _ _ _ _ _⟩
theorem PsAt.mark {w : World} {xs : List Rl} {len n gq gm : Nat} {QS : List Sq} {MS : List RV} {W : World} (h : PsAt w xs len n gq gm QS MS n W) (hm : MS[n]? = some zeroV) :
    PsAt w xs len n gq gm QS (MS.set n markV) n (W.setCell ⟨gm, n * 8, none⟩ (.string ⟨#[109, 97, 114, 107]⟩)) := by
  have hlt : n < MS.length := by rw [h.count]; omega
  obtain ⟨cs, hcs⟩ := row_block h.mine
  refine ⟨h.low.setCell (p := ⟨gm, n * 8, none⟩) (row_base h.mine) _, owned_setOther h.own hcs (by decide) _, ?_, fun i y hy hi => ?_⟩
  · have h1 := owned_set h.mine (n * 8) (.string ⟨#[109, 97, 114, 107]⟩)
    rw [show n * 8 = n * 8 + 0 from rfl, flat_set rv_len MS n zeroV markV 0 (.string ⟨#[109, 97, 114, 107]⟩) hm (by decide) rfl] at h1
    exact h1
  · obtain ⟨g', h1, h2⟩ := h.lent i y hy hi
    exact ⟨g', by rw [List.getElem?_set_ne (by omega)]; exact h1, owned_setOther h2 hcs (by decide) _⟩
/-- The records lent, as a list that can be read. -/
theorem PsAt.recs {w : World} {xs : List Rl} {len n gq gm : Nat} {QS : List Sq} {MS : List RV} {W : World} {ao : Option Addr} (h : PsAt w xs len n gq gm QS MS n W) (hx : RecsAt W ao n xs) : ∃ ys, RecsAt W (some ⟨gm, 0, none⟩) n ys ∧ ys.map Rl.R = xs.map Rl.R := by
  have hl := hx.length
  have hc := h.count
  have hget : ∀ (i : Nat) (x : Rl), xs[i]? = some x → ∃ g, MS[i]? = some (lentV x.1 g) ∧ RecOk W (lentV x.1 g) x.2 := fun i x hi => by
    have hlt : i < n := by rw [← hl]; exact (List.getElem?_eq_some_iff.1 hi).1
    obtain ⟨g, h1, h2⟩ := h.lent i x hi hlt
    have hok := hx.fine x (List.mem_of_getElem? hi)
    exact ⟨g, h1, hok.name, hok.ref, hok.bases, hok.quals, hok.pos, hok.score, lent_rns h2 hok.runs.length hok.runs.fits⟩
  have hys : ∀ (i : Nat) (y : Rl), ((MS.take n).zip (xs.map (·.2)))[i]? = some y → ∃ x g, xs[i]? = some x ∧ y = (lentV x.1 g, x.2) ∧ MS[i]? = some y.1 ∧ RecOk W y.1 y.2 := fun i y hy => by
    have hlt : i < n := by
      have := (List.getElem?_eq_some_iff.1 hy).1
      simp at this; omega
    obtain ⟨x, hxi⟩ : ∃ x, xs[i]? = some x := ⟨_, List.getElem?_eq_getElem (by omega)⟩
    obtain ⟨g, h1, h2⟩ := hget i x hxi
    have e : y = (lentV x.1 g, x.2) := by
      rw [List.getElem?_zip_eq_some, List.getElem?_take, if_pos hlt, h1, List.getElem?_map, hxi] at hy
      obtain ⟨a, b⟩ := hy
      simp at a b
      exact Prod.ext a.symm b.symm
    subst e
    exact ⟨x, g, hxi, rfl, h1, h2⟩
  have hzl : ((MS.take n).zip (xs.map (·.2))).length = n := by simp; omega
  have hr := recs_take h.mine ((MS.take n).zip (xs.map (·.2))) (fun i y hy => by obtain ⟨_, _, _, _, h3, _⟩ := hys i y hy; exact h3) (fun y hy => by
    obtain ⟨i, hi⟩ := List.getElem?_of_mem hy
    obtain ⟨_, _, _, _, _, h4⟩ := hys i y hi; exact h4) (by rw [hzl]; exact hx.short)
  rw [hzl] at hr
  refine ⟨_, hr, ?_⟩
  apply List.ext_getElem?
  intro i
  by_cases hi : i < n
  · obtain ⟨y, hy⟩ : ∃ y, ((MS.take n).zip (xs.map (·.2)))[i]? = some y := ⟨_, List.getElem?_eq_getElem (by omega)⟩
    obtain ⟨x, g, h1, h2, _, _⟩ := hys i y hy
    rw [List.getElem?_map, List.getElem?_map, hy, h1, h2]; rfl
  · rw [List.getElem?_eq_none (by rw [List.length_map]; omega), List.getElem?_eq_none (by rw [List.length_map]; omega)]
theorem guard42 : Tryz.prog.eqGuardType Tryz.prog.depth 42 = false := by kernel_rfl
theorem fields42 : Tryz.prog.underlying 42 = some (.struct (Tryz.prog.fieldsOf 42)) := by kernel_rfl
theorem held42 : Tryz.prog.stoodInHeld 42 = false := by kernel_rfl
theorem equal_sq (q : Sq) (W : World) : (Op.equalIn 10000 42 (.agg #[.string q.1, .string q.2.1, .string q.2.2]) (.agg #[.string q.1, .string q.2.1, .string q.2.2])).run Tryz.prog W = .ok true W := by
  obtain ⟨a, b, c⟩ := q
  rw [show (10000 : Nat) = 9999 + 1 from rfl, run_equalIn_agg W 9999 42 _ _ fields42 held42]
  simp only [Program.fieldsOf, Tryz.underlying42]
  go_simp
theorem owned_grownN {w w' : World} {base : Nat} {e : TypeId} {size : Nat} {v : Value} {n : Nat} {xs : List Value} (h : w.ownsRow base e size v n xs) (hg : w.grownBy w' none) : w'.ownsRow base e size v n xs :=
  owned_of_block h fun g _ _ hc => hg.block g (lt_block hc) (by simp)

set_option maxRecDepth 20000 in
set_option maxHeartbeats 8000000 in
theorem prints_walk (ao : Option Addr) (len cap : Nat) (qs : List Sq) (bo : Option Addr) (n cap2 : Nat) (xs : List Rl) (w : World) (hstd : Std w) (hq : SqsIn w ao len cap qs) (hx : RecsIn w bo n cap2 xs) :
    Calls Tryz.prog 5 #[.slice ao len cap, .slice bo n cap2] w fun e w' => e = .returned (.bool true) ∧ Below w.heap.size w w' := by
  have HStd : Hid (∀ W, Below w.heap.size w W → Std W) := fun W hW => hstd.below hW
  have HQ : Hid (∀ W, Below w.heap.size w W → SqsAt W ao len qs) := fun W hW => hq.at_.below hW
  have HX : Hid (∀ W, Below w.heap.size w W → RecsAt W bo n xs) := fun W hW => hx.at_.below hW
  have HE : Hid (∀ x ∈ xs, RecIn w x.1 x.2) := hx.each
  have HNo : Hid ((ao = none → len = 0 ∧ cap = 0)) := hq.none
  have HQL : Hid (qs.length = len) := hq.at_.length
  have HXL : Hid (xs.length = n) := hx.at_.length
  have HSh : Hid (∀ q ∈ qs, q.short) := hq.at_.fine
  have hm1 : len ≤ maxLen := hq.at_.short
  have hm2 : n ≤ maxLen := hx.at_.short
  unfold maxLen at hm1 hm2
  clear hstd hq hx
  obtain ⟨i4, hi4, hz40, hz41, hz42⟩ := info_parts info42
  obtain ⟨i2, hi2, hz20, hz21, hz22⟩ := info_parts info24
  go_enter Tryz.func5, Tryz.ntmps5
  go_wp2_with fail
  refine (weighs_calls bo n cap2 xs w (HX.out _ (Below.refl _ _))).mono ?_
  rintro e w1 ⟨N, rfl, hN, hb1⟩
  have HB1 : Hid (Below w.heap.size w w1) := hb1
  have HN : Hid (N ≤ 2147483647 → n ≤ 2147483647 ∧ ∀ x ∈ xs, x.1.len ≤ 2147483647) := hN
  clear hb1 hN
  go_wp2_with fail
  refine (bulk_calls ao len cap qs w1 (HQ.out _ HB1.out)).mono ?_
  rintro e w2 ⟨M, rfl, hM, hb2⟩
  have HB2 : Hid (Below w.heap.size w w2) := HB1.out.trans (hb2.mono HB1.out.size)
  have HM : Hid (M ≤ 2147483647 → len ≤ 2147483647) := hM
  clear hb2 hM HB1
  by_cases hbn : N ≤ 2147483647
  case neg =>
    have hd : decide (N > 2147483647) = true := by simp; omega
    go_wp2
    go_ret
    exact ⟨rfl, HB2.out⟩
  have hd : decide (N > 2147483647) = false := by simp; omega
  by_cases hbm : M ≤ 2147483647
  case neg =>
    have hd2 : decide (M > 2147483647) = true := by simp; omega
    go_wp2
    go_ret
    exact ⟨rfl, HB2.out⟩
  have hd2 : decide (M > 2147483647) = false := by simp; omega
  obtain ⟨hn, hxl⟩ := HN.out hbn
  have hlen := HM.out hbm
  have HXl : Hid (∀ x ∈ xs, x.1.len ≤ 2147483647) := hxl
  clear HN HM hxl
  go_wp2_with fail
  refine (awake_calls w2 (HStd.out _ HB2.out)).mono ?_
  rintro e w3 ⟨rfl, hb3⟩
  have HB3 : Hid (Below w.heap.size w w3) := HB2.out.trans (hb3.mono HB2.out.size)
  clear hb3 HB2
  go_wp2_with (at_make; refine wpList_make_full _ rfl _ _ 39 rfl w.heap.size 42 i4 (.agg #[.string ⟨#[]⟩, .string ⟨#[]⟩, .string ⟨#[]⟩]) 3 Tryz.underlying39 hi4 hz40 hz41 .i64 .i64 _ _ (len + 2) rfl rfl (by omega) (by omega) (by rw [hz42]; omega) (by unfold maxLen; omega) HB3.out.size ?_)
  intro w4 hown4 hgrow4
  rw [made_sqs] at hown4
  have HB4 : Hid (Below w.heap.size w w4) := HB3.out.grown hgrow4 HB3.out.size (by intro k hk; cases hk)
  clear hgrow4 HB3 hd hd2 hbn hbm
  generalize w3.heap.size = gq at *
  have HO4 : Hid (w4.ownsRow w.heap.size 42 3 (.slice (some ⟨gq, 0, none⟩) (len + 2) (len + 2)) (len + 2) ((List.replicate (len + 2) zeroQ).flatMap sqRow)) := hown4
  clear hown4
  go_wp2_with (refine wpList_copy_sq rfl (.tmp 35) (.tmp 36) rfl gq (len + 2) (len + 2) ao len cap rfl rfl HNo.out _ (row_full HO4.out) (qs.flatMap sqRow) ?c0 (HQ.out _ HB4.out).source ?c1 (flat_one sq_one qs) w.heap.size w HB4.out (row_base HO4.out) ?_)
  case c0 => rw [flat_length sq_len, HQL.out]; show _ = Nat.min len (len + 2) * 3; rw [show Nat.min len (len + 2) = len from Nat.min_eq_left (by omega)]
  case c1 => rw [flat_length sq_len, HQL.out, List.size_toArray, flat_length sq_len, List.length_replicate]; omega
  intro w5 hg5 hb5 vcopy
  have HB5 : Hid (Below w.heap.size w w5) := hb5
  have HO5 : Hid (w5.ownsRow w.heap.size 42 3 (.slice (some ⟨gq, 0, none⟩) (len + 2) (len + 2)) (len + 2) ((qs ++ [zeroQ, zeroQ]).flatMap sqRow)) := by
    refine block_row (row_base HO4.out) (by unfold maxLen; omega) (by rw [flat_length sq_len, List.length_append, HQL.out]; rfl) ?_
    rw [hg5.out]
    have e : ((List.replicate (len + 2) zeroQ).flatMap sqRow).drop (qs.flatMap sqRow).length = [zeroQ, zeroQ].flatMap sqRow := by
      rw [← List.replicate_append_replicate, List.flatMap_append, show (qs.flatMap sqRow).length = ((List.replicate len zeroQ).flatMap sqRow).length by rw [flat_length sq_len, flat_length sq_len, HQL.out, List.length_replicate], List.drop_left]
      rfl
    rw [← List.length_flatMap, e, List.flatMap_append]
  clear hg5 hb5 HO4 HB4
  have hgetq : (qs ++ [zeroQ, zeroQ])[len]? = some zeroQ := by rw [List.getElem?_append_right (by rw [HQL.out]; exact Nat.le_refl _), HQL.out]; simp
  have c5 := (sqs_cells HO5.out hgetq).1
  have f5 := owned_free HO5.out (len * 3)
  have HB6 : Hid (Below w.heap.size w (w5.setCell ⟨gq, len * 3, none⟩ (.string ⟨#[109, 97, 114, 107]⟩))) := HB5.out.setCell (p := ⟨gq, len * 3, none⟩) (row_base HO5.out) _
  have HO6 : Hid ((w5.setCell ⟨gq, len * 3, none⟩ (.string ⟨#[109, 97, 114, 107]⟩)).ownsRow w.heap.size 42 3 (.slice (some ⟨gq, 0, none⟩) (len + 2) (len + 2)) (len + 2) ((qs ++ [markQ, zeroQ]).flatMap sqRow)) := by
    have h1 := owned_set HO5.out (len * 3) (.string ⟨#[109, 97, 114, 107]⟩)
    rw [show len * 3 = len * 3 + 0 from rfl, flat_set sq_len (qs ++ [zeroQ, zeroQ]) len zeroQ markQ 0 (.string ⟨#[109, 97, 114, 107]⟩) hgetq (by decide) rfl] at h1
    have e : (qs ++ [zeroQ, zeroQ]).set len markQ = qs ++ [markQ, zeroQ] := by
      rw [← HQL.out, List.set_append_right _ _ (Nat.le_refl _), Nat.sub_self]; rfl
    rw [e] at h1
    exact h1
  clear hgetq
  go_wp2_with (at_make; refine wpList_make_full _ rfl _ _ 26 rfl w.heap.size 24 i2 (.agg #[.string ⟨#[]⟩, .bool false, .string ⟨#[]⟩, .int .i64 0, .slice none 0 0, .string ⟨#[]⟩, .string ⟨#[]⟩, .int .i64 0]) 8 Tryz.underlying26 hi2 hz20 hz21 .i64 .i64 _ _ (n + 2) rfl rfl (by omega) (by omega) (by rw [hz22]; omega) (by unfold maxLen; omega) HB6.out.size ?_)
  clear c5 f5 HB5 HO5
  generalize w5.setCell ⟨gq, len * 3, none⟩ (.string ⟨#[109, 97, 114, 107]⟩) = w6 at *
  intro w7 hown7 hgrow7
  rw [made_rvs] at hown7
  have HP0 : Hid (PsAt w xs len n gq w5.heap.size (qs ++ [markQ, zeroQ]) (List.replicate (n + 2) zeroV) 0 w7) :=
    ⟨HB6.out.grown hgrow7 HB6.out.size (by intro k hk; cases hk), owned_grownN HO6.out hgrow7, hown7, fun i x _ hi => absurd hi (by omega)⟩
  clear hown7 hgrow7 HO6 HB6
  generalize w5.heap.size = gm at *
  have hmk : ∀ i : Nat, 0 ≤ i → i < n + 2 → (List.replicate (n + 2) zeroV)[i]? = some zeroV := fun i _ hi => by rw [List.getElem?_replicate, if_pos hi]
  have HMk : Hid (∀ i : Nat, 0 ≤ i → i < n + 2 → (List.replicate (n + 2) zeroV)[i]? = some zeroV) := hmk
  clear hmk
  go_wp2_with fail
  generalize (List.replicate (n + 2) zeroV) = MS0 at *
  generalize hQS : qs ++ [markQ, zeroQ] = QS at *
  have HQS : Hid (qs ++ [markQ, zeroQ] = QS) := hQS
  clear hQS
  go_loopw [10] (fun i wr => ∃ (k : Nat) (MS : List RV), k ≤ n ∧ i = .int .i64 k ∧ PsAt w xs len n gq gm QS MS k wr ∧ (∀ i : Nat, k ≤ i → i < n + 2 → MS[i]? = some zeroV)) (fun i _ => n - (intOf i).toNat)
  case atStart => exact ⟨0, MS0, Nat.zero_le _, rfl, HP0.out, HMk.out⟩
  case round =>
    obtain ⟨k, MS, hk, rfl, hps, hmk⟩ := hrel
    have HP : Hid (PsAt w xs len n gq gm QS MS k wr) := hps
    have HMk2 : Hid (∀ i : Nat, k ≤ i → i < n + 2 → MS[i]? = some zeroV) := hmk
    clear hps hmk HP0 HMk
    by_cases hlt : k < n
    · have hdk : decide ((k : Int) < (n : Int)) = true := by simp; omega
      obtain ⟨⟨⟨nm, m, rf, p, xo, xl, xc, b, q, sc⟩, l⟩, hxk⟩ : ∃ x, xs[k]? = some x := ⟨_, List.getElem?_eq_getElem (by rw [HXL.out]; exact hlt)⟩
      have hin := HE.out _ (List.mem_of_getElem? hxk)
      have hxlen : xl ≤ 2147483647 := HXl.out _ (List.mem_of_getElem? hxk)
      obtain ⟨b1, o1, rfl, hcs⟩ := (HX.out _ HP.out.low).cells (by omega)
      obtain ⟨x0, x1, x2, x3, x4, x5, x6, x7⟩ := hcs k _ hxk
      simp only at x0 x1 x2 x3 x4 x5 x6 x7
      have HLc : Hid (Calls Tryz.prog 11 #[RV.val ⟨nm, m, rf, p, xo, xl, xc, b, q, sc⟩] wr fun e w' => ∃ g, e = .returned (RV.val { (⟨nm, m, rf, p, xo, xl, xc, b, q, sc⟩ : RV) with ao := some ⟨g, 0, none⟩, cap := xl + 2 }) ∧ w'.ownsRow wr.heap.size 37 2 (.slice (some ⟨g, 0, none⟩) (xl + 2) (xl + 2)) (xl + 2) (rowCells (lentL l)) ∧ Below wr.heap.size wr w') := lent_calls ⟨nm, m, rf, p, xo, xl, xc, b, q, sc⟩ l wr ((hin.ok.below HP.out.low).runs) hin.none hxlen
      have HXk : Hid (xs[k]? = some (⟨nm, m, rf, p, xo, xl, xc, b, q, sc⟩, l)) := hxk
      clear hcs hin hxk
      simp only [RV.val] at HLc
      go_wp2_with fail
      refine HLc.out.mono ?_
      rintro e w8 ⟨g, rfl, ho8, hb8⟩
      have HP8 : Hid (PsAt w xs len n gq gm QS MS k w8) := HP.out.next hb8
      have hsz : w.heap.size ≤ wr.heap.size := HP.out.low.size
      have HNx : Hid (PsAt w xs len n gq gm QS (MS.set k (lentV ⟨nm, m, rf, p, xo, xl, xc, b, q, sc⟩ g)) (k + 1) _) := HP8.out.put (by omega) HXk.out hsz ho8
      obtain ⟨y0, y1, y2, y3, y4, y5, y6, y7⟩ := rvs_cells HP8.out.mine (HMk2.out k (Nat.le_refl _) (by omega))
      simp only [zeroV] at y0 y1 y2 y3 y4 y5 y6 y7
      have yf := owned_free HP8.out.mine
      clear ho8 hb8 HLc HP x0 x1 x2 x3 x4 x5 x6 x7 hsz
      go_wp2
      go_roundw
      case rel =>
        refine ⟨k + 1, _, by omega, by go_num, HNx.out, fun i h1 h2 => ?_⟩
        rw [List.getElem?_set_ne (by omega)]
        exact HMk2.out i (by omega) h2
      case measure => simp [intOf]; omega
    · have hdk : decide ((k : Int) < (n : Int)) = false := by simp; omega
      obtain rfl : k = n := by omega
      have HM0 : Hid (MS[k]? = some zeroV ∧ MS[k + 1]? = some zeroV) := ⟨HMk2.out k (Nat.le_refl _) (by omega), HMk2.out (k + 1) (by omega) (by omega)⟩
      have HG0 : Hid ((MS.set k markV)[k]? = some markV ∧ (MS.set k markV)[k + 1]? = some zeroV) := by
        have hlt2 : k < MS.length := by rw [HP.out.count]; omega
        exact ⟨List.getElem?_set_self hlt2, by rw [List.getElem?_set_ne (by omega)]; exact HM0.out.2⟩
      have HP9 := HP.out.mark HM0.out.1
      have y0 := (rvs_cells HP.out.mine HM0.out.1).1
      simp only [zeroV] at y0
      have yf := owned_free HP.out.mine
      have HP9' : Hid (PsAt w xs len k gq gm QS (MS.set k markV) k (wr.setCell ⟨gm, k * 8, none⟩ (.string ⟨#[109, 97, 114, 107]⟩)).drew) := HP9.next (Below.refl _ _).drew
      clear HP9 HMk2 HM0 hlt hk
      go_wp2_with fail
      clear y0 yf HP
      generalize MS.set k markV = MS1 at *
      have HPr : Hid (∀ W, Hid (PsAt w xs len k gq gm QS MS1 k W) → Calls Tryz.prog 19 #[.slice (some ⟨gq, 0, none⟩) len (len + 2), .slice (some ⟨gm, 0, none⟩) k (k + 2)] W fun e w' => ∃ t : ByteArray, e = .returned (.tuple #[.string t, .int .i64 (printF (qs.map Sq.P) (xs.map Rl.R)).2]) ∧ Hid (t.data.toList = (printF (qs.map Sq.P) (xs.map Rl.R)).1) ∧ Hid (PsAt w xs len k gq gm QS MS1 k w')) := by
        intro W hW
        obtain ⟨ys, hys, hyR⟩ := hW.out.recs (HX.out _ hW.out.low)
        have hsq := sqs_take hW.out.own (fun q hq => by
          rw [← HQS.out] at hq
          rcases List.mem_append.1 hq with hq | hq
          · exact HSh.out q hq
          · simp at hq
            rcases hq with rfl | rfl <;> exact ⟨by decide, by decide, by decide⟩) len (by rw [← HQS.out, List.length_append, HQL.out]; omega) (by unfold maxLen; omega)
        rw [← HQS.out, List.take_append_of_le_length (by rw [HQL.out]; omega), List.take_of_length_le (by rw [HQL.out]; omega)] at hsq
        have hc := printFile_calls (some ⟨gq, 0, none⟩) len (len + 2) qs (some ⟨gm, 0, none⟩) k (k + 2) ys W hsq hys (HStd.out _ hW.out.low)
        rw [hyR] at hc
        refine hc.mono ?_
        rintro e w' ⟨t, rfl, ht, hb⟩
        exact ⟨t, rfl, ht, hW.out.next hb⟩
      have HRf : Hid (∀ W, Hid (PsAt w xs len k gq gm QS MS1 k W) → Calls Tryz.prog 20 #[.slice ao len cap, .slice bo k cap2] W fun e w' => ∃ t : ByteArray, e = .returned (.tuple #[.string t, .int .i64 (printF (qs.map Sq.P) (xs.map Rl.R)).2]) ∧ Hid (t.data.toList = (printF (qs.map Sq.P) (xs.map Rl.R)).1) ∧ Hid (PsAt w xs len k gq gm QS MS1 k w')) := by
        intro W hW
        refine (refPrintFile_calls ao len cap qs bo k cap2 xs W (HQ.out _ hW.out.low) (HX.out _ hW.out.low)).mono ?_
        rintro e w' ⟨t, rfl, ht, hb⟩
        exact ⟨t, rfl, ht, hW.out.next hb⟩
      generalize printF (qs.map Sq.P) (xs.map Rl.R) = T at *
      have hI1 : (0 : Int) ≤ (len : Int) := by omega
      have hI2 : (len : Int) ≤ (len : Int) + 2 := by omega
      have hI3 : (0 : Int) ≤ (k : Int) := by omega
      have hI4 : (k : Int) ≤ (k : Int) + 2 := by omega
      go_region_held3 (fun _ => True) (trivial) (first | (go_at_call 19; refine (HPr.out _ (by with_reducible assumption)).mono ?_; rintro e w10 ⟨t, rfl, HT, HP10⟩))
      clear HPr HP9'
      go_wp2_with fail
      refine (HRf.out _ HP10).mono ?_
      rintro e w11 ⟨u, rfl, HU, HP11⟩
      clear HRf HP10
      have htu : (t.toList == u.toList) = true := by rw [ByteArray.toList_eq, ByteArray.toList_eq, HT.out, HU.out]; simp
      clear HT HU hI1 hI2 hI3 hI4
      go_wp2_with fail
      go_loopw [15] (fun i wr2 => ∃ j : Nat, j ≤ k ∧ i = .int .i64 j ∧ PsAt w xs len k gq gm QS MS1 k wr2) (fun i _ => k - (intOf i).toNat)
      case atStart => exact ⟨0, Nat.zero_le _, rfl, HP11.out⟩
      case round =>
        obtain ⟨j, hj, rfl, hps⟩ := hrel
        have HPw : Hid (PsAt w xs len k gq gm QS MS1 k wr) := hps
        clear hps HP11
        by_cases hlt : j < k
        · have hdk : decide ((j : Int) < (k : Int)) = true := by simp; omega
          have hjk : (j : Int) < (k : Int) := by omega
          have hjk2 : (j : Int) < (k : Int) + 2 := by omega
          obtain ⟨⟨⟨nm, m, rf, p, xo, xl, xc, b, q, sc⟩, l⟩, hxk⟩ : ∃ x, xs[j]? = some x := ⟨_, List.getElem?_eq_getElem (by rw [HXL.out]; exact hlt)⟩
          have hxlen : xl ≤ 2147483647 := HXl.out _ (List.mem_of_getElem? hxk)
          obtain ⟨b1, o1, rfl, _⟩ := (HX.out _ HPw.out.low).cells (by omega)
          obtain ⟨g, hg1, _⟩ := HPw.out.lent j _ hxk hlt
          have HC : Hid (∀ W, PsAt w xs len k gq gm QS MS1 k W → W.cell? ⟨gm, j * 8, none⟩ = some (.string nm) ∧ W.cell? ⟨gm, j * 8 + 1, none⟩ = some (.bool m) ∧ W.cell? ⟨gm, j * 8 + 2, none⟩ = some (.string rf) ∧ W.cell? ⟨gm, j * 8 + 3, none⟩ = some (.int .i64 p) ∧ W.cell? ⟨gm, j * 8 + 4, none⟩ = some (.slice (some ⟨g, 0, none⟩) xl (xl + 2)) ∧ W.cell? ⟨gm, j * 8 + 5, none⟩ = some (.string b) ∧ W.cell? ⟨gm, j * 8 + 6, none⟩ = some (.string q) ∧ W.cell? ⟨gm, j * 8 + 7, none⟩ = some (.int .i64 sc) ∧ W.cell? ⟨b1, o1 + j * 8, none⟩ = some (.string nm) ∧ W.cell? ⟨b1, o1 + j * 8 + 1, none⟩ = some (.bool m) ∧ W.cell? ⟨b1, o1 + j * 8 + 2, none⟩ = some (.string rf) ∧ W.cell? ⟨b1, o1 + j * 8 + 3, none⟩ = some (.int .i64 p) ∧ W.cell? ⟨b1, o1 + j * 8 + 4, none⟩ = some (.slice xo xl xc) ∧ W.cell? ⟨b1, o1 + j * 8 + 5, none⟩ = some (.string b) ∧ W.cell? ⟨b1, o1 + j * 8 + 6, none⟩ = some (.string q) ∧ W.cell? ⟨b1, o1 + j * 8 + 7, none⟩ = some (.int .i64 sc)) := by
            intro W hW
            obtain ⟨y0, y1, y2, y3, y4, y5, y6, y7⟩ := rvs_cells hW.mine hg1
            obtain ⟨b', o', e, hcs⟩ := (HX.out _ hW.low).cells (by omega)
            cases e
            obtain ⟨x0, x1, x2, x3, x4, x5, x6, x7⟩ := hcs j _ hxk
            exact ⟨y0, y1, y2, y3, y4, y5, y6, y7, x0, x1, x2, x3, x4, x5, x6, x7⟩
          have HWh : Hid (∀ W, Hid (PsAt w xs len k gq gm QS MS1 k W) → Calls Tryz.prog 14 #[.agg #[.string nm, .bool m, .string rf, .int .i64 p, .slice (some ⟨g, 0, none⟩) xl (xl + 2), .string b, .string q, .int .i64 sc], .agg #[.string nm, .bool m, .string rf, .int .i64 p, .slice xo xl xc, .string b, .string q, .int .i64 sc]] W fun e w' => e = .returned (.bool true) ∧ Hid (PsAt w xs len k gq gm QS MS1 k w') ∧ (w'.cell? ⟨gm, j * 8, none⟩ = some (.string nm) ∧ w'.cell? ⟨gm, j * 8 + 1, none⟩ = some (.bool m) ∧ w'.cell? ⟨gm, j * 8 + 2, none⟩ = some (.string rf) ∧ w'.cell? ⟨gm, j * 8 + 3, none⟩ = some (.int .i64 p) ∧ w'.cell? ⟨gm, j * 8 + 4, none⟩ = some (.slice (some ⟨g, 0, none⟩) xl (xl + 2)) ∧ w'.cell? ⟨gm, j * 8 + 5, none⟩ = some (.string b) ∧ w'.cell? ⟨gm, j * 8 + 6, none⟩ = some (.string q) ∧ w'.cell? ⟨gm, j * 8 + 7, none⟩ = some (.int .i64 sc) ∧ w'.cell? ⟨b1, o1 + j * 8, none⟩ = some (.string nm) ∧ w'.cell? ⟨b1, o1 + j * 8 + 1, none⟩ = some (.bool m) ∧ w'.cell? ⟨b1, o1 + j * 8 + 2, none⟩ = some (.string rf) ∧ w'.cell? ⟨b1, o1 + j * 8 + 3, none⟩ = some (.int .i64 p) ∧ w'.cell? ⟨b1, o1 + j * 8 + 4, none⟩ = some (.slice xo xl xc) ∧ w'.cell? ⟨b1, o1 + j * 8 + 5, none⟩ = some (.string b) ∧ w'.cell? ⟨b1, o1 + j * 8 + 6, none⟩ = some (.string q) ∧ w'.cell? ⟨b1, o1 + j * 8 + 7, none⟩ = some (.int .i64 sc))) := by
            intro W hW
            obtain ⟨g', hg', hown⟩ := hW.out.lent j _ hxk hlt
            have hgg : g' = g := by
              rw [hg1] at hg'
              have h1 := congrArg RV.ao (Option.some.inj hg')
              injection h1 with h1
              injection h1 with h1
              exact h1.symm
            subst hgg
            refine (whole_calls g' ⟨nm, m, rf, p, xo, xl, xc, b, q, sc⟩ w.heap.size l W hown ((HX.out _ hW.out.low).fine _ (List.mem_of_getElem? hxk)) hxlen).mono ?_
            rintro e w' ⟨rfl, hb⟩
            have hn := hW.out.next hb
            exact ⟨rfl, hn, HC.out _ hn⟩
          have hJ0 : PsAt w xs len k gq gm QS MS1 k wr.drew := HPw.out.next (Below.refl _ _).drew
          have HJ0 : Hid (PsAt w xs len k gq gm QS MS1 k wr.drew) := hJ0
          have HS0 : Hid (wr.drew.cell? ⟨gm, j * 8, none⟩ = some (.string nm) ∧ wr.drew.cell? ⟨gm, j * 8 + 1, none⟩ = some (.bool m) ∧ wr.drew.cell? ⟨gm, j * 8 + 2, none⟩ = some (.string rf) ∧ wr.drew.cell? ⟨gm, j * 8 + 3, none⟩ = some (.int .i64 p) ∧ wr.drew.cell? ⟨gm, j * 8 + 4, none⟩ = some (.slice (some ⟨g, 0, none⟩) xl (xl + 2)) ∧ wr.drew.cell? ⟨gm, j * 8 + 5, none⟩ = some (.string b) ∧ wr.drew.cell? ⟨gm, j * 8 + 6, none⟩ = some (.string q) ∧ wr.drew.cell? ⟨gm, j * 8 + 7, none⟩ = some (.int .i64 sc) ∧ wr.drew.cell? ⟨b1, o1 + j * 8, none⟩ = some (.string nm) ∧ wr.drew.cell? ⟨b1, o1 + j * 8 + 1, none⟩ = some (.bool m) ∧ wr.drew.cell? ⟨b1, o1 + j * 8 + 2, none⟩ = some (.string rf) ∧ wr.drew.cell? ⟨b1, o1 + j * 8 + 3, none⟩ = some (.int .i64 p) ∧ wr.drew.cell? ⟨b1, o1 + j * 8 + 4, none⟩ = some (.slice xo xl xc) ∧ wr.drew.cell? ⟨b1, o1 + j * 8 + 5, none⟩ = some (.string b) ∧ wr.drew.cell? ⟨b1, o1 + j * 8 + 6, none⟩ = some (.string q) ∧ wr.drew.cell? ⟨b1, o1 + j * 8 + 7, none⟩ = some (.int .i64 sc)) := HC.out _ hJ0
          clear hJ0 HC hxk hg1
          go_wp2_with fail
          go_region_held3 (fun W => W.cell? ⟨gm, j * 8, none⟩ = some (.string nm) ∧ W.cell? ⟨gm, j * 8 + 1, none⟩ = some (.bool m) ∧ W.cell? ⟨gm, j * 8 + 2, none⟩ = some (.string rf) ∧ W.cell? ⟨gm, j * 8 + 3, none⟩ = some (.int .i64 p) ∧ W.cell? ⟨gm, j * 8 + 4, none⟩ = some (.slice (some ⟨g, 0, none⟩) xl (xl + 2)) ∧ W.cell? ⟨gm, j * 8 + 5, none⟩ = some (.string b) ∧ W.cell? ⟨gm, j * 8 + 6, none⟩ = some (.string q) ∧ W.cell? ⟨gm, j * 8 + 7, none⟩ = some (.int .i64 sc) ∧ W.cell? ⟨b1, o1 + j * 8, none⟩ = some (.string nm) ∧ W.cell? ⟨b1, o1 + j * 8 + 1, none⟩ = some (.bool m) ∧ W.cell? ⟨b1, o1 + j * 8 + 2, none⟩ = some (.string rf) ∧ W.cell? ⟨b1, o1 + j * 8 + 3, none⟩ = some (.int .i64 p) ∧ W.cell? ⟨b1, o1 + j * 8 + 4, none⟩ = some (.slice xo xl xc) ∧ W.cell? ⟨b1, o1 + j * 8 + 5, none⟩ = some (.string b) ∧ W.cell? ⟨b1, o1 + j * 8 + 6, none⟩ = some (.string q) ∧ W.cell? ⟨b1, o1 + j * 8 + 7, none⟩ = some (.int .i64 sc)) (first | with_reducible assumption | with_reducible exact HS0.out) (first | (go_at_call 14; refine (HWh.out _ (by with_reducible assumption)).mono ?_; rintro e w12 ⟨rfl, HP12, hS12⟩))
          clear hS12 HS0 HJ0 HWh HPw
          go_wp2
          go_roundw
          case rel => exact ⟨j + 1, by omega, by go_num, HP12.out⟩
          case measure => simp [intOf]; omega
        · have hdk : decide ((j : Int) < (k : Int)) = false := by simp; omega
          go_wp2_with fail
          clear hlt hj
          go_loopw [17] (fun i wr2 => ∃ j : Nat, j ≤ len ∧ i = .int .i64 j ∧ PsAt w xs len k gq gm QS MS1 k wr2) (fun i _ => len - (intOf i).toNat)
          case atStart => exact ⟨0, Nat.zero_le _, rfl, HPw.out⟩
          case round =>
            obtain ⟨j2, hj2, rfl, hps⟩ := hrel
            have HPx : Hid (PsAt w xs len k gq gm QS MS1 k wr) := hps
            clear hps HPw
            by_cases hlt2 : j2 < len
            · have hdk2 : decide ((j2 : Int) < (len : Int)) = true := by simp; omega
              have hjk : (j2 : Int) < (len : Int) := by omega
              have hjk2 : (j2 : Int) < (len : Int) + 2 := by omega
              obtain ⟨⟨q1, q2, q3⟩, hqk⟩ : ∃ q, qs[j2]? = some q := ⟨_, List.getElem?_eq_getElem (by rw [HQL.out]; exact hlt2)⟩
              obtain ⟨b2, o2, rfl, hcs⟩ := (HQ.out _ HPx.out.low).cells (by omega)
              obtain ⟨x0, x1, x2⟩ := hcs j2 _ hqk
              obtain ⟨y0, y1, y2⟩ := sqs_cells HPx.out.own (k := j2) (q := (q1, q2, q3)) (by rw [← HQS.out, List.getElem?_append_left (by rw [HQL.out]; exact hlt2)]; exact hqk)
              simp only at x0 x1 x2 y0 y1 y2
              have hgd := guard42
              have heqn := equal_sq (q1, q2, q3)
              simp only at heqn
              have HJ2 : Hid (∀ nq, PsAt w xs len k gq gm QS MS1 k (wr.drewN nq)) := fun nq => HPx.out.next (below_drewN (Below.refl _ _) nq)
              clear hcs hqk
              go_wp2_with fail
              go_quiet (fail)
              have HJ3 : Hid (PsAt w xs len k gq gm QS MS1 k (wr.drewN nq)) := HJ2.out nq
              clear HJ2 x0 x1 x2 y0 y1 y2 HPx
              generalize wr.drewN nq = wz at *
              go_wp2
              go_roundw
              case rel => exact ⟨j2 + 1, by omega, by go_num, HJ3.out⟩
              case measure => simp [intOf]; omega
            · have hdk2 : decide ((j2 : Int) < (len : Int)) = false := by simp; omega
              obtain ⟨y0, y1, y2, y3, y4, y5, y6, y7⟩ := rvs_cells HPx.out.mine HG0.out.1
              obtain ⟨z0, z1, z2, z3, z4, z5, z6, z7⟩ := rvs_cells HPx.out.mine HG0.out.2
              simp only [markV] at y0 y1 y2 y3 y4 y5 y6 y7
              have HSm : Hid (∀ W, Calls Tryz.prog 17 #[markV.val, markV.val] W fun e w' => e = .returned (.bool true) ∧ Below W.heap.size W w') := fun W => by
                have h1 := sameR_calls markV markV [] [] W ⟨by decide, by decide, by decide, by decide, ⟨by decide, by decide⟩, ⟨by decide, by decide⟩, RnsAt.nil _ _⟩ ⟨by decide, by decide, by decide, by decide, ⟨by decide, by decide⟩, ⟨by decide, by decide⟩, RnsAt.nil _ _⟩
                rwa [sameB_self] at h1
              have HSz : Hid (∀ W, Calls Tryz.prog 17 #[zeroV.val, zeroV.val] W fun e w' => e = .returned (.bool true) ∧ Below W.heap.size W w') := fun W => by
                have h1 := sameR_calls zeroV zeroV [] [] W ⟨by decide, by decide, by decide, by decide, ⟨by decide, by decide⟩, ⟨by decide, by decide⟩, RnsAt.nil _ _⟩ ⟨by decide, by decide, by decide, by decide, ⟨by decide, by decide⟩, ⟨by decide, by decide⟩, RnsAt.nil _ _⟩
                rwa [sameB_self] at h1
              clear z0 z1 z2 z3 z4 z5 z6 z7
              go_wp2_with fail
              refine (HSm.out _).mono ?_
              rintro e w13 ⟨rfl, hb13⟩
              have HP13 : Hid (PsAt w xs len k gq gm QS MS1 k w13) := HPx.out.next hb13
              clear hb13 HPx y0 y1 y2 y3 y4 y5 y6 y7 HSm
              obtain ⟨y0, y1, y2, y3, y4, y5, y6, y7⟩ := rvs_cells HP13.out.mine HG0.out.2
              simp only [zeroV] at y0 y1 y2 y3 y4 y5 y6 y7
              go_wp2_with fail
              refine (HSz.out _).mono ?_
              rintro e w14 ⟨rfl, hb14⟩
              have HP14 : Hid (PsAt w xs len k gq gm QS MS1 k w14) := HP13.out.next hb14
              clear hb14 HP13 y0 y1 y2 y3 y4 y5 y6 y7 HSz
              have hm1 : QS[len]? = some markQ := by rw [← HQS.out, List.getElem?_append_right (by rw [HQL.out]; omega), HQL.out, Nat.sub_self]; rfl
              have hm2 : QS[len + 1]? = some zeroQ := by rw [← HQS.out, List.getElem?_append_right (by rw [HQL.out]; omega), HQL.out, show len + 1 - len = 1 by omega]; rfl
              obtain ⟨x0, x1, x2⟩ := sqs_cells HP14.out.own hm1
              obtain ⟨y0, y1, y2⟩ := sqs_cells HP14.out.own hm2
              simp only [markQ] at x0 x1 x2
              simp only [zeroQ] at y0 y1 y2
              have hgd := guard42
              have heq1 := equal_sq markQ
              have heq2 := equal_sq zeroQ
              simp only [markQ] at heq1
              simp only [zeroQ] at heq2
              have HB : Hid (Below w.heap.size w w14) := HP14.out.low
              have ha1 : (len : Int) < (len : Int) + 2 := by omega
              have ha2 : (len : Int) + 1 < (len : Int) + 2 := by omega
              clear hm1 hm2 HP14
              go_wp2
              go_ret
              exact ⟨rfl, HB.out⟩

namespace samPrints
open Go.ChangeShapes Go.WideShapes Go.ChangeAt Go.RowKit
open Go.ChangeMaps (open_string shut_string)

theorem laidOut : laidOutB Tryz.prog = true := by kernel_rfl
theorem reads (os : Os) {H : Type} (enc : TypeId × Value → H) : ∃ places, DataW.whole enc Tryz.prog ((World.laidAll Tryz.prog os theLaid).forCall (fun _ _ => 0) ⟨#[], #[.slice none 0 0, .slice none 0 0], []⟩).memory Tryz.f5.params.toList Rows.samPrintsSpec.vars false #[.slice none 0 0, .slice none 0 0].toList 8 = some ([.nil, .nil], [], places) :=
  ⟨[], by kernel_rfl⟩

set_option maxRecDepth 100000 in
theorem lifted (os : Os) (started : os.Started) (H : Type) (enc : TypeId × Value → H) (F : Stop.Interp) :
    ReturnsInHanded {} Tryz.checked os 5 .any ((OpenSpec.ofChange Rows.samPrintsSpec).preRow enc Tryz.prog Tryz.f5 Rows.samPrintsRow.domain false Rows.samPrintsRow.laid) (((OpenSpec.ofChange Rows.samPrintsSpec).at F).post enc Tryz.prog Tryz.f5 false true false false) := by
  obtain ⟨places, hx⟩ := reads os enc
  refine returnsInHanded_of_row (C := Tryz.checked) (s := (OpenSpec.ofChange Rows.samPrintsSpec)) own started (by kernel_rfl) Tryz.func5
    (witness_row_at (enc := enc) (C := Tryz.checked) false (World.laidAll Tryz.prog os theLaid) #[.slice none 0 0, .slice none 0 0] (World.laidAll_os _ _ _) (by kernel_rfl) (by kernel_rfl) (by kernel_rfl)
      (OpenSpec.preRow_of_cond 8 hx (by kernel_rfl) (fun k hk => by cases hk) (by kernel_rfl) (laid_met os _))) ?_
  intro W base args ds gs before hval0 hW _ hcond _ hL hSh _
  have hval : ∀ (j : Nat) t v, Tryz.f5.params[j]? = some t → args[j]? = some v → Value.okWide Tryz.prog W .any base t v := hval0
  have hW' := hW
  obtain ⟨p, q, hA0, hV, rfl, hfz, hnd⟩ := hW
  have hA : DataW.TrodAll enc Tryz.prog W 0 (fun _ => true) true Tryz.f5.params.toList args.toList ds p := hA0
  rw [Tryz.params5] at hA hval
  obtain ⟨v0, vs0, d0, ds0, p0, q0, hargs, rfl, rfl, h0, r0⟩ := trodAll_cons hA
  obtain ⟨v1, vs1, d1, ds1, p1, q1, rfl, rfl, rfl, h1, r1⟩ := trodAll_cons r0
  obtain ⟨rfl, rfl, rfl⟩ := trodAll_nil r1
  obtain rfl : args = #[v0, v1] := by cases args; simp_all
  obtain ⟨rfl, rfl⟩ := trodVars_none hV
  obtain ⟨a0, len0, cap0, rfl⟩ := okWide_slice Tryz.underlying39 (hval 0 39 v0 rfl rfl)
  have k0 := h0
  have lt0 : ∀ x ∈ p0, x.block < W.heap.size := by obtain ⟨m, hm⟩ := k0; exact DataW.trod_lt m _ _ _ hm
  obtain ⟨z0, w0⟩ : ∃ l, SqsIn W a0 len0 cap0 l := by
    obtain ⟨fuel, hf⟩ := h0
    exact open_seqs hf
  obtain ⟨a1, len1, cap1, rfl⟩ := okWide_slice Tryz.underlying26 (hval 1 26 v1 rfl rfl)
  have k1 := h1
  have lt1 : ∀ x ∈ p1, x.block < W.heap.size := by obtain ⟨m, hm⟩ := k1; exact DataW.trod_lt m _ _ _ hm
  obtain ⟨z1, w1⟩ : ∃ l, RecsIn W a1 len1 cap1 l := by
    obtain ⟨fuel, hf⟩ := h1
    exact open_recs hf
  clear hA0 hval0
  refine (prints_walk a0 len0 cap0 z0 a1 len1 cap1 z1 W (std_of_laid hL hSh) w0 w1).mono fun e W' ⟨he, bel⟩ => ?_
  subst he
  exact ⟨_, rfl, _, _, _, [], _, [], hW', trodAll_mk1 (shut_bool Tryz.underlying4 _), (trodAll_cons_mk (Below.trod laidOut (by kernel_rfl) (of_decide_eq_true (by kernel_rfl)) k0 bel lt0) (trodAll_cons_mk (Below.trod laidOut (by kernel_rfl) (of_decide_eq_true (by kernel_rfl)) k1 bel lt1) trodAll_mk0)), rfl, bel.frame _, fun h => by cases h⟩
end samPrints

theorem samPrints_holds : Rows.SamPrintsSaid :=
  OpenClaim.holds_of_cond 5 Tryz.f5 rfl rfl rfl rfl rfl rfl rfl ⟨rfl, rfl, rfl, rfl, rfl⟩ rfl rfl rfl rfl rfl (by kernel_rfl) Tryz.func5 (by kernel_rfl)
    (of_decide_eq_true (by kernel_rfl)) (by unfold Func.isWrapper; first | (rw [if_pos (by decide +kernel)]; kernel_rfl) | (rw [if_neg (by decide +kernel)]; exact ⟨rfl, rfl⟩))
    (fun os started H enc _ F => by rw [OpenClaim.pre_eq_preRow]; exact samPrints.lifted os started H enc F)

theorem samPrintsCard_holds : Rows.SamPrintsCardSaid :=
  Claim7.holds_tied_plain_at .later [] _ _ _ _
    samPrints_holds (fun _ h => by cases h) (by kernel_rfl) (fun _ h => by cases h) samPrints_row_tie rfl ⟨rfl, rfl⟩ (by kernel_rfl) rfl
    (fun f fn hf hfn => by
      obtain rfl : f = 5 := Option.some.inj ((show Tryz.prog.funcNamed Rows.samPrintsRow.func = some 5 by kernel_rfl).symm.trans hf) |>.symm
      obtain rfl : fn = Tryz.f5 := (Option.some.inj (Tryz.func5.symm.trans hfn)).symm
      exact ⟨by kernel_rfl, fun j t ht => by
        rw [Tryz.params5] at ht
        have hm : t ∈ [39, 26] := by simpa using Array.mem_of_getElem? ht
        have hall : ([39, 26].all fun u => !Tryz.prog.wantsStandIn u) = true := by kernel_rfl
        exact (show Tryz.prog.wantsStandIn t = false by simpa using List.all_eq_true.1 hall t hm)⟩)
    (by kernel_rfl)
end Go.Proofs.YtdhphipdpjhhbaaGreatDoor
