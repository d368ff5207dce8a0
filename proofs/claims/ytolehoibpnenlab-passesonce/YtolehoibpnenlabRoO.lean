/-
  Recurrences that are handed in, opened.
-/
import Derived.Deep.Slices
import Derived.SizedLaws
import Derived.Test.YtolehoibpnenlabMq
import Derived.Test.YtolehoibpnenlabVnO
namespace Go.Proofs.Ytolehoibpnenlab
open Go.RowKit Go.Deep
theorem rc4 : Try.prog.cellsOf 4 = 1 := by kernel_rfl
theorem rc22 : Try.prog.cellsOf 22 = 1 := by kernel_rfl
theorem rc23 : Try.prog.cellsOf 23 = 1 := by kernel_rfl
theorem rc28 : Try.prog.cellsOf 24 = 1 := by kernel_rfl
theorem rc50 : Try.prog.cellsOf 37 = 1 := by kernel_rfl
theorem rc52 : Try.prog.cellsOf 39 = 2 := by kernel_rfl
theorem rc54 : Try.prog.cellsOf 42 = 2 := by kernel_rfl
theorem rb3 : Try.prog.bytesOf 3 = 8 := by kernel_rfl
theorem rb54 : Try.prog.bytesOf 42 = 16 := by kernel_rfl
theorem rb52 : Try.prog.bytesOf 39 = 32 := by kernel_rfl
theorem wall_memR {P : Program} {H : Type} {t : TypeId} {d : DataW H} {l : List (DataW H)} (h : d ∈ l) : ∀ n ∈ d.weights P t, n ∈ DataW.weightsAll P t l := by
  induction l with
  | nil => simp at h
  | cons a r ih =>
    intro n hn
    rcases List.mem_cons.1 h with rfl | h1
    · simp only [DataW.weightsAll]
      exact List.mem_append_left _ hn
    · simp only [DataW.weightsAll]
      exact List.mem_append_right _ (ih h1 n hn)
section
variable {H : Type} {enc : TypeId × Value → H} {W : World} {base : Nat} {held : Bool}
set_option maxRecDepth 20000 in
theorem open_int23 {fuel : Nat} {cs : List Value} {x : DataW H × List MemPlace} (h : DataW.trod enc Try.prog W base (fun _ => true) held fuel 23 cs = some x) (hw : ∀ n ∈ x.1.weights Try.prog 23, n ≤ reachBytes) :
    ∃ ao len cap l, cs = [.slice ao len cap] ∧ len ≤ 17592186044416 ∧ IntA W ao len l := by
  rcases DataW.trod_slice Try.underlying23 h with ⟨rfl, _⟩ | ⟨a, len, cap, elems, rest, n, hn, rfl, rfl, hb, hl, hm, hlen, hel, hsp, _⟩
  · exact ⟨none, 0, 0, [], rfl, Nat.zero_le _, rfl, Nat.zero_le _, fun i v hi => by simp at hi⟩
  · have hwl : len ≤ 17592186044416 := by
      have := hw ((elems.length + rest.length) * 8) (by simp [DataW.weights, Try.underlying23, rb3])
      unfold reachBytes at this
      omega
    have each : ∀ i, i < len → ∃ q : Int, W.cell? (a.add i) = some (.int .i64 q) := by
      intro i hi
      have h1 := hel i hi
      have h2 : elems[i]? = some elems[i] := List.getElem?_eq_getElem (by omega)
      rw [h2, df_int] at h1
      obtain ⟨cs', h3, h4⟩ := Option.bind_eq_some_iff.1 h1
      obtain ⟨_, hlen1, hcell⟩ := World.cells?_some h3
      obtain ⟨s0, e0, _, z0⟩ := DataW.trod_int Try.underlying3 h4
      subst e0
      have := hcell 0 (by omega)
      rw [Deep.add_add] at this
      exact ⟨s0, by simpa using this⟩
    obtain ⟨q, hq⟩ := Deep.choose_lt each
    refine ⟨some a, len, cap, (List.range len).map q, rfl, hwl, by simp, by unfold maxLen; omega, fun i v hi => ?_⟩
    have hil : i < len := by
      have := (List.getElem?_eq_some_iff.1 hi).1; simpa using this
    obtain ⟨b, off, spot⟩ := a
    have hspot : spot = none := by simpa [Addr.add] using World.cell?_spot (hq 0 (by omega))
    subst hspot
    have hv : v = q i := by
      rw [List.getElem?_map, List.getElem?_range hil] at hi
      simpa using hi.symm
    subst hv
    have := hq i hil
    rw [Go.WideShapes.add_plain] at this
    exact ⟨b, off, rfl, this⟩
set_option maxRecDepth 20000 in
theorem open_edges {fuel : Nat} {cs : List Value} {x : DataW H × List MemPlace} (h : DataW.trod enc Try.prog W base (fun _ => true) held fuel 37 cs = some x) (hw : ∀ n ∈ x.1.weights Try.prog 37, n ≤ reachBytes) :
    ∃ ao len cap l, cs = [.slice ao len cap] ∧ len ≤ 8796093022208 ∧ PcsAt W ao len l := by
  rcases DataW.trod_slice Try.underlying37 h with ⟨rfl, _⟩ | ⟨a, len, cap, elems, rest, n, hn, rfl, rfl, hb, hl, hm, hlen, hel, hsp, _⟩
  · exact ⟨none, 0, 0, [], rfl, Nat.zero_le _, rfl, Nat.zero_le _, fun h => absurd h (by decide)⟩
  · have hwl : len ≤ 8796093022208 := by
      have := hw ((elems.length + rest.length) * 16) (by simp [DataW.weights, Try.underlying37, rb54])
      unfold reachBytes at this
      omega
    have each : ∀ i, i < len → ∃ q : Int × Int, W.cell? (a.add (i * 2)) = some (.int .i64 q.1) ∧ W.cell? (a.add (i * 2 + 1)) = some (.int .i64 q.2) := by
      intro i hi
      have h1 := hel i hi
      have h2 : elems[i]? = some elems[i] := List.getElem?_eq_getElem (by omega)
      rw [h2, rc54] at h1
      obtain ⟨cs', h3, h4⟩ := Option.bind_eq_some_iff.1 h1
      obtain ⟨_, hlen2, hcell⟩ := World.cells?_some h3
      obtain ⟨xs, k, hk, hxy, _, hxl, hf⟩ := DataW.trod_struct Try.underlying42 h4
      match cs', hlen2 with
      | [v0, v1], _ =>
        have g0 := hf 0 _ rfl
        have g1 := hf 1 _ rfl
        match xs, hxl with
        | [y0, y1], _ =>
          simp [df_int] at g0 g1
          obtain ⟨s0, e0, _, z0⟩ := DataW.trod_int Try.underlying3 g0
          obtain ⟨s1, e1, _, z1⟩ := DataW.trod_int Try.underlying3 g1
          simp at e0 e1
          subst e0; subst e1
          have k0 := hcell 0 (by omega)
          have k1 := hcell 1 (by omega)
          rw [Deep.add_add] at k0 k1
          exact ⟨(s0, s1), by simpa using k0, by simpa using k1⟩
    obtain ⟨q, hq⟩ := Deep.choose_lt each
    refine ⟨some a, len, cap, (List.range len).map q, rfl, hwl, ⟨by simp, by unfold maxLen; omega, fun h0 => ?_⟩⟩
    obtain ⟨b, off, spot⟩ := a
    have hspot : spot = none := by simpa [Addr.add] using World.cell?_spot (hq 0 h0).1
    subst hspot
    refine ⟨b, off, rfl, fun i p hi => ?_⟩
    have hil : i < len := by
      have := (List.getElem?_eq_some_iff.1 hi).1; simpa using this
    have hp : p = q i := by
      rw [List.getElem?_map, List.getElem?_range hil] at hi
      simpa using hi.symm
    subst hp
    obtain ⟨h1, h2⟩ := hq i hil
    rw [Go.WideShapes.add_plain] at h1 h2
    simp only [Nat.add_assoc] at *
    exact ⟨h1, h2⟩
set_option maxRecDepth 20000 in
theorem open_sts {fuel : Nat} {cs : List Value} {x : DataW H × List MemPlace} (h : DataW.trod enc Try.prog W base (fun _ => true) held fuel 24 cs = some x) (hw : ∀ n ∈ x.1.weights Try.prog 24, n ≤ reachBytes) :
    ∃ ao len cap l, cs = [.slice ao len cap] ∧ (len ≤ 4398046511104 ∧ ∀ s ∈ l, s.2.length ≤ 8796093022208) ∧ StsAt W ao len l := by
  rcases DataW.trod_slice Try.underlying24 h with ⟨rfl, _⟩ | ⟨a, len, cap, elems, rest, n, hn, rfl, rfl, hb, hl, hm, hlen, hel, hsp, _⟩
  · exact ⟨none, 0, 0, [], rfl, ⟨Nat.zero_le _, fun s hs => by simp at hs⟩, rfl, Nat.zero_le _, fun h => absurd h (by decide)⟩
  · have hwl : len ≤ 4398046511104 := by
      have := hw ((elems.length + rest.length) * 32) (by simp [DataW.weights, Try.underlying24, rb52])
      unfold reachBytes at this
      omega
    have each : ∀ i, i < len → ∃ q : St, ∃ ea en ec, W.cell? (a.add (i * 2)) = some (.int .i64 q.1) ∧ W.cell? (a.add (i * 2 + 1)) = some (.slice ea en ec) ∧ PcsAt W ea en q.2 ∧ q.2.length ≤ 8796093022208 := by
      intro i hi
      have h1 := hel i hi
      have h2 : elems[i]? = some elems[i] := List.getElem?_eq_getElem (by omega)
      rw [h2, rc52] at h1
      obtain ⟨cs', h3, h4⟩ := Option.bind_eq_some_iff.1 h1
      obtain ⟨_, hlen2, hcell⟩ := World.cells?_some h3
      have hwe : ∀ m ∈ (elems[i]).1.weights Try.prog 39, m ≤ reachBytes := fun m hm => hw m (by
        simp only [DataW.weights, Try.underlying24]
        refine List.mem_cons_of_mem _ (List.mem_append_left _ ?_)
        exact wall_memR (List.mem_map.2 ⟨elems[i], List.getElem_mem _, rfl⟩) m hm)
      obtain ⟨xs, k, hk, hxy, _, hxl, hf⟩ := DataW.trod_struct Try.underlying39 h4
      obtain ⟨v0, v1, rfl⟩ : ∃ v0 v1, cs' = [v0, v1] := by
        match cs', hlen2 with
        | [v0, v1], _ => exact ⟨v0, v1, rfl⟩
      have g0 := hf 0 _ rfl
      have g1 := hf 1 _ rfl
      obtain ⟨y0, y1, rfl⟩ : ∃ y0 y1, xs = [y0, y1] := by
        match xs, hxl with
        | [y0, y1], _ => exact ⟨y0, y1, rfl⟩
      simp [df_int, rc50] at g0 g1
      obtain ⟨s0, e0, _, z0⟩ := DataW.trod_int Try.underlying3 g0
      obtain ⟨ea, en, ec, es, e1, rl1, r1⟩ := open_edges g1 fun n hn => hwe n (by
        rw [hxy]
        simp only [DataW.weights, Try.underlying39]
        exact DataW.weights_mem_each (j := 1) (t := 37) (d := y1.1) rfl rfl n hn)
      cases e0
      cases e1
      have k0 := hcell 0 (by omega)
      have k1 := hcell 1 (by omega)
      rw [Deep.add_add] at k0 k1
      exact ⟨(s0, es), ea, en, ec, by simpa using k0, by simpa using k1, r1, by rw [r1.length]; exact rl1⟩
    obtain ⟨q, hq⟩ := Deep.choose_lt each
    refine ⟨some a, len, cap, (List.range len).map q, rfl, ⟨hwl, fun s hs => ?_⟩, ⟨by simp, by unfold maxLen; omega, fun h0 => ?_⟩⟩
    · obtain ⟨j, hj, rfl⟩ := List.mem_map.1 hs
      obtain ⟨_, _, _, _, _, _, h4⟩ := hq j (List.mem_range.1 hj)
      exact h4
    obtain ⟨b, off, spot⟩ := a
    have hspot : spot = none := by
      obtain ⟨_, _, _, h1, _, _⟩ := hq 0 h0
      simpa [Addr.add] using World.cell?_spot h1
    subst hspot
    refine ⟨b, off, rfl, fun i p hi => ?_⟩
    have hil : i < len := by
      have := (List.getElem?_eq_some_iff.1 hi).1; simpa using this
    have hp : p = q i := by
      rw [List.getElem?_map, List.getElem?_range hil] at hi
      simpa using hi.symm
    subst hp
    obtain ⟨ea, en, ec, h1, h2, h3, _⟩ := hq i hil
    rw [Go.WideShapes.add_plain] at h1 h2
    simp only [Nat.add_assoc] at *
    exact ⟨ea, en, ec, h1, h2, h3⟩
set_option maxRecDepth 20000 in
theorem open_rc {fuel : Nat} {cs : List Value} {x : DataW H × List MemPlace} (hlen : cs.length = 11) (h : DataW.trod enc Try.prog W base (fun _ => true) held fuel 26 cs = some x) (hw : ∀ n ∈ x.1.weights Try.prog 26, n ≤ reachBytes) :
    ∃ r da dn dc sa sn sc ta tn tc, cs = (rcCells r da dn dc sa sn sc ta tn tc).toList ∧ RcAt W r da dn sa sn ta tn ∧ RcB r := by
  obtain ⟨xs, k, hk, hxy, _, hxl, hf⟩ := DataW.trod_struct Try.underlying26 h
  match cs, hlen with
  | [v0, v1, v2, v3, v4, v5, v6, v7, v8, v9, v10], _ =>
    have g0 := hf 0 _ rfl
    have g1 := hf 1 _ rfl
    have g2 := hf 2 _ rfl
    have g3 := hf 3 _ rfl
    have g4 := hf 4 _ rfl
    have g5 := hf 5 _ rfl
    have g6 := hf 6 _ rfl
    have g7 := hf 7 _ rfl
    have g8 := hf 8 _ rfl
    have g9 := hf 9 _ rfl
    have g10 := hf 10 _ rfl
    match xs, hxl with
    | [y0, y1, y2, y3, y4, y5, y6, y7, y8, y9, y10], _ =>
      simp [df_int, rc4, rc22, rc23, rc28] at g0 g1 g2 g3 g4 g5 g6 g7 g8 g9 g10
      obtain ⟨s0, e0, _, _⟩ := DataW.trod_int Try.underlying3 g0
      obtain ⟨da, dn, dc, df, e1, q1, r1⟩ := open_dfs g1 fun n hn => hw n (by
        rw [hxy]
        simp only [DataW.weights, Try.underlying26]
        exact DataW.weights_mem_each (j := 1) (t := 22) (d := y1.1) rfl rfl n hn)
      obtain ⟨sa, sn, sc, su, e2, q2, r2⟩ := open_int23 g2 fun n hn => hw n (by
        rw [hxy]
        simp only [DataW.weights, Try.underlying26]
        exact DataW.weights_mem_each (j := 2) (t := 23) (d := y2.1) rfl rfl n hn)
      obtain ⟨s3, e3, _, _⟩ := DataW.trod_int Try.underlying3 g3
      obtain ⟨s4, e4, _, _⟩ := DataW.trod_int Try.underlying3 g4
      obtain ⟨s5, e5, _, _⟩ := DataW.trod_int Try.underlying3 g5
      obtain ⟨s6, e6, _, _⟩ := DataW.trod_int Try.underlying3 g6
      obtain ⟨s7, e7, _⟩ := DataW.trod_bool Try.underlying4 g7
      obtain ⟨s8, e8, _, _⟩ := DataW.trod_int Try.underlying3 g8
      obtain ⟨s9, e9, _, _⟩ := DataW.trod_int Try.underlying3 g9
      obtain ⟨ta, tn, tc, ts, e10, q10, r10⟩ := open_sts g10 fun n hn => hw n (by
        rw [hxy]
        simp only [DataW.weights, Try.underlying26]
        exact DataW.weights_mem_each (j := 10) (t := 24) (d := y10.1) rfl rfl n hn)
      simp at e0 e1 e2 e3 e4 e5 e6 e7 e8 e9 e10
      subst e0 e1 e2 e3 e4 e5 e6 e7 e8 e9 e10
      exact ⟨⟨s0, df, su, s3, s4, s5, s6, s7, s8, s9, ts⟩, da, dn, dc, sa, sn, sc, ta, tn, tc, rfl, ⟨r1, r2, r10⟩, ⟨by rw [r1.length]; exact q1, by rw [r2.length]; exact q2, by rw [r10.length]; exact q10.1, q10.2⟩⟩
end
theorem rc_in {H : Type} {enc : TypeId × Value → H} {W : World} {cs : Array Value} {d : DataW H} {p : List MemPlace} (hcs : cs.size = Try.prog.cellsOf 26) (h : DataW.Trod enc Try.prog W 0 (fun _ => true) true 26 (.agg cs) d p) (hw : ∀ n ∈ d.weights Try.prog 26, n ≤ reachBytes) :
    ∃ r da dn dc sa sn sc ta tn tc, cs = rcCells r da dn dc sa sn sc ta tn tc ∧ RcAt W r da dn sa sn ta tn ∧ RcB r := by
  obtain ⟨fuel, hf⟩ := h
  obtain ⟨r, da, dn, dc, sa, sn, sc, ta, tn, tc, hl, hin⟩ := open_rc (by rw [show (Value.agg cs).cells.toList = cs.toList from rfl, Array.length_toList, hcs]; kernel_rfl) hf hw
  exact ⟨r, da, dn, dc, sa, sn, sc, ta, tn, tc, Array.toList_inj.1 hl, hin⟩
end Go.Proofs.Ytolehoibpnenlab
