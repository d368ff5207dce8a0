/-
  Models that are handed in, opened.
-/
import Derived.Test.YtegndeefddlccaaPwA
import Derived.Deep.Slices
import Derived.SizedLaws
namespace Go.Proofs.Ytegndeefddlccaa
open Go.RowKit Go.Deep

theorem c3 : Try.prog.cellsOf 3 = 1 := by kernel_rfl
theorem c4 : Try.prog.cellsOf 4 = 1 := by kernel_rfl
theorem c22 : Try.prog.cellsOf 29 = 1 := by kernel_rfl
theorem c23 : Try.prog.cellsOf 22 = 1 := by kernel_rfl
theorem c32 : Try.prog.cellsOf 50 = 2 := by kernel_rfl
theorem b3 : Try.prog.bytesOf 3 = 8 := by kernel_rfl
theorem b32 : Try.prog.bytesOf 50 = 16 := by kernel_rfl
section
variable {H : Type} {enc : TypeId × Value → H} {W : World} {base : Nat} {held : Bool}
set_option maxRecDepth 20000 in
theorem open_int22 {fuel : Nat} {cs : List Value} {x : DataW H × List MemPlace} (h : DataW.trod enc Try.prog W base (fun _ => true) held fuel 29 cs = some x) (hw : ∀ n ∈ x.1.weights Try.prog 29, n ≤ reachBytes) :
    ∃ ao len cap l, cs = [.slice ao len cap] ∧ len ≤ 17592186044416 ∧ IntsAt W ao len l := by
  rcases DataW.trod_slice Try.underlying29 h with ⟨rfl, _⟩ | ⟨a, len, cap, elems, rest, n, hn, rfl, rfl, hb, hl, hm, hlen, hel, hsp, _⟩
  · exact ⟨none, 0, 0, [], rfl, Nat.zero_le _, IntsAt.nil _ _⟩
  · have hwl : len ≤ 17592186044416 := by
      have := hw ((elems.length + rest.length) * 8) (by simp [DataW.weights, Try.underlying29, b3])
      unfold reachBytes at this
      omega
    have each : ∀ i, i < len → ∃ q : Int, W.cell? (a.add i) = some (.int .i64 q) := by
      intro i hi
      have h1 := hel i hi
      have h2 : elems[i]? = some elems[i] := List.getElem?_eq_getElem (by omega)
      rw [h2, c3] at h1
      obtain ⟨cs', h3, h4⟩ := Option.bind_eq_some_iff.1 h1
      obtain ⟨_, hlen1, hcell⟩ := World.cells?_some h3
      obtain ⟨s0, e0, _, z0⟩ := DataW.trod_int Try.underlying3 h4
      subst e0
      have := hcell 0 (by omega)
      rw [Deep.add_add] at this
      exact ⟨s0, by simpa using this⟩
    obtain ⟨q, hq⟩ := Deep.choose_lt each
    refine ⟨some a, len, cap, (List.range len).map q, rfl, hwl, ⟨by simp, by unfold maxLen; omega, fun h0 => ?_⟩⟩
    obtain ⟨b, off, spot⟩ := a
    have hspot : spot = none := by simpa [Addr.add] using World.cell?_spot (hq 0 h0)
    subst hspot
    refine ⟨b, off, rfl, fun i hi => ?_⟩
    have := hq i hi
    rw [Go.WideShapes.add_plain] at this
    rw [this]
    simp [List.getD, hi]
set_option maxRecDepth 20000 in
theorem open_gps23 {fuel : Nat} {cs : List Value} {x : DataW H × List MemPlace} (h : DataW.trod enc Try.prog W base (fun _ => true) held fuel 22 cs = some x) (hw : ∀ n ∈ x.1.weights Try.prog 22, n ≤ reachBytes) :
    ∃ ao len cap l, cs = [.slice ao len cap] ∧ len ≤ 8796093022208 ∧ GpsAt W ao len l := by
  rcases DataW.trod_slice Try.underlying22 h with ⟨rfl, _⟩ | ⟨a, len, cap, elems, rest, n, hn, rfl, rfl, hb, hl, hm, hlen, hel, hsp, _⟩
  · exact ⟨none, 0, 0, [], rfl, Nat.zero_le _, GpsAt.nil _ _⟩
  · have hwl : len ≤ 8796093022208 := by
      have := hw ((elems.length + rest.length) * 16) (by simp [DataW.weights, Try.underlying22, b32])
      unfold reachBytes at this
      omega
    have each : ∀ i, i < len → ∃ q : Int × Int, W.cell? (a.add (i * 2)) = some (.int .i64 q.1) ∧ W.cell? (a.add (i * 2 + 1)) = some (.int .i64 q.2) := by
      intro i hi
      have h1 := hel i hi
      have h2 : elems[i]? = some elems[i] := List.getElem?_eq_getElem (by omega)
      rw [h2, c32] at h1
      obtain ⟨cs', h3, h4⟩ := Option.bind_eq_some_iff.1 h1
      obtain ⟨_, hlen2, hcell⟩ := World.cells?_some h3
      obtain ⟨xs, k, hk, hxy, _, hxl, hf⟩ := DataW.trod_struct Try.underlying50 h4
      match cs', hlen2 with
      | [v0, v1], _ =>
        have g0 := hf 0 _ rfl
        have g1 := hf 1 _ rfl
        match xs, hxl with
        | [y0, y1], _ =>
          simp [c3] at g0 g1
          obtain ⟨s0, e0, _, z0⟩ := DataW.trod_int Try.underlying3 g0
          obtain ⟨s1, e1, _, z1⟩ := DataW.trod_int Try.underlying3 g1
          simp at e0 e1
          subst e0; subst e1
          have k0 := hcell 0 (by omega)
          have k1 := hcell 1 (by omega)
          rw [Deep.add_add] at k0 k1
          exact ⟨(s0, s1), by simpa using k0, by simpa using k1⟩
    obtain ⟨q, hq⟩ := Deep.choose_lt each
    refine ⟨some a, len, cap, (List.range len).map q, rfl, hwl, ⟨by simp, by unfold maxLen; omega, fun h0 => ?_⟩⟩
    obtain ⟨b, off, spot⟩ := a
    have hspot : spot = none := by simpa [Addr.add] using World.cell?_spot (hq 0 h0).1
    subst hspot
    refine ⟨b, off, rfl, fun i p hi => ?_⟩
    have hil : i < len := by
      have := (List.getElem?_eq_some_iff.1 hi).1; simpa using this
    have hp : p = q i := by
      rw [List.getElem?_map, List.getElem?_range hil] at hi
      simpa using hi.symm
    subst hp
    obtain ⟨h1, h2⟩ := hq i hil
    rw [Go.WideShapes.add_plain] at h1 h2
    simp only [Nat.add_assoc] at *
    exact ⟨h1, h2⟩
/-- A model that is handed in. -/
structure MdIn (W : World) (m : Md) (sa : Option Addr) (sn : Nat) (ga : Option Addr) (gn : Nat) : Prop where
  at' : MdAt W m sa sn ga gn
  few : sn ≤ 17592186044416
  less : gn ≤ 8796093022208
set_option maxRecDepth 20000 in
theorem open_md {fuel : Nat} {cs : List Value} {x : DataW H × List MemPlace} (hlen : cs.length = 10) (h : DataW.trod enc Try.prog W base (fun _ => true) held fuel 31 cs = some x) (hw : ∀ n ∈ x.1.weights Try.prog 31, n ≤ reachBytes) :
    ∃ m sa sn sc ga gn gc, cs = (mdCells m sa sn sc ga gn gc).toList ∧ MdIn W m sa sn ga gn := by
  obtain ⟨xs, k, hk, hxy, _, hxl, hf⟩ := DataW.trod_struct Try.underlying31 h
  match cs, hlen with
  | [v0, v1, v2, v3, v4, v5, v6, v7, v8, v9], _ =>
    have g0 := hf 0 _ rfl
    have g1 := hf 1 _ rfl
    have g2 := hf 2 _ rfl
    have g3 := hf 3 _ rfl
    have g4 := hf 4 _ rfl
    have g5 := hf 5 _ rfl
    have g6 := hf 6 _ rfl
    have g7 := hf 7 _ rfl
    have g8 := hf 8 _ rfl
    have g9 := hf 9 _ rfl
    match xs, hxl with
    | [y0, y1, y2, y3, y4, y5, y6, y7, y8, y9], _ =>
      simp [c3, c4, c22, c23] at g0 g1 g2 g3 g4 g5 g6 g7 g8 g9
      obtain ⟨s0, e0, _, z0⟩ := DataW.trod_int Try.underlying3 g0
      obtain ⟨sa, sn, sc, su, e1, q1, r1⟩ := open_int22 g1 fun n hn => hw n (by
        rw [hxy]
        simp only [DataW.weights, Try.underlying31]
        exact DataW.weights_mem_each (j := 1) (t := 29) (d := y1.1) rfl rfl n hn)
      obtain ⟨ga, gn, gc, gp, e2, q2, r2⟩ := open_gps23 g2 fun n hn => hw n (by
        rw [hxy]
        simp only [DataW.weights, Try.underlying31]
        exact DataW.weights_mem_each (j := 2) (t := 22) (d := y2.1) rfl rfl n hn)
      obtain ⟨s3, e3, _, z3⟩ := DataW.trod_int Try.underlying3 g3
      obtain ⟨s4, e4, _⟩ := DataW.trod_bool Try.underlying4 g4
      obtain ⟨s5, e5, _, z5⟩ := DataW.trod_int Try.underlying3 g5
      obtain ⟨s6, e6, _, z6⟩ := DataW.trod_int Try.underlying3 g6
      obtain ⟨s7, e7, _, z7⟩ := DataW.trod_int Try.underlying3 g7
      obtain ⟨s8, e8, _, z8⟩ := DataW.trod_int Try.underlying3 g8
      obtain ⟨s9, e9, _, z9⟩ := DataW.trod_int Try.underlying3 g9
      simp at e0 e1 e2 e3 e4 e5 e6 e7 e8 e9
      subst e0 e1 e2 e3 e4 e5 e6 e7 e8 e9
      exact ⟨⟨s0, su, gp, s3, s4, s5, s6, s7, s8, s9⟩, sa, sn, sc, ga, gn, gc, rfl, ⟨r1, r2⟩, q1, q2⟩
end
theorem md_in {H : Type} {enc : TypeId × Value → H} {W : World} {cs : Array Value} {d : DataW H} {p : List MemPlace} (hcs : cs.size = Try.prog.cellsOf 31) (h : DataW.Trod enc Try.prog W 0 (fun _ => true) true 31 (.agg cs) d p) (hw : ∀ n ∈ d.weights Try.prog 31, n ≤ reachBytes) :
    ∃ m sa sn sc ga gn gc, cs = mdCells m sa sn sc ga gn gc ∧ MdIn W m sa sn ga gn := by
  obtain ⟨fuel, hf⟩ := h
  obtain ⟨m, sa, sn, sc, ga, gn, gc, hl, hin⟩ := open_md (by rw [show (Value.agg cs).cells.toList = cs.toList from rfl, Array.length_toList, hcs]; kernel_rfl) hf hw
  exact ⟨m, sa, sn, sc, ga, gn, gc, Array.toList_inj.1 hl, hin⟩
theorem c9 : Try.prog.cellsOf 9 = 1 := by kernel_rfl
set_option maxRecDepth 20000 in
theorem open_path {H : Type} {enc : TypeId × Value → H} {W : World} {base : Nat} {held : Bool} {fuel : Nat} {cs : List Value} {x : DataW H × List MemPlace} (hlen : cs.length = 3) (h : DataW.trod enc Try.prog W base (fun _ => true) held fuel 33 cs = some x) (hw : ∀ n ∈ x.1.weights Try.prog 33, n ≤ reachBytes) :
    ∃ (i j : Int) (s : ByteArray), cs = [.int .i64 i, .int .i64 j, .string s] ∧ s.size ≤ 140737488351232 ∧ (Lit.int .i64 i).wf = true ∧ (Lit.int .i64 j).wf = true := by
  obtain ⟨xs, k, hk, hxy, _, hxl, hf⟩ := DataW.trod_struct Try.underlying33 h
  match cs, hlen with
  | [v0, v1, v2], _ =>
    have g0 := hf 0 _ rfl
    have g1 := hf 1 _ rfl
    have g2 := hf 2 _ rfl
    match xs, hxl with
    | [y0, y1, y2], _ =>
      simp [c3, c9] at g0 g1 g2
      obtain ⟨s0, e0, _, z0⟩ := DataW.trod_int Try.underlying3 g0
      obtain ⟨s1, e1, _, z1⟩ := DataW.trod_int Try.underlying3 g1
      obtain ⟨s2, e2, y2e, z2⟩ := DataW.trod_string Try.underlying9 g2
      have hlen2 : s2.size ≤ 140737488351232 := by
        have := hw s2.data.toList.length (by
          rw [hxy]
          simp only [DataW.weights, Try.underlying33]
          exact DataW.weights_mem_each (j := 2) (t := 9) (d := y2.1) rfl rfl _ (by rw [y2e]; simp [DataW.weights]))
        rw [ba_size] at this
        unfold reachBytes at this
        omega
      simp at e0 e1 e2
      subst e0 e1 e2
      exact ⟨s0, s1, s2, rfl, hlen2, z0, z1⟩
theorem path_in {H : Type} {enc : TypeId × Value → H} {W : World} {cs : Array Value} {d : DataW H} {p : List MemPlace} (hcs : cs.size = Try.prog.cellsOf 33) (h : DataW.Trod enc Try.prog W 0 (fun _ => true) true 33 (.agg cs) d p) (hw : ∀ n ∈ d.weights Try.prog 33, n ≤ reachBytes) :
    ∃ (i j : Int) (s : ByteArray), cs = #[.int .i64 i, .int .i64 j, .string s] ∧ s.size ≤ 140737488351232 ∧ (Lit.int .i64 i).wf = true ∧ (Lit.int .i64 j).wf = true := by
  obtain ⟨fuel, hf⟩ := h
  obtain ⟨i, j, s, hl, hs⟩ := open_path (by rw [show (Value.agg cs).cells.toList = cs.toList from rfl, Array.length_toList, hcs]; kernel_rfl) hf hw
  exact ⟨i, j, s, Array.toList_inj.1 hl, hs⟩
theorem gps_in {H : Type} {enc : TypeId × Value → H} {W : World} {v : Value} {d : DataW H} {p : List MemPlace} (h : DataW.Trod enc Try.prog W 0 (fun _ => true) true 22 v d p) (hw : ∀ n ∈ d.weights Try.prog 22, n ≤ reachBytes) :
    ∃ ao len cap l, v.cells.toList = [.slice ao len cap] ∧ len ≤ 8796093022208 ∧ GpsAt W ao len l := by
  obtain ⟨fuel, hf⟩ := h
  exact open_gps23 hf hw
end Go.Proofs.Ytegndeefddlccaa
