/-
  A recurrence: in plain lists, and in memory.
-/
import Derived.Test.YtolehoibpnenlabMc
namespace Go.Proofs.Ytolehoibpnenlab
open Go.RowKit Go.Deep Go.Maps
abbrev St := Int × List (Int × Int)
structure Rc where
  letters : Int
  defs : List Df
  subst : List Int
  beg : Int
  fin : Int
  front : Int
  back : Int
  banded : Bool
  lo : Int
  hi : Int
  states : List St
def rcCells (x : Rc) (da : Option Addr) (dn dc : Nat) (sa : Option Addr) (sn sc : Nat) (ta : Option Addr) (tn tc : Nat) : Array Value :=
  #[.int .i64 x.letters, .slice da dn dc, .slice sa sn sc, .int .i64 x.beg, .int .i64 x.fin, .int .i64 x.front, .int .i64 x.back, .bool x.banded, .int .i64 x.lo, .int .i64 x.hi, .slice ta tn tc]
/-- States that can be read in a world. -/
structure StsAt (w : World) (ao : Option Addr) (n : Nat) (l : List St) : Prop where
  length : l.length = n
  short : n ≤ maxLen
  cells : 0 < n → ∃ g off, ao = some ⟨g, off, none⟩ ∧ ∀ (i : Nat) (s : St), l[i]? = some s → ∃ ea en ec, w.cell? ⟨g, off + i * 2, none⟩ = some (.int .i64 s.1) ∧ w.cell? ⟨g, off + i * 2 + 1, none⟩ = some (.slice ea en ec) ∧ PcsAt w ea en s.2
theorem StsAt.below {w w' : World} {ao : Option Addr} {n : Nat} {l : List St} (h : StsAt w ao n l) (hb : Below w.heap.size w w') : StsAt w' ao n l := by
  refine ⟨h.length, h.short, fun h0 => ?_⟩
  obtain ⟨g, off, e, hc⟩ := h.cells h0
  refine ⟨g, off, e, fun i q hi => ?_⟩
  obtain ⟨ea, en, ec, h1, h2, h3⟩ := hc i q hi
  exact ⟨ea, en, ec, by rw [hb.cell (World.block_lt_of_cell? w _ h1)]; exact h1, by rw [hb.cell (World.block_lt_of_cell? w _ h2)]; exact h2, h3.below hb⟩
structure RcAt (w : World) (x : Rc) (da : Option Addr) (dn : Nat) (sa : Option Addr) (sn : Nat) (ta : Option Addr) (tn : Nat) : Prop where
  defs : DfsAt w da dn x.defs
  subst : IntA w sa sn x.subst
  states : StsAt w ta tn x.states
theorem RcAt.below {w w' : World} {x : Rc} {da : Option Addr} {dn : Nat} {sa : Option Addr} {sn : Nat} {ta : Option Addr} {tn : Nat} (h : RcAt w x da dn sa sn ta tn) (hb : Below w.heap.size w w') : RcAt w' x da dn sa sn ta tn := ⟨h.defs.below hb, h.subst.below hb, h.states.below hb⟩
/-- Whether a number lies between two. -/
def inI (n a b : Int) : Bool := decide (a ≤ n) && decide (n ≤ b)
theorem inI_iff {n a b : Int} : inI n a b = true ↔ a ≤ n ∧ n ≤ b := by simp [inI]
theorem inI_no {n a b : Int} : inI n a b = false ↔ n < a ∨ b < n := by simp [inI]; omega
def placesB (n : Int) (ps : List Int) : Bool := ps.all fun p => inI p 0 (n - 1)
def edgesB (states defs : Int) : Int → List (Int × Int) → Bool
  | _, [] => true
  | least, e :: r => inI e.1 least (states - 1) && (decide (e.2 = -1) || inI e.2 0 (defs - 1)) && edgesB states defs (e.1 + 1) r
def stateB (states defs : Int) (s : St) : Bool := inI s.1 1 3 && edgesB states defs (-1) s.2
def substR (x : Rc) : Bool := inI x.letters 2 20 && (decide ((x.subst.length : Int) = x.letters * x.letters) && placesB x.defs.length x.subst)
def endsR (x : Rc) (vs : List Int) : Bool := inI x.beg 1 3 && (inI x.fin 1 3 && (placesB vs.length [x.front, x.back] && (decide (0 ≤ vAt vs x.front) && decide (0 ≤ vAt vs x.back))))
def bandR (x : Rc) : Bool := if x.banded then decide (x.lo ≤ x.hi) else decide (x.lo = 0) && decide (x.hi = 0)
def statesR (x : Rc) : Bool := decide (x.states.length ≤ 9) && x.states.all (stateB x.states.length x.defs.length)
/-- A recurrence that is right. -/
def rightR (x : Rc) : Bool := decide ((valsB x.defs).2 = 0) && (substR x && (endsR x (valsB x.defs).1 && (bandR x && statesR x)))
def foldedR (x : Rc) : Bool := x.defs.all fun d => decide (d.op = 1)
/-- The box of a recurrence, and what came behind. -/
structure Rb (w : World) (cs : Array Value) (wr : World) : Prop where
  low : Below w.heap.size w wr
  box : wr.heap[w.heap.size]? = some (.cells cs 26 (0, 0))
theorem Rb.start (w : World) (cs : Array Value) : Rb w cs (w.alloc (.cells cs 26)) := ⟨(Below.refl _ _).alloc (Nat.le_refl _) _, heap_alloc_new w _⟩
theorem Rb.next {w : World} {cs : Array Value} {wr w2 : World} (h : Rb w cs wr) (hb : Below wr.heap.size wr w2) : Rb w cs w2 :=
  ⟨h.low.trans (hb.mono h.low.size), by rw [hb.block _ (lt_block h.box)]; exact h.box⟩
theorem Rb.alloc {w : World} {cs : Array Value} {wr : World} (h : Rb w cs wr) (o : Obj) : Rb w cs (wr.alloc o) := h.next ((Below.refl _ _).alloc (Nat.le_refl _) o)
theorem Rb.drew {w : World} {cs : Array Value} {wr : World} (h : Rb w cs wr) : Rb w cs wr.drew := h.next (Below.refl _ _).drew
set_option maxRecDepth 20000 in
theorem inI_calls (n a b : Int) (w : World) : Calls Try.prog 44 #[.int .i64 n, .int .i64 a, .int .i64 b] w fun e w' => e = .returned (.bool (inI n a b)) ∧ w = w' := by
  by_cases h : a ≤ n
  · have hd : decide (a ≤ n) = true := by simpa using h
    by_cases k : n ≤ b
    · have kd : decide (n ≤ b) = true := by simpa using k
      go_enter Try.func44, Try.ntmps44
      go_wp2
      go_ret
      exact ⟨ret_bool (by simp [inI, h, k]), rfl⟩
    · have kd : decide (n ≤ b) = false := by simpa using k
      go_enter Try.func44, Try.ntmps44
      go_wp2
      go_ret
      exact ⟨ret_bool (by simp [inI, h, k]), rfl⟩
  · have hd : decide (a ≤ n) = false := by simpa using h
    go_enter Try.func44, Try.ntmps44
    go_wp2
    go_ret
    exact ⟨ret_bool (by simp [inI]; omega), rfl⟩
theorem placesB_bad {n : Int} {ps : List Int} (k : Nat) (p : Int) (hk : ps[k]? = some p) (h : inI p 0 (n - 1) = false) : placesB n ps = false := by
  unfold placesB
  rw [List.all_eq_false]
  exact ⟨p, List.mem_of_getElem? hk, by simp [h]⟩
theorem placesB_all {n : Int} {ps : List Int} (h : ∀ (j : Nat) (p : Int), ps[j]? = some p → inI p 0 (n - 1) = true) : placesB n ps = true := by
  unfold placesB
  rw [List.all_eq_true]
  intro p hp
  obtain ⟨j, hj⟩ := List.getElem?_of_mem hp
  exact h j p hj
set_option maxRecDepth 20000 in
set_option maxHeartbeats 1000000 in
theorem places_calls (n : Nat) (ps : List Int) (po : Option Addr) (pn pc : Nat) (w : World) (hn : n ≤ maxLen) (hp : IntA w po pn ps) :
    Calls Try.prog 45 #[.int .i64 (n : Int), .slice po pn pc] w fun e w' => e = .returned (.bool (placesB n ps)) ∧ w = w' := by
  have hpn := hp.short
  unfold maxLen at hpn hn
  have HP : Hid (IntA w po pn ps) := hp
  clear hp
  go_enter Try.func45, Try.ntmps45
  go_wp2
  go_loop [6, 9] (fun _ i => ∃ k : Nat, k ≤ pn ∧ i = .int .i64 k ∧ (∀ (j : Nat) (p : Int), j < k → ps[j]? = some p → inI p 0 ((n : Int) - 1) = true)) (fun _ i => pn - (intOf i).toNat)
  case atStart => exact ⟨0, Nat.zero_le _, rfl, fun j p hj => by omega⟩
  case round =>
    obtain ⟨k, hk, rfl, hall⟩ := hrel
    have HA : Hid (∀ (j : Nat) (p : Int), j < k → ps[j]? = some p → inI p 0 ((n : Int) - 1) = true) := hall
    clear hall
    by_cases hlt : k < pn
    · obtain ⟨p, hpk⟩ : ∃ p, ps[k]? = some p := ⟨ps[k]'(by rw [HP.out.length]; exact hlt), List.getElem?_eq_getElem _⟩
      obtain ⟨g1, o1, rfl, hc1⟩ := HP.out.isI k p hpk
      have HK : Hid (ps[k]? = some p) := hpk
      clear hpk
      go_wp2_with fail
      refine (inI_calls p 0 ((n : Int) - 1) w).mono ?_
      rintro e w' ⟨rfl, rfl⟩
      cases hr : inI p 0 ((n : Int) - 1) with
      | false =>
        have HE : Hid (placesB n ps = false) := placesB_bad k p HK.out hr
        go_wp2
        go_ret
        rw [HE.out]; exact ⟨rfl, rfl⟩
      | true =>
        have HR : Hid (inI p 0 ((n : Int) - 1) = true) := hr
        clear hr
        go_wp2
        go_round
        case rel =>
          refine ⟨k + 1, by omega, by go_num, ?_⟩
          intro j p' hj hjp
          by_cases e : j = k
          · subst e; rw [HK.out] at hjp; cases hjp; exact HR.out
          · exact HA.out j p' (by omega) hjp
        case measure => simp [intOf]; omega
    · have HE : Hid (placesB n ps = true) := placesB_all (fun j p hj => HA.out j p (by have := (List.getElem?_eq_some_iff.1 hj).1; rw [HP.out.length] at this; omega) hj)
      go_wp2
      go_ret
      rw [HE.out]; exact ⟨rfl, rfl⟩
end Go.Proofs.Ytolehoibpnenlab
