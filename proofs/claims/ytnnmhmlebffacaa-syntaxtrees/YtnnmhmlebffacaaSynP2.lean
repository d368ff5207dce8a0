/-
  What a rule leaves of the tokens is an end of them.
-/
import Derived.Test.YtnnmhmlebffacaaSynP
namespace Go.Proofs.Ytnnmhmlebffacaa
open Go.Deep

theorem bind_suf {α β : Type} {x : Rs α} {f : α → List Tk → Rs β} {l : List Tk} (h : x.rest <:+ l) (hf : ∀ a, (f a x.rest).rest <:+ x.rest) : (x.bind f).rest <:+ l := by
  cases hx : x.val with
  | none => rw [bind_none _ hx]; exact h
  | some a => rw [bind_some _ hx]; exact (hf a).trans h
theorem note_suf {α : Type} {c : Bool} {l l' : List Tk} {x : Rs α} (h : x.rest <:+ l') : (note c l x).rest <:+ l' := by
  unfold note; split <;> exact h
theorem sign_suf (s : List UInt8) (l : List Tk) : (signG s l).rest <:+ l := by
  cases l with
  | nil => exact List.suffix_refl _
  | cons t r =>
    show (if isT 6 s t = true then pure' () r else wrong' (t :: r)).rest <:+ _
    split
    · exact List.suffix_cons _ _
    · exact List.suffix_refl _
theorem close_suf {α : Type} {s : List UInt8} {x : Rs α} {l : List Tk} (h : x.rest <:+ l) : (closeG s x).rest <:+ l :=
  bind_suf h fun _ => bind_suf (sign_suf s _) fun _ => List.suffix_refl _
section
variable {fac : List Tk → Rs Ex} (hf : ∀ l, (fac l).rest <:+ l)
theorem termGo_suf (hf : ∀ l, (fac l).rest <:+ l) : ∀ (m : Nat) (e : Ex) (l : List Tk), (termGo fac m e l).rest <:+ l
  | 0, e, l => List.suffix_refl _
  | _ + 1, e, [] => List.suffix_refl _
  | m + 1, e, t :: r => by
    rw [termGo]
    split
    · exact (bind_suf (hf r) fun a => termGo_suf hf m _ _).trans (List.suffix_cons _ _)
    · exact List.suffix_refl _
theorem term_suf (hf : ∀ l, (fac l).rest <:+ l) (l : List Tk) : (termG fac l).rest <:+ l := bind_suf (hf l) fun _ => termGo_suf hf _ _ _
theorem exprGo_suf (hf : ∀ l, (fac l).rest <:+ l) : ∀ (m : Nat) (e : Ex) (l : List Tk), (exprGo fac m e l).rest <:+ l
  | 0, e, l => List.suffix_refl _
  | _ + 1, e, [] => List.suffix_refl _
  | m + 1, e, t :: r => by
    rw [exprGo]
    split
    · exact (bind_suf (hf r) fun a => exprGo_suf hf m _ _).trans (List.suffix_cons _ _)
    · exact List.suffix_refl _
theorem expr_suf (hf : ∀ l, (fac l).rest <:+ l) (l : List Tk) : (exprG fac l).rest <:+ l := bind_suf (term_suf hf l) fun _ => exprGo_suf (term_suf hf) _ _ _
theorem kidsGo_suf (hf : ∀ l, (fac l).rest <:+ l) : ∀ (m : Nat) (ks : List Ex) (l : List Tk), (kidsGo fac m ks l).rest <:+ l
  | 0, e, l => List.suffix_refl _
  | _ + 1, e, [] => List.suffix_refl _
  | m + 1, e, t :: r => by
    rw [kidsGo]
    split
    · exact (note_suf (bind_suf (hf r) fun a => kidsGo_suf hf m _ _)).trans (List.suffix_cons _ _)
    · exact List.suffix_refl _
theorem kids_suf (hf : ∀ l, (fac l).rest <:+ l) (l : List Tk) : (kidsG fac l).rest <:+ l :=
  bind_suf (sign_suf _ l) fun _ => close_suf (bind_suf (hf _) fun _ => kidsGo_suf hf _ _ _)
end
theorem fac_suf : ∀ (n : Nat) (l : List Tk), (facN n l).rest <:+ l
  | 0, l => List.suffix_refl _
  | _ + 1, [] => List.suffix_refl _
  | n + 1, t :: r => by
    have h := fac_suf n
    rw [facN]
    repeat' split
    all_goals first
      | exact List.suffix_cons _ _
      | exact List.suffix_refl _
      | exact (h r).trans (List.suffix_cons _ _)
      | exact (close_suf (expr_suf h r)).trans (List.suffix_cons _ _)
      | exact (kids_suf (expr_suf h) r).trans (List.suffix_cons _ _)
theorem suf_len {a b : List Tk} (h : a <:+ b) : a.length ≤ b.length := h.length_le
end Go.Proofs.Ytnnmhmlebffacaa
