/- Frames one behind the other, split; and cut anywhere. Plain facts about lists. -/
import Derived.Test.YtgjofpjijnbjeaaDoorBurst
import Derived.Test.YtgjofpjijnbjeaaDoorListOwn
namespace Go.Proofs.YtgjofpjijnbjeaaDoor
open Go.RowKit

def cat (ls : List (List UInt8)) : List UInt8 := ls.flatMap frame
theorem cat_nil : cat [] = [] := rfl
theorem cat_cons (p : List UInt8) (ls : List (List UInt8)) : cat (p :: ls) = frame p ++ cat ls := by simp [cat]
theorem cat_append (a b : List (List UInt8)) : cat (a ++ b) = cat a ++ cat b := by simp [cat]
theorem cat_snoc (a : List (List UInt8)) (p : List UInt8) : cat (a ++ [p]) = cat a ++ frame p := by rw [cat_append, cat_cons, cat_nil, List.append_nil]
/-- lists that all fit a frame -/
def Fit (ls : List (List UInt8)) : Prop := ∀ p ∈ ls, p.length ≤ 16777216

theorem word_frame_append {p : List UInt8} (h : p.length ≤ 16777216) (r : List UInt8) : word (frame p ++ r) = p.length := by
  unfold frame
  rw [List.append_assoc, List.append_assoc]
  exact word_four _ (by omega) _
theorem frameErr_frame_append {p : List UInt8} (h : p.length ≤ 16777216) (r : List UInt8) : frameErr (frame p ++ r) = 0 := by
  have hw := word_frame_append h r
  have hl : (frame p ++ r).length = p.length + 8 + r.length := by rw [List.length_append, frame_length]
  have hs : sizeErr (frame p ++ r) = 0 := by unfold sizeErr; rw [hw, hl, if_neg (by omega), if_neg (by omega), if_neg (by omega)]
  have hfl := frame_length p
  have ho : sumOk (frame p ++ r) := by
    unfold sumOk
    rw [hw, List.take_append_of_le_length (by omega), List.drop_append_of_le_length (by omega), (head_frame p).1, (head_frame p).2]
    exact (word_four _ (Plain.sum_lt _) r).symm
  unfold frameErr
  rw [hs, if_neg (by omega), if_pos ho]
theorem pay_frame_append {p : List UInt8} (h : p.length ≤ 16777216) (r : List UInt8) : pay (frame p ++ r) = p := by
  have hp := pay_frame h
  have hfl := frame_length p
  unfold pay at hp ⊢
  rw [word_frame h] at hp
  rw [word_frame_append h r, List.drop_append_of_le_length (by omega), List.take_append_of_le_length (by simp; omega)]
  exact hp
theorem drop_frame_append (p r : List UInt8) : (frame p ++ r).drop (p.length + 8) = r := List.drop_left' (frame_length p)

theorem split_cat {ls : List (List UInt8)} (hf : Fit ls) : ∀ (R : List UInt8) (f : Nat), (cat ls ++ R).length ≤ f →
    ∃ g, R.length ≤ g ∧ split f (cat ls ++ R) = (ls ++ (split g R).1, (cat ls).length + (split g R).2.1, (split g R).2.2) := by
  induction ls with
  | nil => exact fun R f h => ⟨f, by simpa [cat] using h, by simp [cat]⟩
  | cons p ls ih =>
    intro R f h
    have hp := hf p (by simp)
    have hfl := frame_length p
    rw [cat_cons, List.append_assoc] at h ⊢
    obtain ⟨f, rfl⟩ : ∃ g, f = g + 1 := ⟨f - 1, by simp at h; omega⟩
    obtain ⟨g, hg, he⟩ := ih (fun q hq => hf q (by simp [hq])) R f (by simp at h ⊢; omega)
    refine ⟨g, hg, ?_⟩
    have hne : frame p ++ (cat ls ++ R) ≠ [] := fun e => by have := congrArg List.length e; rw [List.length_append, hfl, List.length_nil] at this; omega
    rw [split_ok hne (frameErr_frame_append hp _), word_frame_append hp, pay_frame_append hp, drop_frame_append, he]
    simp [hfl, Nat.add_assoc]
theorem split_whole {ls : List (List UInt8)} (hf : Fit ls) : split (cat ls).length (cat ls) = (ls, (cat ls).length, 0) := by
  obtain ⟨g, _, he⟩ := split_cat hf [] (cat ls).length (by simp)
  rw [List.append_nil, split_nil] at he
  simpa using he

/-- a piece of a frame is too short -/
theorem frameErr_piece {p : List UInt8} (h : p.length ≤ 16777216) {m : Nat} (hm : m < p.length + 8) : frameErr ((frame p).take m) = 3 := by
  have hl : ((frame p).take m).length = m := by rw [List.length_take, frame_length]; omega
  have hs : sizeErr ((frame p).take m) = 3 := by
    unfold sizeErr
    rw [hl]
    by_cases h8 : m < 8
    · rw [if_pos h8]
    · rw [if_neg h8, word_take _ _ (by omega), word_frame h, if_neg (by omega), if_pos hm]
  unfold frameErr
  rw [hs, if_pos (by omega)]

/-- where the first k frames end -/
def stop (ls : List (List UInt8)) (k : Nat) : Nat := (cat (ls.take k)).length
theorem stop_zero (ls : List (List UInt8)) : stop ls 0 = 0 := by simp [stop, cat]
theorem stop_all (ls : List (List UInt8)) : stop ls ls.length = (cat ls).length := by simp [stop]
theorem stop_succ {ls : List (List UInt8)} {k : Nat} (h : k < ls.length) : stop ls (k + 1) = stop ls k + (ls[k].length + 8) := by
  unfold stop
  rw [List.take_succ_eq_append_getElem h, cat_snoc, List.length_append, frame_length]
theorem stop_le (ls : List (List UInt8)) (k : Nat) : stop ls k ≤ (cat ls).length := by
  unfold stop
  have h : cat ls = cat (ls.take k) ++ cat (ls.drop k) := by rw [← cat_append, List.take_append_drop]
  rw [h, List.length_append]
  omega

/-- THE CUT: of frames one behind the other, cut at any place, those are split that are whole -/
theorem split_cut {ls : List (List UInt8)} (hf : Fit ls) {cut k : Nat} (hc : cut ≤ (cat ls).length) (hk : k ≤ ls.length) (h1 : stop ls k ≤ cut) (h2 : k < ls.length → cut < stop ls (k + 1)) :
    split ((cat ls).take cut).length ((cat ls).take cut) = (ls.take k, stop ls k, if stop ls k = cut then 0 else 3) := by
  have h : cat ls = cat (ls.take k) ++ cat (ls.drop k) := by rw [← cat_append, List.take_append_drop]
  have ht : (cat ls).take cut = cat (ls.take k) ++ (cat (ls.drop k)).take (cut - stop ls k) := by
    rw [h, List.take_append]
    congr 1
    exact List.take_of_length_le h1
  have hfk : Fit (ls.take k) := fun p hp => hf p (List.mem_of_mem_take hp)
  obtain ⟨g, hg, he⟩ := split_cat hfk ((cat (ls.drop k)).take (cut - stop ls k)) _ (Nat.le_refl _)
  rw [ht, he]
  by_cases hE : stop ls k = cut
  · rw [show cut - stop ls k = 0 from by omega, List.take_zero, split_nil, if_pos hE, List.append_nil, Nat.add_zero]
    rfl
  · have hlt : k < ls.length := by
      rcases Nat.lt_or_ge k ls.length with hlt | hge
      · exact hlt
      · have : k = ls.length := by omega
        subst this
        rw [stop_all] at hE h1
        omega
    have h3 := h2 hlt
    rw [stop_succ hlt] at h3
    have hd : ls.drop k = ls[k] :: ls.drop (k + 1) := List.drop_eq_getElem_cons hlt
    have hR : (cat (ls.drop k)).take (cut - stop ls k) = (frame ls[k]).take (cut - stop ls k) := by
      rw [hd, cat_cons, List.take_append_of_le_length (by rw [frame_length]; omega)]
    rw [hR] at hg ⊢
    have hl : ((frame ls[k]).take (cut - stop ls k)).length = cut - stop ls k := by rw [List.length_take, frame_length]; omega
    have hne : (frame ls[k]).take (cut - stop ls k) ≠ [] := fun e => by rw [e] at hl; simp at hl; omega
    have hp : frameErr ((frame ls[k]).take (cut - stop ls k)) = 3 := frameErr_piece (hf _ (List.getElem_mem hlt)) (by omega)
    obtain ⟨g, rfl⟩ : ∃ m, g = m + 1 := ⟨g - 1, by omega⟩
    rw [split_err hne (by omega), hp, if_neg hE, List.append_nil, Nat.add_zero]
    rfl
end Go.Proofs.YtgjofpjijnbjeaaDoor
