/- The table of pieces: the order of the candidates, the first of them: plain. -/
import Derived.Test.YtmcioglidgbibaaSymPie
namespace Go.Proofs.Ytmcioglidgbibaa.Sym

/-- what a piece is worth -/
def val (P : List (List UInt8)) (s : List UInt8) : Int := ((s.length : Int) - 1) * (P.count s : Int)
/-- does s come ahead of u? -/
def ahead (P : List (List UInt8)) (s u : List UInt8) : Bool := decide (val P u < val P s) || (decide (val P u = val P s) && decide (s < u))
theorem ahead_iff {P : List (List UInt8)} {s u : List UInt8} : ahead P s u = true ↔ val P u < val P s ∨ (val P u = val P s ∧ s < u) := by simp [ahead]
theorem ahead_not {P : List (List UInt8)} {s u : List UInt8} : ahead P s u = false ↔ val P s ≤ val P u ∧ (val P u = val P s → u ≤ s) := by
  rw [← Bool.not_eq_true, ahead_iff]
  constructor
  · intro h
    refine ⟨by omega, fun e => List.not_lt.1 fun hl => h (.inr ⟨e, hl⟩)⟩
  · rintro ⟨h1, h2⟩ (h | ⟨e, hl⟩)
    · omega
    · exact absurd hl (List.not_lt.2 (h2 e))
theorem ahead_irrefl (P : List (List UInt8)) (s : List UInt8) : ahead P s s = false := ahead_not.2 ⟨Int.le_refl _, fun _ => List.le_refl _⟩
theorem ahead_trans {P : List (List UInt8)} {a b c : List UInt8} (h1 : ahead P a b = true) (h2 : ahead P b c = true) : ahead P a c = true := by
  rw [ahead_iff] at *
  rcases h1 with h1 | ⟨e1, l1⟩ <;> rcases h2 with h2 | ⟨e2, l2⟩
  · exact .inl (by omega)
  · exact .inl (by omega)
  · exact .inl (by omega)
  · exact .inr ⟨by omega, List.lt_trans l1 l2⟩
theorem ahead_ntrans {P : List (List UInt8)} {a b c : List UInt8} (h1 : ahead P a b = false) (h2 : ahead P b c = false) : ahead P a c = false := by
  rw [ahead_not] at *
  refine ⟨by omega, fun e => ?_⟩
  have e1 : val P b = val P a := by omega
  have e2 : val P c = val P b := by omega
  exact List.le_trans (h2.2 e2) (h1.2 e1)
theorem ahead_same {P : List (List UInt8)} {a b : List UInt8} (h1 : ahead P a b = false) (h2 : ahead P b a = false) : a = b := by
  rw [ahead_not] at *
  have e : val P b = val P a := by omega
  exact List.le_antisymm (h2.2 e.symm) (h1.2 e)

/-- each once -/
def dedup : List (List UInt8) → List (List UInt8)
  | [] => []
  | s :: r => if s ∈ r then dedup r else s :: dedup r
theorem mem_dedup {s : List UInt8} : ∀ {l : List (List UInt8)}, s ∈ dedup l ↔ s ∈ l
  | [] => Iff.rfl
  | u :: r => by
    unfold dedup
    split
    · rename_i h
      rw [mem_dedup, List.mem_cons]
      exact ⟨.inr, fun h' => h'.elim (fun e => e ▸ h) id⟩
    · rw [List.mem_cons, List.mem_cons, mem_dedup]
theorem nodup_dedup : ∀ l : List (List UInt8), (dedup l).Nodup
  | [] => List.nodup_nil
  | u :: r => by
    unfold dedup
    split
    · exact nodup_dedup r
    · rename_i h
      exact List.nodup_cons.2 ⟨fun h' => h (mem_dedup.1 h'), nodup_dedup r⟩
/-- those that come twice and more -/
def cands (P : List (List UInt8)) : List (List UInt8) := (dedup P).filter fun s => decide (2 ≤ P.count s)
theorem mem_cands {P : List (List UInt8)} {s : List UInt8} : s ∈ cands P ↔ 2 ≤ P.count s := by
  unfold cands
  rw [List.mem_filter, mem_dedup, decide_eq_true_iff]
  refine ⟨fun h => h.2, fun h => ⟨?_, h⟩⟩
  rcases Classical.em (s ∈ P) with hm | hm
  · exact hm
  · rw [List.count_eq_zero_of_not_mem hm] at h; omega
theorem nodup_cands (P : List (List UInt8)) : (cands P).Nodup := (nodup_dedup P).filter _
/-- not behind -/
def leP (P : List (List UInt8)) (s u : List UInt8) : Bool := !ahead P u s
theorem leP_trans (P : List (List UInt8)) : ∀ a b c, leP P a b = true → leP P b c = true → leP P a c = true := fun a b c h1 h2 => by
  unfold leP at *
  rw [Bool.not_eq_true'] at *
  exact ahead_ntrans h2 h1
theorem leP_total (P : List (List UInt8)) : ∀ a b, (leP P a b || leP P b a) = true := fun a b => by
  unfold leP
  rcases h : ahead P b a with _ | _
  · rfl
  · rcases h2 : ahead P a b with _ | _
    · rfl
    · have := ahead_trans h h2
      rw [ahead_irrefl] at this
      cases this
/-- the candidates in their order -/
def srt (P : List (List UInt8)) : List (List UInt8) := (cands P).mergeSort (leP P)
theorem mem_srt {P : List (List UInt8)} {s : List UInt8} : s ∈ srt P ↔ 2 ≤ P.count s := by unfold srt; rw [List.mem_mergeSort, mem_cands]
theorem nodup_srt (P : List (List UInt8)) : (srt P).Nodup := (List.mergeSort_perm (cands P) (leP P)).nodup_iff.2 (nodup_cands P)
theorem srt_pairwise (P : List (List UInt8)) : (srt P).Pairwise fun a b => leP P a b = true := List.pairwise_mergeSort (leP_trans P) (leP_total P) _
/-- candidates, in whatever order they came, come to the same -/
theorem srt_unique {P l : List (List UInt8)} (hn : l.Nodup) (hm : ∀ s, s ∈ l ↔ 2 ≤ P.count s) : l.mergeSort (leP P) = srt P := by
  have hp : l.Perm (cands P) := (List.perm_ext_iff_of_nodup hn (nodup_cands P)).2 fun s => by rw [hm, mem_cands]
  refine List.Perm.eq_of_pairwise (le := fun a b => leP P a b = true) (fun a b _ _ h1 h2 => ?_) (List.pairwise_mergeSort (leP_trans P) (leP_total P) l) (srt_pairwise P) (((List.mergeSort_perm l (leP P)).trans hp).trans (List.mergeSort_perm (cands P) (leP P)).symm)
  unfold leP at h1 h2
  rw [Bool.not_eq_true'] at h1 h2
  exact ahead_same h2 h1
/-- the table -/
def train (P : List (List UInt8)) : List (List UInt8) := (srt P).take 32
theorem train_formed {P : List (List UInt8)} (h : ∀ p ∈ P, 2 ≤ p.length ∧ p.length ≤ 8) : Formed (train P) := by
  refine ⟨by unfold train; rw [List.length_take]; omega, fun s hs => ?_, (nodup_srt P).sublist (List.take_sublist _ _)⟩
  have h2 := mem_srt.1 (List.mem_of_mem_take hs)
  refine h s ?_
  rcases Classical.em (s ∈ P) with hm | hm
  · exact hm
  · rw [List.count_eq_zero_of_not_mem hm] at h2; omega
theorem count_mem {P : List (List UInt8)} {s : List UInt8} (h : 2 ≤ P.count s) : s ∈ P := by
  rcases Classical.em (s ∈ P) with hm | hm
  · exact hm
  · rw [List.count_eq_zero_of_not_mem hm] at h; omega
end Go.Proofs.Ytmcioglidgbibaa.Sym
