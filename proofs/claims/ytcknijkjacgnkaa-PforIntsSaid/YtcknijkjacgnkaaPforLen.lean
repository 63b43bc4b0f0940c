/- How long a list that is taken can be. -/
import Derived.Test.YtcknijkjacgnkaaPforList
namespace Go.Proofs.Ytcknijkjacgnkaa

theorem takeBlocks_len (b : List UInt8) (v : Nat) : ∀ (acc : List UInt64) (at_ : Nat), acc.length ≤ 32 * at_ → at_ ≤ b.length → (Pfor.takeBlocks b v acc at_).1.length ≤ 32 * b.length := by
  induction v using Nat.strongRecOn with
  | ind v ih =>
    intro acc at_ h1 h2
    rcases Nat.eq_zero_or_pos v with h0 | h0
    · subst h0
      rw [Pfor.takeBlocks_zero]
      simp only
      omega
    · rw [Pfor.takeBlocks_pos b h0]
      split
      · rename_i hok
        rcases Pfor.takeBlock_cases (b.drop at_) with ⟨L, hg, hp, e⟩ | e
        · have hk := hp.length_le
          have h4 := Pfor.block_pos L
          rw [List.length_drop] at hk
          rw [e] at hok ⊢
          simp only at hok ⊢
          have := hg.2
          exact ih (v - 32) (by omega) _ _ (by rw [List.length_append]; omega) (by omega)
        · rw [e] at hok
          have := hok.1
          cases this
      · exact Nat.zero_le _
theorem takeList_len (b : List UInt8) (z : Int) : (Pfor.takeList b z).1.length ≤ 32 * b.length := by
  unfold Pfor.takeList
  split
  · exact Nat.zero_le _
  · split
    · exact Nat.zero_le _
    · split
      · exact Nat.zero_le _
      · rename_i h _
        rcases Num.take_cases b with ⟨v, s, ht⟩ | ⟨e, ht, he⟩
        · have h3 := (Num.num_take ht).2.2.1
          rw [ht]
          exact takeBlocks_len b v [] s (by simp) h3
        · rw [ht] at h
          simp only at h
          omega
end Go.Proofs.Ytcknijkjacgnkaa
