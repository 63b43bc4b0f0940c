/- Lists of byte slices: what they hold, how one is appended to, how two are compared. -/
import Derived.Test.YtgjofpjijnbjeaaDoorUniform
namespace Go.Proofs.YtgjofpjijnbjeaaDoor
open Go.RowKit

/-- A slice of byte slices with address A holds the lists ls, in blocks below B. -/
def Lists (w : World) (B : Nat) (A : Option Addr) (ls : List (List UInt8)) : Prop :=
  ls ≠ [] → ∃ ad, A = some ad ∧ ad.block < B ∧ ∀ i, (h : i < ls.length) → ∃ Ai ci, w.cell? (ad.add i) = some (.slice Ai ls[i].length ci) ∧ Bytes w B Ai ls[i]
namespace Lists
variable {w w' : World} {B B' : Nat} {A : Option Addr} {ls : List (List UInt8)}
theorem nil (w : World) (B : Nat) (A : Option Addr) : Lists w B A [] := fun h => absurd rfl h
theorem keep (h : Lists w B A ls) (hk : ∀ p : Addr, p.block < B → w'.cell? p = w.cell? p) : Lists w' B A ls := fun hn => by
  obtain ⟨ad, ha, hb, hc⟩ := h hn
  refine ⟨ad, ha, hb, fun i hi => ?_⟩
  obtain ⟨Ai, ci, h1, h2⟩ := hc i hi
  exact ⟨Ai, ci, (hk _ (by rw [addr_add_block]; exact hb)).trans h1, h2.keep hk⟩
theorem below (h : Lists w B A ls) (hb : Below B w w') : Lists w' B A ls := h.keep fun _ hp => hb.cell hp
theorem wide (h : Lists w B A ls) (hB : B ≤ B') : Lists w B' A ls := fun hn => by
  obtain ⟨ad, ha, hb, hc⟩ := h hn
  refine ⟨ad, ha, Nat.lt_of_lt_of_le hb hB, fun i hi => ?_⟩
  obtain ⟨Ai, ci, h1, h2⟩ := hc i hi
  exact ⟨Ai, ci, h1, h2.wide hB⟩
theorem drewN (h : Lists w B A ls) (q : Nat) : Lists (w.drewN q) B A ls := h
theorem take (h : Lists w B A ls) (k : Nat) : Lists w B A (ls.take k) := fun hn => by
  obtain ⟨ad, ha, hb, hc⟩ := h (fun e => hn (by subst e; simp))
  refine ⟨ad, ha, hb, fun i hi => ?_⟩
  have hi' : i < ls.length := by simp at hi; omega
  obtain ⟨Ai, ci, h1, h2⟩ := hc i hi'
  have e : (ls.take k)[i] = ls[i] := List.getElem_take
  rw [e]
  exact ⟨Ai, ci, h1, h2⟩
theorem at_ (h : Lists w B A ls) {k : Nat} (hk : k < ls.length) : ∃ ad Ai ci, A = some ad ∧ ad.block < B ∧ w.cell? (ad.add k) = some (.slice Ai ls[k].length ci) ∧ Bytes w B Ai ls[k] := by
  obtain ⟨ad, ha, hb, hc⟩ := h (fun e => by subst e; simp at hk)
  obtain ⟨Ai, ci, h1, h2⟩ := hc k hk
  exact ⟨ad, Ai, ci, ha, hb, h1, h2⟩
end Lists

/-- only draws lie between the two worlds -/
def Drawn (w w' : World) : Prop := ∃ q, w' = w.drewN q
theorem Drawn.drewN {w w' : World} (h : Drawn w w') (n : Nat) : Drawn w (w'.drewN n) := by
  obtain ⟨q, rfl⟩ := h
  exact ⟨q + n, World.drewN_drewN _ _ _⟩
theorem Drawn.below {w w' : World} (h : Drawn w w') (B : Nat) : Below B w w' := by
  obtain ⟨q, rfl⟩ := h
  exact below_drewN (Below.refl _ _) q

set_option maxHeartbeats 400000 in
theorem lists_same (A1 A2 : Option Addr) (n c1 c2 B1 B2 : Nat) (ls : List (List UInt8)) (w : World) (hl : ls.length = n) (hn : n ≤ 140737488355328) (h1 : Lists w B1 A1 ls) (h2 : Lists w B2 A2 ls) :
    Calls Tryd.prog 24 #[.slice A1 n c1, .slice A2 n c2] w fun e w' => e = .returned (.bool true) ∧ Drawn w w' := by
  have Hl := Lib.hid hl; clear hl
  have hnn : ((n : Int) != (n : Int)) = false := by simp
  go_enter Tryd.func24, Tryd.ntmps24
  go_wp2
  go_loopw [5] (fun i wr => ∃ (k : Nat), k ≤ n ∧ i = .int .i64 k ∧ Lists wr B1 A1 ls ∧ Lists wr B2 A2 ls ∧ Drawn w wr) (fun i _ => n - (intOf i).toNat)
  case atStart => exact ⟨0, Nat.zero_le _, rfl, h1, h2, 0, rfl⟩
  case round =>
    clear h1 h2
    obtain ⟨k, hk, rfl, h1, h2, hd⟩ := hrel
    by_cases hlt : k < n
    · have hk' : k < ls.length := by have := Hl.out; omega
      obtain ⟨ad1, Ai1, ci1, rfl, _, hc1, hb1⟩ := h1.at_ hk'
      obtain ⟨ad2, Ai2, ci2, rfl, _, hc2, hb2⟩ := h2.at_ hk'
      have hS := fun q => Lib.hid (same_any Ai1 Ai2 ls[k].length ls[k].length ci1 ci2 B1 B2 ls[k] ls[k] (wr.drewN q) rfl rfl (hb1.drewN q) (hb2.drewN q))
      rw [beq_self_eq_true] at hS
      generalize ls[k].length = m at hc1 hc2 hS
      clear hb1 hb2
      have i1 : (k : Int) < (n : Int) := by omega
      have i0 : (0 : Int) ≤ (k : Int) := by omega
      go_wp2_with fail
      go_quiet ((go_at_call 17; exact quiet_left (hS _).out))
      go_wp2
      go_roundw
      case rel => exact ⟨k + 1, by omega, by go_num, h1, h2, hd.drewN _⟩
      case measure => simp [intOf]; omega
    · go_wp2
      go_ret
      exact ⟨rfl, hd⟩
end Go.Proofs.YtgjofpjijnbjeaaDoor
