/- The document's Same of two slices of tokens that are alike. -/
import Derived.Test.YtahcmpmfknmecaaTokRow
import Derived.Deep.QuietTactic
import Derived.BigQuiet
import Derived.RegionTactic
import Derived.WalkSpells
import Derived.WalkLawsBesides
namespace Go.Proofs.Ytahcmpmfknmecaa
open Go.RowKit
set_option maxRecDepth 100000

set_option maxHeartbeats 1000000 in
theorem sameTok_any (A1 A2 : Option Addr) (n c1 c2 : Nat) (ts : List (List UInt8)) (w : World) (hl : ts.length = n) (hn : n ≤ 140737488355328) (h1 : Toks w A1 ts) (h2 : Toks w A2 ts) :
    Calls Try.prog 11 #[.slice A1 n c1, .slice A2 n c2] w fun e w' => e = .returned (.bool true) ∧ Drawn w w' := by
  have Hl := Lib.hid hl; clear hl
  have hnn : ((n : Int) != (n : Int)) = false := by simp
  go_enter Try.func11, Try.ntmps11
  go_wp2
  go_loopw [5] (fun i wr => ∃ (k : Nat), k ≤ n ∧ i = .int .i64 k ∧ Toks wr A1 ts ∧ Toks wr A2 ts ∧ Drawn w wr) (fun i _ => n - (intOf i).toNat)
  case atStart => exact ⟨0, Nat.zero_le _, rfl, h1, h2, Drawn.refl _⟩
  case round =>
    clear h1 h2
    obtain ⟨k, hk, rfl, h1, h2, hd⟩ := hrel
    by_cases hlt : k < n
    · have hk' : k < ts.length := by have := Hl.out; omega
      obtain ⟨g1, rfl, _, ha1, hb1⟩ := h1.get hk'
      obtain ⟨g2, rfl, _, ha2, hb2⟩ := h2.get hk'
      generalize ts[k] = x at ha1 ha2 hb1 hb2
      have hxx : (x == x) = true := by simp
      have i1 : (k : Int) < (n : Int) := by omega
      have i0 : (0 : Int) ≤ (k : Int) := by omega
      go_wp2_with fail
      go_quiet (fail)
      go_wp2
      go_roundw
      case rel => exact ⟨k + 1, by omega, by go_num, h1, h2, hd.drewN _⟩
      case measure => simp [intOf]; omega
    · go_wp2
      go_ret
      exact ⟨rfl, hd⟩
end Go.Proofs.Ytahcmpmfknmecaa
