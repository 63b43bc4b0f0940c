/- dragnetref01.Same: are two byte slices alike? -/
import Derived.Test.YtbjoboemhdcalaaDoorOwn
import Derived.WalkSpells
import Derived.WalkLawsBesides
import Derived.Laws.IdiomStrings
import Derived.Lib.BufferRead
namespace Go.Proofs.YtbjoboemhdcalaaDoor
open Go.RowKit
set_option maxRecDepth 100000

theorem run_string_of {w : World} {B : Nat} {A : Option Addr} {l : List UInt8} (hb : Bytes w B A l) (c : Nat) :
    (convert 31 9 (.slice A l.length c)).run Tryd.prog w = .ok (.string ⟨l.toArray⟩) w := by
  rcases A with _ | ad
  · have hl : l = [] := by
      rcases Classical.em (l = []) with h | h
      · exact h
      · obtain ⟨_, h, _⟩ := hb h; cases h
    subst hl
    exact Lib.run_convert_nil_bytes w 31 9 5 c Tryd.underlying31 Tryd.underlying5 Tryd.underlying9
  · refine run_convert_bytes_back w 31 9 5 ad c l Tryd.underlying31 Tryd.underlying5 Tryd.underlying9 fun j hj => ?_
    obtain ⟨ad', h, _, hc⟩ := hb (fun e => by subst e; simp at hj)
    cases h
    exact hc j hj

theorem same_any (A1 A2 : Option Addr) (n1 n2 c1 c2 B1 B2 : Nat) (l1 l2 : List UInt8) (w : World) (hl1 : l1.length = n1) (hl2 : l2.length = n2) (hb1 : Bytes w B1 A1 l1) (hb2 : Bytes w B2 A2 l2) :
    Calls Tryd.prog 22 #[.slice A1 n1 c1, .slice A2 n2 c2] w fun e w' => e = .returned (.bool (l1 == l2)) ∧ w = w' := by
  have h1 := run_string_of hb1 c1
  have h2 := run_string_of hb2 c2
  rw [hl1] at h1
  rw [hl2] at h2
  clear hl1 hl2 hb1 hb2
  go_enter Tryd.func22, Tryd.ntmps22
  go_wp2
  go_ret
  exact ⟨rfl, rfl⟩
end Go.Proofs.YtbjoboemhdcalaaDoor
