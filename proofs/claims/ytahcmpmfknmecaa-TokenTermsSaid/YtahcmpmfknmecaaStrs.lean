/- Slices of strings: what they hold, copied, compared, looked through, and those that come in. -/
import Derived.Test.YtahcmpmfknmecaaDraws
import Derived.Test.YtahcmpmfknmecaaRow
import Derived.Test.YtahcmpmfknmecaaFits
import Derived.Test.YtahcmpmfknmecaaLawIn
import Derived.SliceStrings
import Derived.Deep.OwnRows
import Derived.Deep.QuietTactic
import Derived.BigQuiet
import Derived.RegionTactic
import Derived.ChangeAlike
namespace Go.Proofs.Ytahcmpmfknmecaa
open Go.ChangeShapes Go.WideShapes Go.ChangeAt Go.RowKit
set_option maxRecDepth 100000

/-- a string as a value -/
def sval (l : List UInt8) : Value := .string ⟨l.toArray⟩
theorem string_info : (Try.prog.info? 9).map (fun i => (i.zero, i.size, i.bytes)) = some (some (.string ⟨#[]⟩), 1, 16) := by kernel_rfl
theorem cellsStr : Try.prog.cellsOf 9 = 1 := by kernel_rfl
theorem bytesStr : Try.prog.bytesOf 9 = 16 := by kernel_rfl
theorem elemStr : Elem sval 30 9 16 := ⟨fun _ => rfl, Try.underlying30, by
  obtain ⟨i0, hi0, hz0, hz1, hz2⟩ := info_parts string_info
  exact ⟨i0, _, hi0, hz0, hz1, hz2, rfl⟩⟩
/-- A slice with address A holds the strings t, in a block below B. -/
abbrev Strs (w : World) (B : Nat) (A : Option Addr) (t : List (List UInt8)) : Prop := Row sval w B A t
/-- The slice at A, of n strings, is t, in a block from 'base' on that nothing else holds. -/
abbrev SOwn (w : World) (base : Nat) (A : Option Addr) (n c : Nat) (t : List (List UInt8)) : Prop := ROwn sval 9 w base A n c t

set_option maxHeartbeats 400000 in
theorem sameStr_any (A1 A2 : Option Addr) (n c1 c2 B1 B2 : Nat) (t : List (List UInt8)) (w : World) (hl : t.length = n) (hn : n ≤ 140737488355328) (h1 : Strs w B1 A1 t) (h2 : Strs w B2 A2 t) :
    Calls Try.prog 17 #[.slice A1 n c1, .slice A2 n c2] w fun e w' => e = .returned (.bool true) ∧ Drawn w w' := by
  have Hl := Lib.hid hl; clear hl
  have hnn : ((n : Int) != (n : Int)) = false := by simp
  go_enter Try.func17, Try.ntmps17
  go_wp2
  go_loopw [5] (fun i wr => ∃ (k : Nat), k ≤ n ∧ i = .int .i64 k ∧ Strs wr B1 A1 t ∧ Strs wr B2 A2 t ∧ Drawn w wr) (fun i _ => n - (intOf i).toNat)
  case atStart => exact ⟨0, Nat.zero_le _, rfl, h1, h2, Drawn.refl _⟩
  case round =>
    clear h1 h2
    obtain ⟨k, hk, rfl, h1, h2, hd⟩ := hrel
    by_cases hlt : k < n
    · have hk' : k < t.length := by have := Hl.out; omega
      obtain ⟨ad1, rfl, _, hc1⟩ := h1.get hk'
      obtain ⟨ad2, rfl, _, hc2⟩ := h2.get hk'
      simp only [sval] at hc1 hc2
      generalize t[k] = x at hc1 hc2
      have hxx : (x != x) = false := by simp
      have i1 : (k : Int) < (n : Int) := by omega
      have i0 : (0 : Int) ≤ (k : Int) := by omega
      go_wp2_with fail
      go_quiet (fail)
      go_wp2
      go_roundw
      case rel => exact ⟨k + 1, by omega, by go_num, h1, h2, hd.drewN _⟩
      case measure => simp [intOf]; omega
    · go_wp2
      go_ret
      exact ⟨rfl, hd⟩

/-- A slice of strings that came in: its strings, and how it is read. -/
theorem open_strs {H : Type} {enc : TypeId × Value → H} {W : World} {a : Option Addr} {len cap : Nat} {d : DataW H} {p : List MemPlace}
    (h : DataW.Trod enc Try.prog W 0 (fun _ => true) true 30 (.slice a len cap) d p) :
    ∃ t : List (List UInt8), t.length = len ∧ len ≤ cap ∧ Strs W W.heap.size a t ∧ (∀ s ∈ t, s.length ≤ maxLen) ∧ (d = .nil ∧ len = 0 ∨ ∃ elems spare, d = .slice elems spare ∧ elems.length = len) := by
  obtain ⟨fuel, hf⟩ := h
  rcases open_strings Try.underlying30 Try.underlying9 cellsStr hf with ⟨hcs, hx⟩ | ⟨x, l, c, ss, hcs, _, hl, hm, hz, hx, hcell, hwz⟩
  · simp [Value.cells] at hcs
    obtain ⟨rfl, rfl, rfl⟩ := hcs
    injection hx with hx1 hx2
    exact ⟨[], rfl, Nat.le_refl _, Row.nil _ _ _ _, by simp, .inl ⟨hx1, rfl⟩⟩
  · simp [Value.cells] at hcs
    obtain ⟨rfl, rfl, rfl⟩ := hcs
    injection hx with hx1 hx2
    simp only [if_true] at hz
    refine ⟨(ss.take len).map fun s => s.data.toList, by simp; omega, hl, fun hn => ⟨x, rfl, ?_, fun i hi => ?_⟩, ?_, .inr ⟨_, _, hx1, by simp [strs]; omega⟩⟩
    · have h0 : 0 < ss.length := by
        rcases Nat.eq_zero_or_pos ss.length with h0 | h0
        · have : ss = [] := List.eq_nil_of_length_eq_zero h0
          subst this
          simp at hn
        · exact h0
      have hc0 := hcell 0 h0
      rcases Nat.lt_or_ge x.block W.heap.size with hlt' | hge
      · exact hlt'
      · have : (x.add 0).block = x.block := addr_add_block x 0
        simp [World.cell?, this, Array.getElem?_eq_none hge] at hc0
    · have hi' : i < ss.length := by simp at hi; omega
      rw [hcell i hi']
      simp only [List.getElem_map, List.getElem_take, sval]
      simp [List.getD_eq_getElem?_getD, List.getElem?_eq_getElem hi']
    · intro s hs
      obtain ⟨u, hu, rfl⟩ := List.mem_map.1 hs
      have := hwz u (List.mem_of_mem_take hu)
      rw [Array.length_toList]
      exact this
/-- THE REACH: a slice of strings that came in has fewer than 2^43 strings. -/
theorem reach_strs {H : Type} {ts : List TypeId} {ds : List (DataW H)} {j len : Nat} {d : DataW H} (h : (DataW.weightsEach Try.prog ts ds).all (· ≤ reachBytes) = true)
    (ht : ts[j]? = some 30) (hd : ds[j]? = some d) (hv : d = .nil ∧ len = 0 ∨ ∃ elems spare, d = .slice elems spare ∧ elems.length = len) : 16 * len ≤ 140737488351232 := by
  rcases hv with ⟨_, rfl⟩ | ⟨elems, spare, rfl, rfl⟩
  · omega
  · have := sized_slice h ht hd Try.underlying30
    rw [bytesStr] at this
    simp only [reachBytes] at this
    omega
end Go.Proofs.Ytahcmpmfknmecaa
