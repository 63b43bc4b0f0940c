/- Slices of uint64: what they hold, made, copied, compared, and those that come in. -/
import Derived.Test.YtcknijkjacgnkaaDraws
import Derived.Test.YtcknijkjacgnkaaRow
import Derived.Test.YtcknijkjacgnkaaFits
import Derived.Test.YtcknijkjacgnkaaLawIn
import Derived.Test.YtcknijkjacgnkaaBitsMore
import Derived.Deep.OwnRows
import Derived.Deep.QuietTactic
import Derived.BigQuiet
import Derived.RegionTactic
import Derived.ChangeAlike
namespace Go.Proofs.Ytcknijkjacgnkaa
open Go.ChangeShapes Go.WideShapes Go.ChangeAt Go.RowKit

/-- a number as a value -/
def uval (x : UInt64) : Value := .int .u64 (x.toNat : Int)
theorem u64_info : (Try.prog.info? 50).map (fun i => (i.zero, i.size, i.bytes)) = some (some (.int .u64 0), 1, 8) := by kernel_rfl
theorem cells64 : Try.prog.cellsOf 50 = 1 := by kernel_rfl
theorem bytes64 : Try.prog.bytesOf 50 = 8 := by kernel_rfl
theorem elem64 : Elem uval 23 50 8 := ⟨fun _ => rfl, Try.underlying23, by
  obtain ⟨i0, hi0, hz0, hz1, hz2⟩ := info_parts u64_info
  exact ⟨i0, _, hi0, hz0, hz1, hz2, rfl⟩⟩
/-- A slice with address A holds the numbers l, in a block below B. -/
abbrev Nums (w : World) (B : Nat) (A : Option Addr) (l : List UInt64) : Prop := Row uval w B A l
/-- The slice at A, of n numbers, is l, in a block from 'base' on that nothing else holds. -/
abbrev NOwn (w : World) (base : Nat) (A : Option Addr) (n c : Nat) (l : List UInt64) : Prop := ROwn uval 50 w base A n c l


/-- made full of zeros -/
theorem run_make_zeros (n : Nat) (hn : n ≤ 281474976710656) (w : World) :
    (Instr.makeSlice 22 (.int .i64 (n : Int)) (.int .i64 (n : Int))).run Try.prog w = .ok (.slice (some ⟨w.heap.size, 0, none⟩) n n) (w.alloc (.cells (madeCells #[.int .u8 0] n) 5)) :=
  run_make_row' 22 5 (.int .u8 0) 1 Try.underlying22 byte_info rfl .i64 .i64 n (by omega) (by omega) w
theorem own_zeros (w : World) (n : Nat) (hn : n ≤ maxLen) : Own (w.alloc (.cells (madeCells #[.int .u8 0] n) 5)) w.heap.size (some ⟨w.heap.size, 0, none⟩) n n (List.replicate n 0) := by
  have h := World.ownsRow_lit (e := 5) (size := 1) w (madeCells #[.int .u8 0] n) n (Nat.le_refl _) hn (by rw [size_madeCells]; omega)
  rw [toList_madeCells_one] at h
  unfold Own
  rw [show bvals (List.replicate n 0) = List.replicate n (.int .u8 0) from by simp [bvals, bval]]
  exact h
theorem run_make_nums (n : Nat) (hn : n ≤ 1000000) (w : World) :
    (Instr.makeSlice 23 (.int .i64 (n : Int)) (.int .i64 (n : Int))).run Try.prog w = .ok (.slice (some ⟨w.heap.size, 0, none⟩) n n) (w.alloc (.cells (madeCells #[.int .u64 0] n) 50)) :=
  run_make_row' 23 50 (.int .u64 0) 8 Try.underlying23 u64_info rfl .i64 .i64 n (by omega) (by omega) w
theorem own_nums (w : World) (n : Nat) (hn : n ≤ maxLen) : NOwn (w.alloc (.cells (madeCells #[.int .u64 0] n) 50)) w.heap.size (some ⟨w.heap.size, 0, none⟩) n n (List.replicate n 0) := by
  have h := World.ownsRow_lit (e := 50) (size := 1) w (madeCells #[.int .u64 0] n) n (Nat.le_refl _) hn (by rw [size_madeCells]; omega)
  rw [toList_madeCells_one] at h
  unfold NOwn ROwn
  rw [show (List.replicate n (0 : UInt64)).map uval = List.replicate n (.int .u64 0) from by simp [uval]]
  exact h

theorem copy64_any (A : Option Addr) (n cap B : Nat) (l : List UInt64) (w : World) (hl : l.length = n) (hn : n ≤ 1000000) (hb : Nums w B A l) (hB : B ≤ w.heap.size) :
    Calls Try.prog 11 #[.slice A n cap] w fun e w' => ∃ A' c, e = .returned (.slice A' n c) ∧ NOwn w' w.heap.size A' n c l ∧ Below w.heap.size w w' := by
  have Hl := Lib.hid hl; clear hl
  go_enter Try.func11, Try.ntmps11
  have hb1 : Nums (w.alloc (.cells #[] 50)) B A l := hb.below ((Below.refl _ _).alloc hB _)
  have ho1 : NOwn (w.alloc (.cells #[] 50)) w.heap.size (some ⟨w.heap.size, 0, none⟩) 0 0 [] := ROwn.made w w.heap.size #[] 0 (Nat.le_refl _) (by simp only [maxLen]; omega) rfl
  have hbel : Below w.heap.size w (w.alloc (.cells #[] 50)) := (Below.refl _ _).alloc (Nat.le_refl _) _
  clear hb
  go_wp2_with (at_builtin; refine wpList_append_row elem64 rfl (.tmp 3) (.tmp 4) rfl w.heap.size _ 0 0 [] rfl ho1 B A n cap l rfl Hl.out hb1 (by omega) (by simp only [maxLen]; omega) (by simp) ?_; intro A1 c1 w1 ho2 hg2 hat2)
  go_ret
  rw [Nat.zero_add] at ho2
  refine ⟨A1, c1, by simp, ho2, hbel.grown hg2 (by simp) ?_⟩
  intro k hk
  simp [blk] at hk
  omega

set_option maxHeartbeats 400000 in
theorem same64_any (A1 A2 : Option Addr) (n c1 c2 B1 B2 : Nat) (l : List UInt64) (w : World) (hl : l.length = n) (hn : n ≤ 1000000) (h1 : Nums w B1 A1 l) (h2 : Nums w B2 A2 l) :
    Calls Try.prog 14 #[.slice A1 n c1, .slice A2 n c2] w fun e w' => e = .returned (.bool true) ∧ Drawn w w' := by
  have Hl := Lib.hid hl; clear hl
  have hnn : ((n : Int) != (n : Int)) = false := by simp
  go_enter Try.func14, Try.ntmps14
  go_wp2
  go_loopw [5] (fun i wr => ∃ (k : Nat), k ≤ n ∧ i = .int .i64 k ∧ Nums wr B1 A1 l ∧ Nums wr B2 A2 l ∧ Drawn w wr) (fun i _ => n - (intOf i).toNat)
  case atStart => exact ⟨0, Nat.zero_le _, rfl, h1, h2, Drawn.refl _⟩
  case round =>
    clear h1 h2
    obtain ⟨k, hk, rfl, h1, h2, hd⟩ := hrel
    by_cases hlt : k < n
    · have hk' : k < l.length := by have := Hl.out; omega
      obtain ⟨ad1, rfl, _, hc1⟩ := h1.get hk'
      obtain ⟨ad2, rfl, _, hc2⟩ := h2.get hk'
      simp only [uval] at hc1 hc2
      generalize (l[k].toNat : Int) = x at hc1 hc2
      have hxx : (x != x) = false := by simp
      have i1 : (k : Int) < (n : Int) := by omega
      have i0 : (0 : Int) ≤ (k : Int) := by omega
      go_wp2_with fail
      go_quiet (fail)
      go_wp2
      go_roundw
      case rel => exact ⟨k + 1, by omega, by go_num, h1, h2, hd.drewN _⟩
      case measure => simp [intOf]; omega
    · go_wp2
      go_ret
      exact ⟨rfl, hd⟩

theorem num_of_int {z : Int} (h : (Lit.int .u64 z).wf = true) : ((UInt64.ofNat z.toNat).toNat : Int) = z := by
  have hb := bounds_u64 h
  rw [UInt64.toNat_ofNat']
  omega
/-- A slice of numbers that came in: its numbers, and how it is read. -/
theorem open_nums {H : Type} {enc : TypeId × Value → H} {W : World} {a : Option Addr} {len cap : Nat} {d : DataW H} {p : List MemPlace}
    (h : DataW.Trod enc Try.prog W 0 (fun _ => true) true 23 (.slice a len cap) d p) :
    ∃ l : List UInt64, l.length = len ∧ len ≤ cap ∧ Nums W W.heap.size a l ∧ (d = .nil ∧ len = 0 ∨ ∃ elems spare, d = .slice elems spare ∧ elems.length = len) := by
  obtain ⟨fuel, hf⟩ := h
  rcases open_ints Try.underlying23 Try.underlying50 cells64 hf with ⟨hcs, hx⟩ | ⟨x, l, c, zs, hcs, _, hl, hm, hz, hx, hcell, hwz⟩
  · simp [Value.cells] at hcs
    obtain ⟨rfl, rfl, rfl⟩ := hcs
    injection hx with hx1 hx2
    exact ⟨[], rfl, Nat.le_refl _, Row.nil _ _ _ _, .inl ⟨hx1, rfl⟩⟩
  · simp [Value.cells] at hcs
    obtain ⟨rfl, rfl, rfl⟩ := hcs
    injection hx with hx1 hx2
    simp only [if_true] at hz
    refine ⟨(zs.take len).map fun z => UInt64.ofNat z.toNat, by simp; omega, hl, fun hn => ⟨x, rfl, ?_, fun i hi => ?_⟩, .inr ⟨_, _, hx1, by simp [lits]; omega⟩⟩
    · have h0 : 0 < zs.length := by
        rcases Nat.eq_zero_or_pos zs.length with h0 | h0
        · have : zs = [] := List.eq_nil_of_length_eq_zero h0
          subst this
          simp at hn
        · exact h0
      have hc0 := hcell 0 h0
      rcases Nat.lt_or_ge x.block W.heap.size with hlt' | hge
      · exact hlt'
      · have : (x.add 0).block = x.block := addr_add_block x 0
        simp [World.cell?, this, Array.getElem?_eq_none hge] at hc0
    · have hi' : i < zs.length := by simp at hi; omega
      rw [hcell i hi']
      have hw := hwz zs[i] (List.getElem_mem hi')
      simp only [List.getElem_map, List.getElem_take, uval, num_of_int hw]
      simp [List.getD_eq_getElem?_getD, List.getElem?_eq_getElem hi']
/-- THE REACH: a slice of numbers that came in has fewer than 2^44 numbers. -/
theorem reach_nums {H : Type} {ts : List TypeId} {ds : List (DataW H)} {j len : Nat} {d : DataW H} (h : (DataW.weightsEach Try.prog ts ds).all (· ≤ reachBytes) = true)
    (ht : ts[j]? = some 23) (hd : ds[j]? = some d) (hv : d = .nil ∧ len = 0 ∨ ∃ elems spare, d = .slice elems spare ∧ elems.length = len) : 8 * len ≤ 140737488351232 := by
  rcases hv with ⟨_, rfl⟩ | ⟨elems, spare, rfl, rfl⟩
  · omega
  · have := sized_slice h ht hd Try.underlying23
    rw [bytes64] at this
    simp only [reachBytes] at this
    omega
end Go.Proofs.Ytcknijkjacgnkaa
