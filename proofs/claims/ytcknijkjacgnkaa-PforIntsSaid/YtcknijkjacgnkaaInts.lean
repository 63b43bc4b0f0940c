/- Slices of int: what they hold, made, compared, and those that come in; folded and unfolded, by the document and by the landed code. -/
import Derived.Test.YtcknijkjacgnkaaRefList
import Derived.Test.YtcknijkjacgnkaaTakeList
import Derived.Test.YtcknijkjacgnkaaFold
namespace Go.Proofs.Ytcknijkjacgnkaa
open Go.ChangeShapes Go.WideShapes Go.ChangeAt Go.RowKit

/-- an integer as a value -/
def ival (z : Int) : Value := .int .i64 z
theorem i64_info : (Try.prog.info? 3).map (fun i => (i.zero, i.size, i.bytes)) = some (some (.int .i64 0), 1, 8) := by kernel_rfl
theorem cellsI : Try.prog.cellsOf 3 = 1 := by kernel_rfl
theorem bytesI : Try.prog.bytesOf 3 = 8 := by kernel_rfl
theorem elemI : Elem ival 40 3 8 := ⟨fun _ => rfl, Try.underlying40, by
  obtain ⟨i0, hi0, hz0, hz1, hz2⟩ := info_parts i64_info
  exact ⟨i0, _, hi0, hz0, hz1, hz2, rfl⟩⟩
abbrev Ints (w : World) (B : Nat) (A : Option Addr) (l : List Int) : Prop := Row ival w B A l
abbrev IOwn (w : World) (base : Nat) (A : Option Addr) (n c : Nat) (l : List Int) : Prop := ROwn ival 3 w base A n c l
/-- do all fit in an int? -/
def Fits64 (l : List Int) : Prop := ∀ z ∈ l, -9223372036854775808 ≤ z ∧ z ≤ 9223372036854775807
theorem iown_none (w : World) (base : Nat) : IOwn w base none 0 0 [] := ROwn.nil _ _ w base
theorem iown_lit1 (w : World) (z : Int) : IOwn (w.alloc (.cells #[.int .i64 z] 3)) w.heap.size (some ⟨w.heap.size, 0, none⟩) 1 1 [z] := by
  have h1 := ROwn.lit (f := ival) (e := 3) w w.heap.size [z] (Nat.le_refl _) (by simp [maxLen])
  exact h1
theorem run_make_ints (n : Nat) (hn : n ≤ 1000000) (w : World) :
    (Instr.makeSlice 40 (.int .i64 (n : Int)) (.int .i64 (n : Int))).run Try.prog w = .ok (.slice (some ⟨w.heap.size, 0, none⟩) n n) (w.alloc (.cells (madeCells #[.int .i64 0] n) 3)) :=
  run_make_row' 40 3 (.int .i64 0) 8 Try.underlying40 i64_info rfl .i64 .i64 n (by omega) (by omega) w
theorem own_ints (w : World) (n : Nat) (hn : n ≤ maxLen) : IOwn (w.alloc (.cells (madeCells #[.int .i64 0] n) 3)) w.heap.size (some ⟨w.heap.size, 0, none⟩) n n (List.replicate n 0) := by
  have h := World.ownsRow_lit (e := 3) (size := 1) w (madeCells #[.int .i64 0] n) n (Nat.le_refl _) hn (by rw [size_madeCells]; omega)
  rw [toList_madeCells_one] at h
  unfold IOwn ROwn
  rw [show (List.replicate n (0 : Int)).map ival = List.replicate n (.int .i64 0) from by simp [ival]]
  exact h

/-- A slice of integers that came in: its integers, and how it is read. -/
theorem open_intsI {H : Type} {enc : TypeId × Value → H} {W : World} {a : Option Addr} {len cap : Nat} {d : DataW H} {p : List MemPlace}
    (h : DataW.Trod enc Try.prog W 0 (fun _ => true) true 40 (.slice a len cap) d p) :
    ∃ l : List Int, l.length = len ∧ len ≤ cap ∧ Fits64 l ∧ Ints W W.heap.size a l ∧ (d = .nil ∧ len = 0 ∨ ∃ elems spare, d = .slice elems spare ∧ elems.length = len) := by
  obtain ⟨fuel, hf⟩ := h
  rcases open_ints Try.underlying40 Try.underlying3 cellsI hf with ⟨hcs, hx⟩ | ⟨x, l, c, zs, hcs, _, hl, hm, hz, hx, hcell, hwz⟩
  · simp [Value.cells] at hcs
    obtain ⟨rfl, rfl, rfl⟩ := hcs
    injection hx with hx1 hx2
    exact ⟨[], rfl, Nat.le_refl _, (fun _ h => by cases h), Row.nil _ _ _ _, .inl ⟨hx1, rfl⟩⟩
  · simp [Value.cells] at hcs
    obtain ⟨rfl, rfl, rfl⟩ := hcs
    injection hx with hx1 hx2
    simp only [if_true] at hz
    refine ⟨zs.take len, by simp; omega, hl, (fun z hz' => by have := bounds_i64 (hwz z (List.mem_of_mem_take hz')); omega), fun hn => ⟨x, rfl, ?_, fun i hi => ?_⟩, .inr ⟨_, _, hx1, by simp [lits]; omega⟩⟩
    · have h0 : 0 < zs.length := by
        rcases Nat.eq_zero_or_pos zs.length with h0 | h0
        · have : zs = [] := List.eq_nil_of_length_eq_zero h0
          subst this
          simp at hn
        · exact h0
      have hc0 := hcell 0 h0
      rcases Nat.lt_or_ge x.block W.heap.size with hlt' | hge
      · exact hlt'
      · have : (x.add 0).block = x.block := addr_add_block x 0
        simp [World.cell?, this, Array.getElem?_eq_none hge] at hc0
    · have hi' : i < zs.length := by simp at hi; omega
      rw [hcell i hi']
      simp only [List.getElem_take, ival]
      simp [List.getD_eq_getElem?_getD, List.getElem?_eq_getElem hi']
theorem reach_intsI {H : Type} {ts : List TypeId} {ds : List (DataW H)} {j len : Nat} {d : DataW H} (h : (DataW.weightsEach Try.prog ts ds).all (· ≤ reachBytes) = true)
    (ht : ts[j]? = some 40) (hd : ds[j]? = some d) (hv : d = .nil ∧ len = 0 ∨ ∃ elems spare, d = .slice elems spare ∧ elems.length = len) : 8 * len ≤ 140737488351232 := by
  rcases hv with ⟨_, rfl⟩ | ⟨elems, spare, rfl, rfl⟩
  · omega
  · have := sized_slice h ht hd Try.underlying40
    rw [bytesI] at this
    simp only [reachBytes] at this
    omega

set_option maxHeartbeats 400000 in
theorem sameInts_any (A1 A2 : Option Addr) (n c1 c2 B1 B2 : Nat) (l : List Int) (w : World) (hl : l.length = n) (hn : 8 * n ≤ 140737488351232) (h1 : Ints w B1 A1 l) (h2 : Ints w B2 A2 l) :
    Calls Try.prog 26 #[.slice A1 n c1, .slice A2 n c2] w fun e w' => e = .returned (.bool true) ∧ Drawn w w' := by
  have Hl := Lib.hid hl; clear hl
  have hnn : ((n : Int) != (n : Int)) = false := by simp
  go_enter Try.func26, Try.ntmps26
  go_wp2
  go_loopw [5] (fun i wr => ∃ (k : Nat), k ≤ n ∧ i = .int .i64 k ∧ Ints wr B1 A1 l ∧ Ints wr B2 A2 l ∧ Drawn w wr) (fun i _ => n - (intOf i).toNat)
  case atStart => exact ⟨0, Nat.zero_le _, rfl, h1, h2, Drawn.refl _⟩
  case round =>
    clear h1 h2
    obtain ⟨k, hk, rfl, h1, h2, hd⟩ := hrel
    by_cases hlt : k < n
    · have hk' : k < l.length := by have := Hl.out; omega
      obtain ⟨ad1, rfl, _, hc1⟩ := h1.get hk'
      obtain ⟨ad2, rfl, _, hc2⟩ := h2.get hk'
      simp only [ival] at hc1 hc2
      generalize l[k] = x at hc1 hc2
      have hxx : (x != x) = false := by simp
      have i1 : (k : Int) < (n : Int) := by omega
      have i0 : (0 : Int) ≤ (k : Int) := by omega
      go_wp2_with fail
      go_quiet (fail)
      go_wp2
      go_roundw
      case rel => exact ⟨k + 1, by omega, by go_num, h1, h2, hd.drewN _⟩
      case measure => simp [intOf]; omega
    · go_wp2
      go_ret
      exact ⟨rfl, hd⟩

/-- integers folded -/
def foldL (l : List Int) : List UInt64 := l.map fun z => UInt64.ofNat (Num.fold z)
/-- numbers unfolded -/
def unfoldL (l : List UInt64) : List Int := l.map fun v => Num.unfold v.toNat
theorem foldL_length (l : List Int) : (foldL l).length = l.length := by simp [foldL]
theorem unfoldL_length (l : List UInt64) : (unfoldL l).length = l.length := by simp [unfoldL]
theorem foldL_get {l : List Int} {k : Nat} (hk : k < l.length) : (foldL l)[k]'(by rw [foldL_length]; exact hk) = UInt64.ofNat (Num.fold l[k]) := by simp [foldL]
theorem unfoldL_get {l : List UInt64} {k : Nat} (hk : k < l.length) : (unfoldL l)[k]'(by rw [unfoldL_length]; exact hk) = Num.unfold l[k].toNat := by simp [unfoldL]
theorem uval_fold {z : Int} (h : -9223372036854775808 ≤ z ∧ z ≤ 9223372036854775807) : uval (UInt64.ofNat (Num.fold z)) = .int .u64 (Num.fold z : Int) := by
  unfold uval
  rw [Bits.toNat_ofNat (Num.fold_lt h.1 h.2)]

set_option maxHeartbeats 1000000 in
theorem folded_any (A : Option Addr) (n cap B : Nat) (l : List Int) (w : World) (hl : l.length = n) (hn : n ≤ 1000000) (hf : Fits64 l) (hb : Ints w B A l) (hB : B ≤ w.heap.size) :
    Calls Try.prog 45 #[.slice A n cap] w fun e w' => ∃ A' c, e = .returned (.slice A' n c) ∧ NOwn w' w.heap.size A' n c (foldL l) ∧ Below w.heap.size w w' := by
  have hb := hb.wide hB
  have Hl := Lib.hid hl; clear hl
  go_enter Try.func45, Try.ntmps45
  go_wp2
  go_loopw [3, 4] (fun q i wr => ∃ (k c : Nat) (A2 : Option Addr), k ≤ n ∧ i = .int .i64 k ∧ q = .slice A2 k c ∧ NOwn wr w.heap.size A2 k c ((foldL l).take k) ∧ Below w.heap.size w wr) (fun _ i _ => n - (intOf i).toNat)
  case atStart => exact ⟨0, 0, none, by omega, rfl, rfl, nown_none _ _, Below.refl _ _⟩
  case round =>
    obtain ⟨k, c, A2, hk, rfl, rfl, ho, hbr⟩ := hrel
    have hszr := hbr.size
    have hbx := hb.below hbr
    by_cases hlt : k < n
    · have hk' : k < l.length := by have := Hl.out; omega
      obtain ⟨ad, rfl, _, hcell⟩ := hbx.get hk'
      simp only [ival] at hcell
      have hz := hf l[k] (List.getElem_mem hk')
      have HF := refFold_any l[k] wr hz.1 hz.2
      have hu := uval_fold hz
      have htk : (foldL l).take (k + 1) = (foldL l).take k ++ [UInt64.ofNat (Num.fold l[k])] := by rw [List.take_succ_eq_append_getElem (by rw [foldL_length]; exact hk'), foldL_get hk']
      generalize UInt64.ofNat (Num.fold l[k]) = y at hu htk
      generalize ((Num.fold l[k] : Nat) : Int) = f at hu HF
      generalize l[k] = z at *
      have hone := nown_lit1 wr y f hu
      have hor := hone.row
      have hoA := ho.alloc (.cells #[.int .u64 f] 50)
      have hbA : Below w.heap.size w (wr.alloc (.cells #[.int .u64 f] 50)) := hbr.alloc hszr _
      have hszA := hbA.size
      replace HF := Lib.hid HF
      have Htk := Lib.hid htk
      clear hone hu ho htk hz
      go_wp2_with fail
      refine HF.out.mono ?_
      rintro e w1 ⟨rfl, rfl⟩
      clear HF
      go_wp2_with (at_builtin; refine wpList_append_row elem64 rfl (.tmp 11) (.tmp 17) rfl w.heap.size A2 k c _ rfl hoA _ _ 1 1 [_] rfl rfl hor (by omega) (by simp only [maxLen]; omega) hszA ?_; intro A3 c3 w3 ho3 hg3 hat3)
      have hb3 := hbA.grown hg3 hszA (fun k hk => (hoA.lt hk).1)
      clear hat3
      go_roundw
      case rel => exact ⟨k + 1, c3, A3, by omega, by go_num, rfl, by rw [Htk.out]; exact ho3, hb3⟩
      case measure => simp [intOf]; omega
    · obtain rfl : k = n := by omega
      rw [List.take_of_length_le (by rw [foldL_length, Hl.out]; exact Nat.le_refl _)] at ho
      go_wp2
      go_ret
      exact ⟨A2, c, rfl, ho, hbr⟩

set_option maxHeartbeats 1000000 in
theorem unfolded_any (A : Option Addr) (n cap B : Nat) (l : List UInt64) (w : World) (hl : l.length = n) (hn : n ≤ 1000000) (hb : Nums w B A l) (hB : B ≤ w.heap.size) :
    Calls Try.prog 44 #[.slice A n cap] w fun e w' => ∃ A' c, e = .returned (.slice A' n c) ∧ IOwn w' w.heap.size A' n c (unfoldL l) ∧ Below w.heap.size w w' := by
  have hb := hb.wide hB
  have Hl := Lib.hid hl; clear hl
  go_enter Try.func44, Try.ntmps44
  go_wp2
  go_loopw [3, 4] (fun q i wr => ∃ (k c : Nat) (A2 : Option Addr), k ≤ n ∧ i = .int .i64 k ∧ q = .slice A2 k c ∧ IOwn wr w.heap.size A2 k c ((unfoldL l).take k) ∧ Below w.heap.size w wr) (fun _ i _ => n - (intOf i).toNat)
  case atStart => exact ⟨0, 0, none, by omega, rfl, rfl, iown_none _ _, Below.refl _ _⟩
  case round =>
    obtain ⟨k, c, A2, hk, rfl, rfl, ho, hbr⟩ := hrel
    have hszr := hbr.size
    have hbx := hb.below hbr
    by_cases hlt : k < n
    · have hk' : k < l.length := by have := Hl.out; omega
      obtain ⟨ad, rfl, _, hcell⟩ := hbx.get hk'
      simp only [uval] at hcell
      have HF := refUnfold_any l[k].toNat wr (Bits.u64_lt _)
      have htk : (unfoldL l).take (k + 1) = (unfoldL l).take k ++ [Num.unfold l[k].toNat] := by rw [List.take_succ_eq_append_getElem (by rw [unfoldL_length]; exact hk'), unfoldL_get hk']
      generalize Num.unfold l[k].toNat = y at HF htk
      generalize (l[k].toNat : Int) = z at *
      have hor := (iown_lit1 wr y).row
      have hoA := ho.alloc (.cells #[.int .i64 y] 3)
      have hbA : Below w.heap.size w (wr.alloc (.cells #[.int .i64 y] 3)) := hbr.alloc hszr _
      have hszA := hbA.size
      replace HF := Lib.hid HF
      have Htk := Lib.hid htk
      clear ho htk
      go_wp2_with fail
      refine HF.out.mono ?_
      rintro e w1 ⟨rfl, rfl⟩
      clear HF
      go_wp2_with (at_builtin; refine wpList_append_row elemI rfl (.tmp 11) (.tmp 17) rfl w.heap.size A2 k c _ rfl hoA _ _ 1 1 [_] rfl rfl hor (by omega) (by simp only [maxLen]; omega) hszA ?_; intro A3 c3 w3 ho3 hg3 hat3)
      have hb3 := hbA.grown hg3 hszA (fun k hk => (hoA.lt hk).1)
      clear hat3
      go_roundw
      case rel => exact ⟨k + 1, c3, A3, by omega, by go_num, rfl, by rw [Htk.out]; exact ho3, hb3⟩
      case measure => simp [intOf]; omega
    · obtain rfl : k = n := by omega
      rw [List.take_of_length_le (by rw [unfoldL_length, Hl.out]; exact Nat.le_refl _)] at ho
      go_wp2
      go_ret
      exact ⟨A2, c, rfl, ho, hbr⟩
end Go.Proofs.Ytcknijkjacgnkaa
