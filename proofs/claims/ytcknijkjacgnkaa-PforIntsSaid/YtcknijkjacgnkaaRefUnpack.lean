/- dragnetref03.Unpack: the document's. -/
import Derived.Test.YtcknijkjacgnkaaRefBits
import Derived.Test.YtcknijkjacgnkaaBitsUnpack
namespace Go.Proofs.Ytcknijkjacgnkaa
open Go.RowKit

theorem nown_one (w : World) (x : UInt64) (z : Int) (h : uval x = .int .u64 z) : NOwn (w.alloc (.cells #[.int .u64 z] 50)) w.heap.size (some ⟨w.heap.size, 0, none⟩) 1 1 [x] := by
  have := ROwn.lit (f := uval) (e := 50) w w.heap.size [x] (Nat.le_refl _) (by simp only [maxLen, List.length_singleton]; omega)
  simp only [List.map_cons, List.map_nil, h] at this
  exact this
theorem bit_byte {b s : Nat} : ((b : Int) / 2 ^ s).tmod 2 = ((b / 2 ^ s % 2 : Nat) : Int) := bit_int rfl

set_option maxHeartbeats 2000000 in
theorem refUnpack_any (A : Option Addr) (m cap B : Nat) (y z : Int) (b : List UInt8) (w : World) (hl : b.length = m) (hb : Bytes w B A b) (hB : B ≤ w.heap.size) (hm : m ≤ 140737488355328) :
    Calls Try.prog 36 #[.slice A m cap, .int .i64 y, .int .i64 z] w (UnpackPost w (Bits.unpack b y z)) := by
  by_cases hw : z < 0 ∨ 64 < z ∨ y < 0 ∨ 4096 < y
  · have e : Bits.unpack b y z = ([], 1) := by unfold Bits.unpack; rw [if_pos hw]
    rw [e]
    clear e hl hb
    by_cases h1 : z < 0
    · go_enter Try.func36, Try.ntmps36
      go_wp2
      go_ret2
      exact ⟨none, 0, rfl, nown_none _ _, Below.refl _ _⟩
    · by_cases h2 : 64 < z
      · go_enter Try.func36, Try.ntmps36
        go_wp2
        go_ret2
        exact ⟨none, 0, rfl, nown_none _ _, Below.refl _ _⟩
      · by_cases h3 : y < 0
        · go_enter Try.func36, Try.ntmps36
          go_wp2
          go_ret2
          exact ⟨none, 0, rfl, nown_none _ _, Below.refl _ _⟩
        · have h4 : 4096 < y := by omega
          go_enter Try.func36, Try.ntmps36
          go_wp2
          go_ret2
          exact ⟨none, 0, rfl, nown_none _ _, Below.refl _ _⟩
  · obtain ⟨v, rfl⟩ : ∃ v : Nat, z = v := ⟨z.toNat, by omega⟩
    obtain ⟨n, rfl⟩ : ∃ n : Nat, y = n := ⟨y.toNat, by omega⟩
    have hv : v ≤ 64 := by omega
    have hn : n ≤ 4096 := by omega
    obtain ⟨hS, hnv⟩ := Bits.size_le (show n ≤ 65536 by omega) hv
    have H2 := refSize_any n v w (by omega)
    by_cases h2 : b.length < Bits.size n v
    · have e : Bits.unpack b n v = ([], 3) := by unfold Bits.unpack; rw [if_neg hw, Int.toNat_natCast, Int.toNat_natCast, if_pos h2]
      rw [e]
      rw [hl] at h2
      clear e hl hb hw
      generalize Bits.size n v = S at *
      replace H2 := Lib.hid H2
      go_enter Try.func36, Try.ntmps36
      go_wp2_with fail
      refine H2.out.mono ?_
      rintro e w1 ⟨rfl, rfl⟩
      go_wp2
      go_ret2
      exact ⟨none, 0, rfl, nown_none _ _, Below.refl _ _⟩
    · by_cases h3 : Bits.size n v < b.length
      · have e : Bits.unpack b n v = ([], 2) := by unfold Bits.unpack; rw [if_neg hw, Int.toNat_natCast, Int.toNat_natCast, if_neg h2, if_pos (.inl h3)]
        rw [e]
        rw [hl] at h2 h3
        clear e hl hb hw
        generalize Bits.size n v = S at *
        replace H2 := Lib.hid H2
        go_enter Try.func36, Try.ntmps36
        go_wp2_with fail
        refine H2.out.mono ?_
        rintro e w1 ⟨rfl, rfl⟩
        go_wp2_with fail
        refine H2.out.mono ?_
        rintro e w1 ⟨rfl, rfl⟩
        go_wp2
        go_ret2
        exact ⟨none, 0, rfl, nown_none _ _, Below.refl _ _⟩
      · obtain rfl : m = Bits.size n v := by omega
        have hval := Num.val_lt b
        rw [hl, Bits.pow256] at hval
        have hbad : 2 ^ (n * v) ≤ Num.val b → Bits.unpack b n v = ([], 2) := fun h4 => by
          unfold Bits.unpack; rw [if_neg hw, Int.toNat_natCast, Int.toNat_natCast, if_neg h2, if_pos (.inr h4)]
        have hgood : Num.val b < 2 ^ (n * v) → Bits.unpack b n v = (Bits.parts n v (Num.val b), 0) := fun h4 => by
          unfold Bits.unpack; rw [if_neg hw, Int.toNat_natCast, Int.toNat_natCast, if_neg h2, if_neg (by omega)]
        have hd : n * v ≤ 8 * Bits.size n v := by unfold Bits.size; omega
        have hP : (n : Int) * (v : Int) = ((n * v : Nat) : Int) := by rw [Int.natCast_mul]
        replace H2 := Lib.hid H2
        have Hl := Lib.hid hl
        have Hbad := Lib.hid hbad
        have Hgood := Lib.hid hgood
        have Hvl := Lib.hid hval
        clear hl hw h2 h3 hval hbad hgood
        generalize Bits.size n v = S at *
        go_enter Try.func36, Try.ntmps36
        go_wp2_with fail
        refine H2.out.mono ?_
        rintro e w1 ⟨rfl, rfl⟩
        go_wp2_with fail
        refine H2.out.mono ?_
        rintro e w1 ⟨rfl, rfl⟩
        clear H2
        go_wp2
        go_loopw [8, 9] (fun s i wr => ∃ (k : Nat) (A' : Option Addr) (c : Nat), k ≤ n ∧ i = .int .i64 k ∧ s = .slice A' k c ∧ NOwn wr w.heap.size A' k c (Bits.parts k v (Num.val b)) ∧ Below w.heap.size w wr) (fun _ i _ => n - (intOf i).toNat)
        case atStart => exact ⟨0, none, 0, by omega, rfl, rfl, nown_none _ _, Below.refl _ _⟩
        case round =>
          obtain ⟨k, A', c, hk, rfl, rfl, ho, hbel⟩ := hrel
          have hb1 := (hb.wide hB).below hbel
          by_cases hlt : k < n
          · have hPk : (k : Int) * (v : Int) = ((k * v : Nat) : Int) := by rw [Int.natCast_mul]
            have hPn : k * v + v ≤ n * v := by rw [← Nat.succ_mul]; exact Nat.mul_le_mul_right v hlt
            have hps := Bits.parts_succ k v (Num.val b)
            have Hps := Lib.hid hps
            clear hps hP
            generalize k * v = P at *
            go_wp2
            go_loopw [10, 11] (fun s i wq => ∃ (j : Nat) (x : Int), j ≤ v ∧ i = .int .i64 j ∧ s = .int .u64 x ∧ x = ((Num.val b / 2 ^ P % 2 ^ j : Nat) : Int) ∧ wr = wq) (fun _ i _ => v - (intOf i).toNat)
            case atStart => exact ⟨0, 0, by omega, rfl, rfl, by simp [Nat.mod_one], rfl⟩
            case round =>
              obtain ⟨j, x, hj, rfl, rfl, hx, rfl⟩ := hrel
              have Hx := Lib.hid hx
              by_cases hjv : j < v
              · have hJ : (P + j) / 8 < b.length := by rw [Hl.out]; omega
                have hJS : (P + j) / 8 < S := by omega
                have hs8 : (P + j) % 8 < 8 := by omega
                have hquo : ((P : Int) + (j : Int)) / 8 = (((P + j) / 8 : Nat) : Int) := by omega
                have hrem : ((P : Int) + (j : Int)) % 8 = (((P + j) % 8 : Nat) : Int) := by omega
                obtain ⟨ad, rfl, _, hcell⟩ := hb1.get hJ
                have hb256 := Num.byte_lt b[(P + j) / 8]
                have hvb := Bits.val_bit hJ
                rw [Nat.pow_add, ← Nat.div_div_eq_div_mul] at hvb
                have hbit := bit_byte (b := b[(P + j) / 8].toNat) (s := (P + j) % 8)
                rw [← hvb] at hbit
                have hms := Bits.mod_succ (Num.val b / 2 ^ P) j
                have hmj : Num.val b / 2 ^ P % 2 ^ j < 2 ^ j := Nat.mod_lt _ (Bits.pow_pos j)
                have hpj : 2 ^ (j + 1) ≤ 18446744073709551616 := Bits.pow_le64 (by omega)
                rw [Nat.pow_succ] at hpj
                generalize b[(P + j) / 8].toNat = bb at *
                clear hJ hvb
                generalize (P + j) / 8 = J at *
                generalize (P + j) % 8 = s at *
                by_cases h1 : Num.val b / 2 ^ P / 2 ^ j % 2 = 1
                · rw [h1, Int.natCast_one] at hbit
                  rw [h1, Nat.mul_one] at hms
                  have hpow : (2 : Int) ^ j = ((2 ^ j : Nat) : Int) := by rw [Int.natCast_pow]; rfl
                  have hx' : x + ((2 ^ j : Nat) : Int) = ((Num.val b / 2 ^ P % 2 ^ (j + 1) : Nat) : Int) := by rw [hms, hx, Int.natCast_add]
                  have hx0 : 0 ≤ x := by omega
                  have hxq : x < ((2 ^ j : Nat) : Int) := by omega
                  have Hx' := Lib.hid hx'
                  clear h1 hms hx' hx Hx hmj
                  generalize 2 ^ j = Q at *
                  go_wp2
                  go_roundw
                  case rel => exact ⟨j + 1, _, by omega, by go_num, rfl, Hx'.out, trivial⟩
                  case measure => simp [intOf]; omega
                · have h0 : Num.val b / 2 ^ P / 2 ^ j % 2 = 0 := by omega
                  rw [h0, Int.natCast_zero] at hbit
                  rw [h0, Nat.mul_zero, Nat.add_zero, ] at hms
                  have Hms := Lib.hid hms
                  clear h1 h0 hms hmj hpj hx
                  go_wp2
                  go_roundw
                  case rel => exact ⟨j + 1, x, by omega, by go_num, rfl, by rw [Hms.out]; exact Hx.out, trivial⟩
                  case measure => simp [intOf]; omega
              · obtain rfl : j = v := by omega
                have hx64 : Num.val b / 2 ^ P % 2 ^ j < 18446744073709551616 := Nat.lt_of_lt_of_le (Nat.mod_lt _ (Bits.pow_pos j)) (Bits.pow_le64 hv)
                have hone := nown_one wr (UInt64.ofNat (Num.val b / 2 ^ P % 2 ^ j)) x (by rw [uval_small hx64, hx])
                have hr1 := hone.row
                have ho1 := ho.alloc (.cells #[.int .u64 x] 50)
                have hbel2 : Below w.heap.size w (wr.alloc (.cells #[.int .u64 x] 50)) := hbel.alloc hbel.size _
                have hsz : w.heap.size ≤ (wr.alloc (.cells #[.int .u64 x] 50)).heap.size := hbel2.size
                have Hlt := fun k' => Lib.hid fun hk => (ho1.lt (k := k') hk).1
                clear hone ho hx Hx hx64 hb1
                go_wp2_with (at_builtin; refine wpList_append_row elem64 rfl (.tmp 71) (.tmp 73) rfl w.heap.size A' k c _ rfl ho1 _ _ 1 1 [UInt64.ofNat (Num.val b / 2 ^ P % 2 ^ j)] rfl rfl hr1 (by omega) (by simp only [maxLen]; omega) hsz ?_; intro A2 c2 w2 ho3 hg3 hat3)
                have hbw2 := hbel2.grown hg3 hsz (fun k hk => (Hlt k).out hk)
                rw [← Hps.out] at ho3
                go_roundw
                case rel => exact ⟨k + 1, A2, c2, by omega, by go_num, rfl, ho3, hbw2⟩
                case measure => simp [intOf]; omega
          · obtain rfl : k = n := by omega
            have Hmod0 : Num.val b % 2 ^ (k * v) < 2 ^ (k * v) := Nat.mod_lt _ (Bits.pow_pos _)
            generalize k * v = P at *
            go_wp2
            go_loopw [12] (fun i wq => ∃ (q : Nat), P ≤ q ∧ q ≤ 8 * S ∧ i = .int .i64 q ∧ Num.val b % 2 ^ q < 2 ^ P ∧ wr = wq) (fun i _ => 8 * S - (intOf i).toNat)
            case atStart => exact ⟨P, by omega, hd, rfl, Hmod0, rfl⟩
            case round =>
              clear Hmod0
              obtain ⟨q, hq1, hq2, rfl, hmod, rfl⟩ := hrel
              have Hmod := Lib.hid hmod
              by_cases hq : q < 8 * S
              · have hJ : q / 8 < b.length := by rw [Hl.out]; omega
                have hJS : q / 8 < S := by omega
                have hs8 : q % 8 < 8 := by omega
                have hquo : (q : Int) / 8 = ((q / 8 : Nat) : Int) := by omega
                have hrem : (q : Int) % 8 = ((q % 8 : Nat) : Int) := by omega
                obtain ⟨ad, rfl, _, hcell⟩ := hb1.get hJ
                have hb256 := Num.byte_lt b[q / 8]
                have hvb := Bits.val_bit hJ
                have hbit := bit_byte (b := b[q / 8].toNat) (s := q % 8)
                rw [← hvb] at hbit
                generalize b[q / 8].toNat = bb at *
                clear hJ hvb hmod
                generalize q / 8 = J at *
                generalize q % 8 = s at *
                by_cases h1 : Num.val b / 2 ^ q % 2 = 1
                · rw [h1, Int.natCast_one] at hbit
                  have hge : 2 ^ P ≤ Num.val b := by
                    have h2 : (2 : Nat) ^ P ≤ 2 ^ q := Nat.pow_le_pow_right (by omega) hq1
                    rcases Nat.lt_or_ge (Num.val b) (2 ^ q) with h3 | h3
                    · rw [Nat.div_eq_of_lt h3] at h1; omega
                    · omega
                  have Hres := Lib.hid (Hbad.out hge)
                  clear h1 hge
                  go_wp2
                  go_ret2
                  rw [Hres.out]
                  exact ⟨none, 0, rfl, nown_none _ _, hbel⟩
                · have h0 : Num.val b / 2 ^ q % 2 = 0 := by omega
                  rw [h0, Int.natCast_zero] at hbit
                  have hnext : Num.val b % 2 ^ (q + 1) < 2 ^ P := by rw [Bits.mod_succ, h0, Nat.mul_zero, Nat.add_zero]; exact Hmod.out
                  have Hnext := Lib.hid hnext
                  clear h1 h0 hnext
                  go_wp2
                  go_roundw
                  case rel => exact ⟨q + 1, by omega, by omega, by go_num, Hnext.out, trivial⟩
                  case measure => simp [intOf]; omega
              · obtain rfl : q = 8 * S := by omega
                have hres : Num.val b < 2 ^ P := by
                  have := Hmod.out
                  rwa [Nat.mod_eq_of_lt Hvl.out] at this
                have Hres := Lib.hid (Hgood.out hres)
                clear hres hmod
                go_wp2
                go_ret2
                rw [Hres.out]
                refine ⟨A', c, ?_, ?_, hbel⟩
                · rw [Bits.parts_length]; rfl
                · rw [Bits.parts_length]; exact ho
end Go.Proofs.Ytcknijkjacgnkaa
