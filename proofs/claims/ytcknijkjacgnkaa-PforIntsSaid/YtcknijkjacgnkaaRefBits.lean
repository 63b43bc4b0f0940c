/- dragnetref03.Pack: the document's. -/
import Derived.Test.YtcknijkjacgnkaaBitsPack
namespace Go.Proofs.Ytcknijkjacgnkaa
open Go.RowKit

/-- one bit more -/
theorem Bits.mod_succ (x j : Nat) : x % 2 ^ (j + 1) = x % 2 ^ j + 2 ^ j * (x / 2 ^ j % 2) := by rw [Nat.pow_succ, Nat.mod_mul]
theorem bit_int {x j : Nat} {z : Int} (hz : z = (x : Int)) : (z / 2 ^ j).tmod 2 = ((x / 2 ^ j % 2 : Nat) : Int) := by
  have e : z / 2 ^ j = ((x / 2 ^ j : Nat) : Int) := by rw [hz, Int.natCast_ediv, Int.natCast_pow]; rfl
  rw [e]
  generalize x / 2 ^ j = d
  rw [Int.tmod_eq_emod_of_nonneg (by omega)]
  omega

set_option maxHeartbeats 2000000 in
theorem refPack_any (A : Option Addr) (n cap B : Nat) (z : Int) (l : List UInt64) (w : World) (hl : l.length = n) (hn : n ≤ 65536) (hb : Nums w B A l) (hB : B ≤ w.heap.size) :
    Calls Try.prog 46 #[.slice A n cap, .int .i64 z] w (PackPost w (Bits.pack l z)) := by
  by_cases hw : z < 0 ∨ 64 < z
  · have e : Bits.pack l z = ([], 1) := by unfold Bits.pack; rw [if_pos hw]
    rw [e]
    clear hb hl e
    rcases hw with hw | hw
    all_goals go_enter Try.func46, Try.ntmps46
    all_goals go_wp2
    all_goals go_ret2
    all_goals exact ⟨none, 0, rfl, own_none _ _, Below.refl _ _⟩
  · obtain ⟨v, rfl⟩ : ∃ v : Nat, z = v := ⟨z.toNat, by omega⟩
    have hv : v ≤ 64 := by omega
    obtain ⟨hS, hnv⟩ := Bits.size_le hn hv
    have H3 := Lib.hid (refSize_any n v w (by omega))
    have hmk := run_make_zeros (Bits.size n v) (by omega)
    have ho1 := own_zeros w (Bits.size n v) (by simp only [maxLen]; omega)
    have hbel : Below w.heap.size w (w.alloc (.cells (madeCells #[.int .u8 0] (Bits.size n v)) 5)) := (Below.refl _ _).alloc (Nat.le_refl _) _
    have hnS : n * v ≤ 8 * Bits.size n v := by unfold Bits.size; omega
    have hSz : Bits.size n v = Bits.size l.length v := by rw [hl]
    have HSz := Lib.hid hSz
    clear hSz
    generalize Bits.size n v = S at *
    have Hl := Lib.hid hl
    clear hl hw
    go_enter Try.func46, Try.ntmps46
    go_wp2_with fail
    refine H3.out.mono ?_
    rintro e w1 ⟨rfl, rfl⟩
    clear H3
    go_wp2
    go_loopw [7] (fun i wr => ∃ (k : Nat) (t : List UInt8), k ≤ n ∧ i = .int .i64 k ∧ Own wr w.heap.size (some ⟨w.heap.size, 0, none⟩) S S t ∧ Num.val t = Bits.cat v (l.take k) ∧ Bits.Fit v (l.take k) ∧ Below w.heap.size w wr) (fun i _ => n - (intOf i).toNat)
    case atStart => exact ⟨0, _, by omega, rfl, ho1, by rw [Bits.val_zeros]; rfl, Bits.Fit.nil v, hbel⟩
    case round =>
      clear ho1 hbel
      obtain ⟨k, t, hk, rfl, ho, hval, hfit, hbel⟩ := hrel
      have Hval := Lib.hid hval
      have Hfit := Lib.hid hfit
      clear hval hfit
      by_cases hlt : k < n
      · have hk' : k < l.length := by have := Hl.out; omega
        have hbr := (hb.wide hB).below hbel
        obtain ⟨ad, rfl, hadB, hcell⟩ := hbr.get hk'
        simp only [uval] at hcell
        have H4 := refFits_any l[k].toNat v wr (Bits.u64_lt _) hv
        have hx64 := Bits.u64_lt l[k]
        by_cases hx : l[k].toNat < 2 ^ v
        · rw [decide_eq_true hx] at H4
          have hsnoc := Bits.cat_take_succ (v := v) hk'
          have hfs : Bits.Fit v (l.take (k + 1)) := by rw [List.take_succ_eq_append_getElem hk']; exact Hfit.out.snoc hx
          have hcl := Bits.cat_take_lt (v := v) (k := k) (l := l.take k) Hfit.out (by rw [List.length_take]; omega)
          rw [List.take_take, Nat.min_self] at hcl
          replace H4 := Lib.hid H4
          have Hsnoc := Lib.hid hsnoc
          have Hfs := Lib.hid hfs
          have Hcl := Lib.hid hcl
          have Hx := Lib.hid hx
          have hP : (k : Int) * (v : Int) = ((k * v : Nat) : Int) := by rw [Int.natCast_mul]
          have hPn : k * v + v ≤ n * v := by rw [← Nat.succ_mul]; exact Nat.mul_le_mul_right v hlt
          generalize hxe : l[k].toNat = x at *
          obtain ⟨y, hy, hy0, hy1⟩ : ∃ y : Int, y = (x : Int) ∧ 0 ≤ y ∧ y ≤ 18446744073709551615 := ⟨x, rfl, by omega, by omega⟩
          rw [← hy] at H4 hcell
          have Hy := Lib.hid hy
          have hadc : ∀ wq, Below w.heap.size w wq → wq.cell? (ad.add k) = some (.int .u64 y) := fun wq hq => by
            obtain ⟨ad', h1, _, h2⟩ := ((hb.wide hB).below hq).get hk'
            cases h1
            rw [h2, uval, hxe, hy]
          have Hadc := Lib.hid hadc
          clear hsnoc hfs hcl hx hx64 hxe hbr hb hadc hy
          generalize k * v = P at *
          go_wp2_with fail
          refine H4.out.mono ?_
          rintro e w1 ⟨rfl, rfl⟩
          clear H4 hcell
          go_wp2
          go_loopw [8] (fun i wq => ∃ (j : Nat) (t : List UInt8), j ≤ v ∧ i = .int .i64 j ∧ Own wq w.heap.size (some ⟨w.heap.size, 0, none⟩) S S t ∧ Num.val t = Bits.cat v (l.take k) + 2 ^ P * (x % 2 ^ j) ∧ Below w.heap.size w wq) (fun i _ => v - (intOf i).toNat)
          case atStart => exact ⟨0, t, by omega, rfl, ho, by rw [Hval.out]; simp [Nat.mod_one], hbel⟩
          case round =>
            clear ho hbel Hval
            clear t
            obtain ⟨j, t, hj, rfl, ho, hval, hbel⟩ := hrel
            have Hval := Lib.hid hval
            clear hval
            by_cases hjv : j < v
            · have hbit := bit_int (j := j) Hy.out
              have hcell1 := Hadc.out _ hbel
              by_cases h1 : x / 2 ^ j % 2 = 1
              · rw [h1, Int.natCast_one] at hbit
                have hvt : Num.val t < 2 ^ (P + j) := by
                  have h2 : x % 2 ^ j + 1 ≤ 2 ^ j := Nat.mod_lt _ (Bits.pow_pos j)
                  have h3 := Nat.mul_le_mul_left (2 ^ P) h2
                  have h4 := Hcl.out
                  rw [Nat.mul_add, ← Nat.pow_add] at h3
                  rw [Hval.out]
                  omega
                have hJS : (P + j) / 8 < S := by omega
                have hs8 : (P + j) % 8 < 8 := by omega
                have hpe : P + j = 8 * ((P + j) / 8) + (P + j) % 8 := by omega
                have hquo : ((P : Int) + (j : Int)) / 8 = (((P + j) / 8 : Nat) : Int) := by omega
                have hrem : ((P : Int) + (j : Int)) % 8 = (((P + j) % 8 : Nat) : Int) := by omega
                have hJ : (P + j) / 8 < t.length := by rw [ho.len]; exact hJS
                have hsmall : t[(P + j) / 8].toNat < 2 ^ ((P + j) % 8) := Bits.val_small hJ (by rw [← hpe]; exact hvt)
                have hQ : 2 ^ ((P + j) % 8) ≤ 2 ^ 7 := Nat.pow_le_pow_right (by omega) (by omega)
                have hset := Bits.val_set hJ (m := (P + j) % 8) (by omega)
                rw [← hpe, Hval.out] at hset
                have hnext : Bits.cat v (l.take k) + 2 ^ P * (x % 2 ^ j) + 2 ^ (P + j) = Bits.cat v (l.take k) + 2 ^ P * (x % 2 ^ (j + 1)) := by
                  rw [Bits.mod_succ, h1, Nat.mul_one, Nat.mul_add, ← Nat.pow_add, Nat.add_assoc]
                rw [hnext] at hset
                have hcell := ho.cell hJ
                have hfree := ho.free ((P + j) / 8)
                have hst := ho.store ((P + j) / 8) (UInt8.ofNat (t[(P + j) / 8].toNat + 2 ^ ((P + j) % 8)))
                rw [bval_small (by omega), Int.natCast_add] at hst
                have hpow : (2 : Int) ^ ((P + j) % 8) = ((2 ^ ((P + j) % 8) : Nat) : Int) := by rw [Int.natCast_pow]; rfl
                have Hst := Lib.hid hst
                have Hset := Lib.hid hset
                have Hbl := Lib.hid (fun u => hbel.setCell (p := ⟨w.heap.size, (P + j) / 8, none⟩) (Nat.le_refl _) u)
                clear hst hset ho hbel hnext hpe hvt h1
                generalize t.set ((P + j) / 8) (UInt8.ofNat (t[(P + j) / 8].toNat + 2 ^ ((P + j) % 8))) = t' at Hst Hset
                generalize t[(P + j) / 8].toNat = b at *
                clear hJ
                generalize (P + j) / 8 = J at *
                generalize (P + j) % 8 = s at *
                generalize 2 ^ s = Q at hpow Hst hsmall hQ
                have hQ2 : Q ≤ 128 := hQ
                clear hQ
                go_wp2_with fail
                go_region
                go_wp2
                go_roundw
                case rel => exact ⟨j + 1, t', by omega, by go_num, Hst.out, Hset.out, (Hbl.out _).drew⟩
                case measure => simp [intOf]; omega
              · have h0 : x / 2 ^ j % 2 = 0 := by omega
                rw [h0, Int.natCast_zero] at hbit
                have hnext : Num.val t = Bits.cat v (l.take k) + 2 ^ P * (x % 2 ^ (j + 1)) := by rw [Bits.mod_succ, h0, Nat.mul_zero, Nat.add_zero]; exact Hval.out
                have Hnext := Lib.hid hnext
                clear hnext h0 h1
                go_wp2
                go_roundw
                case rel => exact ⟨j + 1, t, by omega, by go_num, ho, Hnext.out, hbel⟩
                case measure => simp [intOf]; omega
            · obtain rfl : j = v := by omega
              go_wp2
              go_roundw
              case rel =>
                refine ⟨k + 1, t, by omega, by go_num, ho, ?_, Hfs.out, hbel⟩
                rw [Hval.out, Nat.mod_eq_of_lt Hx.out, Hsnoc.out, Nat.mul_comm]
              case measure => simp [intOf]; omega
        · rw [decide_eq_false hx] at H4
          have hnf : ¬ Bits.Fit v l := fun h => hx (h.get hk')
          rw [Bits.pack_range hv hnf]
          replace H4 := Lib.hid H4
          generalize l[k].toNat = x at *
          obtain ⟨y, hy⟩ : ∃ y : Int, y = (x : Int) := ⟨x, rfl⟩
          rw [← hy] at H4 hcell
          clear hx hx64 hnf hbr hb hy
          go_wp2_with fail
          refine H4.out.mono ?_
          rintro e w1 ⟨rfl, rfl⟩
          clear H4
          go_wp2
          go_ret2
          exact ⟨none, 0, rfl, own_none _ _, hbel⟩
      · obtain rfl : k = n := by omega
        have hfit := Hfit.out
        have hval := Hval.out
        rw [List.take_of_length_le (by rw [Hl.out]; exact Nat.le_refl _)] at hval hfit
        have hpk := Bits.pack_ok hv hfit
        have ht : t = Bits.packed v l := by rw [Bits.packed, ← hval, ← HSz.out, ← ho.len, Num.le_val]
        subst ht
        have hpl := Bits.packed_length v l
        rw [← HSz.out] at hpl
        generalize Bits.packed v l = PK at *
        have Hpk := Lib.hid hpk
        clear hval hfit Hval Hfit hpk
        go_wp2
        go_ret2
        rw [Hpk.out]
        refine ⟨some ⟨w.heap.size, 0, none⟩, S, ?_, ?_, hbel⟩
        · rw [hpl]; rfl
        · rw [hpl]; exact ho
end Go.Proofs.Ytcknijkjacgnkaa
