/- Texts of several layers, one behind the other: RefBits RefBy RefBlock BitsUnpack RefUnpack Lens PutList. -/
import Derived.Test.YtoebeibmmclhpaaGreatGTA
import Derived.Test.YtoebeibmmclhpaaGreatGTC
import Derived.Test.YtoebeibmmclhpaaGreatGTD
import Derived.RangeFuncNested
import Derived.RangeFuncBound
import Derived.RangeFuncCalls
import Derived.RangeFuncLeaves
import Derived.RangeFuncBox
import Derived.Shelf.Abstract
import Derived.Shelf.RegionOpen
import Derived.WalkKit
import Derived.OwnWalkIn
import Derived.TacticsInMore
import Derived.LoopNIn
import Derived.LoopIn
import Derived.Laws.Small
/- dragnetref03.Pack: the document's. -/
namespace Go.Proofs.YtoebeibmmclhpaaGreat
open Go.RowKit
set_option maxRecDepth 100000
/-- one bit more -/
theorem Bits.mod_succ (x j : Nat) : x % 2 ^ (j + 1) = x % 2 ^ j + 2 ^ j * (x / 2 ^ j % 2) := by rw [Nat.pow_succ, Nat.mod_mul]
theorem bit_int {x j : Nat} {z : Int} (hz : z = (x : Int)) : (z / 2 ^ j).tmod 2 = ((x / 2 ^ j % 2 : Nat) : Int) := by
  have e : z / 2 ^ j = ((x / 2 ^ j : Nat) : Int) := by rw [hz, Int.natCast_ediv, Int.natCast_pow]; rfl
  rw [e]
  generalize x / 2 ^ j = d
  rw [Int.tmod_eq_emod_of_nonneg (by omega)]
  omega
set_option maxHeartbeats 2000000 in
theorem refPack_any (A : Option Addr) (n cap B : Nat) (z : Int) (l : List UInt64) (w : World) (hl : l.length = n) (hn : n ≤ 65536) (hb : Nums w B A l) (hB : B ≤ w.heap.size) :
    Calls Tryz.prog 112 #[.slice A n cap, .int .i64 z] w (PackPost w (Bits.pack l z)) := by
  by_cases hw : z < 0 ∨ 64 < z
  · have e : Bits.pack l z = ([], 1) := by unfold Bits.pack; rw [if_pos hw]
    rw [e]
    clear hb hl e
    rcases hw with hw | hw
    all_goals go_enter Tryz.func112, Tryz.ntmps112
    all_goals go_wp2
    all_goals go_ret2
    all_goals exact ⟨none, 0, rfl, own_none _ _, Below.refl _ _⟩
  · obtain ⟨v, rfl⟩ : ∃ v : Nat, z = v := ⟨z.toNat, by omega⟩
    have hv : v ≤ 64 := by omega
    obtain ⟨hS, hnv⟩ := Bits.size_le hn hv
    have H3 := Lib.hid (refSize_any n v w (by omega))
    have hmk := run_make_zeros (Bits.size n v) (by omega)
    have ho1 := own_zeros w (Bits.size n v) (by simp only [maxLen]; omega)
    have hbel : Below w.heap.size w (w.alloc (.cells (madeCells #[.int .u8 0] (Bits.size n v)) 5)) := (Below.refl _ _).alloc (Nat.le_refl _) _
    have hnS : n * v ≤ 8 * Bits.size n v := by unfold Bits.size; omega
    have hSz : Bits.size n v = Bits.size l.length v := by rw [hl]
    have HSz := Lib.hid hSz
    clear hSz
    generalize Bits.size n v = S at *
    have Hl := Lib.hid hl
    clear hl hw
    go_enter Tryz.func112, Tryz.ntmps112
    go_wp2_with fail
    refine H3.out.mono ?_
    rintro e w1 ⟨rfl, rfl⟩
    clear H3
    go_wp2
    go_loopw [7] (fun i wr => ∃ (k : Nat) (t : List UInt8), k ≤ n ∧ i = .int .i64 k ∧ Own wr w.heap.size (some ⟨w.heap.size, 0, none⟩) S S t ∧ Num.val t = Bits.cat v (l.take k) ∧ Bits.Fit v (l.take k) ∧ Below w.heap.size w wr) (fun i _ => n - (intOf i).toNat)
    case atStart => exact ⟨0, _, by omega, rfl, ho1, by rw [Bits.val_zeros]; rfl, Bits.Fit.nil v, hbel⟩
    case round =>
      clear ho1 hbel
      obtain ⟨k, t, hk, rfl, ho, hval, hfit, hbel⟩ := hrel
      have Hval := Lib.hid hval
      have Hfit := Lib.hid hfit
      clear hval hfit
      by_cases hlt : k < n
      · have hk' : k < l.length := by have := Hl.out; omega
        have hbr := (hb.wide hB).below hbel
        obtain ⟨ad, rfl, hadB, hcell⟩ := hbr.get hk'
        simp only [uval] at hcell
        have H4 := refFits_any l[k].toNat v wr (Bits.u64_lt _) hv
        have hx64 := Bits.u64_lt l[k]
        by_cases hx : l[k].toNat < 2 ^ v
        · rw [decide_eq_true hx] at H4
          have hsnoc := Bits.cat_take_succ (v := v) hk'
          have hfs : Bits.Fit v (l.take (k + 1)) := by rw [List.take_succ_eq_append_getElem hk']; exact Hfit.out.snoc hx
          have hcl := Bits.cat_take_lt (v := v) (k := k) (l := l.take k) Hfit.out (by rw [List.length_take]; omega)
          rw [List.take_take, Nat.min_self] at hcl
          replace H4 := Lib.hid H4
          have Hsnoc := Lib.hid hsnoc
          have Hfs := Lib.hid hfs
          have Hcl := Lib.hid hcl
          have Hx := Lib.hid hx
          have hP : (k : Int) * (v : Int) = ((k * v : Nat) : Int) := by rw [Int.natCast_mul]
          have hPn : k * v + v ≤ n * v := by rw [← Nat.succ_mul]; exact Nat.mul_le_mul_right v hlt
          generalize hxe : l[k].toNat = x at *
          obtain ⟨y, hy, hy0, hy1⟩ : ∃ y : Int, y = (x : Int) ∧ 0 ≤ y ∧ y ≤ 18446744073709551615 := ⟨x, rfl, by omega, by omega⟩
          rw [← hy] at H4 hcell
          have Hy := Lib.hid hy
          have hadc : ∀ wq, Below w.heap.size w wq → wq.cell? (ad.add k) = some (.int .u64 y) := fun wq hq => by
            obtain ⟨ad', h1, _, h2⟩ := ((hb.wide hB).below hq).get hk'
            cases h1
            rw [h2, uval, hxe, hy]
          have Hadc := Lib.hid hadc
          clear hsnoc hfs hcl hx hx64 hxe hbr hb hadc hy
          generalize k * v = P at *
          go_wp2_with fail
          refine H4.out.mono ?_
          rintro e w1 ⟨rfl, rfl⟩
          clear H4 hcell
          go_wp2
          go_loopw [8] (fun i wq => ∃ (j : Nat) (t : List UInt8), j ≤ v ∧ i = .int .i64 j ∧ Own wq w.heap.size (some ⟨w.heap.size, 0, none⟩) S S t ∧ Num.val t = Bits.cat v (l.take k) + 2 ^ P * (x % 2 ^ j) ∧ Below w.heap.size w wq) (fun i _ => v - (intOf i).toNat)
          case atStart => exact ⟨0, t, by omega, rfl, ho, by rw [Hval.out]; simp [Nat.mod_one], hbel⟩
          case round =>
            clear ho hbel Hval
            clear t
            obtain ⟨j, t, hj, rfl, ho, hval, hbel⟩ := hrel
            have Hval := Lib.hid hval
            clear hval
            by_cases hjv : j < v
            · have hbit := bit_int (j := j) Hy.out
              have hcell1 := Hadc.out _ hbel
              by_cases h1 : x / 2 ^ j % 2 = 1
              · rw [h1, Int.natCast_one] at hbit
                have hvt : Num.val t < 2 ^ (P + j) := by
                  have h2 : x % 2 ^ j + 1 ≤ 2 ^ j := Nat.mod_lt _ (Bits.pow_pos j)
                  have h3 := Nat.mul_le_mul_left (2 ^ P) h2
                  have h4 := Hcl.out
                  rw [Nat.mul_add, ← Nat.pow_add] at h3
                  rw [Hval.out]
                  omega
                have hJS : (P + j) / 8 < S := by omega
                have hs8 : (P + j) % 8 < 8 := by omega
                have hpe : P + j = 8 * ((P + j) / 8) + (P + j) % 8 := by omega
                have hquo : ((P : Int) + (j : Int)) / 8 = (((P + j) / 8 : Nat) : Int) := by omega
                have hrem : ((P : Int) + (j : Int)) % 8 = (((P + j) % 8 : Nat) : Int) := by omega
                have hJ : (P + j) / 8 < t.length := by rw [ho.len]; exact hJS
                have hsmall : t[(P + j) / 8].toNat < 2 ^ ((P + j) % 8) := Bits.val_small hJ (by rw [← hpe]; exact hvt)
                have hQ : 2 ^ ((P + j) % 8) ≤ 2 ^ 7 := Nat.pow_le_pow_right (by omega) (by omega)
                have hset := Bits.val_set hJ (m := (P + j) % 8) (by omega)
                rw [← hpe, Hval.out] at hset
                have hnext : Bits.cat v (l.take k) + 2 ^ P * (x % 2 ^ j) + 2 ^ (P + j) = Bits.cat v (l.take k) + 2 ^ P * (x % 2 ^ (j + 1)) := by
                  rw [Bits.mod_succ, h1, Nat.mul_one, Nat.mul_add, ← Nat.pow_add, Nat.add_assoc]
                rw [hnext] at hset
                have hcell := ho.cell hJ
                have hfree := ho.free ((P + j) / 8)
                have hst := ho.store ((P + j) / 8) (UInt8.ofNat (t[(P + j) / 8].toNat + 2 ^ ((P + j) % 8)))
                rw [bval_small (by omega), Int.natCast_add] at hst
                have hpow : (2 : Int) ^ ((P + j) % 8) = ((2 ^ ((P + j) % 8) : Nat) : Int) := by rw [Int.natCast_pow]; rfl
                have Hst := Lib.hid hst
                have Hset := Lib.hid hset
                have Hbl := Lib.hid (fun u => hbel.setCell (p := ⟨w.heap.size, (P + j) / 8, none⟩) (Nat.le_refl _) u)
                clear hst hset ho hbel hnext hpe hvt h1
                generalize t.set ((P + j) / 8) (UInt8.ofNat (t[(P + j) / 8].toNat + 2 ^ ((P + j) % 8))) = t' at Hst Hset
                generalize t[(P + j) / 8].toNat = b at *
                clear hJ
                generalize (P + j) / 8 = J at *
                generalize (P + j) % 8 = s at *
                generalize 2 ^ s = Q at hpow Hst hsmall hQ
                have hQ2 : Q ≤ 128 := hQ
                clear hQ
                go_wp2_with fail
                go_region
                go_wp2
                go_roundw
                case rel => exact ⟨j + 1, t', by omega, by go_num, Hst.out, Hset.out, (Hbl.out _).drew⟩
                case measure => simp [intOf]; omega
              · have h0 : x / 2 ^ j % 2 = 0 := by omega
                rw [h0, Int.natCast_zero] at hbit
                have hnext : Num.val t = Bits.cat v (l.take k) + 2 ^ P * (x % 2 ^ (j + 1)) := by rw [Bits.mod_succ, h0, Nat.mul_zero, Nat.add_zero]; exact Hval.out
                have Hnext := Lib.hid hnext
                clear hnext h0 h1
                go_wp2
                go_roundw
                case rel => exact ⟨j + 1, t, by omega, by go_num, ho, Hnext.out, hbel⟩
                case measure => simp [intOf]; omega
            · obtain rfl : j = v := by omega
              go_wp2
              go_roundw
              case rel =>
                refine ⟨k + 1, t, by omega, by go_num, ho, ?_, Hfs.out, hbel⟩
                rw [Hval.out, Nat.mod_eq_of_lt Hx.out, Hsnoc.out, Nat.mul_comm]
              case measure => simp [intOf]; omega
        · rw [decide_eq_false hx] at H4
          have hnf : ¬ Bits.Fit v l := fun h => hx (h.get hk')
          rw [Bits.pack_range hv hnf]
          replace H4 := Lib.hid H4
          generalize l[k].toNat = x at *
          obtain ⟨y, hy⟩ : ∃ y : Int, y = (x : Int) := ⟨x, rfl⟩
          rw [← hy] at H4 hcell
          clear hx hx64 hnf hbr hb hy
          go_wp2_with fail
          refine H4.out.mono ?_
          rintro e w1 ⟨rfl, rfl⟩
          clear H4
          go_wp2
          go_ret2
          exact ⟨none, 0, rfl, own_none _ _, hbel⟩
      · obtain rfl : k = n := by omega
        have hfit := Hfit.out
        have hval := Hval.out
        rw [List.take_of_length_le (by rw [Hl.out]; exact Nat.le_refl _)] at hval hfit
        have hpk := Bits.pack_ok hv hfit
        have ht : t = Bits.packed v l := by rw [Bits.packed, ← hval, ← HSz.out, ← ho.len, Num.le_val]
        subst ht
        have hpl := Bits.packed_length v l
        rw [← HSz.out] at hpl
        generalize Bits.packed v l = PK at *
        have Hpk := Lib.hid hpk
        clear hval hfit Hval Hfit hpk
        go_wp2
        go_ret2
        rw [Hpk.out]
        refine ⟨some ⟨w.heap.size, 0, none⟩, S, ?_, ?_, hbel⟩
        · rw [hpl]; rfl
        · rw [hpl]; exact ho
end Go.Proofs.YtoebeibmmclhpaaGreat

/- The document's By: a block by a width. -/
namespace Go.Proofs.YtoebeibmmclhpaaGreat
open Go.RowKit
set_option maxRecDepth 100000
theorem rows_unlike {w : World} {b1 b2 e1 e2 s1 s2 n1 n2 : Nat} {v1 v2 : Value} {xs1 xs2 : List Value} (h1 : w.ownsRow b1 e1 s1 v1 n1 xs1) (h2 : w.ownsRow b2 e2 s2 v2 n2 xs2) (hne : e1 ≠ e2) :
    v1.ownBlock = none ∨ v1.ownBlock ≠ v2.ownBlock := by
  rcases h1.2 with ⟨rfl, _⟩ | ⟨g1, cap1, cur1, rfl, _, hg1, _⟩
  · exact .inl rfl
  · refine .inr fun he => ?_
    rcases h2.2 with ⟨rfl, _⟩ | ⟨g2, cap2, cur2, rfl, _, hg2, _⟩
    · cases he
    · injection he with he
      have he' : g1 = g2 := he
      subst he'
      rw [hg1] at hg2
      injection hg2 with hg2
      injection hg2 with _ ht
      exact hne ht
theorem own_nown {w w' : World} {b1 b2 n1 c1 n2 c2 : Nat} {A1 A2 : Option Addr} {l1 : List UInt8} {l2 : List UInt64} (h1 : Own w b1 A1 n1 c1 l1) (h2 : NOwn w b2 A2 n2 c2 l2) (hg : w.grownBy w' (blk A2)) : Own w' b1 A1 n1 c1 l1 :=
  h1.kept hg (by have := rows_unlike h1 h2 (by decide); rwa [ownBlock_eq, ownBlock_eq] at this)
theorem nown_own {w w' : World} {b1 b2 n1 c1 n2 c2 : Nat} {A1 A2 : Option Addr} {l1 : List UInt8} {l2 : List UInt64} (h1 : Own w b1 A1 n1 c1 l1) (h2 : NOwn w b2 A2 n2 c2 l2) (hg : w.grownBy w' (blk A1)) : NOwn w' b2 A2 n2 c2 l2 :=
  h2.kept hg (by have := rows_unlike h2 h1 (by decide); rwa [ownBlock_eq, ownBlock_eq] at this)
theorem wrap_pow {v : Nat} (hv : v < 64) : IntKind.u64.wrap (2 ^ v) = ((2 ^ v : Nat) : Int) := by
  have h : (2 : Nat) ^ v < 18446744073709551616 := Nat.lt_of_lt_of_le (Nat.pow_lt_pow_right (by omega) hv) (by decide)
  have e : IntKind.u64.wrap ((2 ^ v : Nat) : Int) = ((2 ^ v : Nat) : Int) % 18446744073709551616 := by simp [IntKind.wrap, IntKind.bits, IntKind.signed]
  rw [show (2 : Int) ^ v = ((2 ^ v : Nat) : Int) from by rw [Int.natCast_pow]; rfl, e]
  generalize (2 : Nat) ^ v = q at *
  omega
set_option maxHeartbeats 4000000 in
theorem refBy_any (A : Option Addr) (n cap B v : Nat) (l : List UInt64) (w : World) (hl : l.length = n) (h1 : 1 ≤ n) (hn : n ≤ 32) (hv : v ≤ 64) (hb : Nums w B A l) (hB : B ≤ w.heap.size) :
    Calls Tryz.prog 85 #[.slice A n cap, .int .i64 (v : Int)] w (MadeIn w.heap.size w (Pfor.byW v l).length (Pfor.byW v l)) := by
  have hb := hb.wide hB
  rcases l with _ | ⟨y, r⟩
  · simp at hl; omega
  obtain ⟨ad, rfl, hlt', hcell⟩ := hb.get (k := 0) (by simp)
  simp only [uval, List.getElem_cons_zero, Addr.add, if_true] at hcell
  obtain ⟨z0, hz0⟩ : ∃ z0 : Int, z0 = (y.toNat : Int) := ⟨_, rfl⟩
  rw [← hz0] at hcell
  have Hz0 := Lib.hid hz0; clear hz0
  have Hbase := Lib.hid (Pfor.leastOf_self y r)
  generalize hyr : y :: r = l at *
  clear hyr
  have Hl := Lib.hid hl
  have hDl : (Pfor.diffs l).length = n := by rw [Pfor.diffs_length, hl]
  have HDl := Lib.hid hDl
  have Hget := Lib.hid (fun (k : Nat) (hk : k < l.length) (h2 : k < (Pfor.diffs l).length) => show (Pfor.diffs l)[k] = UInt64.ofNat (l[k].toNat - Pfor.base l) from Pfor.diffs_get hk)
  have Hle := Lib.hid (fun (k : Nat) (hk : k < l.length) => Pfor.base_le (List.getElem_mem hk))
  clear hl hDl
  go_enter Tryz.func85, Tryz.ntmps85
  go_wp2
  go_loopw [5, 6] (fun s i wr => ∃ (k : Nat) (x : Int), k ≤ n ∧ i = .int .i64 k ∧ s = .int .u64 x ∧ x = (Pfor.leastOf y.toNat (l.take k) : Int) ∧ w = wr) (fun _ i _ => n - (intOf i).toNat)
  case atStart => exact ⟨0, z0, by omega, rfl, rfl, Hz0.out, rfl⟩
  case round =>
    obtain ⟨k, x, hk, rfl, rfl, hx, rfl⟩ := hrel
    have Hx := Lib.hid hx; clear hx
    by_cases hlt : k < n
    · have hk' : k < l.length := by have := Hl.out; omega
      obtain ⟨ad2, h2, _, hcell2⟩ := hb.get hk'
      cases h2
      simp only [uval] at hcell2
      obtain ⟨z, hz⟩ : ∃ z : Int, z = (l[k].toNat : Int) := ⟨_, rfl⟩
      rw [← hz] at hcell2
      have Hmin := Lib.hid (Pfor.leastOf_take_succ y.toNat hk')
      have Hz := Lib.hid hz; clear hz
      clear hcell
      go_wp2
      go_roundw
      case rel =>
        refine ⟨k + 1, _, by omega, by go_num, rfl, ?_, trivial⟩
        rw [Hmin.out, Hx.out, Hz.out]
        split <;> omega
      case measure => simp [intOf]; omega
    · obtain rfl : k = n := by omega
      have hx := Hx.out
      rw [List.take_of_length_le (by rw [Hl.out]; exact Nat.le_refl _), Hbase.out] at hx
      clear Hx Hbase Hz0 hcell
      have hx0 : 0 ≤ x := by omega
      have hx1 : x ≤ 18446744073709551615 := by have := Pfor.base_lt l; omega
      have Hx := Lib.hid hx; clear hx
      generalize hD : Pfor.diffs l = D at *
      have HD := Lib.hid hD; clear hD
      go_wp2
      go_loopw [7, 8, 9, 10] (fun lo re ct i wr => ∃ (j C m c1 c2 : Nat) (A1 A2 : Option Addr), j ≤ k ∧ i = .int .i64 j ∧ ct = .int .i64 C ∧ C ≤ j ∧ C = Pfor.cnt v (D.take j) ∧ lo = .slice A1 j c1 ∧ re = .slice A2 m c2 ∧ m ≤ 10 * j ∧
        NOwn wr w.heap.size A1 j c1 ((Pfor.lows v D).take j) ∧ Own wr w.heap.size A2 m c2 (Pfor.excs v 0 (D.take j)) ∧ Below w.heap.size w wr) (fun _ _ _ i _ => k - (intOf i).toNat)
      case atStart => exact ⟨0, 0, 0, 0, 0, none, none, by omega, rfl, rfl, by omega, rfl, rfl, rfl, by omega, ROwn.nil _ _ _ _, own_none _ _, Below.refl _ _⟩
      case round =>
        obtain ⟨j, C, m, c1, c2, A1, A2, hj, rfl, rfl, hCj, hC, rfl, rfl, hm, hlo, hre, hbr⟩ := hrel
        have HC := Lib.hid hC; clear hC
        have hbx := hb.below hbr
        have hszr := hbr.size
        by_cases hlt : j < k
        · have hj' : j < l.length := by have := Hl.out; omega
          have hjD : j < D.length := by have := HDl.out; omega
          obtain ⟨ad2, h2, _, hcell2⟩ := hbx.get hj'
          cases h2
          simp only [uval] at hcell2
          obtain ⟨z, hz, hz0, hz1⟩ : ∃ z : Int, z = (l[j].toNat : Int) ∧ 0 ≤ z ∧ z ≤ 18446744073709551615 := ⟨_, rfl, by omega, by have := Bits.u64_lt l[j]; omega⟩
          have hle := Hle.out j hj'
          have hzx : x ≤ z := by rw [hz, Hx.out]; omega
          have hd : z - x = (D[j].toNat : Int) := by
            have := Bits.u64_lt l[j]
            rw [Hget.out j hj' hjD, Bits.toNat_ofNat (by omega), hz, Hx.out, Int.natCast_sub hle]
          rw [← hz] at hcell2
          have Hd := Lib.hid hd; clear hd hz hle
          have HsC := Lib.hid (Pfor.cnt_take_succ v hjD)
          have HsE := Lib.hid (Pfor.excs_take_succ v hjD)
          have hlowj : (Pfor.lows v D).take (j + 1) = (Pfor.lows v D).take j ++ [UInt64.ofNat (D[j].toNat % 2 ^ v)] := by
            rw [List.take_succ_eq_append_getElem (by rw [Pfor.lows_length]; exact hjD), Pfor.lows_get hjD]
          have Hlow := Lib.hid hlowj; clear hlowj
          have hshr : (z - x) / 2 ^ v = ((D[j].toNat / 2 ^ v : Nat) : Int) := shr_nat Hd.out
          by_cases h64 : v = 64
          · have h0 : D[j].toNat / 2 ^ v = 0 := by rw [h64]; exact Nat.div_eq_of_lt D[j].toNat_lt
            have hm64 : D[j].toNat % 2 ^ v = D[j].toNat := by rw [h64]; exact Nat.mod_eq_of_lt D[j].toNat_lt
            have hu : uval (UInt64.ofNat (D[j].toNat % 2 ^ v)) = .int .u64 (z - x) := by unfold uval; rw [hm64, Bits.u64_ofNat, Hd.out]
            have hC2 := HsC.out
            rw [if_pos h0] at hC2
            have hE2 := HsE.out
            rw [Pfor.exc, if_pos h0, List.append_nil] at hE2
            have HC2 := Lib.hid hC2
            have HE2 := Lib.hid hE2
            have hone := nown_lit1 wr _ _ hu
            have hor := hone.row
            have hloA := hlo.alloc (.cells #[.int .u64 (z - x)] 62)
            have hreA := hre.alloc (.cells #[.int .u64 (z - x)] 62)
            have hbA : Below w.heap.size w (wr.alloc (.cells #[.int .u64 (z - x)] 62)) := hbr.alloc hszr _
            have hszA := hbA.size
            clear hC2 hE2 HsC HsE hu hm64 h0 hone hlo hre hbr hshr
            have h64' : ((v : Int) == 64) = true := by rw [h64]; rfl
            clear h64
            go_wp2_with (at_builtin; refine wpList_append_row elem64 rfl (.tmp 44) (.tmp 46) rfl w.heap.size A1 j c1 _ rfl hloA _ _ 1 1 [_] rfl rfl hor (by omega) (by simp only [maxLen]; omega) hszA ?_; intro A3 c3 w3 hlo3 hg3 hat3)
            have hb3 := hbA.grown hg3 hszA (fun k hk => (hloA.lt hk).1)
            have hre3 := own_nown hreA hloA hg3
            clear hat3
            go_wp2
            go_roundw
            case rel => exact ⟨j + 1, C, m, c3, c2, A3, A2, by omega, by go_num, rfl, by omega, by rw [HC2.out, HC.out]; rfl, rfl, rfl, by omega, by rw [Hlow.out]; exact hlo3, by rw [HE2.out]; exact hre3, hb3⟩
            case measure => simp [intOf]; omega
          · have hv' : v < 64 := by omega
            have hq := wrap_pow hv'
            have hqp : 0 < (2 : Nat) ^ v := Bits.pow_pos v
            have hvi : ¬ ((v : Int) = 64) := by omega
            have hrem : (z - x) % ((2 ^ v : Nat) : Int) = ((D[j].toNat % 2 ^ v : Nat) : Int) := by rw [Hd.out, Int.natCast_emod]
            obtain ⟨q, hQ, hq0⟩ : ∃ q : Int, q = ((2 ^ v : Nat) : Int) ∧ 0 < q := ⟨_, rfl, by omega⟩
            rw [← hQ] at hq hrem
            have hu : uval (UInt64.ofNat (D[j].toNat % 2 ^ v)) = .int .u64 ((z - x) % q) := by unfold uval; rw [Pfor.low_toNat, hrem]
            have hone := nown_lit1 wr _ _ hu
            have hor := hone.row
            have hloA := hlo.alloc (.cells #[.int .u64 ((z - x) % q)] 62)
            have hreA := hre.alloc (.cells #[.int .u64 ((z - x) % q)] 62)
            have hbA : Below w.heap.size w (wr.alloc (.cells #[.int .u64 ((z - x) % q)] 62)) := hbr.alloc hszr _
            have hszA := hbA.size
            have hqn : ¬ (q = 0) := by omega
            have hvlt := Pfor.div_lt D[j] v
            clear hQ hqp hrem hu hone hlo hre hbr h64
            rcases div_eq_zero_or D[j].toNat v with ⟨_, h0⟩ | ⟨_, h0⟩
            · have hC2 := HsC.out
              rw [if_neg h0] at hC2
              have hE2 := HsE.out
              rw [Pfor.exc, if_neg h0] at hE2
              have HC2 := Lib.hid hC2
              have HE2 := Lib.hid hE2
              have HB := refBytes_any (D[j].toNat / 2 ^ v) (hv := hvlt)
              have h9 := Num.size_le9 hvlt
              have Hnl := Num.num_length (D[j].toNat / 2 ^ v)
              rw [← hshr] at HB
              have hpos : 0 < (z - x) / 2 ^ v := by rw [hshr]; exact Int.natCast_pos.2 (Nat.pos_of_ne_zero h0)
              replace HB := Lib.hid HB
              replace Hnl := Lib.hid Hnl
              clear hC2 hE2 HsC HsE h0 hshr hvlt
              generalize Num.num (D[j].toNat / 2 ^ v) = nv at *
              generalize Num.size (D[j].toNat / 2 ^ v) = sv at *
              go_wp2_with (at_builtin; refine wpList_append_row elem64 rfl (.tmp 48) (.tmp 53) rfl w.heap.size A1 j c1 _ rfl hloA _ _ 1 1 [_] rfl rfl hor (by omega) (by simp only [maxLen]; omega) hszA ?_; intro A3 c3 w3 hlo3 hg3 hat3)
              have hb3 := hbA.grown hg3 hszA (fun k hk => (hloA.lt hk).1)
              have hre3 := own_nown hreA hloA hg3
              have hsz3 := hb3.size
              clear hat3 hg3 hreA hloA hor hbA hszA
              have hwr : IntKind.u8.wrap (j : Int) = j := by
                have : IntKind.u8.wrap (j : Int) = (j : Int) % 256 := by simp [IntKind.wrap, IntKind.bits, IntKind.signed]
                rw [this]; omega
              have hob := (own_byte w3 (UInt8.ofNat j) (IntKind.u8.wrap (j : Int)) (by rw [hwr]; exact bval_lt (by omega))).bytes
              have hre4 := hre3.alloc (.cells #[.int .u8 (IntKind.u8.wrap (j : Int))] 5)
              have hlo4 := hlo3.alloc (.cells #[.int .u8 (IntKind.u8.wrap (j : Int))] 5)
              have hb4 : Below w.heap.size w (w3.alloc (.cells #[.int .u8 (IntKind.u8.wrap (j : Int))] 5)) := hb3.alloc hsz3 _
              have hsz4 := hb4.size
              clear hwr hre3 hlo3 hb3 hsz3
              go_region_held3 (fun _ => True) (trivial) (first | (refine step_append_bytes (by rfl) (.tmp 61) (.tmp 64) (by rfl) w.heap.size A2 m c2 _ (by rfl) (by exact hre4) _ _ 1 1 [UInt8.ofNat j] (by rfl) rfl (by exact hob) (by omega) (by exact hsz4) ?_; intro A5 c5 w5 ho5 hg5 hat5) | (go_at_call 54; refine (HB.out _).mono ?_; rintro e w8 ⟨g8, c8, rfl, ho8, hb8⟩) | (refine step_append_bytes ?_ (.tmp 65) (.tmp 69) ?_ w.heap.size A5 (m + 1) c5 (Pfor.excs v 0 (List.take j D) ++ [UInt8.ofNat j]) ?_ ?_ w8.heap.size (some ⟨g8, 0, none⟩) sv c8 nv ?_ ?_ ?_ ?_ ?_ ?_; rfl; rfl; rfl; exact ho5.below hb8; rfl; exact Hnl.out; exact ho8.bytes; omega; exact Nat.le_trans hsz4 (Nat.le_trans hg5.size hb8.size); intro A9 c9 w9 ho9 hg9 hat9))
              have hb8' := hb4.drew.grown (by exact hg5) (by exact hsz4) (fun k hk => (hre4.lt hk).1)
              have hsz5 := hb8'.size
              have hb8a := hb8'.trans (hb8.mono hsz5)
              have ho5' := ho5.below hb8
              have hb9 := hb8a.grown (by exact hg9) hb8a.size (fun k hk => (ho5'.lt hk).1)
              have hlo5 : NOwn w5 w.heap.size A3 (j + 1) c3 _ := nown_own (w := (w3.alloc (.cells #[.int .u8 (IntKind.u8.wrap (j : Int))] 5)).drew) (by exact hre4) (by exact hlo4) hg5
              have hlo9 := nown_own ho5' (hlo5.below hb8) hg9
              rw [List.append_assoc, List.singleton_append, ← HE2.out] at ho9
              rw [← Hlow.out] at hlo9
              clear hlo5 hlo4 hre4 hob hb4 hsz4 hg5 hat5 ho5 hb8 ho8 hg9 hat9 ho5' hb8a hsz5 hb8' HB HE2 Hlow
              go_wp2
              go_roundw
              case rel => exact ⟨j + 1, C + 1, m + 1 + sv, c3, c9, A3, A9, by omega, by go_num, by go_num, by omega, by rw [HC2.out, HC.out], rfl, rfl, by omega, hlo9, ho9, hb9⟩
              case measure => simp [intOf]; omega
            · have hC2 := HsC.out
              rw [if_pos h0] at hC2
              have hE2 := HsE.out
              rw [Pfor.exc, if_pos h0, List.append_nil] at hE2
              have HC2 := Lib.hid hC2
              have HE2 := Lib.hid hE2
              rw [h0] at hshr
              have hshr' : (z - x) / 2 ^ v = 0 := hshr
              clear hC2 hE2 HsC HsE h0 hshr hvlt
              go_wp2_with (at_builtin; refine wpList_append_row elem64 rfl (.tmp 48) (.tmp 53) rfl w.heap.size A1 j c1 _ rfl hloA _ _ 1 1 [_] rfl rfl hor (by omega) (by simp only [maxLen]; omega) hszA ?_; intro A3 c3 w3 hlo3 hg3 hat3)
              have hb3 := hbA.grown hg3 hszA (fun k hk => (hloA.lt hk).1)
              have hre3 := own_nown hreA hloA hg3
              clear hat3 hg3 hreA hloA hor hbA hszA
              go_wp2
              go_roundw
              case rel => exact ⟨j + 1, C, m, c3, c2, A3, A2, by omega, by go_num, rfl, by omega, by rw [HC2.out, HC.out]; rfl, rfl, rfl, by omega, by rw [Hlow.out]; exact hlo3, by rw [HE2.out]; exact hre3, hb3⟩
              case measure => simp [intOf]; omega
        · obtain rfl : j = k := by omega
          rw [List.take_of_length_le (by rw [Pfor.lows_length, HDl.out]; exact Nat.le_refl _)] at hlo
          rw [List.take_of_length_le (by rw [HDl.out]; exact Nat.le_refl _)] at hre
          have hC := HC.out
          rw [List.take_of_length_le (by rw [HDl.out]; exact Nat.le_refl _)] at hC
          have hP := refPack_any A1 j c1 _ v (Pfor.lows v D) wr (by rw [Pfor.lows_length, HDl.out]) (by omega) hlo.row (Nat.le_refl _)
          rw [Bits.pack_ok hv (Pfor.lows_fit D)] at hP
          have hpl : (Bits.packed v (Pfor.lows v D)).length ≤ 256 := by
            have h2 : j * v ≤ 32 * 64 := Nat.mul_le_mul hn hv
            rw [Bits.packed_length, Pfor.lows_length, HDl.out]
            unfold Bits.size
            omega
          have hrl := hre.len
          have hfin : Pfor.byW v l = ((([UInt8.ofNat j] ++ Num.num (Pfor.base l)) ++ [UInt8.ofNat v, UInt8.ofNat C]) ++ Bits.packed v (Pfor.lows v D)) ++ Pfor.excs v 0 D := by
            have := Hl.out
            have hD := HD.out
            rw [hC]
            simp only [Pfor.byW, Pfor.body, this, hD, List.append_assoc, List.cons_append, List.nil_append]
          have HN := refBytes_any (Pfor.base l) (hv := Pfor.base_lt l)
          have hs9 := Num.size_le9 (Pfor.base_lt l)
          have Hnl := Num.num_length (Pfor.base l)
          rw [← Hx.out] at HN
          have hbv := bval_lt (show j < 256 by omega)
          have hbw := bval_lt (show v < 256 by omega)
          have hbc := bval_lt (show C < 256 by omega)
          generalize Num.num (Pfor.base l) = nb at *
          generalize Num.size (Pfor.base l) = s at *
          generalize Bits.packed v (Pfor.lows v D) = pk at *
          generalize Pfor.excs v 0 D = ex at *
          have HP := Lib.hid hP
          have Hfin := Lib.hid hfin
          have Hnl := Lib.hid Hnl
          have Hrl := Lib.hid hrl
          replace HN := Lib.hid HN
          clear hP hfin hC HC hlo hbx hb Hget Hle hrl
          go_wp2_with fail
          refine HP.out.mono ?_
          rintro e w1 ⟨Ap, cp, rfl, hop, hb1⟩
          clear HP
          have hpb := hop.bytes
          have hrb := (hre.below hb1).bytes
          have hbw1 := hbr.trans (hb1.mono hszr)
          have hszw1 := hbw1.size
          clear hop hre hb1 hbr
          have hlit := own_byte w1 _ _ hbv
          have hb1a : Below w1.heap.size w1 (w1.alloc (.cells #[.int .u8 (j : Int)] 5)) := (Below.refl _ _).alloc (Nat.le_refl _) _
          have hsz1a := hb1a.size
          go_wp2_with fail
          refine (HN.out _).mono ?_
          rintro e w2 ⟨g2, k2, rfl, ho2, hb2⟩
          clear HN
          have hb2' := hb1a.trans (hb2.mono hsz1a)
          have hlit2 := hlit.below hb2
          have hsz2 := hb2'.size
          have hnb := ho2.bytes
          clear ho2 hb2 hlit hb1a hsz1a
          go_wp2_with (at_builtin; first | (refine wpList_append_bytes rfl (.tmp 80) (.tmp 82) rfl w1.heap.size _ 1 1 _ rfl hlit2 _ _ s _ nb rfl Hnl.out hnb (by omega) hsz2 ?_; intro A3 c3 w3 ho3 hg3 hat3; have hb3 := hb2'.grown hg3 hsz2 (fun k hk => (hlit2.lt hk).1); have hsz3 := hb3.size; have hb3a : Below w1.heap.size w1 (w3.alloc (.cells #[.int .u8 (v : Int), .int .u8 (C : Int)] 5)) := hb3.alloc hsz3 _; have hsz3a := hb3a.size; have hlit3 := (own_byte2 w3 _ _ _ _ hbw hbc).bytes; have ho3a := ho3.alloc (.cells #[.int .u8 (v : Int), .int .u8 (C : Int)] 5); clear hnb hlit2 hat3 hg3) | (refine wpList_append_bytes rfl (.tmp 84) (.tmp 89) rfl w1.heap.size _ (1 + s) c3 _ rfl ho3a _ _ 2 2 [_, _] rfl rfl hlit3 (by omega) hsz3a ?_; intro A4 c4 w4 ho4 hg4 hat4; have hb4 := hb3a.grown hg4 hsz3a (fun k hk => (ho3a.lt hk).1); have hsz4 := hb4.size; have hpb4 := hpb.below hb4) | (refine wpList_append_bytes rfl (.tmp 90) (.tmp 91) rfl w1.heap.size _ (1 + s + 2) c4 _ rfl ho4 _ _ _ _ pk rfl rfl hpb4 (by omega) hsz4 ?_; intro A5 c5 w5 ho5 hg5 hat5; have hb5 := hb4.grown hg5 hsz4 (fun k hk => (ho4.lt hk).1); have hsz5 := hb5.size; have hrb5 := hrb.below hb5) | (refine wpList_append_bytes rfl (.tmp 92) (.tmp 93) rfl w1.heap.size _ (1 + s + 2 + pk.length) c5 _ rfl ho5 _ _ m _ ex rfl Hrl.out hrb5 (by omega) hsz5 ?_; intro A6 c6 w6 ho6 hg6 hat6; have hb6 := hb5.grown hg6 hsz5 (fun k hk => (ho5.lt hk).1)))
          go_ret
          have hlen := ho6.len
          rw [← Hfin.out] at ho6 hlen
          obtain ⟨g9, rfl, _⟩ := ho6.at_ (by omega)
          rw [hlen]
          exact ⟨g9, c6, rfl, ho6.low hszw1, hbw1.trans (hb6.mono hszw1)⟩
end Go.Proofs.YtoebeibmmclhpaaGreat

/- The document's Block. -/
namespace Go.Proofs.YtoebeibmmclhpaaGreat
open Go.RowKit
set_option maxRecDepth 100000
theorem Pfor.best_step (f : Nat → Nat) {j : Nat} (hj : 1 ≤ j) : Pfor.best f j = if f j < f (Pfor.best f (j - 1)) then j else Pfor.best f (j - 1) := by
  obtain ⟨i, rfl⟩ : ∃ i, j = i + 1 := ⟨j - 1, by omega⟩
  rfl
set_option maxHeartbeats 1000000 in
theorem refBlock_any (A : Option Addr) (n cap B : Nat) (l : List UInt64) (w : World) (hl : l.length = n) (h1 : 1 ≤ n) (hn : n ≤ 32) (hb : Nums w B A l) (hB : B ≤ w.heap.size) :
    Calls Tryz.prog 55 #[.slice A n cap] w (MadeIn w.heap.size w (Pfor.block l).length (Pfor.block l)) := by
  have hb := hb.wide hB
  have HB := Lib.hid (fun (v : Nat) (hv : v ≤ 64) (wr : World) (hbel : Below w.heap.size w wr) => refBy_any A n cap _ v l wr hl h1 hn hv (hb.below hbel) hbel.size)
  have H0 := Lib.hid (HB.out 0 (by omega) w (Below.refl _ _))
  have hsz := Lib.hid (fun v (hv : v ≤ 64) => Pfor.byW_length_le hv (show l.length ≤ 32 by omega))
  have hstep := Lib.hid (fun j (hj : 1 ≤ j) => Pfor.best_step (fun v => Pfor.bodySize v (Pfor.diffs l)) hj)
  have hcmp := Lib.hid (fun v v' => show (Pfor.byW v l).length < (Pfor.byW v' l).length ↔ Pfor.bodySize v (Pfor.diffs l) < Pfor.bodySize v' (Pfor.diffs l) from by rw [Pfor.byW_length, Pfor.byW_length]; omega)
  have hend : Pfor.block l = Pfor.byW (Pfor.best (fun v => Pfor.bodySize v (Pfor.diffs l)) 64) l := rfl
  have Hend := Lib.hid hend
  rw [hend]
  clear hend hl hb
  generalize hf : (fun v => Pfor.bodySize v (Pfor.diffs l)) = f at *
  have Hf := Lib.hid (fun v => show Pfor.bodySize v (Pfor.diffs l) = f v from by rw [← hf])
  clear hf
  generalize hF : (fun v => Pfor.byW v l) = F at *
  have HF := Lib.hid (fun v => show Pfor.byW v l = F v from by rw [← hF])
  clear hF
  simp only [HF.out, Hf.out] at HB H0 hsz hcmp hstep ⊢
  clear Hf HF Hend
  go_enter Tryz.func55, Tryz.ntmps55
  go_wp2_with fail
  refine H0.out.mono ?_
  rintro e w1 ⟨g1, k1, rfl, ho1, hb1⟩
  clear H0
  go_wp2
  go_loopw [3, 4] (fun s i wr => ∃ (j m g c : Nat), 1 ≤ j ∧ j ≤ 65 ∧ i = .int .i64 j ∧ m ≤ 64 ∧ m = Pfor.best f (j - 1) ∧ s = .slice (some ⟨g, 0, none⟩) (F m).length c ∧ Own wr w.heap.size (some ⟨g, 0, none⟩) (F m).length c (F m) ∧ Below w.heap.size w wr) (fun _ i _ => 65 - (intOf i).toNat)
  case atStart => exact ⟨1, 0, g1, k1, by omega, by omega, rfl, by omega, rfl, rfl, ho1, hb1⟩
  case round =>
    clear ho1 hb1
    obtain ⟨j, m, g, c, hj1, hj, rfl, hm64, hm, rfl, ho, hbr⟩ := hrel
    have Hm := Lib.hid hm; clear hm
    have hszr := hbr.size
    have hl1 := hsz.out m hm64
    by_cases hlt : j ≤ 64
    · have C1 := Lib.hid (HB.out j hlt wr hbr)
      have hl2 := hsz.out j hlt
      have hst := hstep.out j hj1
      rw [← Hm.out] at hst
      have hc := hcmp.out j m
      by_cases hless : (F j).length < (F m).length
      · rw [if_pos (hc.1 hless)] at hst
        have Hst := Lib.hid hst
        clear hst hc
        go_wp2_with fail
        refine C1.out.mono ?_
        rintro e w2 ⟨g2, k2, rfl, ho2, hb2⟩
        clear C1
        go_wp2
        go_roundw
        case rel => exact ⟨j + 1, j, g2, k2, by omega, by omega, by go_num, hlt, by rw [Nat.add_sub_cancel]; exact Hst.out.symm, rfl, ho2.low hszr, hbr.trans (hb2.mono hszr)⟩
        case measure => simp [intOf]; omega
      · rw [if_neg (fun h => hless (hc.2 h))] at hst
        have Hst := Lib.hid hst
        clear hst hc
        go_wp2_with fail
        refine C1.out.mono ?_
        rintro e w2 ⟨g2, k2, rfl, ho2, hb2⟩
        clear C1
        go_wp2
        go_roundw
        case rel => exact ⟨j + 1, m, g, c, by omega, by omega, by go_num, hm64, by rw [Nat.add_sub_cancel]; exact Hst.out.symm, rfl, ho.below hb2, hbr.trans (hb2.mono hszr)⟩
        case measure => simp [intOf]; omega
    · obtain rfl : j = 65 := by omega
      have hm := Hm.out
      simp only [Nat.reduceSub] at hm
      go_wp2
      go_ret
      rw [← hm]
      exact ⟨g, c, rfl, ho, hbr⟩
end Go.Proofs.YtoebeibmmclhpaaGreat

/- bits.Unpack. -/
namespace Go.Proofs.YtoebeibmmclhpaaGreat
open Go.RowKit
set_option maxRecDepth 100000
/-- what Unpack leaves: numbers of its own, and the error -/
def UnpackPost (w : World) (r : List UInt64 × Nat) (e : Ending) (w' : World) : Prop :=
  ∃ A c, e = .returned (.tuple #[.slice A r.1.length c, .int .i64 (r.2 : Int)]) ∧ NOwn w' w.heap.size A r.1.length c r.1 ∧ Below w.heap.size w w'
theorem nown_none (w : World) (base : Nat) : NOwn w base none 0 0 [] := ROwn.nil _ _ w base
theorem Bits.parts_zeros_set (n k w N : Nat) (hk : k < n) : (Bits.parts k w N ++ List.replicate (n - k) 0).set k (UInt64.ofNat (N / 2 ^ (k * w) % 2 ^ w)) = Bits.parts (k + 1) w N ++ List.replicate (n - (k + 1)) 0 := by
  obtain ⟨d, rfl⟩ : ∃ d, n = k + 1 + d := ⟨n - k - 1, by omega⟩
  rw [show k + 1 + d - k = d + 1 from by omega, List.replicate_succ, show k + 1 + d - (k + 1) = d from by omega, Bits.parts_succ]
  have e : (Bits.parts k w N).length = k := Bits.parts_length _ _ _
  generalize Bits.parts k w N = P at *
  subst e
  simp
theorem uval_small {x : Nat} (h : x < 18446744073709551616) : uval (UInt64.ofNat x) = .int .u64 (x : Int) := by
  unfold uval
  rw [Bits.toNat_ofNat h]
set_option maxHeartbeats 1000000 in
theorem unpack_any (A : Option Addr) (m cap B : Nat) (y z : Int) (b : List UInt8) (w : World) (hl : b.length = m) (hb : Bytes w B A b) (hB : B ≤ w.heap.size) (hm : m ≤ 140737488355328) :
    Calls Tryz.prog 127 #[.slice A m cap, .int .i64 y, .int .i64 z] w (UnpackPost w (Bits.unpack b y z)) := by
  have H1 := isWidth_any z w
  by_cases hw : z < 0 ∨ 64 < z ∨ y < 0 ∨ 4096 < y
  · have e : Bits.unpack b y z = ([], 1) := by unfold Bits.unpack; rw [if_pos hw]
    rw [e]
    clear e hl hb
    by_cases hz : 0 ≤ z ∧ z ≤ 64
    · rw [decide_eq_true hz] at H1
      replace H1 := Lib.hid H1
      by_cases hy : y < 0
      · go_enter Tryz.func127, Tryz.ntmps127
        go_wp2_with fail
        refine H1.out.mono ?_
        rintro e w1 ⟨rfl, rfl⟩
        go_wp2
        go_ret2
        exact ⟨none, 0, rfl, nown_none _ _, Below.refl _ _⟩
      · have hy2 : 4096 < y := by omega
        go_enter Tryz.func127, Tryz.ntmps127
        go_wp2_with fail
        refine H1.out.mono ?_
        rintro e w1 ⟨rfl, rfl⟩
        go_wp2
        go_ret2
        exact ⟨none, 0, rfl, nown_none _ _, Below.refl _ _⟩
    · rw [decide_eq_false hz] at H1
      replace H1 := Lib.hid H1
      clear hw hz
      go_enter Tryz.func127, Tryz.ntmps127
      go_wp2_with fail
      refine H1.out.mono ?_
      rintro e w1 ⟨rfl, rfl⟩
      go_wp2
      go_ret2
      exact ⟨none, 0, rfl, nown_none _ _, Below.refl _ _⟩
  · rw [decide_eq_true (by omega)] at H1
    replace H1 := Lib.hid H1
    obtain ⟨v, rfl⟩ : ∃ v : Nat, z = v := ⟨z.toNat, by omega⟩
    obtain ⟨n, rfl⟩ : ∃ n : Nat, y = n := ⟨y.toNat, by omega⟩
    have hv : v ≤ 64 := by omega
    have hn : n ≤ 4096 := by omega
    obtain ⟨hS, hnv⟩ := Bits.size_le (show n ≤ 65536 by omega) hv
    have H2 := packedSize_any n v w (by omega)
    have hp0 : 0 ≤ (n : Int) * (v : Int) := Int.mul_nonneg (by omega) (by omega)
    have hp1 : (n : Int) * (v : Int) ≤ 4194304 := by rw [← Int.natCast_mul]; omega
    by_cases h2 : b.length < Bits.size n v
    · have e : Bits.unpack b n v = ([], 3) := by unfold Bits.unpack; rw [if_neg hw, Int.toNat_natCast, Int.toNat_natCast, if_pos h2]
      rw [e]
      rw [hl] at h2
      clear e hl hb hw hp0 hp1
      generalize Bits.size n v = S at *
      replace H2 := Lib.hid H2
      go_enter Tryz.func127, Tryz.ntmps127
      go_wp2_with fail
      refine H1.out.mono ?_
      rintro e w1 ⟨rfl, rfl⟩
      go_wp2_with fail
      refine H2.out.mono ?_
      rintro e w1 ⟨rfl, rfl⟩
      go_wp2
      go_ret2
      exact ⟨none, 0, rfl, nown_none _ _, Below.refl _ _⟩
    · by_cases h3 : Bits.size n v < b.length
      · have e : Bits.unpack b n v = ([], 2) := by unfold Bits.unpack; rw [if_neg hw, Int.toNat_natCast, Int.toNat_natCast, if_neg h2, if_pos (.inl h3)]
        rw [e]
        rw [hl] at h2 h3
        clear e hl hb hw hp0 hp1
        generalize Bits.size n v = S at *
        replace H2 := Lib.hid H2
        go_enter Tryz.func127, Tryz.ntmps127
        go_wp2_with fail
        refine H1.out.mono ?_
        rintro e w1 ⟨rfl, rfl⟩
        go_wp2_with fail
        refine H2.out.mono ?_
        rintro e w1 ⟨rfl, rfl⟩
        go_wp2
        go_ret2
        exact ⟨none, 0, rfl, nown_none _ _, Below.refl _ _⟩
      · obtain rfl : m = Bits.size n v := by omega
        have H3 := hasUnusedBit_any A (Bits.size n v) cap B (n * v) b w hl rfl (by omega) hb
        have hd : 8 * Bits.size n v < n * v + 8 ∧ n * v ≤ 8 * Bits.size n v := by unfold Bits.size; omega
        rw [Int.natCast_mul] at H3
        by_cases h4 : 2 ^ (n * v) ≤ Num.val b
        · have e : Bits.unpack b n v = ([], 2) := by unfold Bits.unpack; rw [if_neg hw, Int.toNat_natCast, Int.toNat_natCast, if_neg h2, if_pos (.inr h4)]
          rw [e]
          rw [decide_eq_true h4] at H3
          replace H2 := Lib.hid H2
          replace H3 := Lib.hid H3
          clear e hl hb hw h2 h3 h4 hd
          generalize Bits.size n v = S at *
          go_enter Tryz.func127, Tryz.ntmps127
          go_wp2_with fail
          refine H1.out.mono ?_
          rintro e w1 ⟨rfl, rfl⟩
          go_wp2_with fail
          refine H2.out.mono ?_
          rintro e w1 ⟨rfl, rfl⟩
          go_wp2_with fail
          refine H3.out.mono ?_
          rintro e w1 ⟨rfl, rfl⟩
          go_wp2
          go_ret2
          exact ⟨none, 0, rfl, nown_none _ _, Below.refl _ _⟩
        · have e : Bits.unpack b n v = (Bits.parts n v (Num.val b), 0) := by unfold Bits.unpack; rw [if_neg hw, Int.toNat_natCast, Int.toNat_natCast, if_neg h2, if_neg (by omega)]
          rw [e]
          rw [decide_eq_false h4] at H3
          replace H2 := Lib.hid H2
          replace H3 := Lib.hid H3
          have Hl := Lib.hid hl
          clear e hl hw h2 h3 h4
          generalize Bits.size n v = S at *
          have hmk := run_make_nums n (by omega)
          have ho1 := own_nums w n (by simp only [maxLen]; omega)
          have hbel : Below w.heap.size w (w.alloc (.cells (madeCells #[.int .u64 0] n) 62)) := (Below.refl _ _).alloc (Nat.le_refl _) _
          go_enter Tryz.func127, Tryz.ntmps127
          go_wp2_with fail
          refine H1.out.mono ?_
          rintro e w1 ⟨rfl, rfl⟩
          go_wp2_with fail
          refine H2.out.mono ?_
          rintro e w1 ⟨rfl, rfl⟩
          go_wp2_with fail
          refine H3.out.mono ?_
          rintro e w1 ⟨rfl, rfl⟩
          clear H1 H2 H3
          go_wp2
          go_loopw [44] (fun i wr => ∃ (k : Nat), k ≤ n ∧ i = .int .i64 k ∧ NOwn wr w.heap.size (some ⟨w.heap.size, 0, none⟩) n n (Bits.parts k v (Num.val b) ++ List.replicate (n - k) 0) ∧ Below w.heap.size w wr) (fun i _ => n - (intOf i).toNat)
          case atStart => exact ⟨0, by omega, rfl, by simpa [Bits.parts] using ho1, hbel⟩
          case round =>
            clear ho1 hbel
            obtain ⟨k, hk, rfl, ho, hbel⟩ := hrel
            by_cases hlt : k < n
            · have hb1 := (hb.wide hB).below hbel
              have hkv : k * v + v ≤ n * v := by rw [← Nat.succ_mul]; exact Nat.mul_le_mul_right v hlt
              have HT := takeNumber_any A S cap w.heap.size (k * v) v b wr Hl.out hv (by omega) (by omega) hb1
              rw [Int.natCast_mul] at HT
              have hxlt : Num.val b / 2 ^ (k * v) % 2 ^ v < 18446744073709551616 := Nat.lt_of_lt_of_le (Nat.mod_lt _ (Bits.pow_pos v)) (Bits.pow_le64 hv)
              have hst := ho.store k (UInt64.ofNat (Num.val b / 2 ^ (k * v) % 2 ^ v))
              rw [uval_small hxlt, Bits.parts_zeros_set n k v _ hlt] at hst
              have hfree := ho.free k
              have hcell := ho.cell (k := k) (by rw [ho.len]; exact hlt)
              generalize (Bits.parts k v (Num.val b) ++ List.replicate (n - k) 0)[k]'(by rw [ho.len]; exact hlt) = old at hcell
              simp only [uval] at hcell
              have Hst := Lib.hid hst
              have Hbl := Lib.hid (hbel.setCell (p := ⟨w.heap.size, k, none⟩) (Nat.le_refl _) (.int .u64 ((Num.val b / 2 ^ (k * v) % 2 ^ v : Nat) : Int)))
              replace HT := Lib.hid HT
              have hkv0 : 0 ≤ (k : Int) * (v : Int) := Int.mul_nonneg (by omega) (by omega)
              have hkv1 : (k : Int) * (v : Int) ≤ 4194304 := by rw [← Int.natCast_mul]; omega
              generalize Num.val b / 2 ^ (k * v) % 2 ^ v = x at *
              clear ho hst hbel hkv hxlt hd
              go_wp2_with fail
              refine HT.out.mono ?_
              rintro e w1 ⟨rfl, rfl⟩
              clear HT
              go_wp2
              go_roundw
              case rel => exact ⟨k + 1, by omega, by go_num, Hst.out, Hbl.out⟩
              case measure => simp [intOf]; omega
            · obtain rfl : k = n := by omega
              go_wp2
              go_ret2
              rw [Nat.sub_self, List.replicate_zero, List.append_nil] at ho
              refine ⟨some ⟨w.heap.size, 0, none⟩, k, ?_, ?_, hbel⟩
              · rw [Bits.parts_length]; rfl
              · rw [Bits.parts_length]; exact ho
end Go.Proofs.YtoebeibmmclhpaaGreat

/- dragnetref03.Unpack: the document's. -/
namespace Go.Proofs.YtoebeibmmclhpaaGreat
open Go.RowKit
set_option maxRecDepth 100000
theorem nown_one (w : World) (x : UInt64) (z : Int) (h : uval x = .int .u64 z) : NOwn (w.alloc (.cells #[.int .u64 z] 62)) w.heap.size (some ⟨w.heap.size, 0, none⟩) 1 1 [x] := by
  have := ROwn.lit (f := uval) (e := 62) w w.heap.size [x] (Nat.le_refl _) (by simp only [maxLen, List.length_singleton]; omega)
  simp only [List.map_cons, List.map_nil, h] at this
  exact this
theorem bit_byte {b s : Nat} : ((b : Int) / 2 ^ s).tmod 2 = ((b / 2 ^ s % 2 : Nat) : Int) := bit_int rfl
set_option maxHeartbeats 2000000 in
theorem refUnpack_any (A : Option Addr) (m cap B : Nat) (y z : Int) (b : List UInt8) (w : World) (hl : b.length = m) (hb : Bytes w B A b) (hB : B ≤ w.heap.size) (hm : m ≤ 140737488355328) :
    Calls Tryz.prog 96 #[.slice A m cap, .int .i64 y, .int .i64 z] w (UnpackPost w (Bits.unpack b y z)) := by
  by_cases hw : z < 0 ∨ 64 < z ∨ y < 0 ∨ 4096 < y
  · have e : Bits.unpack b y z = ([], 1) := by unfold Bits.unpack; rw [if_pos hw]
    rw [e]
    clear e hl hb
    by_cases h1 : z < 0
    · go_enter Tryz.func96, Tryz.ntmps96
      go_wp2
      go_ret2
      exact ⟨none, 0, rfl, nown_none _ _, Below.refl _ _⟩
    · by_cases h2 : 64 < z
      · go_enter Tryz.func96, Tryz.ntmps96
        go_wp2
        go_ret2
        exact ⟨none, 0, rfl, nown_none _ _, Below.refl _ _⟩
      · by_cases h3 : y < 0
        · go_enter Tryz.func96, Tryz.ntmps96
          go_wp2
          go_ret2
          exact ⟨none, 0, rfl, nown_none _ _, Below.refl _ _⟩
        · have h4 : 4096 < y := by omega
          go_enter Tryz.func96, Tryz.ntmps96
          go_wp2
          go_ret2
          exact ⟨none, 0, rfl, nown_none _ _, Below.refl _ _⟩
  · obtain ⟨v, rfl⟩ : ∃ v : Nat, z = v := ⟨z.toNat, by omega⟩
    obtain ⟨n, rfl⟩ : ∃ n : Nat, y = n := ⟨y.toNat, by omega⟩
    have hv : v ≤ 64 := by omega
    have hn : n ≤ 4096 := by omega
    obtain ⟨hS, hnv⟩ := Bits.size_le (show n ≤ 65536 by omega) hv
    have H2 := refSize_any n v w (by omega)
    by_cases h2 : b.length < Bits.size n v
    · have e : Bits.unpack b n v = ([], 3) := by unfold Bits.unpack; rw [if_neg hw, Int.toNat_natCast, Int.toNat_natCast, if_pos h2]
      rw [e]
      rw [hl] at h2
      clear e hl hb hw
      generalize Bits.size n v = S at *
      replace H2 := Lib.hid H2
      go_enter Tryz.func96, Tryz.ntmps96
      go_wp2_with fail
      refine H2.out.mono ?_
      rintro e w1 ⟨rfl, rfl⟩
      go_wp2
      go_ret2
      exact ⟨none, 0, rfl, nown_none _ _, Below.refl _ _⟩
    · by_cases h3 : Bits.size n v < b.length
      · have e : Bits.unpack b n v = ([], 2) := by unfold Bits.unpack; rw [if_neg hw, Int.toNat_natCast, Int.toNat_natCast, if_neg h2, if_pos (.inl h3)]
        rw [e]
        rw [hl] at h2 h3
        clear e hl hb hw
        generalize Bits.size n v = S at *
        replace H2 := Lib.hid H2
        go_enter Tryz.func96, Tryz.ntmps96
        go_wp2_with fail
        refine H2.out.mono ?_
        rintro e w1 ⟨rfl, rfl⟩
        go_wp2_with fail
        refine H2.out.mono ?_
        rintro e w1 ⟨rfl, rfl⟩
        go_wp2
        go_ret2
        exact ⟨none, 0, rfl, nown_none _ _, Below.refl _ _⟩
      · obtain rfl : m = Bits.size n v := by omega
        have hval := Num.val_lt b
        rw [hl, Bits.pow256] at hval
        have hbad : 2 ^ (n * v) ≤ Num.val b → Bits.unpack b n v = ([], 2) := fun h4 => by
          unfold Bits.unpack; rw [if_neg hw, Int.toNat_natCast, Int.toNat_natCast, if_neg h2, if_pos (.inr h4)]
        have hgood : Num.val b < 2 ^ (n * v) → Bits.unpack b n v = (Bits.parts n v (Num.val b), 0) := fun h4 => by
          unfold Bits.unpack; rw [if_neg hw, Int.toNat_natCast, Int.toNat_natCast, if_neg h2, if_neg (by omega)]
        have hd : n * v ≤ 8 * Bits.size n v := by unfold Bits.size; omega
        have hP : (n : Int) * (v : Int) = ((n * v : Nat) : Int) := by rw [Int.natCast_mul]
        replace H2 := Lib.hid H2
        have Hl := Lib.hid hl
        have Hbad := Lib.hid hbad
        have Hgood := Lib.hid hgood
        have Hvl := Lib.hid hval
        clear hl hw h2 h3 hval hbad hgood
        generalize Bits.size n v = S at *
        go_enter Tryz.func96, Tryz.ntmps96
        go_wp2_with fail
        refine H2.out.mono ?_
        rintro e w1 ⟨rfl, rfl⟩
        go_wp2_with fail
        refine H2.out.mono ?_
        rintro e w1 ⟨rfl, rfl⟩
        clear H2
        go_wp2
        go_loopw [8, 9] (fun s i wr => ∃ (k : Nat) (A' : Option Addr) (c : Nat), k ≤ n ∧ i = .int .i64 k ∧ s = .slice A' k c ∧ NOwn wr w.heap.size A' k c (Bits.parts k v (Num.val b)) ∧ Below w.heap.size w wr) (fun _ i _ => n - (intOf i).toNat)
        case atStart => exact ⟨0, none, 0, by omega, rfl, rfl, nown_none _ _, Below.refl _ _⟩
        case round =>
          obtain ⟨k, A', c, hk, rfl, rfl, ho, hbel⟩ := hrel
          have hb1 := (hb.wide hB).below hbel
          by_cases hlt : k < n
          · have hPk : (k : Int) * (v : Int) = ((k * v : Nat) : Int) := by rw [Int.natCast_mul]
            have hPn : k * v + v ≤ n * v := by rw [← Nat.succ_mul]; exact Nat.mul_le_mul_right v hlt
            have hps := Bits.parts_succ k v (Num.val b)
            have Hps := Lib.hid hps
            clear hps hP
            generalize k * v = P at *
            go_wp2
            go_loopw [10, 11] (fun s i wq => ∃ (j : Nat) (x : Int), j ≤ v ∧ i = .int .i64 j ∧ s = .int .u64 x ∧ x = ((Num.val b / 2 ^ P % 2 ^ j : Nat) : Int) ∧ wr = wq) (fun _ i _ => v - (intOf i).toNat)
            case atStart => exact ⟨0, 0, by omega, rfl, rfl, by simp [Nat.mod_one], rfl⟩
            case round =>
              obtain ⟨j, x, hj, rfl, rfl, hx, rfl⟩ := hrel
              have Hx := Lib.hid hx
              by_cases hjv : j < v
              · have hJ : (P + j) / 8 < b.length := by rw [Hl.out]; omega
                have hJS : (P + j) / 8 < S := by omega
                have hs8 : (P + j) % 8 < 8 := by omega
                have hquo : ((P : Int) + (j : Int)) / 8 = (((P + j) / 8 : Nat) : Int) := by omega
                have hrem : ((P : Int) + (j : Int)) % 8 = (((P + j) % 8 : Nat) : Int) := by omega
                obtain ⟨ad, rfl, _, hcell⟩ := hb1.get hJ
                have hb256 := Num.byte_lt b[(P + j) / 8]
                have hvb := Bits.val_bit hJ
                rw [Nat.pow_add, ← Nat.div_div_eq_div_mul] at hvb
                have hbit := bit_byte (b := b[(P + j) / 8].toNat) (s := (P + j) % 8)
                rw [← hvb] at hbit
                have hms := Bits.mod_succ (Num.val b / 2 ^ P) j
                have hmj : Num.val b / 2 ^ P % 2 ^ j < 2 ^ j := Nat.mod_lt _ (Bits.pow_pos j)
                have hpj : 2 ^ (j + 1) ≤ 18446744073709551616 := Bits.pow_le64 (by omega)
                rw [Nat.pow_succ] at hpj
                generalize b[(P + j) / 8].toNat = bb at *
                clear hJ hvb
                generalize (P + j) / 8 = J at *
                generalize (P + j) % 8 = s at *
                by_cases h1 : Num.val b / 2 ^ P / 2 ^ j % 2 = 1
                · rw [h1, Int.natCast_one] at hbit
                  rw [h1, Nat.mul_one] at hms
                  have hpow : (2 : Int) ^ j = ((2 ^ j : Nat) : Int) := by rw [Int.natCast_pow]; rfl
                  have hx' : x + ((2 ^ j : Nat) : Int) = ((Num.val b / 2 ^ P % 2 ^ (j + 1) : Nat) : Int) := by rw [hms, hx, Int.natCast_add]
                  have hx0 : 0 ≤ x := by omega
                  have hxq : x < ((2 ^ j : Nat) : Int) := by omega
                  have Hx' := Lib.hid hx'
                  clear h1 hms hx' hx Hx hmj
                  generalize 2 ^ j = Q at *
                  go_wp2
                  go_roundw
                  case rel => exact ⟨j + 1, _, by omega, by go_num, rfl, Hx'.out, trivial⟩
                  case measure => simp [intOf]; omega
                · have h0 : Num.val b / 2 ^ P / 2 ^ j % 2 = 0 := by omega
                  rw [h0, Int.natCast_zero] at hbit
                  rw [h0, Nat.mul_zero, Nat.add_zero, ] at hms
                  have Hms := Lib.hid hms
                  clear h1 h0 hms hmj hpj hx
                  go_wp2
                  go_roundw
                  case rel => exact ⟨j + 1, x, by omega, by go_num, rfl, by rw [Hms.out]; exact Hx.out, trivial⟩
                  case measure => simp [intOf]; omega
              · obtain rfl : j = v := by omega
                have hx64 : Num.val b / 2 ^ P % 2 ^ j < 18446744073709551616 := Nat.lt_of_lt_of_le (Nat.mod_lt _ (Bits.pow_pos j)) (Bits.pow_le64 hv)
                have hone := nown_one wr (UInt64.ofNat (Num.val b / 2 ^ P % 2 ^ j)) x (by rw [uval_small hx64, hx])
                have hr1 := hone.row
                have ho1 := ho.alloc (.cells #[.int .u64 x] 62)
                have hbel2 : Below w.heap.size w (wr.alloc (.cells #[.int .u64 x] 62)) := hbel.alloc hbel.size _
                have hsz : w.heap.size ≤ (wr.alloc (.cells #[.int .u64 x] 62)).heap.size := hbel2.size
                have Hlt := fun k' => Lib.hid fun hk => (ho1.lt (k := k') hk).1
                clear hone ho hx Hx hx64 hb1
                go_wp2_with (at_builtin; refine wpList_append_row elem64 rfl (.tmp 71) (.tmp 73) rfl w.heap.size A' k c _ rfl ho1 _ _ 1 1 [UInt64.ofNat (Num.val b / 2 ^ P % 2 ^ j)] rfl rfl hr1 (by omega) (by simp only [maxLen]; omega) hsz ?_; intro A2 c2 w2 ho3 hg3 hat3)
                have hbw2 := hbel2.grown hg3 hsz (fun k hk => (Hlt k).out hk)
                rw [← Hps.out] at ho3
                go_roundw
                case rel => exact ⟨k + 1, A2, c2, by omega, by go_num, rfl, ho3, hbw2⟩
                case measure => simp [intOf]; omega
          · obtain rfl : k = n := by omega
            have Hmod0 : Num.val b % 2 ^ (k * v) < 2 ^ (k * v) := Nat.mod_lt _ (Bits.pow_pos _)
            generalize k * v = P at *
            go_wp2
            go_loopw [12] (fun i wq => ∃ (q : Nat), P ≤ q ∧ q ≤ 8 * S ∧ i = .int .i64 q ∧ Num.val b % 2 ^ q < 2 ^ P ∧ wr = wq) (fun i _ => 8 * S - (intOf i).toNat)
            case atStart => exact ⟨P, by omega, hd, rfl, Hmod0, rfl⟩
            case round =>
              clear Hmod0
              obtain ⟨q, hq1, hq2, rfl, hmod, rfl⟩ := hrel
              have Hmod := Lib.hid hmod
              by_cases hq : q < 8 * S
              · have hJ : q / 8 < b.length := by rw [Hl.out]; omega
                have hJS : q / 8 < S := by omega
                have hs8 : q % 8 < 8 := by omega
                have hquo : (q : Int) / 8 = ((q / 8 : Nat) : Int) := by omega
                have hrem : (q : Int) % 8 = ((q % 8 : Nat) : Int) := by omega
                obtain ⟨ad, rfl, _, hcell⟩ := hb1.get hJ
                have hb256 := Num.byte_lt b[q / 8]
                have hvb := Bits.val_bit hJ
                have hbit := bit_byte (b := b[q / 8].toNat) (s := q % 8)
                rw [← hvb] at hbit
                generalize b[q / 8].toNat = bb at *
                clear hJ hvb hmod
                generalize q / 8 = J at *
                generalize q % 8 = s at *
                by_cases h1 : Num.val b / 2 ^ q % 2 = 1
                · rw [h1, Int.natCast_one] at hbit
                  have hge : 2 ^ P ≤ Num.val b := by
                    have h2 : (2 : Nat) ^ P ≤ 2 ^ q := Nat.pow_le_pow_right (by omega) hq1
                    rcases Nat.lt_or_ge (Num.val b) (2 ^ q) with h3 | h3
                    · rw [Nat.div_eq_of_lt h3] at h1; omega
                    · omega
                  have Hres := Lib.hid (Hbad.out hge)
                  clear h1 hge
                  go_wp2
                  go_ret2
                  rw [Hres.out]
                  exact ⟨none, 0, rfl, nown_none _ _, hbel⟩
                · have h0 : Num.val b / 2 ^ q % 2 = 0 := by omega
                  rw [h0, Int.natCast_zero] at hbit
                  have hnext : Num.val b % 2 ^ (q + 1) < 2 ^ P := by rw [Bits.mod_succ, h0, Nat.mul_zero, Nat.add_zero]; exact Hmod.out
                  have Hnext := Lib.hid hnext
                  clear h1 h0 hnext
                  go_wp2
                  go_roundw
                  case rel => exact ⟨q + 1, by omega, by omega, by go_num, Hnext.out, trivial⟩
                  case measure => simp [intOf]; omega
              · obtain rfl : q = 8 * S := by omega
                have hres : Num.val b < 2 ^ P := by
                  have := Hmod.out
                  rwa [Nat.mod_eq_of_lt Hvl.out] at this
                have Hres := Lib.hid (Hgood.out hres)
                clear hres hmod
                go_wp2
                go_ret2
                rw [Hres.out]
                refine ⟨A', c, ?_, ?_, hbel⟩
                · rw [Bits.parts_length]; rfl
                · rw [Bits.parts_length]; exact ho
end Go.Proofs.YtoebeibmmclhpaaGreat

/- A loop over an iterator that counts down: the law, with the number that is left as the ghost; blockLengths and its closure. -/
namespace Go.Proofs.YtoebeibmmclhpaaGreat
open Go.RowKit Go.Shelf
set_option maxRecDepth 100000
/-- How a round may be left: it goes on with m left, or it returns. -/
def lenPost (I : Nat → World → Prop) (Ix : World → Prop) (m : Nat) (W : World) : Exit → Act → World → Prop
  | .normal, _, W' => KeepsOthers W W' ∧ I m W'
  | .ret, _, W' => KeepsOthers W W' ∧ Ix W'
  | _, _, _ => False
/-- The iterator gf, with what it captured, counts n0 down by 32 and says each time how many there are of the 32. -/
def Lens (n gf : Nat) (lb : Array Value) (n0 : Nat) (w : World) : Prop :=
  ∀ (l : Nat) (J : Nat → World → Prop) (Jx : World → Prop) (W : World), Below w.heap.size w W →
    (∀ m W1, 0 < m → J m W1 → YieldAt Fence.wide (n - 1) Tryz.prog l #[.int .i64 ((min m 32 : Nat) : Int)] W1 fun e W' => (e = .returned (.bool true) ∧ J (m - 32) W') ∨ (e = .returned (.bool false) ∧ Jx W')) →
    J n0 W → CallsIn Fence.wide n Tryz.prog gf (#[.func (.yield l) #[] #[]] ++ lb) W fun e W' => (∃ v, e = .returned v) ∧ (J 0 W' ∨ Jx W')
section law
variable {n n0 gf : Nat} {g : Operand} {ps : Array Tmp} {assign body : Code} {Q : Exit → Act → World → Prop} {a : Act} {w : World} {lb : Array Value}
theorem wpIn_lens (hg : a.eval g = .func (.func gf) #[] lb) (eg : ∀ args w, (callFunc gf args).run Tryz.prog w = .ok (.enter gf args) w) (hseq : Lens (n - 1) gf lb n0 w) (hps : ps.size = 1)
    (I : Nat → World → Prop) (Ix : World → Prop) (hI : OwnFrom w.heap.size I) (hIx : OwnFrom w.heap.size fun (_ : Unit) => Ix) (h0 : I n0 w) (a₁ : Nat → Act)
    (hassign : ∀ (l m : Nat) (W : World) (K : Act → World → Prop), K (a₁ m) W →
      assign.wpIn (Fence.wide.inRound l) (n - 1 - 1) Tryz.prog (Exit.then K (fun _ _ _ => False)) { tmps := (ps.zip #[.int .i64 ((min m 32 : Nat) : Int)]).foldl (fun t (p, v) => t.setIfInBounds p v) a.tmps, defers := [] } W)
    (hbody : ∀ (l m : Nat) (W : World), 0 < m → I m W → body.wpIn (Fence.wide.inRound l) (n - 1 - 1) Tryz.prog (lenPost I Ix (m - 32) W) (a₁ m) W)
    (hdone : ∀ (D : Nat) (W : World), w.heap.size ≤ D → I 0 W → W.heap[D]? = some (.deferred (some [])) → Q .normal { a with defers := { target := .collected D, args := #[] } :: a.defers } W)
    (hstop : ∀ (D : Nat) (W : World), w.heap.size ≤ D → Ix W → W.heap[D]? = some (.deferred (some [])) → Code.ret.wpIn Fence.wide n Tryz.prog Q { a with defers := { target := .collected D, args := #[] } :: a.defers } W) :
    (Code.rangeFunc g ps assign body).wpIn Fence.wide n Tryz.prog Q a w := by
  refine wpIn_rangeFunc fun fn hfn => ?_
  -- the record, in the states that it comes to
  generalize hrc : (fun (st : LoopState) (pe : Option Code) => ({ state := st, pending := pe, fn, tmps := a.tmps, params := ps, assign, body, defers := w.heap.size } : Loop)) = rc
  have erc : ∀ st pe, rc st pe = { state := st, pending := pe, fn, tmps := a.tmps, params := ps, assign, body, defers := w.heap.size } := fun st pe => by rw [← hrc]
  generalize hW1 : (w.alloc (.deferred (some []))).alloc (.loop (rc .ready none)) = W1
  have sz1 : (w.alloc (.deferred (some []))).heap.size = w.heap.size + 1 := by simp
  have rec1 : W1.heap[w.heap.size + 1]? = some (.loop (rc .ready none)) := by
    rw [← hW1, ← sz1]; exact World.alloc_heap_new _ _
  have def1 : W1.heap[w.heap.size]? = some (.deferred (some [])) := by
    rw [← hW1, Below.heap_alloc _ _ _ (by omega)]; exact World.alloc_heap_new w _
  have bel1 : Below w.heap.size w W1 := by
    rw [← hW1]; exact ((Below.refl _ w).alloc (Nat.le_refl _) _).alloc (by omega) _
  have inv1 : I n0 W1 := by rw [← hW1]; exact hI.alloc _ (hI.alloc _ h0)
  have henter : (Instr.enterLoop fn a.tmps ps assign body Fence.wide.round).run Tryz.prog w = .ok (w.heap.size + 1, [{ target := .collected w.heap.size, args := #[] }]) W1 := by
    rw [← hW1, erc]; exact run_enterLoop_outer _ _ _ _ _
  refine ⟨_, _, W1, { target := .fn (.func gf) lb, args := #[.func (.yield (w.heap.size + 1)) #[] #[]] }, W1, gf, #[.func (.yield (w.heap.size + 1)) #[] #[]] ++ lb, W1, henter, ?_, fun _ _ => trivial, ?_, (fun h => by cases h), ?_⟩
  · simp only [resolve, hg]
    simp [go_sem]
  · simp [invoke, go_sem, eg]
  -- what lies between two rounds, and behind the last
  refine (hseq (w.heap.size + 1) (fun m W => I m W ∧ W.heap[w.heap.size + 1]? = some (.loop (rc .ready none)) ∧ W.heap[w.heap.size]? = some (.deferred (some [])))
    (fun W => Ix W ∧ W.heap[w.heap.size + 1]? = some (.loop (rc .done (some .ret))) ∧ W.heap[w.heap.size]? = some (.deferred (some []))) W1 bel1 ?_ ⟨inv1, rec1, def1⟩).mono ?_
  · rintro m W hm ⟨hi, hl, hk⟩
    have hlt : w.heap.size + 1 < W.heap.size := (Array.getElem?_eq_some_iff.1 hl).1
    have hy := run_yield (P := Tryz.prog) (args := #[.int .i64 ((min m 32 : Nat) : Int)]) hl (by rw [erc]; exact hps.symm)
    have hbg := run_beginRound (P := Tryz.prog) hl (by rw [erc])
    generalize hWb : W.putObj (w.heap.size + 1) (.loop { rc .ready none with state := .busy }) = Wb at hbg
    have busy : Wb.heap[w.heap.size + 1]? = some (.loop { rc .ready none with state := .busy }) := by rw [← hWb]; exact World.putObj_heap_same hlt
    have defb : Wb.heap[w.heap.size]? = some (.deferred (some [])) := by rw [← hWb, World.putObj_heap_other (by omega)]; exact hk
    have invb : I m Wb := by rw [← hWb]; exact hI.putObj _ hi (by omega) hl rfl
    rw [erc] at hy
    refine ⟨fn, _, assign, body, hy, roundIn_of_wpIn hfn (hassign _ m W _ ⟨Wb, hbg, wpIn_mono (hbody _ m Wb hm invb) ?_⟩)⟩
    -- the end of a round
    have fin : ∀ (jump : Option Code) (W3 : World), KeepsOthers Wb W3 → ∃ st W4, (Instr.endRound (w.heap.size + 1) jump).run Tryz.prog W3 = .ok (.bool jump.isNone) W4 ∧ st = (if jump.isNone then LoopState.ready else LoopState.done) ∧
        W4 = W3.putObj (w.heap.size + 1) (.loop (rc st jump)) ∧ W3.heap[w.heap.size + 1]? = some (.loop { rc .ready none with state := .busy }) ∧ W4.heap[w.heap.size + 1]? = some (.loop (rc st jump)) ∧ W4.heap[w.heap.size]? = some (.deferred (some [])) := fun jump W3 hko => by
      have b3 := hko.same _ _ busy rfl
      have he := run_endRound (P := Tryz.prog) jump b3
      refine ⟨_, _, he, rfl, by rw [erc, erc], b3, ?_, ?_⟩
      · rw [World.putObj_heap_same (Array.getElem?_eq_some_iff.1 b3).1, erc, erc]
      · rw [World.putObj_heap_other (by omega)]; exact hko.same _ _ defb rfl
    rintro e a3 W3 hp
    cases e with
    | normal =>
      obtain ⟨st, W4, hr, rfl, hW4, b3, r4, d4⟩ := fin none W3 hp.1
      exact ⟨_, W4, hr, .inl ⟨rfl, by rw [hW4]; exact hI.putObj _ hp.2 (by omega) b3 rfl, r4, d4⟩⟩
    | ret =>
      obtain ⟨st, W4, hr, rfl, hW4, b3, r4, d4⟩ := fin (some .ret) W3 hp.1
      exact ⟨_, W4, hr, .inr ⟨rfl, by rw [hW4]; exact hIx.putObj (s := ()) _ hp.2 (by omega) b3 rfl, r4, d4⟩⟩
    | exit _ => exact hp.elim
    | goto _ => exact hp.elim
    | panic _ => exact hp.elim
    | outgrown => exact hp.elim
  · rintro e W2 ⟨⟨v, rfl⟩, (⟨hi, hl, hk⟩ | ⟨hi, hl, hk⟩)⟩
    · have hend := run_endLoop (P := Tryz.prog) hl (by rw [erc]; simp)
      rw [show (rc .ready none).pending = none from by rw [erc]] at hend
      exact ⟨none, _, hend, hdone _ _ (Nat.le_refl _) (hI.putObj _ hi (by omega) hl rfl) ((World.putObj_heap_other (by omega)).trans hk)⟩
    · have hend := run_endLoop (P := Tryz.prog) hl (by rw [erc]; simp)
      rw [show (rc .done (some .ret)).pending = some .ret from by rw [erc]] at hend
      exact ⟨some .ret, _, hend, hstop _ _ (Nat.le_refl _) (hIx.putObj (s := ()) _ hi (by omega) hl rfl) ((World.putObj_heap_other (by omega)).trans hk)⟩
end law
theorem blockLengths_any (n : Nat) (w : World) : Calls Tryz.prog 46 #[.int .i64 (n : Int)] w fun e w' =>
    e = .returned (.func (.func 77) #[] #[.pointer (some ⟨w.heap.size, 0, none⟩)]) ∧ w' = w.alloc (.cells #[.int .i64 (n : Int)] 3) := by
  have hmf : ∀ (fn : Fn) (first cap : Array Value) (w : World), (Instr.makeFunc fn first cap).run Tryz.prog w = .ok (.func fn first cap) w := fun _ _ _ _ => rfl
  go_enter Tryz.func46, Tryz.ntmps46
  go_wp2
  go_ret
  exact ⟨rfl, rfl⟩
attribute [local go_sem] Oper.semAt_some
set_option maxHeartbeats 1000000 in
theorem lens_of (n b n0 : Nat) (w : World) (hn0 : n0 ≤ 9223372036854775807) (hb : b < w.heap.size) (hc : w.cell? ⟨b, 0, none⟩ = some (.int .i64 (n0 : Int))) :
    Lens n 77 #[.pointer (some ⟨b, 0, none⟩)] n0 w := by
  intro l J Jx W hW hY h0
  have hcell := (hW.cell (p := ⟨b, 0, none⟩) hb).trans hc
  refine callsIn_of_wp Tryz.func77 rfl trivial ?_ rfl
  simp only [Tryz.ntmps77, List.size_toArray, List.length_cons, List.length_nil, Nat.reduceAdd, Nat.reduceSub, Array.replicate_succ, Array.replicate_zero, List.push_toArray, List.append_toArray, List.nil_append, List.cons_append]
  gi_wp2
  gi_loopw [3] (fun s wr => ∃ z : Int, s = .int .i64 z ∧ z ≤ 9223372036854775807 ∧ -32 ≤ z ∧ J z.toNat wr) (fun s _ => (intOf s).toNat)
  case atStart => exact ⟨n0, rfl, by omega, by omega, h0⟩
  case round =>
    obtain ⟨z, rfl, hz, hz', hJ⟩ := hrel
    by_cases h : 0 < z
    · obtain ⟨fn, tmps, assign, body, hy, hR⟩ := hY z.toNat wr (by omega) hJ
      have hmin : ((min z.toNat 32 : Nat) : Int) = if 32 < z then 32 else z := by split <;> omega
      rw [hmin] at hy
      gi_wp2
      · refine ⟨(fun h => by cases h), hR.mono ?_⟩
        rintro e W3 (⟨rfl, hJ3⟩ | ⟨rfl, hJx3⟩)
        · gi_wp2
          go_roundw
          case rel => exact ⟨z - 32, rfl, by omega, by omega, by rw [show (z - 32).toNat = z.toNat - 32 from by omega]; exact hJ3⟩
          case measure => simp [intOf]; omega
        · gi_wp2
          refine bodyPost_ret (results_none rfl _ _ _) rfl ?_
          exact ⟨⟨_, rfl⟩, .inr hJx3⟩
      · refine ⟨(fun h => by cases h), hR.mono ?_⟩
        rintro e W3 (⟨rfl, hJ3⟩ | ⟨rfl, hJx3⟩)
        · gi_wp2
          go_roundw
          case rel => exact ⟨z - 32, rfl, by omega, by omega, by rw [show (z - 32).toNat = z.toNat - 32 from by omega]; exact hJ3⟩
          case measure => simp [intOf]; omega
        · gi_wp2
          refine bodyPost_ret (results_none rfl _ _ _) rfl ?_
          exact ⟨⟨_, rfl⟩, .inr hJx3⟩
    · gi_wp2
      go_end0
      exact ⟨⟨_, rfl⟩, .inl (by rw [show z.toNat = 0 from by omega] at hJ; exact hJ)⟩
end Go.Proofs.YtoebeibmmclhpaaGreat

/- pfor.PutList. -/
namespace Go.Proofs.YtoebeibmmclhpaaGreat
open Go.RowKit Go.Shelf
set_option maxRecDepth 100000
attribute [local go_sem] Oper.semAt_some
/-- a box of another kind than bytes is no row of bytes -/
theorem box_apart {w : World} {base B n c : Nat} {t : TypeId} {v : Value} {A : Option Addr} {l : List UInt8} (h : Own w base A n c l) (hb : Boxed w B t v) (ht : t ≠ 5) : blk A = none ∨ blk A ≠ some B := by
  rcases h.2 with ⟨hv, _⟩ | ⟨g, cap, cur, hv, _, hg, _⟩
  · injection hv with h1; subst h1; exact .inl rfl
  · injection hv with h1
    subst h1
    refine .inr fun e => ?_
    have e' : g = B := by simpa [blk] using e
    subst e'
    have hb' : w.heap[g]? = some (.cells #[v] t (0, 0)) := hb
    rw [hg] at hb'
    injection hb' with hb'
    injection hb' with _ h2
    exact ht h2.symm
theorem own_cells {w : World} {base n c k : Nat} {A : Option Addr} {l : List UInt8} {o : Obj} (h : Own w base A n c l) (hk : blk A = some k) (ho : w.heap[k]? = some o) : o.isCells = true := by
  rcases h.2 with ⟨hv, _⟩ | ⟨g, cap, cur, hv, _, hg, _⟩
  · injection hv with h1; subst h1; cases hk
  · injection hv with h1
    subst h1
    have e' : g = k := by simpa [blk] using hk
    subst e'
    rw [hg] at ho
    cases ho
    rfl
theorem box_kept {w w' : World} {B : Nat} {t : TypeId} {v : Value} {row : Option Nat} (h : Boxed w B t v) (hg : w.grownBy w' row) (hr : ∀ r, row = some r → ∃ o : Obj, w.heap[r]? = some o ∧ o.isCells = false) : Boxed w' B t v :=
  h.kept hg (fun e => by
    obtain ⟨o, ho, hc⟩ := hr B e.symm
    have hb : w.heap[B]? = some (.cells #[v] t (0, 0)) := h
    rw [hb] at ho
    cases ho
    cases hc)
/-- between two rounds of PutList: m numbers are left -/
def PutInv (w : World) (Bo Bl : Nat) (T : List UInt8) (m : Nat) (W : World) : Prop :=
  ∃ (A A2 : Option Addr) (c c2 : Nat) (O : List UInt8) (rest : List UInt64), rest.length = m ∧ m ≤ c2 ∧ Nums w w.heap.size A2 rest ∧ O ++ Pfor.blocks rest = T ∧
    Boxed W Bo 22 (.slice A O.length c) ∧ Own W w.heap.size A O.length c O ∧ Boxed W Bl 45 (.slice A2 m c2) ∧ Below w.heap.size w W
theorem putInv_own (w : World) (Bo Bl B : Nat) (T : List UInt8) (hB : w.heap.size ≤ B) : OwnFrom B (PutInv w Bo Bl T) := by
  rintro m W W' row ⟨A, A2, c, c2, O, rest, h1, h2, h3, h4, h5, h6, h7, h8⟩ hg hr
  refine ⟨A, A2, c, c2, O, rest, h1, h2, h3, h4, box_kept h5 hg (fun r e => (hr r e).2), h6.kept hg ?_, box_kept h7 hg (fun r e => (hr r e).2), h8.grown hg h8.size (fun k e => Nat.le_trans hB (hr k e).1)⟩
  cases row with
  | none => cases hA : blk A <;> simp
  | some r =>
    refine .inr fun e => ?_
    obtain ⟨_, o, ho, hc⟩ := hr r rfl
    rw [own_cells h6 e ho] at hc
    cases hc
theorem elem23 : Tryz.prog.elem 45 = 62 := by kernel_rfl
theorem size64 (W : World) : (sizeOf 62).run Tryz.prog W = .ok 1 W := by
  obtain ⟨i0, hi0, hz0, hz1, hz2⟩ := info_parts u64_info
  simp [sizeOf, typeInfo, hi0, hz1]
theorem run_nums_h (A : Option Addr) (n cap hi : Nat) (h2 : hi ≤ cap) (W : World) :
    (Instr.slice 45 (.slice A n cap) none (some (.int .i64 (hi : Int))) none).run Tryz.prog W = .ok (.slice A hi cap) W := by
  rw [run_slice_h (P := Tryz.prog) (w := W) (kh := .i64) (h := (hi : Int)) (h0 := by omega) (h2 := by omega) (ht := by rw [elem23]; exact Tryz.underlying45)]
  rw [elem23, size64]
  by_cases hc : cap = 0 <;> cases A <;> simp [Result.andThen, sliced, Addr.add]
theorem run_nums_l (A : Option Addr) (n cap lo m : Nat) (h1 : n = lo + m) (W : World) :
    (Instr.slice 45 (.slice A n cap) (some (.int .i64 (lo : Int))) none none).run Tryz.prog W = .ok (.slice (cutAt A cap lo) m (cap - lo)) W := by
  rw [run_slice_l (P := Tryz.prog) (w := W) (kl := .i64) (l := (lo : Int)) (h0 := by omega) (h1 := by omega) (ht := by rw [elem23]; exact Tryz.underlying45)]
  rw [elem23, size64, show m = n - lo from by omega]
  simp [Result.andThen, sliced, cutAt]
theorem stepIn_append_bytes {F : Fence} {k : Nat} {w : World} {ops : Array Oper} {o : Oper} {a : Act} {K : Act → World → Prop} {Q : Exit → Act → World → Prop} {E : Prop} (hw : Region.wanted o (yielded ops a.tmps) = true) (s x : Operand)
    (ho : o.op = .call { callee := .builtin .append, args := #[s, x], argTypes := #[22, 22] })
    (base : Nat) (A : Option Addr) (n c : Nat) (l : List UInt8) (hs : a.eval s = .slice A n c) (hown : Own w base A n c l)
    (B : Nat) (A2 : Option Addr) (m c2 : Nat) (l2 : List UInt8) (hx : a.eval x = .slice A2 m c2) (hl2 : l2.length = m) (hb : Bytes w B A2 l2) (hbytes : n + m ≤ 140737488355328) (hbase : base ≤ w.heap.size)
    (h : ∀ A' c' w', Own w' base A' (n + m) c' (l ++ l2) → w.grownBy w' (blk A) → (blk A' = blk A ∨ blk A' = some w.heap.size) → K (a.put o.dst (.slice A' (n + m) c')) w') :
    if Region.wanted o (yielded ops a.tmps) = true then Oper.wpIn F k Tryz.prog o a w K Q else E := by
  obtain ⟨A', c', w', hrun, h2, h3, h4⟩ := run_append_bytes w base o.type A n c l hown B A2 m c2 l2 hl2 hb hbytes hbase
  rw [if_pos hw]
  unfold Oper.wpIn
  refine ⟨by simp [Oper.about, ho, resolve, Target.leads, Sem.run_pure], ?_⟩
  rw [Oper.semAt_plain F _ _ (by rw [ho]; intro c hc; cases hc)]
  simp only [execOp, ho, resolve, invoke, builtin, Sem.run_bind, Sem.run_pure, Result.andThen_ok, List.map_toArray, List.map_cons, List.map_nil, hs, hx, hrun]
  exact h A' c' w' h2 h3 h4
set_option maxHeartbeats 4000000 in
set_option maxRecDepth 100000 in
theorem putList_wide (A1 A2 : Option Addr) (n1 c1 n2 c2 : Nat) (b : List UInt8) (l : List UInt64) (w : World) (hl1 : b.length = n1) (hl2 : l.length = n2) (hn1 : n1 ≤ 140737488355328) (hn2 : n2 ≤ 1000000) (hc2 : n2 ≤ c2) (hTot : (b ++ Pfor.list l).length ≤ 140737488355328)
    (hb1 : Bytes w w.heap.size A1 b) (hb2 : Nums w w.heap.size A2 l) :
    Calls Tryz.prog 21 #[.slice A1 n1 c1, .slice A2 n2 c2] w (MadeIn w.heap.size w (b ++ Pfor.list l).length (b ++ Pfor.list l)) := by
  refine (callsIn_wide (n := 3)).1 ?_
  refine callsIn_of_wp_marks Tryz.func21 rfl trivial ?_ rfl
  simp only [Tryz.ntmps21, List.size_toArray, List.length_cons, List.length_nil, Nat.reduceAdd, Nat.reduceSub, Array.replicate_succ, Array.replicate_zero, List.push_toArray, List.append_toArray, List.nil_append, List.cons_append]
  have bl0 := Boxed.new w 45 (.slice A2 n2 c2)
  have hbl0 : Below w.heap.size w (w.alloc (.cells #[.slice A2 n2 c2] 45)) := (Below.refl _ w).alloc (Nat.le_refl _) _
  have HP := put_any A1 n1 c1 w.heap.size n2 b _ hl1 (by omega) (by omega) (hb1.below hbl0) (by simp)
  rw [show (w.alloc (.cells #[.slice A2 n2 c2] 45)).heap.size = w.heap.size + 1 from by simp] at HP
  have hcl := bl0.cell
  have hs9 := Num.size_le9 (show n2 < 18446744073709551616 by omega)
  replace HP := Lib.hid HP
  gi_wp2_with (first | (refine ⟨trivial, ?_⟩; gi_at_call 45; refine (callsIn_wide.2 HP.out).mono ?_; rintro e w1 ⟨g1, k1, rfl, ho1, hb1'⟩; have bl1 := Boxed.kept (W' := w1) bl0 (row := none) ⟨hb1'.os, hb1'.tape, hb1'.output, hb1'.size, fun k hk _ => hb1'.block k (by simpa using hk)⟩ (by simp); have bl2 := bl1.alloc (.cells #[.slice (some ⟨g1, 0, none⟩) (n1 + Num.size n2) k1] 22); have bo2 := Boxed.new w1 22 (.slice (some ⟨g1, 0, none⟩) (n1 + Num.size n2) k1); have hcl2 := bl2.cell) | (refine ⟨trivial, ?_⟩; gi_at_call 46; refine (callsIn_wide.2 (blockLengths_any n2 _)).mono ?_; rintro e w2 ⟨rfl, rfl⟩))
  have hb1g : Below w.heap.size w w1 := hbl0.trans (hb1'.mono (Nat.le_succ _))
  have hlt1 : w.heap.size < w1.heap.size := by have := hb1'.size; simp at this; omega
  have hT0 : (b ++ Num.num n2) ++ Pfor.blocks l = b ++ Pfor.list l := by rw [Pfor.list, hl2, List.append_assoc]
  have hOl : (b ++ Num.num n2).length = n1 + Num.size n2 := by rw [List.length_append, hl1, Num.num_length]
  have hTl : (b ++ Pfor.list l).length ≤ 140737488355328 := hTot
  clear hTot
  generalize b ++ Pfor.list l = T at *
  obtain ⟨Bo, hBo⟩ : ∃ Bo, Bo = w1.heap.size := ⟨_, rfl⟩
  obtain ⟨Bl, hBl⟩ : ∃ Bl, Bl = w.heap.size := ⟨_, rfl⟩
  have bo3 := bo2.alloc (.cells #[.int .i64 (n2 : Int)] 3)
  have bl3 := bl2.alloc (.cells #[.int .i64 (n2 : Int)] 3)
  have ho3 := ((ho1.low (b' := w.heap.size) (Nat.le_succ _)).alloc (.cells #[.slice (some ⟨g1, 0, none⟩) (n1 + Num.size n2) k1] 22)).alloc (.cells #[.int .i64 (n2 : Int)] 3)
  have hbel3 : Below w.heap.size w ((w1.alloc (.cells #[.slice (some ⟨g1, 0, none⟩) (n1 + Num.size n2) k1] 22)).alloc (.cells #[.int .i64 (n2 : Int)] 3)) := (hb1g.alloc hb1g.size _).alloc (by simp; omega) _
  have hcn : ((w1.alloc (.cells #[.slice (some ⟨g1, 0, none⟩) (n1 + Num.size n2) k1] 22)).alloc (.cells #[.int .i64 (n2 : Int)] 3)).cell? ⟨w1.heap.size + 1, 0, none⟩ = some (.int .i64 (n2 : Int)) := by rw [World.cell?_alloc_at _ _ _ _ (by simp)]; rfl
  have hinv : PutInv w w1.heap.size w.heap.size T n2 ((w1.alloc (.cells #[.slice (some ⟨g1, 0, none⟩) (n1 + Num.size n2) k1] 22)).alloc (.cells #[.int .i64 (n2 : Int)] 3)) := by
    refine ⟨some ⟨g1, 0, none⟩, A2, k1, c2, b ++ Num.num n2, l, hl2, hc2, hb2, hT0, ?_, ?_, bl3, hbel3⟩
    · rw [hOl]; exact bo3
    · rw [hOl]; exact ho3
  have hsz3 : ((w1.alloc (.cells #[.slice (some ⟨g1, 0, none⟩) (n1 + Num.size n2) k1] 22)).alloc (.cells #[.int .i64 (n2 : Int)] 3)).heap.size = w1.heap.size + 2 := by simp
  generalize (w1.alloc (.cells #[.slice (some ⟨g1, 0, none⟩) (n1 + Num.size n2) k1] 22)).alloc (.cells #[.int .i64 (n2 : Int)] 3) = W0 at *
  refine wpIn_lens (gf := 77) (lb := #[.pointer (some ⟨w1.heap.size + 1, 0, none⟩)]) (n0 := n2) rfl (enters_of Tryz.func77 (by kernel_rfl) rfl)
    (lens_of 2 (w1.heap.size + 1) n2 W0 (by omega) (by omega) hcn) rfl (PutInv w w1.heap.size w.heap.size T) (fun _ => False) (putInv_own _ _ _ _ _ hbel3.size) (fun _ _ _ _ h _ _ => h) hinv
    (fun m => { tmps := #[.slice A1 n1 c1, .slice A2 n2 c2, undef, .pointer (some ⟨w.heap.size, 0, none⟩), .slice none 0 0, .pointer (some ⟨w1.heap.size, 0, none⟩), .int .i64 ((min m 32 : Nat) : Int), .slice A1 n1 c1, .slice A2 n2 c2, .int .i64 (n2 : Int), .int .u64 (n2 : Int),
      .slice (some ⟨g1, 0, none⟩) (n1 + Num.size n2) k1, .slice A2 n2 c2, .int .i64 (n2 : Int), .func (.func 77) #[] #[.pointer (some ⟨w1.heap.size + 1, 0, none⟩)], .int .i64 ((min m 32 : Nat) : Int), undef, undef, undef, undef, undef, undef, undef, undef, undef, undef], defers := [] }) ?assign ?body ?done ?stop
  case assign =>
    intro l' m W K hK
    gi_wp2
    exact hK
  case stop =>
    rintro D W _ h _
    exact h.elim
  case done =>
    rintro D W hD ⟨A, A2', c, c2', O, rest, hrl, _, _, hT, hbo, hown, _, hbel⟩ hK
    obtain rfl : rest = [] := List.eq_nil_of_length_eq_zero hrl
    rw [Pfor.blocks_nil, List.append_nil] at hT
    subst hT
    have hc := hbo.cell
    gi_wp2
    refine ⟨by simp, .inl ⟨_, _, rfl, run_takeDeferred hK, ?_⟩⟩
    have hg := grownBy_putObj' W D (.deferred none)
    have hpos : 0 < O.length := by
      have h9 := congrArg List.length hT0
      rw [List.length_append, hOl] at h9
      have := Num.size_pos n2
      omega
    obtain ⟨g9, rfl, hg9, _⟩ := hown.at_ hpos
    have hown' := hown.kept hg (.inr (fun e => by
      have e' : g9 = D := by simpa [blk] using e
      subst e'
      have := own_cells hown rfl hK
      cases this))
    exact ⟨_, results_tmp rfl _ _ _, g9, c, rfl, hown', hbel.grown hg hbel.size (fun k e => by cases e; have := hbel3.size; omega)⟩
  case body =>
    rintro l' m W hm ⟨A, A2', c, c2', O, rest, hrl, hcap, hnums, hT, hbo, hown, hbl, hbel⟩
    obtain ⟨x, hx⟩ : ∃ x, x = min m 32 := ⟨_, rfl⟩
    have hx1 : 1 ≤ x := by omega
    have hx32 : x ≤ 32 := by omega
    have hxm : x ≤ m := by omega
    have hxl : (rest.take x).length = x := by rw [List.length_take]; omega
    have hrest : rest ≠ [] := fun h => by rw [h] at hrl; simp at hrl; omega
    have htk : rest.take x = rest.take 32 := by
      rcases Nat.lt_or_ge m 32 with h | h
      · rw [List.take_of_length_le (by omega), List.take_of_length_le (by omega)]
      · rw [show x = 32 from by omega]
    have hdr : rest.drop x = rest.drop 32 := by
      rcases Nat.lt_or_ge m 32 with h | h
      · rw [List.drop_of_length_le (by omega), List.drop_of_length_le (by omega)]
      · rw [show x = 32 from by omega]
    rw [Pfor.blocks_cons hrest, ← htk, ← hdr, ← List.append_assoc] at hT
    have hOT : O.length + (Pfor.block (rest.take x)).length ≤ T.length := by rw [← hT]; simp only [List.length_append]; omega
    have HE := Lib.hid (fun (W' : World) (hb : Below w.heap.size w W') => encodeBlock_any A2' x c2' w.heap.size (rest.take x) W' hxl hx1 hx32 ((hnums.below hb).take x) hb.size)
    generalize hKK : Pfor.block (rest.take x) = K at *
    clear hKK
    rw [← hx]
    have Hx := Lib.hid hx; clear hx
    have hco := hbo.cell
    have hcl' := hbl.cell
    have hsl := run_nums_h A2' m c2' x (by omega)
    have hne : w1.heap.size ≠ w.heap.size := by omega
    -- behind the block's encoding
    have HX := Lib.hid (fun (w3 : World) (hb3 : Below W.heap.size W.drew w3) => show Below w.heap.size w w3 ∧ Own w3 w.heap.size A O.length c O ∧ Boxed w3 w1.heap.size 22 (.slice A O.length c) ∧ Boxed w3 w.heap.size 45 (.slice A2' m c2') ∧
        w3.cell? ⟨w1.heap.size, 0, none⟩ = some (.slice A O.length c) ∧ KeepsOthers W w3 from by
      have hb3' : Below W.heap.size W w3 := below_of_drew hb3
      have hgn : W.grownBy w3 none := ⟨hb3'.os, hb3'.tape, hb3'.output, hb3'.size, fun k hk _ => hb3'.block k hk⟩
      have bo := hbo.kept hgn (by simp)
      exact ⟨hbel.trans (hb3'.mono hbel.size), hown.below hb3', bo, hbl.kept hgn (by simp), bo.cell, KeepsOthers.below hb3'⟩)
    -- behind the append, and the store
    have HY := Lib.hid (fun (w3 w4 : World) (A5 : Option Addr) (c5 : Nat) (K : List UInt8) (ho3 : Own w3 w.heap.size A O.length c O) (bo3 : Boxed w3 w1.heap.size 22 (.slice A O.length c)) (bl3 : Boxed w3 w.heap.size 45 (.slice A2' m c2'))
        (hb3 : Below w.heap.size w w3) (hk3 : KeepsOthers W w3) (ho4 : Own w4 w.heap.size A5 (O.length + K.length) c5 (O ++ K)) (hg4 : w3.grownBy w4 (blk A)) =>
        show Own (w4.setCell ⟨w1.heap.size, 0, none⟩ (.slice A5 (O.length + K.length) c5)) w.heap.size A5 (O.length + K.length) c5 (O ++ K) ∧ Boxed (w4.setCell ⟨w1.heap.size, 0, none⟩ (.slice A5 (O.length + K.length) c5)) w1.heap.size 22 (.slice A5 (O.length + K.length) c5) ∧
          Boxed (w4.setCell ⟨w1.heap.size, 0, none⟩ (.slice A5 (O.length + K.length) c5)) w.heap.size 45 (.slice A2' m c2') ∧ Below w.heap.size w (w4.setCell ⟨w1.heap.size, 0, none⟩ (.slice A5 (O.length + K.length) c5)) ∧
          KeepsOthers W (w4.setCell ⟨w1.heap.size, 0, none⟩ (.slice A5 (O.length + K.length) c5)) ∧ w4.cell? ⟨w1.heap.size, 0, none⟩ = some (.slice A O.length c) ∧ w4.frozen? ⟨w1.heap.size, 0, none⟩ = false from by
      have nb : ∀ {B : Nat} {t : TypeId} {v : Value}, Boxed w3 B t v → t ≠ 5 → some B ≠ blk A := fun hb ht e => by
        rcases box_apart ho3 hb ht with h | h
        · rw [h] at e; cases e
        · exact h e.symm
      have bo4 := bo3.kept hg4 (nb bo3 (by decide))
      have bl4 := bl3.kept hg4 (nb bl3 (by decide))
      have hb4 := hb3.grown hg4 hb3.size (fun k hk => (ho3.lt hk).1)
      have hk4 : KeepsOthers w3 w4 := KeepsOthers.of_grownBy hg4 (fun j o hj hjo => own_cells ho3 hj hjo)
      have ho5 := ho4.kept (Lib.grownBy_setCell w4 w1.heap.size 0 (.slice A5 (O.length + K.length) c5)) (box_apart ho4 bo4 (by decide))
      exact ⟨ho5, bo4.set _, bl4.other (by omega) _, hb4.setCell (p := ⟨w1.heap.size, 0, none⟩) (Nat.le_of_lt hlt1) _, (hk3.trans hk4).trans (KeepsOthers.setCell _ _ _), bo4.cell, bo4.frozen⟩)
    have hOK : O.length + K.length ≤ 140737488355328 := by omega
    gi_wp2
    refine wpIn_mono (Q := fun e a' W' => e = .normal ∧ ∃ (A5 : Option Addr) (c5 g3 k3 : Nat), a' = { tmps := #[.slice A1 n1 c1, .slice A2 n2 c2, undef, .pointer (some ⟨w.heap.size, 0, none⟩), .slice none 0 0, .pointer (some ⟨w1.heap.size, 0, none⟩), .int .i64 (x : Int), .slice A1 n1 c1, .slice A2 n2 c2, .int .i64 (n2 : Int), .int .u64 (n2 : Int), .slice (some ⟨g1, 0, none⟩) (n1 + Num.size n2) k1, .slice A2 n2 c2, .int .i64 (n2 : Int), .func (.func 77) #[] #[.pointer (some ⟨w1.heap.size + 1, 0, none⟩)], .int .i64 (x : Int), .slice A O.length c, .slice A2' m c2', .int .i64 (x : Int), .slice A2' x c2', .slice (some ⟨g3, 0, none⟩) K.length k3, .slice A5 (O.length + K.length) c5, undef, undef, undef, undef], defers := [] } ∧
      Own W' w.heap.size A5 (O.length + K.length) c5 (O ++ K) ∧ Boxed W' w1.heap.size 22 (.slice A5 (O.length + K.length) c5) ∧ Boxed W' w.heap.size 45 (.slice A2' m c2') ∧ Below w.heap.size w W' ∧ KeepsOthers W W') ?_ ?_
    · refine wpIn_region_any (by kernel_rfl) ?_
      change wpAnyIn _ _ _ _ _ _ _ _ _ (World.drew _)
      refine wpAnyIn_ready (rs := [0, 1, 2]) (by kernel_rfl) (by simp) ?_
      refine AllReadyIn.cons rfl (fun K hK => ?_) ?_
      · go_simp
        refine hK _ _ ?_
        clear hK K
        refine wpAnyIn_ready (rs := [1, 2]) (by kernel_rfl) (by simp) ?_
        refine AllReadyIn.cons rfl (fun K hK => ?_) ?_
        · go_simp
          refine hK _ _ ?_
          clear hK K
          refine wpAnyIn_ready (rs := [2]) (by kernel_rfl) (by simp) ?_
          refine AllReadyIn.cons rfl (fun K hK => ?_) ?_
          · go_simp
            refine hK _ _ ?_
            clear hK K
            refine wpAnyIn_ready (rs := [3]) (by kernel_rfl) (by simp) ?_
            refine AllReadyIn.cons rfl (fun K hK => ?_) ?_
            · go_simp
              refine hK _ _ ?_
              clear hK K
              refine wpAnyIn_ready (rs := [4]) (by kernel_rfl) (by simp) ?_
              refine AllReadyIn.cons rfl (fun K hK => ?_) ?_
              · go_simp
                refine ⟨trivial, ?_⟩
                gi_at_call 47
                refine (CallsIn.inRound l' (callsIn_wide.2 (HE.out W.drew hbel.drew))).mono ?_
                rintro e w3 ⟨g3, k3, rfl, ho3, hb3⟩
                refine hK _ _ ?_
                clear hK K
                obtain ⟨hb3', ho3', bo3', bl3', hco3, hko3⟩ := HX.out w3 hb3
                refine wpAnyIn_ready (rs := [5]) (by kernel_rfl) (by simp) ?_
                refine AllReadyIn.cons rfl (fun K hK => ?_) ?_
                · refine stepIn_append_bytes (by rfl) (.tmp 16) (.tmp 20) (by rfl) w.heap.size A O.length c O (by rfl) (by exact ho3') _ _ _ k3 _ (by rfl) rfl (by exact ho3.bytes) (by omega) (by exact hb3'.size) ?_
                  intro A5 c5 w4 ho4 hg4 hat4
                  refine hK _ _ ?_
                  clear hK K
                  obtain ⟨ho5, bo5, bl5, hbel5, hko5, hc4, hf4⟩ := HY.out w3 w4 A5 c5 _ ho3' bo3' bl3' hb3' hko3 ho4 hg4
                  refine wpAnyIn_ready (rs := [6]) (by kernel_rfl) (by simp) ?_
                  refine AllReadyIn.cons rfl (fun K hK => ?_) ?_
                  · go_simp
                    refine hK _ _ ?_
                    clear hK K
                    refine wpAnyIn_done (by kernel_rfl) ?_ _
                    exact ⟨rfl, A5, c5, g3, k3, rfl, ho5, bo5, bl5, hbel5, hko5⟩
                  exact AllReadyIn.nil
                exact AllReadyIn.nil
              exact AllReadyIn.nil
            exact AllReadyIn.nil
          exact AllReadyIn.nil
        refine AllReadyIn.cons rfl (fun K hK => ?_) ?_
        · go_simp
          refine hK _ _ ?_
          clear hK K
          refine wpAnyIn_ready (rs := [1]) (by kernel_rfl) (by simp) ?_
          refine AllReadyIn.cons rfl (fun K hK => ?_) ?_
          · go_simp
            refine hK _ _ ?_
            clear hK K
            refine wpAnyIn_ready (rs := [3]) (by kernel_rfl) (by simp) ?_
            refine AllReadyIn.cons rfl (fun K hK => ?_) ?_
            · go_simp
              refine hK _ _ ?_
              clear hK K
              refine wpAnyIn_ready (rs := [4]) (by kernel_rfl) (by simp) ?_
              refine AllReadyIn.cons rfl (fun K hK => ?_) ?_
              · go_simp
                refine ⟨trivial, ?_⟩
                gi_at_call 47
                refine (CallsIn.inRound l' (callsIn_wide.2 (HE.out W.drew hbel.drew))).mono ?_
                rintro e w3 ⟨g3, k3, rfl, ho3, hb3⟩
                refine hK _ _ ?_
                clear hK K
                obtain ⟨hb3', ho3', bo3', bl3', hco3, hko3⟩ := HX.out w3 hb3
                refine wpAnyIn_ready (rs := [5]) (by kernel_rfl) (by simp) ?_
                refine AllReadyIn.cons rfl (fun K hK => ?_) ?_
                · refine stepIn_append_bytes (by rfl) (.tmp 16) (.tmp 20) (by rfl) w.heap.size A O.length c O (by rfl) (by exact ho3') _ _ _ k3 _ (by rfl) rfl (by exact ho3.bytes) (by omega) (by exact hb3'.size) ?_
                  intro A5 c5 w4 ho4 hg4 hat4
                  refine hK _ _ ?_
                  clear hK K
                  obtain ⟨ho5, bo5, bl5, hbel5, hko5, hc4, hf4⟩ := HY.out w3 w4 A5 c5 _ ho3' bo3' bl3' hb3' hko3 ho4 hg4
                  refine wpAnyIn_ready (rs := [6]) (by kernel_rfl) (by simp) ?_
                  refine AllReadyIn.cons rfl (fun K hK => ?_) ?_
                  · go_simp
                    refine hK _ _ ?_
                    clear hK K
                    refine wpAnyIn_done (by kernel_rfl) ?_ _
                    exact ⟨rfl, A5, c5, g3, k3, rfl, ho5, bo5, bl5, hbel5, hko5⟩
                  exact AllReadyIn.nil
                exact AllReadyIn.nil
              exact AllReadyIn.nil
            exact AllReadyIn.nil
          exact AllReadyIn.nil
        exact AllReadyIn.nil
      refine AllReadyIn.cons rfl (fun K hK => ?_) ?_
      · go_simp
        refine hK _ _ ?_
        clear hK K
        refine wpAnyIn_ready (rs := [0, 2]) (by kernel_rfl) (by simp) ?_
        refine AllReadyIn.cons rfl (fun K hK => ?_) ?_
        · go_simp
          refine hK _ _ ?_
          clear hK K
          refine wpAnyIn_ready (rs := [2]) (by kernel_rfl) (by simp) ?_
          refine AllReadyIn.cons rfl (fun K hK => ?_) ?_
          · go_simp
            refine hK _ _ ?_
            clear hK K
            refine wpAnyIn_ready (rs := [3]) (by kernel_rfl) (by simp) ?_
            refine AllReadyIn.cons rfl (fun K hK => ?_) ?_
            · go_simp
              refine hK _ _ ?_
              clear hK K
              refine wpAnyIn_ready (rs := [4]) (by kernel_rfl) (by simp) ?_
              refine AllReadyIn.cons rfl (fun K hK => ?_) ?_
              · go_simp
                refine ⟨trivial, ?_⟩
                gi_at_call 47
                refine (CallsIn.inRound l' (callsIn_wide.2 (HE.out W.drew hbel.drew))).mono ?_
                rintro e w3 ⟨g3, k3, rfl, ho3, hb3⟩
                refine hK _ _ ?_
                clear hK K
                obtain ⟨hb3', ho3', bo3', bl3', hco3, hko3⟩ := HX.out w3 hb3
                refine wpAnyIn_ready (rs := [5]) (by kernel_rfl) (by simp) ?_
                refine AllReadyIn.cons rfl (fun K hK => ?_) ?_
                · refine stepIn_append_bytes (by rfl) (.tmp 16) (.tmp 20) (by rfl) w.heap.size A O.length c O (by rfl) (by exact ho3') _ _ _ k3 _ (by rfl) rfl (by exact ho3.bytes) (by omega) (by exact hb3'.size) ?_
                  intro A5 c5 w4 ho4 hg4 hat4
                  refine hK _ _ ?_
                  clear hK K
                  obtain ⟨ho5, bo5, bl5, hbel5, hko5, hc4, hf4⟩ := HY.out w3 w4 A5 c5 _ ho3' bo3' bl3' hb3' hko3 ho4 hg4
                  refine wpAnyIn_ready (rs := [6]) (by kernel_rfl) (by simp) ?_
                  refine AllReadyIn.cons rfl (fun K hK => ?_) ?_
                  · go_simp
                    refine hK _ _ ?_
                    clear hK K
                    refine wpAnyIn_done (by kernel_rfl) ?_ _
                    exact ⟨rfl, A5, c5, g3, k3, rfl, ho5, bo5, bl5, hbel5, hko5⟩
                  exact AllReadyIn.nil
                exact AllReadyIn.nil
              exact AllReadyIn.nil
            exact AllReadyIn.nil
          exact AllReadyIn.nil
        refine AllReadyIn.cons rfl (fun K hK => ?_) ?_
        · go_simp
          refine hK _ _ ?_
          clear hK K
          refine wpAnyIn_ready (rs := [0, 3]) (by kernel_rfl) (by simp) ?_
          refine AllReadyIn.cons rfl (fun K hK => ?_) ?_
          · go_simp
            refine hK _ _ ?_
            clear hK K
            refine wpAnyIn_ready (rs := [3]) (by kernel_rfl) (by simp) ?_
            refine AllReadyIn.cons rfl (fun K hK => ?_) ?_
            · go_simp
              refine hK _ _ ?_
              clear hK K
              refine wpAnyIn_ready (rs := [4]) (by kernel_rfl) (by simp) ?_
              refine AllReadyIn.cons rfl (fun K hK => ?_) ?_
              · go_simp
                refine ⟨trivial, ?_⟩
                gi_at_call 47
                refine (CallsIn.inRound l' (callsIn_wide.2 (HE.out W.drew hbel.drew))).mono ?_
                rintro e w3 ⟨g3, k3, rfl, ho3, hb3⟩
                refine hK _ _ ?_
                clear hK K
                obtain ⟨hb3', ho3', bo3', bl3', hco3, hko3⟩ := HX.out w3 hb3
                refine wpAnyIn_ready (rs := [5]) (by kernel_rfl) (by simp) ?_
                refine AllReadyIn.cons rfl (fun K hK => ?_) ?_
                · refine stepIn_append_bytes (by rfl) (.tmp 16) (.tmp 20) (by rfl) w.heap.size A O.length c O (by rfl) (by exact ho3') _ _ _ k3 _ (by rfl) rfl (by exact ho3.bytes) (by omega) (by exact hb3'.size) ?_
                  intro A5 c5 w4 ho4 hg4 hat4
                  refine hK _ _ ?_
                  clear hK K
                  obtain ⟨ho5, bo5, bl5, hbel5, hko5, hc4, hf4⟩ := HY.out w3 w4 A5 c5 _ ho3' bo3' bl3' hb3' hko3 ho4 hg4
                  refine wpAnyIn_ready (rs := [6]) (by kernel_rfl) (by simp) ?_
                  refine AllReadyIn.cons rfl (fun K hK => ?_) ?_
                  · go_simp
                    refine hK _ _ ?_
                    clear hK K
                    refine wpAnyIn_done (by kernel_rfl) ?_ _
                    exact ⟨rfl, A5, c5, g3, k3, rfl, ho5, bo5, bl5, hbel5, hko5⟩
                  exact AllReadyIn.nil
                exact AllReadyIn.nil
              exact AllReadyIn.nil
            exact AllReadyIn.nil
          refine AllReadyIn.cons rfl (fun K hK => ?_) ?_
          · go_simp
            refine hK _ _ ?_
            clear hK K
            refine wpAnyIn_ready (rs := [0, 4]) (by kernel_rfl) (by simp) ?_
            refine AllReadyIn.cons rfl (fun K hK => ?_) ?_
            · go_simp
              refine hK _ _ ?_
              clear hK K
              refine wpAnyIn_ready (rs := [4]) (by kernel_rfl) (by simp) ?_
              refine AllReadyIn.cons rfl (fun K hK => ?_) ?_
              · go_simp
                refine ⟨trivial, ?_⟩
                gi_at_call 47
                refine (CallsIn.inRound l' (callsIn_wide.2 (HE.out W.drew hbel.drew))).mono ?_
                rintro e w3 ⟨g3, k3, rfl, ho3, hb3⟩
                refine hK _ _ ?_
                clear hK K
                obtain ⟨hb3', ho3', bo3', bl3', hco3, hko3⟩ := HX.out w3 hb3
                refine wpAnyIn_ready (rs := [5]) (by kernel_rfl) (by simp) ?_
                refine AllReadyIn.cons rfl (fun K hK => ?_) ?_
                · refine stepIn_append_bytes (by rfl) (.tmp 16) (.tmp 20) (by rfl) w.heap.size A O.length c O (by rfl) (by exact ho3') _ _ _ k3 _ (by rfl) rfl (by exact ho3.bytes) (by omega) (by exact hb3'.size) ?_
                  intro A5 c5 w4 ho4 hg4 hat4
                  refine hK _ _ ?_
                  clear hK K
                  obtain ⟨ho5, bo5, bl5, hbel5, hko5, hc4, hf4⟩ := HY.out w3 w4 A5 c5 _ ho3' bo3' bl3' hb3' hko3 ho4 hg4
                  refine wpAnyIn_ready (rs := [6]) (by kernel_rfl) (by simp) ?_
                  refine AllReadyIn.cons rfl (fun K hK => ?_) ?_
                  · go_simp
                    refine hK _ _ ?_
                    clear hK K
                    refine wpAnyIn_done (by kernel_rfl) ?_ _
                    exact ⟨rfl, A5, c5, g3, k3, rfl, ho5, bo5, bl5, hbel5, hko5⟩
                  exact AllReadyIn.nil
                exact AllReadyIn.nil
              exact AllReadyIn.nil
            refine AllReadyIn.cons rfl (fun K hK => ?_) ?_
            · go_simp
              refine ⟨trivial, ?_⟩
              gi_at_call 47
              refine (CallsIn.inRound l' (callsIn_wide.2 (HE.out W.drew hbel.drew))).mono ?_
              rintro e w3 ⟨g3, k3, rfl, ho3, hb3⟩
              refine hK _ _ ?_
              clear hK K
              obtain ⟨hb3', ho3', bo3', bl3', hco3, hko3⟩ := HX.out w3 hb3
              refine wpAnyIn_ready (rs := [0]) (by kernel_rfl) (by simp) ?_
              refine AllReadyIn.cons rfl (fun K hK => ?_) ?_
              · go_simp
                refine hK _ _ ?_
                clear hK K
                refine wpAnyIn_ready (rs := [5]) (by kernel_rfl) (by simp) ?_
                refine AllReadyIn.cons rfl (fun K hK => ?_) ?_
                · refine stepIn_append_bytes (by rfl) (.tmp 16) (.tmp 20) (by rfl) w.heap.size A O.length c O (by rfl) (by exact ho3') _ _ _ k3 _ (by rfl) rfl (by exact ho3.bytes) (by omega) (by exact hb3'.size) ?_
                  intro A5 c5 w4 ho4 hg4 hat4
                  refine hK _ _ ?_
                  clear hK K
                  obtain ⟨ho5, bo5, bl5, hbel5, hko5, hc4, hf4⟩ := HY.out w3 w4 A5 c5 _ ho3' bo3' bl3' hb3' hko3 ho4 hg4
                  refine wpAnyIn_ready (rs := [6]) (by kernel_rfl) (by simp) ?_
                  refine AllReadyIn.cons rfl (fun K hK => ?_) ?_
                  · go_simp
                    refine hK _ _ ?_
                    clear hK K
                    refine wpAnyIn_done (by kernel_rfl) ?_ _
                    exact ⟨rfl, A5, c5, g3, k3, rfl, ho5, bo5, bl5, hbel5, hko5⟩
                  exact AllReadyIn.nil
                exact AllReadyIn.nil
              exact AllReadyIn.nil
            exact AllReadyIn.nil
          exact AllReadyIn.nil
        exact AllReadyIn.nil
      refine AllReadyIn.cons rfl (fun K hK => ?_) ?_
      · go_simp
        refine hK _ _ ?_
        clear hK K
        refine wpAnyIn_ready (rs := [0, 1]) (by kernel_rfl) (by simp) ?_
        refine AllReadyIn.cons rfl (fun K hK => ?_) ?_
        · go_simp
          refine hK _ _ ?_
          clear hK K
          refine wpAnyIn_ready (rs := [1]) (by kernel_rfl) (by simp) ?_
          refine AllReadyIn.cons rfl (fun K hK => ?_) ?_
          · go_simp
            refine hK _ _ ?_
            clear hK K
            refine wpAnyIn_ready (rs := [3]) (by kernel_rfl) (by simp) ?_
            refine AllReadyIn.cons rfl (fun K hK => ?_) ?_
            · go_simp
              refine hK _ _ ?_
              clear hK K
              refine wpAnyIn_ready (rs := [4]) (by kernel_rfl) (by simp) ?_
              refine AllReadyIn.cons rfl (fun K hK => ?_) ?_
              · go_simp
                refine ⟨trivial, ?_⟩
                gi_at_call 47
                refine (CallsIn.inRound l' (callsIn_wide.2 (HE.out W.drew hbel.drew))).mono ?_
                rintro e w3 ⟨g3, k3, rfl, ho3, hb3⟩
                refine hK _ _ ?_
                clear hK K
                obtain ⟨hb3', ho3', bo3', bl3', hco3, hko3⟩ := HX.out w3 hb3
                refine wpAnyIn_ready (rs := [5]) (by kernel_rfl) (by simp) ?_
                refine AllReadyIn.cons rfl (fun K hK => ?_) ?_
                · refine stepIn_append_bytes (by rfl) (.tmp 16) (.tmp 20) (by rfl) w.heap.size A O.length c O (by rfl) (by exact ho3') _ _ _ k3 _ (by rfl) rfl (by exact ho3.bytes) (by omega) (by exact hb3'.size) ?_
                  intro A5 c5 w4 ho4 hg4 hat4
                  refine hK _ _ ?_
                  clear hK K
                  obtain ⟨ho5, bo5, bl5, hbel5, hko5, hc4, hf4⟩ := HY.out w3 w4 A5 c5 _ ho3' bo3' bl3' hb3' hko3 ho4 hg4
                  refine wpAnyIn_ready (rs := [6]) (by kernel_rfl) (by simp) ?_
                  refine AllReadyIn.cons rfl (fun K hK => ?_) ?_
                  · go_simp
                    refine hK _ _ ?_
                    clear hK K
                    refine wpAnyIn_done (by kernel_rfl) ?_ _
                    exact ⟨rfl, A5, c5, g3, k3, rfl, ho5, bo5, bl5, hbel5, hko5⟩
                  exact AllReadyIn.nil
                exact AllReadyIn.nil
              exact AllReadyIn.nil
            exact AllReadyIn.nil
          exact AllReadyIn.nil
        refine AllReadyIn.cons rfl (fun K hK => ?_) ?_
        · go_simp
          refine hK _ _ ?_
          clear hK K
          refine wpAnyIn_ready (rs := [0, 3]) (by kernel_rfl) (by simp) ?_
          refine AllReadyIn.cons rfl (fun K hK => ?_) ?_
          · go_simp
            refine hK _ _ ?_
            clear hK K
            refine wpAnyIn_ready (rs := [3]) (by kernel_rfl) (by simp) ?_
            refine AllReadyIn.cons rfl (fun K hK => ?_) ?_
            · go_simp
              refine hK _ _ ?_
              clear hK K
              refine wpAnyIn_ready (rs := [4]) (by kernel_rfl) (by simp) ?_
              refine AllReadyIn.cons rfl (fun K hK => ?_) ?_
              · go_simp
                refine ⟨trivial, ?_⟩
                gi_at_call 47
                refine (CallsIn.inRound l' (callsIn_wide.2 (HE.out W.drew hbel.drew))).mono ?_
                rintro e w3 ⟨g3, k3, rfl, ho3, hb3⟩
                refine hK _ _ ?_
                clear hK K
                obtain ⟨hb3', ho3', bo3', bl3', hco3, hko3⟩ := HX.out w3 hb3
                refine wpAnyIn_ready (rs := [5]) (by kernel_rfl) (by simp) ?_
                refine AllReadyIn.cons rfl (fun K hK => ?_) ?_
                · refine stepIn_append_bytes (by rfl) (.tmp 16) (.tmp 20) (by rfl) w.heap.size A O.length c O (by rfl) (by exact ho3') _ _ _ k3 _ (by rfl) rfl (by exact ho3.bytes) (by omega) (by exact hb3'.size) ?_
                  intro A5 c5 w4 ho4 hg4 hat4
                  refine hK _ _ ?_
                  clear hK K
                  obtain ⟨ho5, bo5, bl5, hbel5, hko5, hc4, hf4⟩ := HY.out w3 w4 A5 c5 _ ho3' bo3' bl3' hb3' hko3 ho4 hg4
                  refine wpAnyIn_ready (rs := [6]) (by kernel_rfl) (by simp) ?_
                  refine AllReadyIn.cons rfl (fun K hK => ?_) ?_
                  · go_simp
                    refine hK _ _ ?_
                    clear hK K
                    refine wpAnyIn_done (by kernel_rfl) ?_ _
                    exact ⟨rfl, A5, c5, g3, k3, rfl, ho5, bo5, bl5, hbel5, hko5⟩
                  exact AllReadyIn.nil
                exact AllReadyIn.nil
              exact AllReadyIn.nil
            exact AllReadyIn.nil
          refine AllReadyIn.cons rfl (fun K hK => ?_) ?_
          · go_simp
            refine hK _ _ ?_
            clear hK K
            refine wpAnyIn_ready (rs := [0, 4]) (by kernel_rfl) (by simp) ?_
            refine AllReadyIn.cons rfl (fun K hK => ?_) ?_
            · go_simp
              refine hK _ _ ?_
              clear hK K
              refine wpAnyIn_ready (rs := [4]) (by kernel_rfl) (by simp) ?_
              refine AllReadyIn.cons rfl (fun K hK => ?_) ?_
              · go_simp
                refine ⟨trivial, ?_⟩
                gi_at_call 47
                refine (CallsIn.inRound l' (callsIn_wide.2 (HE.out W.drew hbel.drew))).mono ?_
                rintro e w3 ⟨g3, k3, rfl, ho3, hb3⟩
                refine hK _ _ ?_
                clear hK K
                obtain ⟨hb3', ho3', bo3', bl3', hco3, hko3⟩ := HX.out w3 hb3
                refine wpAnyIn_ready (rs := [5]) (by kernel_rfl) (by simp) ?_
                refine AllReadyIn.cons rfl (fun K hK => ?_) ?_
                · refine stepIn_append_bytes (by rfl) (.tmp 16) (.tmp 20) (by rfl) w.heap.size A O.length c O (by rfl) (by exact ho3') _ _ _ k3 _ (by rfl) rfl (by exact ho3.bytes) (by omega) (by exact hb3'.size) ?_
                  intro A5 c5 w4 ho4 hg4 hat4
                  refine hK _ _ ?_
                  clear hK K
                  obtain ⟨ho5, bo5, bl5, hbel5, hko5, hc4, hf4⟩ := HY.out w3 w4 A5 c5 _ ho3' bo3' bl3' hb3' hko3 ho4 hg4
                  refine wpAnyIn_ready (rs := [6]) (by kernel_rfl) (by simp) ?_
                  refine AllReadyIn.cons rfl (fun K hK => ?_) ?_
                  · go_simp
                    refine hK _ _ ?_
                    clear hK K
                    refine wpAnyIn_done (by kernel_rfl) ?_ _
                    exact ⟨rfl, A5, c5, g3, k3, rfl, ho5, bo5, bl5, hbel5, hko5⟩
                  exact AllReadyIn.nil
                exact AllReadyIn.nil
              exact AllReadyIn.nil
            refine AllReadyIn.cons rfl (fun K hK => ?_) ?_
            · go_simp
              refine ⟨trivial, ?_⟩
              gi_at_call 47
              refine (CallsIn.inRound l' (callsIn_wide.2 (HE.out W.drew hbel.drew))).mono ?_
              rintro e w3 ⟨g3, k3, rfl, ho3, hb3⟩
              refine hK _ _ ?_
              clear hK K
              obtain ⟨hb3', ho3', bo3', bl3', hco3, hko3⟩ := HX.out w3 hb3
              refine wpAnyIn_ready (rs := [0]) (by kernel_rfl) (by simp) ?_
              refine AllReadyIn.cons rfl (fun K hK => ?_) ?_
              · go_simp
                refine hK _ _ ?_
                clear hK K
                refine wpAnyIn_ready (rs := [5]) (by kernel_rfl) (by simp) ?_
                refine AllReadyIn.cons rfl (fun K hK => ?_) ?_
                · refine stepIn_append_bytes (by rfl) (.tmp 16) (.tmp 20) (by rfl) w.heap.size A O.length c O (by rfl) (by exact ho3') _ _ _ k3 _ (by rfl) rfl (by exact ho3.bytes) (by omega) (by exact hb3'.size) ?_
                  intro A5 c5 w4 ho4 hg4 hat4
                  refine hK _ _ ?_
                  clear hK K
                  obtain ⟨ho5, bo5, bl5, hbel5, hko5, hc4, hf4⟩ := HY.out w3 w4 A5 c5 _ ho3' bo3' bl3' hb3' hko3 ho4 hg4
                  refine wpAnyIn_ready (rs := [6]) (by kernel_rfl) (by simp) ?_
                  refine AllReadyIn.cons rfl (fun K hK => ?_) ?_
                  · go_simp
                    refine hK _ _ ?_
                    clear hK K
                    refine wpAnyIn_done (by kernel_rfl) ?_ _
                    exact ⟨rfl, A5, c5, g3, k3, rfl, ho5, bo5, bl5, hbel5, hko5⟩
                  exact AllReadyIn.nil
                exact AllReadyIn.nil
              exact AllReadyIn.nil
            exact AllReadyIn.nil
          exact AllReadyIn.nil
        exact AllReadyIn.nil
      exact AllReadyIn.nil
    · rintro e a' W' ⟨rfl, A5, c5, g3, k3, rfl, ho5, bo5, bl5, hbel5, hko5⟩
      have hc5 := bl5.cell
      have hf5 := bl5.frozen
      have hsl2 := run_nums_l A2' m c2' x (m - x) (by omega)
      have hmx : m - x = m - 32 := by have := Hx.out; omega
      have hnums2 := hnums.drop (k := x) (cap := c2') (by omega) (by omega)
      have bo6 := bo5.other (B' := w.heap.size) hne (.slice (cutAt A2' c2' x) (m - x) (c2' - x))
      have bl6 := bl5.set (.slice (cutAt A2' c2' x) (m - x) (c2' - x))
      have ho6 := ho5.kept (Lib.grownBy_setCell W' w.heap.size 0 (.slice (cutAt A2' c2' x) (m - x) (c2' - x))) (box_apart ho5 bl5 (by decide))
      have hbel6 := hbel5.setCell (p := ⟨w.heap.size, 0, none⟩) (Nat.le_refl _) (.slice (cutAt A2' c2' x) (m - x) (c2' - x))
      have hko6 := hko5.trans (KeepsOthers.setCell W' ⟨w.heap.size, 0, none⟩ (.slice (cutAt A2' c2' x) (m - x) (c2' - x)))
      rw [hmx] at bo6 bl6 ho6 hbel6 hko6 hsl2
      rw [← List.length_append] at bo6 ho6
      have hinv6 : PutInv w w1.heap.size w.heap.size T (m - 32) (W'.setCell ⟨w.heap.size, 0, none⟩ (.slice (cutAt A2' c2' x) (m - 32) (c2' - x))) :=
        ⟨A5, cutAt A2' c2' x, c5, c2' - x, O ++ K, rest.drop x, by rw [List.length_drop]; omega, by omega, hnums2, hT, bo6, ho6, bl6, hbel6⟩
      have Hinv := Lib.hid hinv6
      have Hko := Lib.hid hko6
      clear hinv6 hko6 bo6 bl6 ho6 hbel6 hko5 hbel5 bo5 ho5 HX HY HE
      gi_wp2
      exact ⟨Hko.out, Hinv.out⟩
end Go.Proofs.YtoebeibmmclhpaaGreat
