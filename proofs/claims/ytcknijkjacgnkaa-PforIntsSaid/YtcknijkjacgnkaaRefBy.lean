/- The document's By: a block by a width. -/
import Derived.Test.YtcknijkjacgnkaaPforBlock
import Derived.Test.YtcknijkjacgnkaaRefBits
import Derived.Test.YtcknijkjacgnkaaRefNum
namespace Go.Proofs.Ytcknijkjacgnkaa
open Go.RowKit

theorem rows_unlike {w : World} {b1 b2 e1 e2 s1 s2 n1 n2 : Nat} {v1 v2 : Value} {xs1 xs2 : List Value} (h1 : w.ownsRow b1 e1 s1 v1 n1 xs1) (h2 : w.ownsRow b2 e2 s2 v2 n2 xs2) (hne : e1 ≠ e2) :
    v1.ownBlock = none ∨ v1.ownBlock ≠ v2.ownBlock := by
  rcases h1.2 with ⟨rfl, _⟩ | ⟨g1, cap1, cur1, rfl, _, hg1, _⟩
  · exact .inl rfl
  · refine .inr fun he => ?_
    rcases h2.2 with ⟨rfl, _⟩ | ⟨g2, cap2, cur2, rfl, _, hg2, _⟩
    · cases he
    · injection he with he
      have he' : g1 = g2 := he
      subst he'
      rw [hg1] at hg2
      injection hg2 with hg2
      injection hg2 with _ ht
      exact hne ht
theorem own_nown {w w' : World} {b1 b2 n1 c1 n2 c2 : Nat} {A1 A2 : Option Addr} {l1 : List UInt8} {l2 : List UInt64} (h1 : Own w b1 A1 n1 c1 l1) (h2 : NOwn w b2 A2 n2 c2 l2) (hg : w.grownBy w' (blk A2)) : Own w' b1 A1 n1 c1 l1 :=
  h1.kept hg (by have := rows_unlike h1 h2 (by decide); rwa [ownBlock_eq, ownBlock_eq] at this)
theorem nown_own {w w' : World} {b1 b2 n1 c1 n2 c2 : Nat} {A1 A2 : Option Addr} {l1 : List UInt8} {l2 : List UInt64} (h1 : Own w b1 A1 n1 c1 l1) (h2 : NOwn w b2 A2 n2 c2 l2) (hg : w.grownBy w' (blk A1)) : NOwn w' b2 A2 n2 c2 l2 :=
  h2.kept hg (by have := rows_unlike h2 h1 (by decide); rwa [ownBlock_eq, ownBlock_eq] at this)

theorem wrap_pow {v : Nat} (hv : v < 64) : IntKind.u64.wrap (2 ^ v) = ((2 ^ v : Nat) : Int) := by
  have h : (2 : Nat) ^ v < 18446744073709551616 := Nat.lt_of_lt_of_le (Nat.pow_lt_pow_right (by omega) hv) (by decide)
  have e : IntKind.u64.wrap ((2 ^ v : Nat) : Int) = ((2 ^ v : Nat) : Int) % 18446744073709551616 := by simp [IntKind.wrap, IntKind.bits, IntKind.signed]
  rw [show (2 : Int) ^ v = ((2 ^ v : Nat) : Int) from by rw [Int.natCast_pow]; rfl, e]
  generalize (2 : Nat) ^ v = q at *
  omega

set_option maxHeartbeats 4000000 in
theorem refBy_any (A : Option Addr) (n cap B v : Nat) (l : List UInt64) (w : World) (hl : l.length = n) (h1 : 1 ≤ n) (hn : n ≤ 32) (hv : v ≤ 64) (hb : Nums w B A l) (hB : B ≤ w.heap.size) :
    Calls Try.prog 27 #[.slice A n cap, .int .i64 (v : Int)] w (MadeIn w.heap.size w (Pfor.byW v l).length (Pfor.byW v l)) := by
  have hb := hb.wide hB
  rcases l with _ | ⟨y, r⟩
  · simp at hl; omega
  obtain ⟨ad, rfl, hlt', hcell⟩ := hb.get (k := 0) (by simp)
  simp only [uval, List.getElem_cons_zero, Addr.add, if_true] at hcell
  obtain ⟨z0, hz0⟩ : ∃ z0 : Int, z0 = (y.toNat : Int) := ⟨_, rfl⟩
  rw [← hz0] at hcell
  have Hz0 := Lib.hid hz0; clear hz0
  have Hbase := Lib.hid (Pfor.leastOf_self y r)
  generalize hyr : y :: r = l at *
  clear hyr
  have Hl := Lib.hid hl
  have hDl : (Pfor.diffs l).length = n := by rw [Pfor.diffs_length, hl]
  have HDl := Lib.hid hDl
  have Hget := Lib.hid (fun (k : Nat) (hk : k < l.length) (h2 : k < (Pfor.diffs l).length) => show (Pfor.diffs l)[k] = UInt64.ofNat (l[k].toNat - Pfor.base l) from Pfor.diffs_get hk)
  have Hle := Lib.hid (fun (k : Nat) (hk : k < l.length) => Pfor.base_le (List.getElem_mem hk))
  clear hl hDl
  go_enter Try.func27, Try.ntmps27
  go_wp2
  go_loopw [5, 6] (fun s i wr => ∃ (k : Nat) (x : Int), k ≤ n ∧ i = .int .i64 k ∧ s = .int .u64 x ∧ x = (Pfor.leastOf y.toNat (l.take k) : Int) ∧ w = wr) (fun _ i _ => n - (intOf i).toNat)
  case atStart => exact ⟨0, z0, by omega, rfl, rfl, Hz0.out, rfl⟩
  case round =>
    obtain ⟨k, x, hk, rfl, rfl, hx, rfl⟩ := hrel
    have Hx := Lib.hid hx; clear hx
    by_cases hlt : k < n
    · have hk' : k < l.length := by have := Hl.out; omega
      obtain ⟨ad2, h2, _, hcell2⟩ := hb.get hk'
      cases h2
      simp only [uval] at hcell2
      obtain ⟨z, hz⟩ : ∃ z : Int, z = (l[k].toNat : Int) := ⟨_, rfl⟩
      rw [← hz] at hcell2
      have Hmin := Lib.hid (Pfor.leastOf_take_succ y.toNat hk')
      have Hz := Lib.hid hz; clear hz
      clear hcell
      go_wp2
      go_roundw
      case rel =>
        refine ⟨k + 1, _, by omega, by go_num, rfl, ?_, trivial⟩
        rw [Hmin.out, Hx.out, Hz.out]
        split <;> omega
      case measure => simp [intOf]; omega
    · obtain rfl : k = n := by omega
      have hx := Hx.out
      rw [List.take_of_length_le (by rw [Hl.out]; exact Nat.le_refl _), Hbase.out] at hx
      clear Hx Hbase Hz0 hcell
      have hx0 : 0 ≤ x := by omega
      have hx1 : x ≤ 18446744073709551615 := by have := Pfor.base_lt l; omega
      have Hx := Lib.hid hx; clear hx
      generalize hD : Pfor.diffs l = D at *
      have HD := Lib.hid hD; clear hD
      go_wp2
      go_loopw [7, 8, 9, 10] (fun lo re ct i wr => ∃ (j C m c1 c2 : Nat) (A1 A2 : Option Addr), j ≤ k ∧ i = .int .i64 j ∧ ct = .int .i64 C ∧ C ≤ j ∧ C = Pfor.cnt v (D.take j) ∧ lo = .slice A1 j c1 ∧ re = .slice A2 m c2 ∧ m ≤ 10 * j ∧
        NOwn wr w.heap.size A1 j c1 ((Pfor.lows v D).take j) ∧ Own wr w.heap.size A2 m c2 (Pfor.excs v 0 (D.take j)) ∧ Below w.heap.size w wr) (fun _ _ _ i _ => k - (intOf i).toNat)
      case atStart => exact ⟨0, 0, 0, 0, 0, none, none, by omega, rfl, rfl, by omega, rfl, rfl, rfl, by omega, ROwn.nil _ _ _ _, own_none _ _, Below.refl _ _⟩
      case round =>
        obtain ⟨j, C, m, c1, c2, A1, A2, hj, rfl, rfl, hCj, hC, rfl, rfl, hm, hlo, hre, hbr⟩ := hrel
        have HC := Lib.hid hC; clear hC
        have hbx := hb.below hbr
        have hszr := hbr.size
        by_cases hlt : j < k
        · have hj' : j < l.length := by have := Hl.out; omega
          have hjD : j < D.length := by have := HDl.out; omega
          obtain ⟨ad2, h2, _, hcell2⟩ := hbx.get hj'
          cases h2
          simp only [uval] at hcell2
          obtain ⟨z, hz, hz0, hz1⟩ : ∃ z : Int, z = (l[j].toNat : Int) ∧ 0 ≤ z ∧ z ≤ 18446744073709551615 := ⟨_, rfl, by omega, by have := Bits.u64_lt l[j]; omega⟩
          have hle := Hle.out j hj'
          have hzx : x ≤ z := by rw [hz, Hx.out]; omega
          have hd : z - x = (D[j].toNat : Int) := by
            have := Bits.u64_lt l[j]
            rw [Hget.out j hj' hjD, Bits.toNat_ofNat (by omega), hz, Hx.out, Int.natCast_sub hle]
          rw [← hz] at hcell2
          have Hd := Lib.hid hd; clear hd hz hle
          have HsC := Lib.hid (Pfor.cnt_take_succ v hjD)
          have HsE := Lib.hid (Pfor.excs_take_succ v hjD)
          have hlowj : (Pfor.lows v D).take (j + 1) = (Pfor.lows v D).take j ++ [UInt64.ofNat (D[j].toNat % 2 ^ v)] := by
            rw [List.take_succ_eq_append_getElem (by rw [Pfor.lows_length]; exact hjD), Pfor.lows_get hjD]
          have Hlow := Lib.hid hlowj; clear hlowj
          have hshr : (z - x) / 2 ^ v = ((D[j].toNat / 2 ^ v : Nat) : Int) := shr_nat Hd.out
          by_cases h64 : v = 64
          · have h0 : D[j].toNat / 2 ^ v = 0 := by rw [h64]; exact Nat.div_eq_of_lt D[j].toNat_lt
            have hm64 : D[j].toNat % 2 ^ v = D[j].toNat := by rw [h64]; exact Nat.mod_eq_of_lt D[j].toNat_lt
            have hu : uval (UInt64.ofNat (D[j].toNat % 2 ^ v)) = .int .u64 (z - x) := by unfold uval; rw [hm64, Bits.u64_ofNat, Hd.out]
            have hC2 := HsC.out
            rw [if_pos h0] at hC2
            have hE2 := HsE.out
            rw [Pfor.exc, if_pos h0, List.append_nil] at hE2
            have HC2 := Lib.hid hC2
            have HE2 := Lib.hid hE2
            have hone := nown_lit1 wr _ _ hu
            have hor := hone.row
            have hloA := hlo.alloc (.cells #[.int .u64 (z - x)] 50)
            have hreA := hre.alloc (.cells #[.int .u64 (z - x)] 50)
            have hbA : Below w.heap.size w (wr.alloc (.cells #[.int .u64 (z - x)] 50)) := hbr.alloc hszr _
            have hszA := hbA.size
            clear hC2 hE2 HsC HsE hu hm64 h0 hone hlo hre hbr hshr
            have h64' : ((v : Int) == 64) = true := by rw [h64]; rfl
            clear h64
            go_wp2_with (at_builtin; refine wpList_append_row elem64 rfl (.tmp 44) (.tmp 46) rfl w.heap.size A1 j c1 _ rfl hloA _ _ 1 1 [_] rfl rfl hor (by omega) (by simp only [maxLen]; omega) hszA ?_; intro A3 c3 w3 hlo3 hg3 hat3)
            have hb3 := hbA.grown hg3 hszA (fun k hk => (hloA.lt hk).1)
            have hre3 := own_nown hreA hloA hg3
            clear hat3
            go_wp2
            go_roundw
            case rel => exact ⟨j + 1, C, m, c3, c2, A3, A2, by omega, by go_num, rfl, by omega, by rw [HC2.out, HC.out]; rfl, rfl, rfl, by omega, by rw [Hlow.out]; exact hlo3, by rw [HE2.out]; exact hre3, hb3⟩
            case measure => simp [intOf]; omega
          · have hv' : v < 64 := by omega
            have hq := wrap_pow hv'
            have hqp : 0 < (2 : Nat) ^ v := Bits.pow_pos v
            have hvi : ¬ ((v : Int) = 64) := by omega
            have hrem : (z - x) % ((2 ^ v : Nat) : Int) = ((D[j].toNat % 2 ^ v : Nat) : Int) := by rw [Hd.out, Int.natCast_emod]
            obtain ⟨q, hQ, hq0⟩ : ∃ q : Int, q = ((2 ^ v : Nat) : Int) ∧ 0 < q := ⟨_, rfl, by omega⟩
            rw [← hQ] at hq hrem
            have hu : uval (UInt64.ofNat (D[j].toNat % 2 ^ v)) = .int .u64 ((z - x) % q) := by unfold uval; rw [Pfor.low_toNat, hrem]
            have hone := nown_lit1 wr _ _ hu
            have hor := hone.row
            have hloA := hlo.alloc (.cells #[.int .u64 ((z - x) % q)] 50)
            have hreA := hre.alloc (.cells #[.int .u64 ((z - x) % q)] 50)
            have hbA : Below w.heap.size w (wr.alloc (.cells #[.int .u64 ((z - x) % q)] 50)) := hbr.alloc hszr _
            have hszA := hbA.size
            have hqn : ¬ (q = 0) := by omega
            have hvlt := Pfor.div_lt D[j] v
            clear hQ hqp hrem hu hone hlo hre hbr h64
            rcases div_eq_zero_or D[j].toNat v with ⟨_, h0⟩ | ⟨_, h0⟩
            · have hC2 := HsC.out
              rw [if_neg h0] at hC2
              have hE2 := HsE.out
              rw [Pfor.exc, if_neg h0] at hE2
              have HC2 := Lib.hid hC2
              have HE2 := Lib.hid hE2
              have HB := refBytes_any (D[j].toNat / 2 ^ v) (hv := hvlt)
              have h9 := Num.size_le9 hvlt
              have Hnl := Num.num_length (D[j].toNat / 2 ^ v)
              rw [← hshr] at HB
              have hpos : 0 < (z - x) / 2 ^ v := by rw [hshr]; exact Int.natCast_pos.2 (Nat.pos_of_ne_zero h0)
              replace HB := Lib.hid HB
              replace Hnl := Lib.hid Hnl
              clear hC2 hE2 HsC HsE h0 hshr hvlt
              generalize Num.num (D[j].toNat / 2 ^ v) = nv at *
              generalize Num.size (D[j].toNat / 2 ^ v) = sv at *
              go_wp2_with (at_builtin; refine wpList_append_row elem64 rfl (.tmp 48) (.tmp 53) rfl w.heap.size A1 j c1 _ rfl hloA _ _ 1 1 [_] rfl rfl hor (by omega) (by simp only [maxLen]; omega) hszA ?_; intro A3 c3 w3 hlo3 hg3 hat3)
              have hb3 := hbA.grown hg3 hszA (fun k hk => (hloA.lt hk).1)
              have hre3 := own_nown hreA hloA hg3
              have hsz3 := hb3.size
              clear hat3 hg3 hreA hloA hor hbA hszA
              have hwr : IntKind.u8.wrap (j : Int) = j := by
                have : IntKind.u8.wrap (j : Int) = (j : Int) % 256 := by simp [IntKind.wrap, IntKind.bits, IntKind.signed]
                rw [this]; omega
              have hob := (own_byte w3 (UInt8.ofNat j) (IntKind.u8.wrap (j : Int)) (by rw [hwr]; exact bval_lt (by omega))).bytes
              have hre4 := hre3.alloc (.cells #[.int .u8 (IntKind.u8.wrap (j : Int))] 5)
              have hlo4 := hlo3.alloc (.cells #[.int .u8 (IntKind.u8.wrap (j : Int))] 5)
              have hb4 : Below w.heap.size w (w3.alloc (.cells #[.int .u8 (IntKind.u8.wrap (j : Int))] 5)) := hb3.alloc hsz3 _
              have hsz4 := hb4.size
              clear hwr hre3 hlo3 hb3 hsz3
              go_region_held3 (fun _ => True) (trivial) (first | (refine step_append_bytes (by rfl) (.tmp 61) (.tmp 64) (by rfl) w.heap.size A2 m c2 _ (by rfl) (by exact hre4) _ _ 1 1 [UInt8.ofNat j] (by rfl) rfl (by exact hob) (by omega) (by exact hsz4) ?_; intro A5 c5 w5 ho5 hg5 hat5) | (go_at_call 41; refine (HB.out _).mono ?_; rintro e w8 ⟨g8, c8, rfl, ho8, hb8⟩) | (refine step_append_bytes ?_ (.tmp 65) (.tmp 69) ?_ w.heap.size A5 (m + 1) c5 (Pfor.excs v 0 (List.take j D) ++ [UInt8.ofNat j]) ?_ ?_ w8.heap.size (some ⟨g8, 0, none⟩) sv c8 nv ?_ ?_ ?_ ?_ ?_ ?_; rfl; rfl; rfl; exact ho5.below hb8; rfl; exact Hnl.out; exact ho8.bytes; omega; exact Nat.le_trans hsz4 (Nat.le_trans hg5.size hb8.size); intro A9 c9 w9 ho9 hg9 hat9))
              have hb8' := hb4.drew.grown (by exact hg5) (by exact hsz4) (fun k hk => (hre4.lt hk).1)
              have hsz5 := hb8'.size
              have hb8a := hb8'.trans (hb8.mono hsz5)
              have ho5' := ho5.below hb8
              have hb9 := hb8a.grown (by exact hg9) hb8a.size (fun k hk => (ho5'.lt hk).1)
              have hlo5 : NOwn w5 w.heap.size A3 (j + 1) c3 _ := nown_own (w := (w3.alloc (.cells #[.int .u8 (IntKind.u8.wrap (j : Int))] 5)).drew) (by exact hre4) (by exact hlo4) hg5
              have hlo9 := nown_own ho5' (hlo5.below hb8) hg9
              rw [List.append_assoc, List.singleton_append, ← HE2.out] at ho9
              rw [← Hlow.out] at hlo9
              clear hlo5 hlo4 hre4 hob hb4 hsz4 hg5 hat5 ho5 hb8 ho8 hg9 hat9 ho5' hb8a hsz5 hb8' HB HE2 Hlow
              go_wp2
              go_roundw
              case rel => exact ⟨j + 1, C + 1, m + 1 + sv, c3, c9, A3, A9, by omega, by go_num, by go_num, by omega, by rw [HC2.out, HC.out], rfl, rfl, by omega, hlo9, ho9, hb9⟩
              case measure => simp [intOf]; omega
            · have hC2 := HsC.out
              rw [if_pos h0] at hC2
              have hE2 := HsE.out
              rw [Pfor.exc, if_pos h0, List.append_nil] at hE2
              have HC2 := Lib.hid hC2
              have HE2 := Lib.hid hE2
              rw [h0] at hshr
              have hshr' : (z - x) / 2 ^ v = 0 := hshr
              clear hC2 hE2 HsC HsE h0 hshr hvlt
              go_wp2_with (at_builtin; refine wpList_append_row elem64 rfl (.tmp 48) (.tmp 53) rfl w.heap.size A1 j c1 _ rfl hloA _ _ 1 1 [_] rfl rfl hor (by omega) (by simp only [maxLen]; omega) hszA ?_; intro A3 c3 w3 hlo3 hg3 hat3)
              have hb3 := hbA.grown hg3 hszA (fun k hk => (hloA.lt hk).1)
              have hre3 := own_nown hreA hloA hg3
              clear hat3 hg3 hreA hloA hor hbA hszA
              go_wp2
              go_roundw
              case rel => exact ⟨j + 1, C, m, c3, c2, A3, A2, by omega, by go_num, rfl, by omega, by rw [HC2.out, HC.out]; rfl, rfl, rfl, by omega, by rw [Hlow.out]; exact hlo3, by rw [HE2.out]; exact hre3, hb3⟩
              case measure => simp [intOf]; omega
        · obtain rfl : j = k := by omega
          rw [List.take_of_length_le (by rw [Pfor.lows_length, HDl.out]; exact Nat.le_refl _)] at hlo
          rw [List.take_of_length_le (by rw [HDl.out]; exact Nat.le_refl _)] at hre
          have hC := HC.out
          rw [List.take_of_length_le (by rw [HDl.out]; exact Nat.le_refl _)] at hC
          have hP := refPack_any A1 j c1 _ v (Pfor.lows v D) wr (by rw [Pfor.lows_length, HDl.out]) (by omega) hlo.row (Nat.le_refl _)
          rw [Bits.pack_ok hv (Pfor.lows_fit D)] at hP
          have hpl : (Bits.packed v (Pfor.lows v D)).length ≤ 256 := by
            have h2 : j * v ≤ 32 * 64 := Nat.mul_le_mul hn hv
            rw [Bits.packed_length, Pfor.lows_length, HDl.out]
            unfold Bits.size
            omega
          have hrl := hre.len
          have hfin : Pfor.byW v l = ((([UInt8.ofNat j] ++ Num.num (Pfor.base l)) ++ [UInt8.ofNat v, UInt8.ofNat C]) ++ Bits.packed v (Pfor.lows v D)) ++ Pfor.excs v 0 D := by
            have := Hl.out
            have hD := HD.out
            rw [hC]
            simp only [Pfor.byW, Pfor.body, this, hD, List.append_assoc, List.cons_append, List.nil_append]
          have HN := refBytes_any (Pfor.base l) (hv := Pfor.base_lt l)
          have hs9 := Num.size_le9 (Pfor.base_lt l)
          have Hnl := Num.num_length (Pfor.base l)
          rw [← Hx.out] at HN
          have hbv := bval_lt (show j < 256 by omega)
          have hbw := bval_lt (show v < 256 by omega)
          have hbc := bval_lt (show C < 256 by omega)
          generalize Num.num (Pfor.base l) = nb at *
          generalize Num.size (Pfor.base l) = s at *
          generalize Bits.packed v (Pfor.lows v D) = pk at *
          generalize Pfor.excs v 0 D = ex at *
          have HP := Lib.hid hP
          have Hfin := Lib.hid hfin
          have Hnl := Lib.hid Hnl
          have Hrl := Lib.hid hrl
          replace HN := Lib.hid HN
          clear hP hfin hC HC hlo hbx hb Hget Hle hrl
          go_wp2_with fail
          refine HP.out.mono ?_
          rintro e w1 ⟨Ap, cp, rfl, hop, hb1⟩
          clear HP
          have hpb := hop.bytes
          have hrb := (hre.below hb1).bytes
          have hbw1 := hbr.trans (hb1.mono hszr)
          have hszw1 := hbw1.size
          clear hop hre hb1 hbr
          have hlit := own_byte w1 _ _ hbv
          have hb1a : Below w1.heap.size w1 (w1.alloc (.cells #[.int .u8 (j : Int)] 5)) := (Below.refl _ _).alloc (Nat.le_refl _) _
          have hsz1a := hb1a.size
          go_wp2_with fail
          refine (HN.out _).mono ?_
          rintro e w2 ⟨g2, k2, rfl, ho2, hb2⟩
          clear HN
          have hb2' := hb1a.trans (hb2.mono hsz1a)
          have hlit2 := hlit.below hb2
          have hsz2 := hb2'.size
          have hnb := ho2.bytes
          clear ho2 hb2 hlit hb1a hsz1a
          go_wp2_with (at_builtin; first | (refine wpList_append_bytes rfl (.tmp 80) (.tmp 82) rfl w1.heap.size _ 1 1 _ rfl hlit2 _ _ s _ nb rfl Hnl.out hnb (by omega) hsz2 ?_; intro A3 c3 w3 ho3 hg3 hat3; have hb3 := hb2'.grown hg3 hsz2 (fun k hk => (hlit2.lt hk).1); have hsz3 := hb3.size; have hb3a : Below w1.heap.size w1 (w3.alloc (.cells #[.int .u8 (v : Int), .int .u8 (C : Int)] 5)) := hb3.alloc hsz3 _; have hsz3a := hb3a.size; have hlit3 := (own_byte2 w3 _ _ _ _ hbw hbc).bytes; have ho3a := ho3.alloc (.cells #[.int .u8 (v : Int), .int .u8 (C : Int)] 5); clear hnb hlit2 hat3 hg3) | (refine wpList_append_bytes rfl (.tmp 84) (.tmp 89) rfl w1.heap.size _ (1 + s) c3 _ rfl ho3a _ _ 2 2 [_, _] rfl rfl hlit3 (by omega) hsz3a ?_; intro A4 c4 w4 ho4 hg4 hat4; have hb4 := hb3a.grown hg4 hsz3a (fun k hk => (ho3a.lt hk).1); have hsz4 := hb4.size; have hpb4 := hpb.below hb4) | (refine wpList_append_bytes rfl (.tmp 90) (.tmp 91) rfl w1.heap.size _ (1 + s + 2) c4 _ rfl ho4 _ _ _ _ pk rfl rfl hpb4 (by omega) hsz4 ?_; intro A5 c5 w5 ho5 hg5 hat5; have hb5 := hb4.grown hg5 hsz4 (fun k hk => (ho4.lt hk).1); have hsz5 := hb5.size; have hrb5 := hrb.below hb5) | (refine wpList_append_bytes rfl (.tmp 92) (.tmp 93) rfl w1.heap.size _ (1 + s + 2 + pk.length) c5 _ rfl ho5 _ _ m _ ex rfl Hrl.out hrb5 (by omega) hsz5 ?_; intro A6 c6 w6 ho6 hg6 hat6; have hb6 := hb5.grown hg6 hsz5 (fun k hk => (ho5.lt hk).1)))
          go_ret
          have hlen := ho6.len
          rw [← Hfin.out] at ho6 hlen
          obtain ⟨g9, rfl, _⟩ := ho6.at_ (by omega)
          rw [hlen]
          exact ⟨g9, c6, rfl, ho6.low hszw1, hbw1.trans (hb6.mono hszw1)⟩
end Go.Proofs.Ytcknijkjacgnkaa
