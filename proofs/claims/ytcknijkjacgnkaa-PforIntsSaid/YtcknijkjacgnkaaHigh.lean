/- bytes.Equal, bytes.HasPrefix; pfor.addHighBits. -/
import Derived.Test.YtcknijkjacgnkaaPforBlock
import Derived.Test.YtcknijkjacgnkaaBitsUnpack
import Derived.Test.YtcknijkjacgnkaaTake
import Derived.Test.YtcknijkjacgnkaaBytesEq
import Derived.RegionTactic
namespace Go.Proofs.Ytcknijkjacgnkaa
open Go.RowKit

theorem bytesEqual_any (A1 A2 : Option Addr) (n1 n2 c1 c2 B1 B2 : Nat) (l1 l2 : List UInt8) (w : World) (hl1 : l1.length = n1) (hl2 : l2.length = n2) (hb1 : Bytes w B1 A1 l1) (hb2 : Bytes w B2 A2 l2) :
    Calls Try.prog 56 #[.slice A1 n1 c1, .slice A2 n2 c2] w fun e w' => e = .returned (.bool (l1 == l2)) ∧ w = w' := by
  have h1 := run_string_of hb1 c1
  have h2 := run_string_of hb2 c2
  rw [hl1] at h1
  rw [hl2] at h2
  clear hl1 hl2 hb1 hb2
  go_enter Try.func56, Try.ntmps56
  go_wp2
  go_ret
  exact ⟨rfl, rfl⟩

/-- what HasPrefix answers -/
def PrefixPost (w : World) (l1 l2 : List UInt8) (e : Ending) (w' : World) : Prop := ∃ r : Bool, e = .returned (.bool r) ∧ (r = true ↔ l2 <+: l1) ∧ w = w'

theorem hasPrefix_any (A1 A2 : Option Addr) (n1 n2 c1 c2 B1 B2 : Nat) (l1 l2 : List UInt8) (w : World) (hl1 : l1.length = n1) (hl2 : l2.length = n2) (hc : n1 ≤ c1) (hb1 : Bytes w B1 A1 l1) (hb2 : Bytes w B2 A2 l2) :
    Calls Try.prog 32 #[.slice A1 n1 c1, .slice A2 n2 c2] w (PrefixPost w l1 l2) := by
  by_cases h : n2 ≤ n1
  · have hsl := run_cut_h A1 n1 c1 n2 (by omega)
    have H := bytesEqual_any A1 A2 n2 n2 c1 c2 B1 B2 (l1.take n2) l2 w (by simp; omega) hl2 (hb1.take n2) hb2
    have hiff : (l1.take n2 == l2) = true ↔ l2 <+: l1 := by
      rw [beq_iff_eq, List.prefix_iff_eq_take, hl2]
      exact eq_comm
    generalize (l1.take n2 == l2) = r at *
    have Hiff := Lib.hid hiff
    replace H := Lib.hid H
    have hd : (n2 : Int) ≤ (n1 : Int) := by omega
    clear hl1 hl2 hb1 hb2 hiff
    go_enter Try.func32, Try.ntmps32
    go_wp2_with fail
    refine H.out.mono ?_
    rintro e w1 ⟨rfl, rfl⟩
    clear H hsl
    go_wp2
    go_ret
    exact ⟨r, rfl, Hiff.out, rfl⟩
  · have hnot : ¬ l2 <+: l1 := fun hp => by have := hp.length_le; omega
    have Hnot := Lib.hid hnot
    have hd : ¬ ((n2 : Int) ≤ (n1 : Int)) := by omega
    clear hl1 hl2 hb1 hb2 hnot h
    go_enter Try.func32, Try.ntmps32
    go_wp2
    go_ret
    exact ⟨false, rfl, ⟨(fun h => by cases h), (fun h => absurd h Hnot.out)⟩, rfl⟩

/-- a piece from lo on, its length given -/
theorem run_cut_from (A : Option Addr) (n cap lo m : Nat) (h : n = lo + m) (W : World) :
    (Instr.slice 22 (.slice A n cap) (some (.int .i64 (lo : Int))) none none).run Try.prog W = .ok (.slice (cutAt A cap lo) m (cap - lo)) W := by
  rw [run_cut_l A n cap lo (by omega), show n - lo = m from by omega]
theorem wrap_shl (y v : Nat) : IntKind.u64.wrap ((y : Int) * 2 ^ v) = ((y * 2 ^ v % 18446744073709551616 : Nat) : Int) := by
  have e : IntKind.u64.wrap ((y * 2 ^ v : Nat) : Int) = ((y * 2 ^ v : Nat) : Int) % 18446744073709551616 := by simp [IntKind.wrap, IntKind.bits, IntKind.signed]
  have h : (y : Int) * 2 ^ v = ((y * 2 ^ v : Nat) : Int) := by rw [Int.natCast_mul, Int.natCast_pow]; rfl
  rw [h, e, Int.natCast_emod]
  rfl
theorem or_over {d y v : Nat} {x z : Int} (hx : x = (d : Int)) (hz : z = (y : Int)) (hd : d < 18446744073709551616) : bits .or .u64 x (IntKind.u64.wrap (z * 2 ^ v)) = ((Pfor.over v d y : Nat) : Int) := by
  have h2 : y * 2 ^ v % 18446744073709551616 < 18446744073709551616 := Nat.mod_lt _ (by omega)
  rw [hz, wrap_shl, hx, u64_or_nat _ _ hd h2]
  rfl
theorem over_lt {d y v : Nat} (hd : d < 18446744073709551616) : Pfor.over v d y < 18446744073709551616 := by
  have h2 : y * 2 ^ v % 18446744073709551616 < 18446744073709551616 := Nat.mod_lt _ (by omega)
  exact Nat.or_lt_two_pow (n := 64) hd h2

set_option maxHeartbeats 2000000 in
theorem addHighBits_any (g n c base v m cap k : Nat) (A : Option Addr) (ds : List UInt64) (b : List UInt8) (w : World) (hown : NOwn w base (some ⟨g, 0, none⟩) n c ds) (_hn : n ≤ 4096) (hv : v ≤ 64) (hk : k ≤ 255)
    (hl : b.length = m) (hcap : m ≤ cap) (hm : m ≤ 281474976710656) (hb : Bytes w base A b) :
    Calls Try.prog 55 #[.slice (some ⟨g, 0, none⟩) n c, .int .i64 (v : Int), .slice A m cap, .int .i64 (k : Int)] w fun e w' =>
      (∃ ds', Pfor.addHigh v k ds b = some ds' ∧ e = .returned (.bool true) ∧ NOwn w' base (some ⟨g, 0, none⟩) n c ds' ∧ Below base w w') ∨ (Pfor.addHigh v k ds b = none ∧ e = .returned (.bool false) ∧ Below base w w') := by
  generalize hR : Pfor.addHigh v k ds b = R
  go_enter Try.func55, Try.ntmps55
  go_wp2
  go_loopw [2, 13] (fun s i wr => ∃ (j m' cap' : Nat) (A' : Option Addr) (ds' : List UInt64) (b' : List UInt8), j ≤ k ∧ i = .int .i64 j ∧ s = .slice A' m' cap' ∧ b'.length = m' ∧ m' ≤ cap' ∧ m' ≤ 281474976710656 ∧
    Pfor.addHigh v (k - j) ds' b' = R ∧ NOwn wr base (some ⟨g, 0, none⟩) n c ds' ∧ Bytes wr base A' b' ∧ Below base w wr) (fun _ i _ => k - (intOf i).toNat)
  case atStart => exact ⟨0, m, cap, A, ds, b, by omega, rfl, rfl, hl, hcap, hm, hR, hown, hb, Below.refl _ _⟩
  case round =>
    clear hown hl hcap hm hb hR
    obtain ⟨j, m, cap, A, ds, b, hj, rfl, rfl, hl, hcap, hm, hR, hown, hb, hbr⟩ := hrel
    have hdl := hown.len
    have hgb := hown.block.1
    by_cases hlt : j < k
    · obtain ⟨i, hi⟩ : ∃ i, k - j = i + 1 := ⟨k - j - 1, by omega⟩
      rw [hi] at hR
      rcases b with _ | ⟨p, r⟩
      · rw [Pfor.addHigh] at hR
        have HR := Lib.hid hR
        obtain rfl : 0 = m := by simpa using hl
        clear hR hi hb hown
        go_wp2
        go_ret
        exact .inr ⟨HR.out.symm, rfl, hbr⟩
      · obtain ⟨ad, rfl, hlt', hcell⟩ := hb.get (k := 0) (by simp)
        simp only [List.getElem_cons_zero, Addr.add, if_true] at hcell
        have hl' : r.length + 1 = m := by simpa using hl
        have hp256 := Num.byte_lt p
        rw [Pfor.addHigh] at hR
        by_cases hp : p.toNat < ds.length
        · rw [if_pos hp] at hR
          have hcut := hb.cut (k := 1) (cap := cap) (by simp) (by omega)
          rw [List.drop_succ_cons, List.drop_zero] at hcut
          have hsl := run_cut_from (some ad) m cap 1 r.length (by omega)
          rw [Int.natCast_one] at hsl
          have HT := take_any (cutAt (some ad) cap 1) r.length (cap - 1) base r wr rfl (by omega) (by omega) hcut
          unfold TakePost at HT
          have hpn : p.toNat < n := by omega
          have hm0 : ¬ ((m : Int) = 0) := by omega
          rcases Num.take_cases r with ⟨y, s, ht⟩ | ⟨e, ht, he⟩
          · obtain ⟨hnum, hss, hsl2, hy⟩ := Num.num_take ht
            have hslb := run_cut_from (some ad) m cap (1 + s) (r.drop s).length (by rw [List.length_drop]; omega)
            rw [show ((1 + s : Nat) : Int) = 1 + (s : Int) from by omega] at hslb
            have hcut2 := hb.cut (k := 1 + s) (cap := cap) (by simp; omega) (by omega)
            rw [Nat.add_comm 1 s, List.drop_succ_cons, Nat.add_comm s 1] at hcut2
            simp only [ht, if_true] at hR HT
            have hcd := hown.cell hp
            simp only [uval] at hcd
            have hfree := hown.free p.toNat
            have hgd : (ds.getD p.toNat 0).toNat = ds[p.toNat].toNat := by simp [List.getD_eq_getElem?_getD, List.getElem?_eq_getElem hp]
            have hd64 := Bits.u64_lt ds[p.toNat]
            rw [hgd] at hR
            generalize ds[p.toNat].toNat = dn at *
            have hst := hown.store p.toNat (UInt64.ofNat (Pfor.over v dn y))
            have hu := uval_small (over_lt (y := y) (v := v) hd64)
            rw [hu] at hst
            obtain ⟨x, hx⟩ : ∃ x : Int, x = (dn : Int) := ⟨_, rfl⟩
            obtain ⟨z, hz, hz0, hz1⟩ : ∃ z : Int, z = (y : Int) ∧ 0 ≤ z ∧ z ≤ 18446744073709551615 := ⟨y, rfl, by omega, by omega⟩
            have hor := or_over (v := v) hx hz hd64
            rw [← hor] at hst
            rw [← hx] at hcd
            rw [← hz] at HT
            have Hst := Lib.hid hst
            have HR := Lib.hid hR
            have Hbl := Lib.hid (hbr.setCell (p := ⟨g, p.toNat, none⟩) hgb (.int .u64 (bits .or .u64 x (IntKind.u64.wrap (z * 2 ^ v)))))
            have Hcut2 := Lib.hid (hcut2.keep (w' := wr.setCell ⟨g, p.toNat, none⟩ (.int .u64 (bits .or .u64 x (IntKind.u64.wrap (z * 2 ^ v))))) (fun q hq => by
              have := ((Below.refl base wr).setCell (p := ⟨g, p.toNat, none⟩) hgb (.int .u64 (bits .or .u64 x (IntKind.u64.wrap (z * 2 ^ v))))).cell hq
              exact this))
            have Hlen2 : (r.drop s).length ≤ 281474976710656 := by rw [List.length_drop]; omega
            have Hcap2 : (r.drop s).length ≤ cap - (1 + s) := by rw [List.length_drop]; omega
            have hi1 : ¬ ((n : Int) ≤ (p.toNat : Int)) := by omega
            replace HT := Lib.hid HT
            have hs1m : 1 + s ≤ m := by omega
            clear hst hR hcut hcut2 hor hx hz hu hgd hown hb hl hss hnum ht hy
            generalize hrd : (r.drop s).length = m2 at *
            have Hrd := Lib.hid hrd; clear hrd hl' hsl2 hp hd64
            generalize cutAt (some ad) cap (1 + s) = A2 at *
            generalize cutAt (some ad) cap 1 = A1 at *
            generalize p.toNat = P at *
            go_wp2_with fail
            refine HT.out.mono ?_
            rintro e w1 ⟨rfl, rfl⟩
            clear HT
            go_wp2_with fail
            go_region
            go_wp2
            go_roundw
            case rel => exact ⟨j + 1, m2, cap - (1 + s), A2, _, _, by omega, by go_num, rfl, Hrd.out, Hcap2, Hlen2, by rw [show k - (j + 1) = i from by omega]; exact HR.out, Hst.out, Hcut2.out, Hbl.out.drew⟩
            case measure => simp [intOf]; omega
          · have he' : ¬ ((e : Int) = 0) := by omega
            simp only [ht] at hR HT
            rw [if_neg (by omega)] at hR
            have HR := Lib.hid hR
            replace HT := Lib.hid HT
            have hi1 : ¬ ((n : Int) ≤ (p.toNat : Int)) := by omega
            clear hR hcut hown hb hl ht he hl' hp
            generalize cutAt (some ad) cap 1 = A1 at *
            generalize p.toNat = P at *
            generalize r.length = rl at *
            go_wp2_with fail
            refine HT.out.mono ?_
            rintro e' w1 ⟨rfl, rfl⟩
            clear HT
            go_wp2
            go_ret
            exact .inr ⟨HR.out.symm, rfl, hbr⟩
        · rw [if_neg hp] at hR
          have HR := Lib.hid hR
          have hi1 : (n : Int) ≤ (p.toNat : Int) := by omega
          have hm0 : ¬ ((m : Int) = 0) := by omega
          have hmp : 0 < m := by omega
          clear hR hown hb hl hl' hp
          generalize p.toNat = P at *
          go_wp2
          go_ret
          exact .inr ⟨HR.out.symm, rfl, hbr⟩
    · obtain rfl : j = k := by omega
      rw [Nat.sub_self, Pfor.addHigh] at hR
      have HR := Lib.hid hR
      clear hR
      go_wp2
      go_ret
      exact .inl ⟨ds, HR.out.symm, rfl, hown, hbr⟩
end Go.Proofs.Ytcknijkjacgnkaa
