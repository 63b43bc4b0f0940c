/- Texts of several layers, one behind the other: High ReadBlock TakeBlock PforRef RefTakeBlock RefList TakeList. -/
import Derived.Test.YtoebeibmmclhpaaGreatGTA
import Derived.Test.YtoebeibmmclhpaaGreatGTC
import Derived.Test.YtoebeibmmclhpaaGreatGTD
import Derived.Test.YtoebeibmmclhpaaGreatGTE
import Derived.RegionTactic
import Derived.Laws.Small
/- bytes.Equal, bytes.HasPrefix; pfor.addHighBits. -/
namespace Go.Proofs.YtoebeibmmclhpaaGreat
open Go.RowKit
set_option maxRecDepth 100000
theorem bytesEqual_any (A1 A2 : Option Addr) (n1 n2 c1 c2 B1 B2 : Nat) (l1 l2 : List UInt8) (w : World) (hl1 : l1.length = n1) (hl2 : l2.length = n2) (hb1 : Bytes w B1 A1 l1) (hb2 : Bytes w B2 A2 l2) :
    Calls Tryz.prog 129 #[.slice A1 n1 c1, .slice A2 n2 c2] w fun e w' => e = .returned (.bool (l1 == l2)) ∧ w = w' := by
  have h1 := run_string_of hb1 c1
  have h2 := run_string_of hb2 c2
  rw [hl1] at h1
  rw [hl2] at h2
  clear hl1 hl2 hb1 hb2
  go_enter Tryz.func129, Tryz.ntmps129
  go_wp2
  go_ret
  exact ⟨rfl, rfl⟩
/-- what HasPrefix answers -/
def PrefixPost (w : World) (l1 l2 : List UInt8) (e : Ending) (w' : World) : Prop := ∃ r : Bool, e = .returned (.bool r) ∧ (r = true ↔ l2 <+: l1) ∧ w = w'
theorem hasPrefix_any (A1 A2 : Option Addr) (n1 n2 c1 c2 B1 B2 : Nat) (l1 l2 : List UInt8) (w : World) (hl1 : l1.length = n1) (hl2 : l2.length = n2) (hc : n1 ≤ c1) (hb1 : Bytes w B1 A1 l1) (hb2 : Bytes w B2 A2 l2) :
    Calls Tryz.prog 114 #[.slice A1 n1 c1, .slice A2 n2 c2] w (PrefixPost w l1 l2) := by
  by_cases h : n2 ≤ n1
  · have hsl := run_cut_h A1 n1 c1 n2 (by omega)
    have H := bytesEqual_any A1 A2 n2 n2 c1 c2 B1 B2 (l1.take n2) l2 w (by simp; omega) hl2 (hb1.take n2) hb2
    have hiff : (l1.take n2 == l2) = true ↔ l2 <+: l1 := by
      rw [beq_iff_eq, List.prefix_iff_eq_take, hl2]
      exact eq_comm
    generalize (l1.take n2 == l2) = r at *
    have Hiff := Lib.hid hiff
    replace H := Lib.hid H
    have hd : (n2 : Int) ≤ (n1 : Int) := by omega
    clear hl1 hl2 hb1 hb2 hiff
    go_enter Tryz.func114, Tryz.ntmps114
    go_wp2_with fail
    refine H.out.mono ?_
    rintro e w1 ⟨rfl, rfl⟩
    clear H hsl
    go_wp2
    go_ret
    exact ⟨r, rfl, Hiff.out, rfl⟩
  · have hnot : ¬ l2 <+: l1 := fun hp => by have := hp.length_le; omega
    have Hnot := Lib.hid hnot
    have hd : ¬ ((n2 : Int) ≤ (n1 : Int)) := by omega
    clear hl1 hl2 hb1 hb2 hnot h
    go_enter Tryz.func114, Tryz.ntmps114
    go_wp2
    go_ret
    exact ⟨false, rfl, ⟨(fun h => by cases h), (fun h => absurd h Hnot.out)⟩, rfl⟩
theorem wrap_shl (y v : Nat) : IntKind.u64.wrap ((y : Int) * 2 ^ v) = ((y * 2 ^ v % 18446744073709551616 : Nat) : Int) := by
  have e : IntKind.u64.wrap ((y * 2 ^ v : Nat) : Int) = ((y * 2 ^ v : Nat) : Int) % 18446744073709551616 := by simp [IntKind.wrap, IntKind.bits, IntKind.signed]
  have h : (y : Int) * 2 ^ v = ((y * 2 ^ v : Nat) : Int) := by rw [Int.natCast_mul, Int.natCast_pow]; rfl
  rw [h, e, Int.natCast_emod]
  rfl
theorem or_over {d y v : Nat} {x z : Int} (hx : x = (d : Int)) (hz : z = (y : Int)) (hd : d < 18446744073709551616) : bits .or .u64 x (IntKind.u64.wrap (z * 2 ^ v)) = ((Pfor.over v d y : Nat) : Int) := by
  have h2 : y * 2 ^ v % 18446744073709551616 < 18446744073709551616 := Nat.mod_lt _ (by omega)
  rw [hz, wrap_shl, hx, u64_or_nat _ _ hd h2]
  rfl
theorem over_lt {d y v : Nat} (hd : d < 18446744073709551616) : Pfor.over v d y < 18446744073709551616 := by
  have h2 : y * 2 ^ v % 18446744073709551616 < 18446744073709551616 := Nat.mod_lt _ (by omega)
  exact Nat.or_lt_two_pow (n := 64) hd h2
set_option maxHeartbeats 2000000 in
theorem addHighBits_any (g n c base v m cap k : Nat) (A : Option Addr) (ds : List UInt64) (b : List UInt8) (w : World) (hown : NOwn w base (some ⟨g, 0, none⟩) n c ds) (_hn : n ≤ 4096) (hv : v ≤ 64) (hk : k ≤ 255)
    (hl : b.length = m) (hcap : m ≤ cap) (hm : m ≤ 281474976710656) (hb : Bytes w base A b) :
    Calls Tryz.prog 128 #[.slice (some ⟨g, 0, none⟩) n c, .int .i64 (v : Int), .slice A m cap, .int .i64 (k : Int)] w fun e w' =>
      (∃ ds', Pfor.addHigh v k ds b = some ds' ∧ e = .returned (.bool true) ∧ NOwn w' base (some ⟨g, 0, none⟩) n c ds' ∧ Below base w w') ∨ (Pfor.addHigh v k ds b = none ∧ e = .returned (.bool false) ∧ Below base w w') := by
  generalize hR : Pfor.addHigh v k ds b = R
  go_enter Tryz.func128, Tryz.ntmps128
  go_wp2
  go_loopw [2, 13] (fun s i wr => ∃ (j m' cap' : Nat) (A' : Option Addr) (ds' : List UInt64) (b' : List UInt8), j ≤ k ∧ i = .int .i64 j ∧ s = .slice A' m' cap' ∧ b'.length = m' ∧ m' ≤ cap' ∧ m' ≤ 281474976710656 ∧
    Pfor.addHigh v (k - j) ds' b' = R ∧ NOwn wr base (some ⟨g, 0, none⟩) n c ds' ∧ Bytes wr base A' b' ∧ Below base w wr) (fun _ i _ => k - (intOf i).toNat)
  case atStart => exact ⟨0, m, cap, A, ds, b, by omega, rfl, rfl, hl, hcap, hm, hR, hown, hb, Below.refl _ _⟩
  case round =>
    clear hown hl hcap hm hb hR
    obtain ⟨j, m, cap, A, ds, b, hj, rfl, rfl, hl, hcap, hm, hR, hown, hb, hbr⟩ := hrel
    have hdl := hown.len
    have hgb := hown.block.1
    by_cases hlt : j < k
    · obtain ⟨i, hi⟩ : ∃ i, k - j = i + 1 := ⟨k - j - 1, by omega⟩
      rw [hi] at hR
      rcases b with _ | ⟨p, r⟩
      · rw [Pfor.addHigh] at hR
        have HR := Lib.hid hR
        obtain rfl : 0 = m := by simpa using hl
        clear hR hi hb hown
        go_wp2
        go_ret
        exact .inr ⟨HR.out.symm, rfl, hbr⟩
      · obtain ⟨ad, rfl, hlt', hcell⟩ := hb.get (k := 0) (by simp)
        simp only [List.getElem_cons_zero, Addr.add, if_true] at hcell
        have hl' : r.length + 1 = m := by simpa using hl
        have hp256 := Num.byte_lt p
        rw [Pfor.addHigh] at hR
        by_cases hp : p.toNat < ds.length
        · rw [if_pos hp] at hR
          have hcut := hb.cut (k := 1) (cap := cap) (by simp) (by omega)
          rw [List.drop_succ_cons, List.drop_zero] at hcut
          have hsl := run_cut_from (some ad) m cap 1 r.length (by omega)
          rw [Int.natCast_one] at hsl
          have HT := take_any (cutAt (some ad) cap 1) r.length (cap - 1) base r wr rfl (by omega) (by omega) hcut
          unfold TakePost at HT
          have hpn : p.toNat < n := by omega
          have hm0 : ¬ ((m : Int) = 0) := by omega
          rcases Num.take_cases r with ⟨y, s, ht⟩ | ⟨e, ht, he⟩
          · obtain ⟨hnum, hss, hsl2, hy⟩ := Num.num_take ht
            have hslb := run_cut_from (some ad) m cap (1 + s) (r.drop s).length (by rw [List.length_drop]; omega)
            rw [show ((1 + s : Nat) : Int) = 1 + (s : Int) from by omega] at hslb
            have hcut2 := hb.cut (k := 1 + s) (cap := cap) (by simp; omega) (by omega)
            rw [Nat.add_comm 1 s, List.drop_succ_cons, Nat.add_comm s 1] at hcut2
            simp only [ht, if_true] at hR HT
            have hcd := hown.cell hp
            simp only [uval] at hcd
            have hfree := hown.free p.toNat
            have hgd : (ds.getD p.toNat 0).toNat = ds[p.toNat].toNat := by simp [List.getD_eq_getElem?_getD, List.getElem?_eq_getElem hp]
            have hd64 := Bits.u64_lt ds[p.toNat]
            rw [hgd] at hR
            generalize ds[p.toNat].toNat = dn at *
            have hst := hown.store p.toNat (UInt64.ofNat (Pfor.over v dn y))
            have hu := uval_small (over_lt (y := y) (v := v) hd64)
            rw [hu] at hst
            obtain ⟨x, hx⟩ : ∃ x : Int, x = (dn : Int) := ⟨_, rfl⟩
            obtain ⟨z, hz, hz0, hz1⟩ : ∃ z : Int, z = (y : Int) ∧ 0 ≤ z ∧ z ≤ 18446744073709551615 := ⟨y, rfl, by omega, by omega⟩
            have hor := or_over (v := v) hx hz hd64
            rw [← hor] at hst
            rw [← hx] at hcd
            rw [← hz] at HT
            have Hst := Lib.hid hst
            have HR := Lib.hid hR
            have Hbl := Lib.hid (hbr.setCell (p := ⟨g, p.toNat, none⟩) hgb (.int .u64 (bits .or .u64 x (IntKind.u64.wrap (z * 2 ^ v)))))
            have Hcut2 := Lib.hid (hcut2.keep (w' := wr.setCell ⟨g, p.toNat, none⟩ (.int .u64 (bits .or .u64 x (IntKind.u64.wrap (z * 2 ^ v))))) (fun q hq => by
              have := ((Below.refl base wr).setCell (p := ⟨g, p.toNat, none⟩) hgb (.int .u64 (bits .or .u64 x (IntKind.u64.wrap (z * 2 ^ v))))).cell hq
              exact this))
            have Hlen2 : (r.drop s).length ≤ 281474976710656 := by rw [List.length_drop]; omega
            have Hcap2 : (r.drop s).length ≤ cap - (1 + s) := by rw [List.length_drop]; omega
            have hi1 : ¬ ((n : Int) ≤ (p.toNat : Int)) := by omega
            replace HT := Lib.hid HT
            have hs1m : 1 + s ≤ m := by omega
            clear hst hR hcut hcut2 hor hx hz hu hgd hown hb hl hss hnum ht hy
            generalize hrd : (r.drop s).length = m2 at *
            have Hrd := Lib.hid hrd; clear hrd hl' hsl2 hp hd64
            generalize cutAt (some ad) cap (1 + s) = A2 at *
            generalize cutAt (some ad) cap 1 = A1 at *
            generalize p.toNat = P at *
            go_wp2_with fail
            refine HT.out.mono ?_
            rintro e w1 ⟨rfl, rfl⟩
            clear HT
            go_wp2_with fail
            go_region
            go_wp2
            go_roundw
            case rel => exact ⟨j + 1, m2, cap - (1 + s), A2, _, _, by omega, by go_num, rfl, Hrd.out, Hcap2, Hlen2, by rw [show k - (j + 1) = i from by omega]; exact HR.out, Hst.out, Hcut2.out, Hbl.out.drew⟩
            case measure => simp [intOf]; omega
          · have he' : ¬ ((e : Int) = 0) := by omega
            simp only [ht] at hR HT
            rw [if_neg (by omega)] at hR
            have HR := Lib.hid hR
            replace HT := Lib.hid HT
            have hi1 : ¬ ((n : Int) ≤ (p.toNat : Int)) := by omega
            clear hR hcut hown hb hl ht he hl' hp
            generalize cutAt (some ad) cap 1 = A1 at *
            generalize p.toNat = P at *
            generalize r.length = rl at *
            go_wp2_with fail
            refine HT.out.mono ?_
            rintro e' w1 ⟨rfl, rfl⟩
            clear HT
            go_wp2
            go_ret
            exact .inr ⟨HR.out.symm, rfl, hbr⟩
        · rw [if_neg hp] at hR
          have HR := Lib.hid hR
          have hi1 : (n : Int) ≤ (p.toNat : Int) := by omega
          have hm0 : ¬ ((m : Int) = 0) := by omega
          have hmp : 0 < m := by omega
          clear hR hown hb hl hl' hp
          generalize p.toNat = P at *
          go_wp2
          go_ret
          exact .inr ⟨HR.out.symm, rfl, hbr⟩
    · obtain rfl : j = k := by omega
      rw [Nat.sub_self, Pfor.addHigh] at hR
      have HR := Lib.hid hR
      clear hR
      go_wp2
      go_ret
      exact .inl ⟨ds, HR.out.symm, rfl, hown, hbr⟩
end Go.Proofs.YtoebeibmmclhpaaGreat

/- pfor.readBlock. -/
namespace Go.Proofs.YtoebeibmmclhpaaGreat
open Go.RowKit
set_option maxRecDepth 100000
/-- what readBlock answers -/
def ReadPost (w : World) (R : Option (List UInt64)) (e : Ending) (w' : World) : Prop :=
  (∃ L A c, R = some L ∧ e = .returned (.tuple #[.slice A L.length c, .bool true]) ∧ 1 ≤ L.length ∧ L.length ≤ 32 ∧ NOwn w' w.heap.size A L.length c L ∧ Below w.heap.size w w') ∨
    (R = none ∧ e = .returned (.tuple #[.slice none 0 0, .bool false]) ∧ Below w.heap.size w w')
theorem Bits.unpack_le64 {b : List UInt8} {n w : Int} {l : List UInt64} (h : Bits.unpack b n w = (l, 0)) : w ≤ 64 ∧ l.length = n.toNat := by
  have h2 := Bits.pack_unpack h
  unfold Bits.unpack at h
  split at h
  · cases h
  · rename_i h3
    refine ⟨by omega, by omega⟩
theorem plus_get {b : Nat} {l : List UInt64} {k : Nat} (hk : k < l.length) : (Pfor.plus b l)[k]'(by rw [Pfor.plus_length]; exact hk) = UInt64.ofNat (l[k].toNat + b) := by simp [Pfor.plus]
/-- what a slice holds when k of its cells are turned -/
theorem turn_set {α : Type} {l m : List α} {n k : Nat} (hl : l.length = n) (hm : m.length = n) (hk : k < n) : (m.take k ++ l.drop k).set k (m[k]'(by omega)) = m.take (k + 1) ++ l.drop (k + 1) := by
  have hlk : (m.take k).length = k := by simp; omega
  rw [List.set_append_right _ _ (by omega), hlk, Nat.sub_self, List.drop_eq_getElem_cons (by omega), List.set_cons_zero, List.take_succ_eq_append_getElem (by omega), List.append_assoc]
  rfl
theorem turn_get {α : Type} {l m : List α} {n k : Nat} (hl : l.length = n) (hm : m.length = n) (hk : k < n) : ∃ h : k < (m.take k ++ l.drop k).length, (m.take k ++ l.drop k)[k] = l[k]'(by omega) := by
  have hlk : (m.take k).length = k := by simp; omega
  refine ⟨by simp; omega, ?_⟩
  rw [List.getElem_append_right (by omega)]
  simp [hlk]
theorem wrap_add {d b : Nat} {x y : Int} (hx : x = (d : Int)) (hy : y = (b : Int)) : uval (UInt64.ofNat (d + b)) = .int .u64 (IntKind.u64.wrap (x + y)) := by
  have e : IntKind.u64.wrap ((d + b : Nat) : Int) = ((d + b : Nat) : Int) % 18446744073709551616 := by simp [IntKind.wrap, IntKind.bits, IntKind.signed]
  unfold uval
  rw [hx, hy, ← Int.natCast_add, e, UInt64.toNat_ofNat']
  congr 1
theorem read_cons (c : UInt8) (r : List UInt8) : Pfor.read (c :: r) = if 1 ≤ c.toNat ∧ c.toNat ≤ 32 then
      (if (Num.take r).2.2 = 0 then
        (match r.drop (Num.take r).2.1 with
          | v :: x :: t => if Bits.size c.toNat v.toNat ≤ t.length then
              (if (Bits.unpack (t.take (Bits.size c.toNat v.toNat)) c.toNat v.toNat).2 = 0 then
                (Pfor.addHigh v.toNat x.toNat (Bits.unpack (t.take (Bits.size c.toNat v.toNat)) c.toNat v.toNat).1 (t.drop (Bits.size c.toNat v.toNat))).map (Pfor.plus (Num.take r).1)
              else none)
            else none
          | _ => none)
      else none)
    else none := rfl
set_option maxHeartbeats 4000000 in
theorem readBlock_any (A : Option Addr) (n cap B : Nat) (b : List UInt8) (w : World) (hl : b.length = n) (hcap : n ≤ cap) (hm : n ≤ 281474976710656) (hb : Bytes w B A b) (hB : B ≤ w.heap.size) :
    Calls Tryz.prog 113 #[.slice A n cap] w (ReadPost w (Pfor.read b)) := by
  have hb := hb.wide hB
  rcases b with _ | ⟨c, r⟩
  · obtain rfl : 0 = n := by simpa using hl
    go_enter Tryz.func113, Tryz.ntmps113
    go_wp2
    go_ret2
    exact .inr ⟨rfl, rfl, Below.refl _ _⟩
  obtain ⟨ad, rfl, hlt', hcell⟩ := hb.get (k := 0) (by simp)
  simp only [List.getElem_cons_zero, Addr.add, if_true] at hcell
  have hl' : r.length + 1 = n := by simpa using hl
  have hc256 := Num.byte_lt c
  have H0 := isBlockLength_any (c.toNat : Int) w
  have hn0 : ¬ ((n : Int) = 0) := by omega
  have hn1 : 0 < n := by omega
  rw [read_cons]
  by_cases hc : 1 ≤ c.toNat ∧ c.toNat ≤ 32
  · rw [if_pos hc]
    rw [decide_eq_true (show 1 ≤ (c.toNat : Int) ∧ (c.toNat : Int) ≤ 32 by omega)] at H0
    replace H0 := Lib.hid H0
    have hcut := hb.cut (k := 1) (cap := cap) (by simp) (by omega)
    rw [List.drop_succ_cons, List.drop_zero] at hcut
    have hsl := run_cut_from (some ad) n cap 1 r.length (by omega)
    rw [Int.natCast_one] at hsl
    have HT := take_any (cutAt (some ad) cap 1) r.length (cap - 1) w.heap.size r w rfl (by omega) (by omega) hcut
    unfold TakePost at HT
    obtain ⟨p, hp⟩ : ∃ p, p = c.toNat := ⟨_, rfl⟩
    rw [← hp] at hcell H0 hc hc256 ⊢
    have Hp := Lib.hid hp; clear hp
    obtain ⟨hp1, hp32⟩ := hc
    have hcutAll : ∀ s, 1 + s ≤ n → Bytes w w.heap.size (cutAt (some ad) cap (1 + s)) (r.drop s) := fun s hs => by
      have h := hb.cut (k := 1 + s) (cap := cap) (by rw [hl]; exact hs) (by omega)
      rw [Nat.add_comm 1 s, List.drop_succ_cons, Nat.add_comm s 1] at h
      exact h
    rcases Num.take_cases r with ⟨y, s, ht⟩ | ⟨e, ht, he⟩
    · obtain ⟨hnum, hss, hsl2, hy⟩ := Num.num_take ht
      simp only [ht, if_true] at HT ⊢
      obtain ⟨z, hz, hz0, hz1⟩ : ∃ z : Int, z = (y : Int) ∧ 0 ≤ z ∧ z ≤ 18446744073709551615 := ⟨y, rfl, by omega, by omega⟩
      rw [← hz] at HT
      have Hz := Lib.hid hz; clear hz
      replace HT := Lib.hid HT
      have hs9 : s ≤ 9 := by rw [hss]; exact Num.size_le9 hy
      have Hy := Lib.hid hy
      clear hcut hnum hss ht hy
      generalize cutAt (some ad) cap 1 = A1 at *
      rcases hrd : r.drop s with _ | ⟨v, _ | ⟨x, t⟩⟩
      · have hlen : r.length - s = 0 := by rw [← List.length_drop, hrd]; rfl
        have hshort : (n : Int) < 1 + (s : Int) + 2 := by omega
        clear hb hl hl' hsl2 hcutAll
        generalize r.length = rl at *
        go_enter Tryz.func113, Tryz.ntmps113
        go_wp2_with fail
        refine H0.out.mono ?_
        rintro e w1 ⟨rfl, rfl⟩
        clear H0
        go_wp2_with fail
        refine HT.out.mono ?_
        rintro e w1 ⟨rfl, rfl⟩
        clear HT
        go_wp2
        go_ret2
        exact .inr ⟨rfl, rfl, Below.refl _ _⟩
      · have hlen : r.length - s = 1 := by rw [← List.length_drop, hrd]; rfl
        have hshort : (n : Int) < 1 + (s : Int) + 2 := by omega
        clear hb hl hl' hsl2 hcutAll
        generalize r.length = rl at *
        go_enter Tryz.func113, Tryz.ntmps113
        go_wp2_with fail
        refine H0.out.mono ?_
        rintro e w1 ⟨rfl, rfl⟩
        clear H0
        go_wp2_with fail
        refine HT.out.mono ?_
        rintro e w1 ⟨rfl, rfl⟩
        clear HT
        go_wp2
        go_ret2
        exact .inr ⟨rfl, rfl, Below.refl _ _⟩
      · have hlen : r.length - s = t.length + 2 := by rw [← List.length_drop, hrd]; rfl
        have hlong : ¬ ((n : Int) < 1 + (s : Int) + 2) := by omega
        have hslb := run_cut_from (some ad) n cap (1 + s) (t.length + 2) (by omega)
        rw [show ((1 + s : Nat) : Int) = 1 + (s : Int) from by omega] at hslb
        have hb1 := hcutAll s (by omega)
        rw [hrd] at hb1
        obtain ⟨ad1, hA1, _, hc0⟩ := hb1.get (k := 0) (by simp)
        obtain ⟨ad1', hA1', _, hc1⟩ := hb1.get (k := 1) (by simp)
        rw [hA1] at hA1' hslb hb1
        cases hA1'
        simp only [List.getElem_cons_zero, List.getElem_cons_succ, Addr.add, if_true, Nat.one_ne_zero, if_false] at hc0 hc1
        have hb2 := hb1.cut (k := 2) (cap := cap - (1 + s)) (by simp) (by simp; omega)
        rw [List.drop_succ_cons, List.drop_succ_cons, List.drop_zero] at hb2
        have hslc := run_cut_from (some ad1) (t.length + 2) (cap - (1 + s)) 2 t.length (by omega)
        rw [show ((2 : Nat) : Int) = 2 from rfl] at hslc
        have hv256 := Num.byte_lt v
        have hx256 := Num.byte_lt x
        have htcap : t.length ≤ cap - (1 + s) - 2 := by omega
        have htm : t.length ≤ 281474976710656 := by omega
        have hrl : r.length - s = t.length + 2 := hlen
        clear hb hl hcutAll hrd hA1 hb1 hlen
        simp only
        generalize cap - (1 + s) = capb at *
        generalize cutAt (some ad1) capb 2 = A2 at *
        generalize hvv : v.toNat = V at *
        generalize hxx : x.toNat = X at *
        clear hvv hxx
        have hpv : p * V ≤ 32 * 256 := Nat.mul_le_mul hp32 (by omega)
        have HS := Lib.hid (fun w' => ppackedSize_any p V w' (by omega))
        have hS : Bits.size p V ≤ 1100 := by unfold Bits.size; omega
        by_cases hfit : Bits.size p V ≤ t.length
        · rw [if_pos hfit]
          have hslt := run_cut_h A2 t.length (capb - 2) (Bits.size p V) (by omega)
          have htl : (t.take (Bits.size p V)).length = Bits.size p V := by simp; omega
          have HU := fun (w' : World) (hb2 : Bytes w' w'.heap.size A2 t) => unpack_any A2 (Bits.size p V) (capb - 2) _ (p : Int) (V : Int) (t.take (Bits.size p V)) w' htl (hb2.take _) (Nat.le_refl _) (by omega)
          have hsld := run_cut_from A2 t.length (capb - 2) (Bits.size p V) (t.length - Bits.size p V) (by omega)
          have hb3 := hb2.cut (k := Bits.size p V) (cap := capb - 2) hfit htcap
          have hdl : (t.drop (Bits.size p V)).length = t.length - Bits.size p V := List.length_drop
          have hcapd : t.length - Bits.size p V ≤ capb - 2 - Bits.size p V := by omega
          unfold UnpackPost at HU
          rcases Bits.unpack_cases (t.take (Bits.size p V)) (p : Int) (V : Int) with ⟨L0, hu⟩ | ⟨e, hu, he⟩
          · obtain ⟨hV64', hL0⟩ := Bits.unpack_le64 hu
            rw [hu] at HU ⊢
            rw [Int.toNat_natCast] at hL0
            have hV64 : V ≤ 64 := by omega
            simp only [if_true, hL0] at HU ⊢
            have HA := Lib.hid (fun (g3 c3 : Nat) (w1 : World) (ho : NOwn w1 w.heap.size (some ⟨g3, 0, none⟩) p c3 L0) (hbb : Bytes w1 w.heap.size (cutAt A2 (capb - 2) (Bits.size p V)) (t.drop (Bits.size p V))) =>
              addHighBits_any g3 p c3 w.heap.size V (t.length - Bits.size p V) (capb - 2 - Bits.size p V) X (cutAt A2 (capb - 2) (Bits.size p V)) L0 (t.drop (Bits.size p V)) w1 ho (by omega) hV64 (by omega) hdl hcapd (by omega) hbb)
            replace HU := Lib.hid HU
            have Hb2 := Lib.hid hb2
            have Hb3 := Lib.hid hb3
            clear hu hb2 hb3 htl hdl hpv hl' hsl2 hrl hV64' hL0
            generalize cutAt A2 (capb - 2) (Bits.size p V) = A3 at *
            generalize t.drop (Bits.size p V) = td at *
            generalize r.length = rl at *
            generalize t.length = tl at *
            generalize Bits.size p V = S at *
            go_enter Tryz.func113, Tryz.ntmps113
            go_wp2_with fail
            refine H0.out.mono ?_
            rintro e w1 ⟨rfl, rfl⟩
            clear H0
            go_wp2_with fail
            refine HT.out.mono ?_
            rintro e w1 ⟨rfl, rfl⟩
            clear HT
            go_wp2_with fail
            go_quiet (fail)
            obtain ⟨wq, hwq, hsq, hb2q, hb3q, hbq⟩ : ∃ wq, wq = w.drewN nq ∧ wq.heap.size = w.heap.size ∧ Bytes wq wq.heap.size A2 t ∧ Bytes wq w.heap.size A3 td ∧ Below w.heap.size w wq := ⟨_, rfl, rfl, Hb2.out, Hb3.out, below_drewN (Below.refl _ w) nq⟩
            rw [← hwq]
            clear hwq Hb2 Hb3 hcell hc0 hc1 hsl hslb
            have HUq := Lib.hid (HU.out wq hb2q)
            rw [hsq] at HUq
            clear HU
            go_wp2_with fail
            refine (HS.out _).mono ?_
            rintro e w1 ⟨rfl, rfl⟩
            clear HS
            go_wp2_with fail
            refine HUq.out.mono ?_
            rintro e w1 ⟨A4, c4, rfl, ho4, hb4⟩
            clear HUq
            obtain ⟨g4, rfl, _⟩ := ho4.at_ (by omega)
            have hb4' := hbq.trans hb4
            have HA1 := Lib.hid (HA.out g4 c4 w1 ho4 (hb3q.below hb4))
            clear HA hb3q
            go_wp2_with fail
            refine HA1.out.mono ?_
            clear HA1 ho4
            rintro e w2 (⟨ds, hds, rfl, ho5, hb5⟩ | ⟨hds, rfl, hb5⟩)
            · have hdl := ho5.len
              have hpl : (Pfor.plus y ds).length = p := by rw [Pfor.plus_length, hdl]
              have Hds := Lib.hid hds
              have Hdl := Lib.hid hdl
              have Hpl := Lib.hid hpl
              have hb6 := hb4'.trans hb5
              have hg4 := ho5.block.1
              clear hdl hpl hds hb5 hb4 hb4' hbq hsld hslc hslt
              go_wp2
              go_loopw [89] (fun i wr => ∃ (k : Nat), k ≤ p ∧ i = .int .i64 k ∧ NOwn wr w.heap.size (some ⟨g4, 0, none⟩) p c4 ((Pfor.plus y ds).take k ++ ds.drop k) ∧ Below w.heap.size w wr) (fun i _ => p - (intOf i).toNat)
              case atStart => exact ⟨0, by omega, rfl, by simpa using ho5, hb6⟩
              case round =>
                clear ho5 hb6
                obtain ⟨k, hk, rfl, ho, hbel⟩ := hrel
                by_cases hlt : k < p
                · have hk' : k < ds.length := by have := Hdl.out; omega
                  obtain ⟨hg1, hg2⟩ := turn_get Hdl.out Hpl.out hlt
                  have hold := ho.cell hg1
                  rw [hg2] at hold
                  simp only [uval] at hold
                  have hfree := ho.free k
                  have hst := ho.store k ((Pfor.plus y ds)[k]'(by rw [Hpl.out]; exact hlt))
                  rw [turn_set Hdl.out Hpl.out hlt, plus_get hk'] at hst
                  obtain ⟨q, hq, hq0, hq1⟩ : ∃ q : Int, q = (ds[k].toNat : Int) ∧ 0 ≤ q ∧ q ≤ 18446744073709551615 := ⟨_, rfl, by omega, by have := Bits.u64_lt ds[k]; omega⟩
                  rw [wrap_add hq Hz.out] at hst
                  rw [← hq] at hold
                  have Hst := Lib.hid hst
                  have Hbl := Lib.hid (hbel.setCell (p := ⟨g4, k, none⟩) hg4 (.int .u64 (IntKind.u64.wrap (q + z))))
                  clear hst hq hg1 hg2 ho
                  go_wp2
                  go_roundw
                  case rel => exact ⟨k + 1, by omega, by go_num, Hst.out, Hbl.out⟩
                  case measure => simp [intOf]; omega
                · obtain rfl : k = p := by omega
                  rw [List.take_of_length_le (by rw [Hpl.out]; exact Nat.le_refl _), List.drop_of_length_le (by rw [Hdl.out]; exact Nat.le_refl _), List.append_nil] at ho
                  go_wp2
                  go_ret2
                  refine .inl ⟨Pfor.plus y ds, some ⟨g4, 0, none⟩, c4, by rw [Hds.out]; rfl, ?_⟩
                  rw [Hpl.out]
                  exact ⟨rfl, hp1, hp32, ho, hbel⟩
            · have Hds := Lib.hid hds
              clear hds hsld hslc hslt
              go_wp2
              go_ret2
              exact .inr ⟨by rw [Hds.out]; rfl, rfl, hb4'.trans hb5⟩
          · rw [hu] at HU ⊢
            simp only [if_neg he, List.length_nil] at HU ⊢
            have he' : ¬ ((e : Int) = 0) := by omega
            replace HU := Lib.hid HU
            have Hb2 := Lib.hid hb2
            clear hu hb2 hb3 htl hdl hpv hl' hsl2 hrl he hsld
            generalize r.length = rl at *
            generalize t.length = tl at *
            generalize Bits.size p V = S at *
            go_enter Tryz.func113, Tryz.ntmps113
            go_wp2_with fail
            refine H0.out.mono ?_
            rintro e w1 ⟨rfl, rfl⟩
            clear H0
            go_wp2_with fail
            refine HT.out.mono ?_
            rintro e w1 ⟨rfl, rfl⟩
            clear HT
            go_wp2_with fail
            go_quiet (fail)
            obtain ⟨wq, hwq, hsq, hb2q, hbq⟩ : ∃ wq, wq = w.drewN nq ∧ wq.heap.size = w.heap.size ∧ Bytes wq wq.heap.size A2 t ∧ Below w.heap.size w wq := ⟨_, rfl, rfl, Hb2.out, below_drewN (Below.refl _ w) nq⟩
            rw [← hwq]
            clear hwq Hb2 hcell hc0 hc1 hsl hslb
            have HUq := Lib.hid (HU.out wq hb2q)
            rw [hsq] at HUq
            clear HU
            go_wp2_with fail
            refine (HS.out _).mono ?_
            rintro e w1 ⟨rfl, rfl⟩
            clear HS
            go_wp2_with fail
            refine HUq.out.mono ?_
            rintro e w1 ⟨A4, c4, rfl, ho4, hb4⟩
            clear HUq
            go_wp2
            go_ret2
            exact .inr ⟨rfl, rfl, hbq.trans hb4⟩
        · rw [if_neg hfit]
          have hshort : (t.length : Int) < (Bits.size p V : Int) := by omega
          clear hb2 hpv hl' hsl2 hrl hfit
          generalize r.length = rl at *
          generalize t.length = tl at *
          generalize Bits.size p V = S at *
          go_enter Tryz.func113, Tryz.ntmps113
          go_wp2_with fail
          refine H0.out.mono ?_
          rintro e w1 ⟨rfl, rfl⟩
          clear H0
          go_wp2_with fail
          refine HT.out.mono ?_
          rintro e w1 ⟨rfl, rfl⟩
          clear HT
          go_wp2_with fail
          go_quiet (fail)
          go_wp2_with fail
          refine (HS.out _).mono ?_
          rintro e w1 ⟨rfl, rfl⟩
          clear HS
          go_wp2
          go_ret2
          exact .inr ⟨rfl, rfl, below_drewN (Below.refl _ w) nq⟩
    · have he' : ¬ ((e : Int) = 0) := by omega
      simp only [ht] at HT ⊢
      rw [if_neg (by omega)]
      replace HT := Lib.hid HT
      clear hcut hb hl ht he hl' hcutAll
      generalize cutAt (some ad) cap 1 = A1 at *
      generalize r.length = rl at *
      go_enter Tryz.func113, Tryz.ntmps113
      go_wp2_with fail
      refine H0.out.mono ?_
      rintro e' w1 ⟨rfl, rfl⟩
      clear H0
      go_wp2_with fail
      refine HT.out.mono ?_
      rintro e' w1 ⟨rfl, rfl⟩
      clear HT
      go_wp2
      go_ret2
      exact .inr ⟨rfl, rfl, Below.refl _ _⟩
  · rw [if_neg hc]
    rw [decide_eq_false (show ¬ (1 ≤ (c.toNat : Int) ∧ (c.toNat : Int) ≤ 32) by omega)] at H0
    replace H0 := Lib.hid H0
    clear hb hl hl' hc
    generalize c.toNat = p at *
    go_enter Tryz.func113, Tryz.ntmps113
    go_wp2_with fail
    refine H0.out.mono ?_
    rintro e' w1 ⟨rfl, rfl⟩
    clear H0
    go_wp2
    go_ret2
    exact .inr ⟨rfl, rfl, Below.refl _ _⟩
end Go.Proofs.YtoebeibmmclhpaaGreat

/- pfor.TakeBlock. -/
namespace Go.Proofs.YtoebeibmmclhpaaGreat
open Go.RowKit
set_option maxRecDepth 100000
/-- what TakeBlock answers: numbers of one's own, a size, an error -/
def TakesPost (w : World) (r : List UInt64 × Nat × Nat) (e : Ending) (w' : World) : Prop :=
  ∃ A c, e = .returned (.tuple #[.slice A r.1.length c, .int .i64 (r.2.1 : Int), .int .i64 (r.2.2 : Int)]) ∧ NOwn w' w.heap.size A r.1.length c r.1 ∧ Below w.heap.size w w'
set_option maxHeartbeats 1000000 in
theorem takeBlock_any (A : Option Addr) (n cap B : Nat) (b : List UInt8) (w : World) (hl : b.length = n) (hcap : n ≤ cap) (hm : n ≤ 281474976710656) (hb : Bytes w B A b) (hB : B ≤ w.heap.size) :
    Calls Tryz.prog 86 #[.slice A n cap] w (TakesPost w (Pfor.takeBlock b)) := by
  have H0 := Lib.hid (readBlock_any A n cap B b w hl hcap hm hb hB)
  have hb := hb.wide hB
  have HE := Lib.hid (fun (A1 : Option Addr) (c1 : Nat) (L : List UInt64) (w1 : World) (h1 : 1 ≤ L.length) (h2 : L.length ≤ 32) (ho : NOwn w1 w.heap.size A1 L.length c1 L) => encodeBlock_any A1 L.length c1 _ L w1 rfl h1 h2 ho.row (Nat.le_refl _))
  have HP := Lib.hid (fun (A2 : Option Addr) (c2 : Nat) (K : List UInt8) (w1 : World) (hk : Bytes w1 w1.heap.size A2 K) (hb : Bytes w1 w.heap.size A b) => hasPrefix_any A A2 n K.length cap c2 _ _ b K w1 hl rfl hcap hb hk)
  clear hl
  go_enter Tryz.func86, Tryz.ntmps86
  go_wp2_with fail
  refine H0.out.mono ?_
  clear H0
  rintro e w1 (⟨L, A1, c1, hR, rfl, h1, h2, ho1, hb1⟩ | ⟨hR, rfl, hb1⟩)
  · have C1 := Lib.hid (HE.out A1 c1 L w1 h1 h2 ho1)
    have HR := Lib.hid hR
    have hbb := hb.below hb1
    clear HE hR hb
    go_wp2_with fail
    refine C1.out.mono ?_
    rintro e w2 ⟨g2, c2, rfl, ho2, hb2⟩
    clear C1
    have hbb2 := hbb.below (hb2.mono hb1.size)
    have C2 := Lib.hid (HP.out _ c2 _ w2 ho2.bytes hbb2)
    have hbel := hb1.trans (hb2.mono hb1.size)
    have ho12 := ho1.below hb2
    clear HP ho1 ho2 hbb hbb2
    go_wp2_with fail
    refine C2.out.mono ?_
    clear C2
    rintro e w3 ⟨q, rfl, hq, rfl⟩
    cases q with
    | true =>
      have ht := Pfor.takeBlock_of ⟨h1, h2⟩ (hq.1 rfl)
      have Ht := Lib.hid ht
      clear ht hq
      go_wp2
      go_ret3
      rw [Ht.out]
      exact ⟨A1, c1, rfl, ho12, hbel⟩
    | false =>
      have ht := Pfor.takeBlock_read_not HR.out (fun h => by have := hq.2 h; cases this)
      have Ht := Lib.hid ht
      clear ht hq
      go_wp2
      go_ret3
      rw [Ht.out]
      exact ⟨none, 0, rfl, nown_none _ _, hbel⟩
  · have Ht := Lib.hid (Pfor.takeBlock_read_none hR)
    clear hR
    go_wp2
    go_ret3
    rw [Ht.out]
    exact ⟨none, 0, rfl, nown_none _ _, hb1⟩
end Go.Proofs.YtoebeibmmclhpaaGreat

/- The document's reader of a block, on lists. -/
namespace Go.Proofs.YtoebeibmmclhpaaGreat.Pfor
/-- the document's exceptions -/
def refAdd (b : List UInt8) (n w : Nat) : Nat → List UInt64 → Nat → Option (List UInt64 × Nat)
  | 0, ds, at_ => some (ds, at_)
  | k + 1, ds, at_ => if (rd 31 b at_).2.2 = true then none else
      if (rd 18446744073709551615 b (rd 31 b at_).2.1).2.2 = true ∨ n ≤ (rd 31 b at_).1 ∨ w = 64 then none else
        refAdd b n w k (ds.set (rd 31 b at_).1 (UInt64.ofNat ((ds.getD (rd 31 b at_).1 0).toNat + (rd 18446744073709551615 b (rd 31 b at_).2.1).1 * 2 ^ w % 18446744073709551616))) (rd 18446744073709551615 b (rd 31 b at_).2.1).2.1
/-- behind the four numbers -/
def refBody (b : List UInt8) (n base w k at_ : Nat) : Option (List UInt64 × Nat) :=
  if n = 0 ∨ b.length < at_ + Bits.size n w then none else
    if (Bits.unpack ((b.drop at_).take (Bits.size n w)) n w).2 ≠ 0 then none else
      (refAdd b n w k (Bits.unpack ((b.drop at_).take (Bits.size n w)) n w).1 (at_ + Bits.size n w)).map fun r => (plus base r.1, r.2)
/-- the document's reader -/
def refRead (b : List UInt8) : Option (List UInt64 × Nat) :=
  if (rd 32 b 0).2.2 = true then none else
    if (rd 18446744073709551615 b (rd 32 b 0).2.1).2.2 = true then none else
      if (rd 64 b (rd 18446744073709551615 b (rd 32 b 0).2.1).2.1).2.2 = true then none else
        if (rd 32 b (rd 64 b (rd 18446744073709551615 b (rd 32 b 0).2.1).2.1).2.1).2.2 = true then none else
          refBody b (rd 32 b 0).1 (rd 18446744073709551615 b (rd 32 b 0).2.1).1 (rd 64 b (rd 18446744073709551615 b (rd 32 b 0).2.1).2.1).1
            (rd 32 b (rd 64 b (rd 18446744073709551615 b (rd 32 b 0).2.1).2.1).2.1).1 (rd 32 b (rd 64 b (rd 18446744073709551615 b (rd 32 b 0).2.1).2.1).2.1).2.1
theorem rd_num {most v at_ : Nat} {b t : List UInt8} (hv : v < 18446744073709551616) (hm : v ≤ most) (h : b.drop at_ = Num.num v ++ t) : rd most b at_ = (v, at_ + Num.size v, false) := by
  unfold rd
  rw [h, Num.take_num hv]
  simp only [true_and]
  rw [if_pos hm]
theorem rd_at (most : Nat) (b : List UInt8) (at_ : Nat) (h : at_ ≤ b.length) : at_ ≤ (rd most b at_).2.1 ∧ (rd most b at_).2.1 ≤ b.length := by
  have h2 : (Num.take (b.drop at_)).2.1 ≤ b.length - at_ := by
    rcases Num.take_cases (b.drop at_) with ⟨v, s, ht⟩ | ⟨e, ht, _⟩
    · have := (Num.num_take ht).2.2.1
      rw [List.length_drop] at this
      rw [ht]
      exact this
    · rw [ht]; exact Nat.zero_le _
  unfold rd
  split <;> simp only <;> omega
theorem num_byte {v : Nat} (h : v ≤ 247) : Num.num v = [UInt8.ofNat v] := by unfold Num.num; rw [if_pos h]
theorem size_byte {v : Nat} (h : v ≤ 247) : Num.size v = 1 := by unfold Num.size; rw [if_pos h]
theorem low_add (w : Nat) (d : UInt64) : UInt64.ofNat (d.toNat % 2 ^ w + d.toNat / 2 ^ w * 2 ^ w % 18446744073709551616) = d := by
  have h := Nat.div_add_mod d.toNat (2 ^ w)
  have hlt : d.toNat / 2 ^ w * 2 ^ w < 18446744073709551616 := Nat.lt_of_le_of_lt (Nat.div_mul_le_self _ _) d.toNat_lt
  rw [Nat.mod_eq_of_lt hlt, Nat.add_comm, Nat.mul_comm, h, Bits.u64_ofNat]
theorem drop_more {b : List UInt8} {at_ k : Nat} {x y : List UInt8} (h : b.drop at_ = x ++ y) (hk : x.length = k) : b.drop (at_ + k) = y := by
  rw [← List.drop_drop, h, List.drop_left' hk]
theorem refAdd_excs (b : List UInt8) (n w : Nat) (suf : List UInt64) : ∀ (pre : List UInt64) (at_ : Nat) (t : List UInt8), pre.length + suf.length = n → n ≤ 32 → b.drop at_ = excs w pre.length suf ++ t →
    refAdd b n w (cnt w suf) (pre ++ lows w suf) at_ = some (pre ++ suf, at_ + (excs w pre.length suf).length) := by
  induction suf with
  | nil => intro pre at_ t _ _ _; simp [cnt, lows, excs, refAdd]
  | cons d r ih =>
    intro pre at_ t hlen hn hdrop
    rw [List.length_cons] at hlen
    have e1 : lows w (d :: r) = UInt64.ofNat (d.toNat % 2 ^ w) :: lows w r := rfl
    by_cases h0 : d.toNat / 2 ^ w = 0
    · have hlt : d.toNat < 2 ^ w := by
        rcases Nat.lt_or_ge d.toNat (2 ^ w) with h | h
        · exact h
        · have := Nat.div_pos h (Bits.pow_pos w); omega
      rw [excs, exc, if_pos h0, List.nil_append] at hdrop ⊢
      have h2 := ih (pre ++ [d]) at_ t (by simp; omega) hn (by rw [List.length_append, List.length_singleton]; exact hdrop)
      rw [List.length_append, List.length_singleton, List.append_assoc, List.append_assoc] at h2
      simp only [List.singleton_append] at h2
      rw [cnt, if_pos h0, Nat.zero_add, e1, Nat.mod_eq_of_lt hlt, Bits.u64_ofNat]
      exact h2
    · have hne : ¬ w = 64 := fun h => h0 (by rw [h]; exact Nat.div_eq_of_lt d.toNat_lt)
      rw [excs, exc, if_neg h0, List.append_assoc, List.cons_append] at hdrop
      have hr1 : rd 31 b at_ = (pre.length, at_ + 1, false) := by
        rw [rd_num (v := pre.length) (t := Num.num (d.toNat / 2 ^ w) ++ (excs w (pre.length + 1) r ++ t)) (by omega) (by omega) (by rw [num_byte (by omega)]; exact hdrop), size_byte (by omega)]
      have hd1 : b.drop (at_ + 1) = Num.num (d.toNat / 2 ^ w) ++ (excs w (pre.length + 1) r ++ t) := by
        rw [← List.drop_drop, hdrop]; rfl
      have hr2 : rd 18446744073709551615 b (at_ + 1) = (d.toNat / 2 ^ w, at_ + 1 + Num.size (d.toNat / 2 ^ w), false) := rd_num (div_lt d w) (by have := div_lt d w; omega) hd1
      have hd2 : b.drop (at_ + 1 + Num.size (d.toNat / 2 ^ w)) = excs w (pre.length + 1) r ++ t := drop_more hd1 (Num.num_length _)
      have h2 := ih (pre ++ [d]) (at_ + 1 + Num.size (d.toNat / 2 ^ w)) t (by simp; omega) hn (by rw [List.length_append, List.length_singleton]; exact hd2)
      rw [List.length_append, List.length_singleton, List.append_assoc, List.append_assoc] at h2
      simp only [List.singleton_append] at h2
      rw [cnt, if_neg h0, Nat.add_comm 1, e1, refAdd, hr1]
      simp only [Bool.false_eq_true, if_false, hr2, false_or]
      rw [if_neg (by omega), getD_mid, set_mid, low_toNat, low_add, h2, excs, exc, if_neg h0, List.length_append, List.length_cons, Num.num_length]
      congr 2
      omega
theorem refRead_block {l : List UInt64} (hl : Good l) (t : List UInt8) : refRead (block l ++ t) = some (l, (block l).length) := by
  obtain ⟨h1, h2⟩ := hl
  have hw := width_le l
  have hc := cnt_le (width l) (diffs l)
  rw [diffs_length] at hc
  have hp : (Bits.packed (width l) (lows (width l) (diffs l))).length = Bits.size l.length (width l) := by rw [Bits.packed_length, lows_length, diffs_length]
  have hu := Bits.unpack_pack hw (lows_fit (w := width l) (diffs l)) (by rw [lows_length, diffs_length]; omega)
  rw [lows_length, diffs_length] at hu
  have hbl := block_length l
  have hbs : bodySize (width l) (diffs l) = Bits.size l.length (width l) + (excs (width l) 0 (diffs l)).length := by rw [bodySize, diffs_length]
  have e0 : block l ++ t = Num.num l.length ++ (Num.num (base l) ++ (Num.num (width l) ++ (Num.num (cnt (width l) (diffs l)) ++ (Bits.packed (width l) (lows (width l) (diffs l)) ++ (excs (width l) 0 (diffs l) ++ t))))) := by
    rw [num_byte (show l.length ≤ 247 by omega), num_byte (show width l ≤ 247 by omega), num_byte (show cnt (width l) (diffs l) ≤ 247 by omega)]
    simp only [block, byW, body, List.append_assoc, List.cons_append, List.nil_append]
  generalize hb : block l ++ t = b at *
  have hlen : (block l).length ≤ b.length := by rw [← hb, List.length_append]; omega
  have d0 : b.drop 0 = Num.num l.length ++ (Num.num (base l) ++ (Num.num (width l) ++ (Num.num (cnt (width l) (diffs l)) ++ (Bits.packed (width l) (lows (width l) (diffs l)) ++ (excs (width l) 0 (diffs l) ++ t))))) := e0
  have r0 := rd_num (most := 32) (show l.length < 18446744073709551616 by omega) h2 d0
  rw [size_byte (v := l.length) (by omega), Nat.zero_add] at r0
  have d1 := drop_more d0 (Num.num_length _)
  rw [size_byte (v := l.length) (by omega), Nat.zero_add] at d1
  have r1 := rd_num (most := 18446744073709551615) (base_lt l) (by have := base_lt l; omega) d1
  have d2 := drop_more d1 (Num.num_length _)
  have r2 := rd_num (most := 64) (show width l < 18446744073709551616 by omega) hw d2
  rw [size_byte (v := width l) (by omega)] at r2
  have d3 := drop_more d2 (Num.num_length _)
  rw [size_byte (v := width l) (by omega)] at d3
  have r3 := rd_num (most := 32) (show cnt (width l) (diffs l) < 18446744073709551616 by omega) (by omega) d3
  rw [size_byte (v := cnt (width l) (diffs l)) (by omega)] at r3
  have d4 := drop_more d3 (Num.num_length _)
  rw [size_byte (v := cnt (width l) (diffs l)) (by omega)] at d4
  have d5 := drop_more d4 hp
  have ha := refAdd_excs b l.length (width l) (diffs l) [] _ t (by simp [diffs_length]) h2 d5
  rw [List.nil_append, List.nil_append, List.length_nil] at ha
  unfold refRead
  simp only [r0, r1, r2, r3, Bool.false_eq_true, if_false]
  unfold refBody
  rw [if_neg (by omega), d4, List.take_left' hp, hu]
  simp only [ne_eq, not_true, if_false]
  rw [ha, Option.map_some]
  simp only
  rw [plus_diffs]
  congr 2
  omega
/-- what the document's reader comes to -/
theorem takeBlock_ref_none {b : List UInt8} (h : refRead b = none) : takeBlock b = ([], 0, 2) := takeBlock_none fun l hl hb => by
  obtain ⟨t, rfl⟩ := hb
  rw [refRead_block hl t] at h
  cases h
theorem takeBlock_ref_some {b : List UInt8} {m : List UInt64} {at_ : Nat} (h : refRead b = some (m, at_)) (hat : at_ ≤ b.length) (hm : Good m) :
    takeBlock b = if block m = b.take at_ then (m, at_, 0) else ([], 0, 2) := by
  split
  · rename_i he
    rw [takeBlock_of hm (by rw [he]; exact List.take_prefix _ _), he, List.length_take, Nat.min_eq_left hat]
  · rename_i he
    apply takeBlock_none
    intro l hl hb
    obtain ⟨t, rfl⟩ := hb
    rw [refRead_block hl t] at h
    cases h
    exact he (by rw [List.take_left' rfl])
end Go.Proofs.YtoebeibmmclhpaaGreat.Pfor

/- The document's TakeBlock. -/
namespace Go.Proofs.YtoebeibmmclhpaaGreat
open Go.RowKit
set_option maxRecDepth 100000
theorem Rd.far {w : World} {g g' i : Nat} {A : Option Addr} {n cap at_ : Nat} {bad : Bool} (h : Rd w g A n cap at_ bad) (hne : g' ≠ g) (v : Value) : Rd (w.setCell ⟨g', i, none⟩ v) g A n cap at_ bad := by
  refine ⟨?_, ?_, ?_, ?_, ?_, by rw [heap_size_setCell]; exact h.lt⟩
  · rw [World.cell?_setCell_far _ _ _ _ hne]; exact h.b
  · rw [World.cell?_setCell_far _ _ _ _ hne]; exact h.at'
  · rw [World.cell?_setCell_far _ _ _ _ hne]; exact h.bad'
  · rw [World.frozen?_setCell]; exact h.f1
  · rw [World.frozen?_setCell]; exact h.f2
theorem Rd.drew {w : World} {g : Nat} {A : Option Addr} {n cap at_ : Nat} {bad : Bool} (h : Rd w g A n cap at_ bad) : Rd w.drew g A n cap at_ bad := ⟨h.b, h.at', h.bad', h.f1, h.f2, h.lt⟩
theorem rd_new (w : World) (A : Option Addr) (n cap : Nat) : Rd (w.alloc (.cells #[.slice A n cap, .int .i64 0, .bool false] 115)) w.heap.size A n cap 0 false := by
  refine ⟨?_, ?_, ?_, ?_, ?_, by simp⟩
  · rw [World.cell?_alloc_at _ _ _ _ rfl]; rfl
  · rw [World.cell?_alloc_at _ _ _ _ rfl]; rfl
  · rw [World.cell?_alloc_at _ _ _ _ rfl]; rfl
  · exact World.frozen?_alloc_at _ _ _ _ rfl
  · exact World.frozen?_alloc_at _ _ _ _ rfl
set_option maxHeartbeats 8000000 in
theorem refTakeBlock_any (A : Option Addr) (n cap B : Nat) (b : List UInt8) (w : World) (hl : b.length = n) (hcap : n ≤ cap) (hm : n ≤ 140737488355328) (hb : Bytes w B A b) (hB : B ≤ w.heap.size) :
    Calls Tryz.prog 63 #[.slice A n cap] w (TakesPost w (Pfor.takeBlock b)) := by
  have hb := hb.wide hB
  have hr0 := rd_new w A n cap
  have hbel0 : Below w.heap.size w (w.alloc (.cells #[.slice A n cap, .int .i64 0, .bool false] 115)) := (Below.refl _ _).alloc (Nat.le_refl _) _
  obtain ⟨g, hg⟩ : ∃ g, g = w.heap.size := ⟨_, rfl⟩
  have HC := Lib.hid (fun (most at_ : Nat) (hmost : most ≤ 64) (hat : at_ ≤ n) (wr : World) (hr : Rd wr g A n cap at_ false) (hbel : Below g w wr) => count_any g n cap at_ g most A b wr hr hl hcap hm hat (by rw [← hg] at hb; exact hb.below hbel) hmost)
  have HN := Lib.hid (fun (at_ : Nat) (hat : at_ ≤ n) (wr : World) (hr : Rd wr g A n cap at_ false) (hbel : Below g w wr) => number_any g n cap at_ g 18446744073709551615 A b wr hr hl hcap hm hat (by rw [← hg] at hb; exact hb.below hbel) (by omega))
  have HCb := Lib.hid (fun (most at_ : Nat) (hmost : most ≤ 64) (wr : World) (hr : Rd wr g A n cap at_ true) => count_bad g n cap at_ A most wr hmost hr)
  have HNb := Lib.hid (fun (at_ : Nat) (wr : World) (hr : Rd wr g A n cap at_ true) => number_bad g n cap at_ A 18446744073709551615 wr hr)
  have Hat := Lib.hid (fun (most at_ : Nat) (h : at_ ≤ n) => Pfor.rd_at most b at_ (by omega))
  have Hle := Lib.hid (fun (most at_ : Nat) => Pfor.rd_le most b at_)
  obtain ⟨R0, hR0⟩ : ∃ R0, Pfor.refRead b = R0 := ⟨_, rfl⟩
  have Hn := Lib.hid (fun (h : R0 = none) => Pfor.takeBlock_ref_none (hR0.trans h))
  have Hs := Lib.hid (fun (m : List UInt64) (at_ : Nat) (h : R0 = some (m, at_)) (hat : at_ ≤ b.length) (hm : Pfor.Good m) => Pfor.takeBlock_ref_some (hR0.trans h) hat hm)
  unfold Pfor.refRead at hR0
  have Hbad := Lib.hid hR0
  clear hR0
  have C0 := Lib.hid (HC.out 32 0 (by omega) (by omega) _ (by rw [hg]; exact hr0) (by rw [hg]; exact hbel0))
  rw [hg] at C0
  go_enter Tryz.func63, Tryz.ntmps63
  go_wp2_with fail
  refine C0.out.mono ?_
  clear C0
  rintro e w1 ⟨rfl, hr, hg1⟩
  rw [← hg] at hr hg1 hbel0
  have hbel1 : Below g w w1 := hbel0.grown hg1 (by simp [hg]) (fun k hk => by cases hk; exact Nat.le_refl _)
  have ha1 := (Hat.out 32 0 (by omega)).2
  have hv1 := Hle.out 32 0
  rw [hl] at ha1
  have hgw : g ≤ w.heap.size := by omega
  rw [← hg]
  have Hg := Lib.hid hg
  clear hg1 hbel0 hr0 hg
  obtain ⟨⟨x1, a1, bad1⟩, hR1⟩ : ∃ R, R = Pfor.rd 32 b 0 := ⟨_, rfl⟩
  rw [← hR1] at hr ha1 hv1 Hbad ⊢
  simp only at hr ha1 hv1 Hbad ⊢
  have HR1 := Lib.hid hR1; clear hR1
  cases bad1 with
  | true =>
    have Ht := Lib.hid (Hn.out (by rw [← Hbad.out]; simp))
    have D0 := Lib.hid (HNb.out a1 w1 hr)
    have D1 := Lib.hid (HCb.out 64 a1 (by omega) w1 hr)
    have D2 := Lib.hid (HCb.out 32 a1 (by omega) w1 hr)
    have hcb := hr.bad'
    clear HC HN HCb HNb Hat Hle Hbad Hn Hs
    go_wp2_with fail
    refine D0.out.mono ?_
    rintro e wx ⟨rfl, rfl⟩
    clear D0
    go_wp2_with fail
    refine D1.out.mono ?_
    rintro e wx ⟨rfl, rfl⟩
    clear D1
    go_wp2_with fail
    refine D2.out.mono ?_
    rintro e wx ⟨rfl, rfl⟩
    clear D2
    go_wp2_with fail
    go_quiet (fail)
    go_wp2
    go_ret3
    rw [Ht.out]
    exact ⟨none, 0, rfl, nown_none _ _, below_drewN (by have h := hbel1; rw [Hg.out] at h; exact h) nq⟩
  | false =>
  have C1 := Lib.hid (HN.out a1 ha1 w1 hr hbel1)
  go_wp2_with fail
  refine C1.out.mono ?_
  clear C1 hr
  rintro e w2 ⟨rfl, hr, hg2⟩
  have hbel2 : Below g w w2 := hbel1.grown hg2 (Nat.le_trans hgw hbel1.size) (fun k hk => by cases hk; exact Nat.le_refl _)
  have ha2 := (Hat.out 18446744073709551615 a1 (by omega)).2
  have hv2 := Hle.out 18446744073709551615 a1
  rw [hl] at ha2
  clear hg2
  obtain ⟨⟨x2, a2, bad2⟩, hR2⟩ : ∃ R, R = Pfor.rd 18446744073709551615 b a1 := ⟨_, rfl⟩
  rw [← hR2] at hr ha2 hv2 Hbad ⊢
  simp only [Bool.false_eq_true, if_false] at hr ha2 hv2 Hbad ⊢
  have HR2 := Lib.hid hR2; clear hR2
  cases bad2 with
  | true =>
    have Ht := Lib.hid (Hn.out (by rw [← Hbad.out]; simp))
    have D0 := Lib.hid (HCb.out 64 a2 (by omega) w2 hr)
    have D1 := Lib.hid (HCb.out 32 a2 (by omega) w2 hr)
    have hcb := hr.bad'
    clear HC HN HCb HNb Hat Hle Hbad Hn Hs
    go_wp2_with fail
    refine D0.out.mono ?_
    rintro e wx ⟨rfl, rfl⟩
    clear D0
    go_wp2_with fail
    refine D1.out.mono ?_
    rintro e wx ⟨rfl, rfl⟩
    clear D1
    go_wp2_with fail
    go_quiet (fail)
    go_wp2
    go_ret3
    rw [Ht.out]
    exact ⟨none, 0, rfl, nown_none _ _, below_drewN (by have h := hbel2; rw [Hg.out] at h; exact h) nq⟩
  | false =>
  have C2 := Lib.hid (HC.out 64 a2 (by omega) ha2 w2 hr hbel2)
  go_wp2_with fail
  refine C2.out.mono ?_
  clear C2 hr
  rintro e w3 ⟨rfl, hr, hg3⟩
  have hbel3 : Below g w w3 := hbel2.grown hg3 (Nat.le_trans hgw hbel2.size) (fun k hk => by cases hk; exact Nat.le_refl _)
  have ha3 := (Hat.out 64 a2 (by omega)).2
  have hv3 := Hle.out 64 a2
  rw [hl] at ha3
  clear hg3
  obtain ⟨⟨x3, a3, bad3⟩, hR3⟩ : ∃ R, R = Pfor.rd 64 b a2 := ⟨_, rfl⟩
  rw [← hR3] at hr ha3 hv3 Hbad ⊢
  simp only [Bool.false_eq_true, if_false] at hr ha3 hv3 Hbad ⊢
  have HR3 := Lib.hid hR3; clear hR3
  cases bad3 with
  | true =>
    have Ht := Lib.hid (Hn.out (by rw [← Hbad.out]; simp))
    have D0 := Lib.hid (HCb.out 32 a3 (by omega) w3 hr)
    have hcb := hr.bad'
    clear HC HN HCb HNb Hat Hle Hbad Hn Hs
    go_wp2_with fail
    refine D0.out.mono ?_
    rintro e wx ⟨rfl, rfl⟩
    clear D0
    go_wp2_with fail
    go_quiet (fail)
    go_wp2
    go_ret3
    rw [Ht.out]
    exact ⟨none, 0, rfl, nown_none _ _, below_drewN (by have h := hbel3; rw [Hg.out] at h; exact h) nq⟩
  | false =>
  have C3 := Lib.hid (HC.out 32 a3 (by omega) ha3 w3 hr hbel3)
  go_wp2_with fail
  refine C3.out.mono ?_
  clear C3 hr
  rintro e w4 ⟨rfl, hr, hg4⟩
  have hbel4 : Below g w w4 := hbel3.grown hg4 (Nat.le_trans hgw hbel3.size) (fun k hk => by cases hk; exact Nat.le_refl _)
  have ha4 := (Hat.out 32 a3 (by omega)).2
  have hv4 := Hle.out 32 a3
  rw [hl] at ha4
  clear hg4
  obtain ⟨⟨x4, a4, bad4⟩, hR4⟩ : ∃ R, R = Pfor.rd 32 b a3 := ⟨_, rfl⟩
  rw [← hR4] at hr ha4 hv4 Hbad ⊢
  simp only [Bool.false_eq_true, if_false] at hr ha4 hv4 Hbad ⊢
  have HR4 := Lib.hid hR4; clear hR4
  cases bad4 with
  | true =>
    have Ht := Lib.hid (Hn.out (by rw [← Hbad.out]; simp))
    have hcb := hr.bad'
    clear HC HN HCb HNb Hat Hle Hbad Hn Hs
    go_wp2_with fail
    go_quiet (fail)
    go_wp2
    go_ret3
    rw [Ht.out]
    exact ⟨none, 0, rfl, nown_none _ _, below_drewN (by have h := hbel4; rw [Hg.out] at h; exact h) nq⟩
  | false =>
  simp only [Bool.false_eq_true, if_false] at Hbad
  have hcb := hr.bad'
  have hca := hr.at'
  have hpv : x1 * x3 ≤ 32 * 64 := Nat.mul_le_mul hv1 hv3
  have HS := Lib.hid (fun w' => refSize_any x1 x3 w' (by omega))
  have hS : Bits.size x1 x3 ≤ 256 := by unfold Bits.size; omega
  unfold Pfor.refBody at Hbad
  by_cases hz : x1 = 0
  · have Ht := Lib.hid (Hn.out (by rw [← Hbad.out, if_pos (.inl hz)]))
    subst hz
    clear HC HN HCb HNb Hat Hle Hbad HS Hn Hs
    go_wp2_with fail
    go_quiet (fail)
    go_wp2
    go_ret3
    rw [Ht.out]
    exact ⟨none, 0, rfl, nown_none _ _, below_drewN (by have h := hbel4; rw [Hg.out] at h; exact h) nq⟩
  have hz' : ¬ ((x1 : Int) = 0) := by omega
  have hsub : IntKind.i64.wrap ((n : Int) - (a4 : Int)) = (n : Int) - (a4 : Int) := by rw [IntKind.wrap_i64]; omega
  by_cases hfit : n < a4 + Bits.size x1 x3
  · have Ht := Lib.hid (Hn.out (by rw [← Hbad.out, if_pos (.inr (by rw [hl]; exact hfit))]))
    have hf' : (n : Int) - (a4 : Int) < (Bits.size x1 x3 : Int) := by omega
    clear HC HN HCb HNb Hat Hle Hbad hfit Hn Hs
    generalize Bits.size x1 x3 = S at *
    go_wp2_with fail
    go_quiet ((go_at_call 95; exact quiet_left (HS.out _)))
    go_wp2
    go_ret3
    rw [Ht.out]
    exact ⟨none, 0, rfl, nown_none _ _, below_drewN (by have h := hbel4; rw [Hg.out] at h; exact h) nq⟩
  generalize Bits.size x1 x3 = S at *
  rw [if_neg (by rw [hl]; omega)] at Hbad
  have hf' : ¬ ((n : Int) - (a4 : Int) < (S : Int)) := by omega
  have hzb : ((x1 : Int) == 0) = false := by rw [beq_eq_false_iff_ne]; exact hz'
  have Hx1 : Hid (1 ≤ x1) := Lib.hid (by omega)
  have hsl := run_cut_lh A n cap a4 (a4 + S) (by omega) (by omega)
  rw [show a4 + S - a4 = S from by omega, show ((a4 + S : Nat) : Int) = (a4 : Int) + (S : Int) from by omega] at hsl
  have htl : ((b.drop a4).take (S)).length = S := by rw [List.length_take, List.length_drop, hl]; omega
  have HU := Lib.hid (fun (w' : World) (hbel : Below g w w') => refUnpack_any (cutAt A cap a4) (S) (cap - a4) g (x1 : Int) (x3 : Int) ((b.drop a4).take (S)) w' htl
    ((((by rw [← Hg.out] at hb; exact hb.below hbel : Bytes w' g A b)).cut (k := a4) (cap := cap) (by omega) (by omega)).take _) (Nat.le_trans hgw hbel.size) (by omega))
  have hgS : a4 + S ≤ n := by omega
  have hbb : Hid (Bytes w g A b) := Lib.hid (by rw [← Hg.out] at hb; exact hb)
  clear hpv hfit hz hb htl
  go_wp2_with fail
  go_quiet ((go_at_call 95; exact quiet_left (HS.out _)))
  obtain ⟨w5, hw5, hr5, hbel5⟩ : ∃ w5, w5 = w4.drewN nq ∧ Rd w5 g A n cap a4 false ∧ Below g w w5 := ⟨_, rfl, ⟨hr.b, hr.at', hr.bad', hr.f1, hr.f2, hr.lt⟩, below_drewN hbel4 nq⟩
  rw [← hw5]
  clear hw5 hcb hca hr hbel4 hsub
  have hca := hr5.at'
  have hsum : IntKind.i64.wrap ((a4 : Int) + (S : Int)) = (a4 : Int) + (S : Int) := by rw [IntKind.wrap_i64]; omega
  go_wp2_with fail
  go_quiet ((go_at_call 95; exact quiet_left (HS.out _)))
  obtain ⟨w6, hw6, hr6, hbel6⟩ : ∃ w6, w6 = w5.drewN nq ∧ Rd w6 g A n cap a4 false ∧ Below g w w6 := ⟨_, rfl, ⟨hr5.b, hr5.at', hr5.bad', hr5.f1, hr5.f2, hr5.lt⟩, below_drewN hbel5 nq⟩
  rw [← hw6]
  clear hw6 hca hr5 hbel5 hsum HS
  have hca := hr6.at'
  have CU := HU.out w6 hbel6
  unfold UnpackPost at CU
  rcases Bits.unpack_cases ((b.drop a4).take (S)) (x1 : Int) (x3 : Int) with ⟨L0, hu⟩ | ⟨e, hu, he⟩
  · obtain ⟨hV64, hL0⟩ := Bits.unpack_le64 hu
    rw [Int.toNat_natCast] at hL0
    rw [hu] at CU Hbad
    simp only [ne_eq, not_true, if_false, hL0] at CU Hbad
    replace CU := Lib.hid CU
    clear HU hu hV64 hL0
    generalize cutAt A cap a4 = A5 at *
    go_wp2_with fail
    refine CU.out.mono ?_
    rintro e w7 ⟨A7, c7, rfl, ho7, hb7⟩
    clear CU hca
    have hx1 := Hx1.out
    obtain ⟨g7, rfl, _⟩ := ho7.at_ (by omega)
    have hr7 := hr6.below hb7
    have hbel7 := hbel6.trans (hb7.mono (Nat.le_trans hgw hbel6.size))
    have ho7' := ho7.low (b' := g + 1) hr6.lt
    have hr8 := hr7.setAt (a4 + S)
    rw [show ((a4 + S : Nat) : Int) = (a4 : Int) + (S : Int) from by omega] at hr8
    have hgr8 := Lib.grownBy_setCell w7 g 1 (.int .i64 ((a4 : Int) + (S : Int)))
    have hg7 : g7 ≠ g := by have := ho7'.block.1; omega
    have ho8 := ho7'.kept hgr8 (.inr (fun h => hg7 (by simpa [blk] using h)))
    have hbel8 : Below g w (w7.setCell ⟨g, 1, none⟩ (.int .i64 ((a4 : Int) + (S : Int)))) := hbel7.setCell (p := ⟨g, 1, none⟩) (Nat.le_refl _) _
    have d1 := hr7.at'
    have d2 := hr7.f1
    have Hr8 := Lib.hid hr8
    have Ho8 := Lib.hid ho8
    have Hb8 := Lib.hid hbel8
    clear hr8 ho8 hbel8 hgr8 ho7 ho7' hr7 hr6 hbel6 hb7 hbel7
    obtain ⟨R, hR⟩ : ∃ R, Pfor.refAdd b x1 x3 x4 L0 (a4 + S) = R := ⟨_, rfl⟩
    rw [hR] at Hbad
    have HR := Lib.hid hR; clear hR
    go_wp2
    go_loopw [9] (fun k wr => ∃ (j at_ : Nat) (ds : List UInt64), k = .int .i64 j ∧ j ≤ 32 ∧ at_ ≤ n ∧ Pfor.refAdd b x1 x3 j ds at_ = R ∧ NOwn wr (g + 1) (some ⟨g7, 0, none⟩) x1 c7 ds ∧ Rd wr g A n cap at_ false ∧ Below g w wr) (fun k _ => (intOf k).toNat)
    case atStart => exact ⟨x4, a4 + S, L0, rfl, hv4, hgS, HR.out, Ho8.out, Hr8.out, Hb8.out⟩
    case round =>
      clear d1 d2 Hr8 Ho8 Hb8 HR hsl
      obtain ⟨j, at_, ds, rfl, hj, hat, hRj, ho, hr, hbel⟩ := hrel
      have hdl := ho.len
      have hgwr : g ≤ wr.heap.size := Nat.le_trans hgw hbel.size
      by_cases hj0 : j = 0
      · subst hj0
        rw [Pfor.refAdd] at hRj
        have hR0 := Hbad.out
        rw [← hRj, Option.map_some] at hR0
        simp only at hR0
        have hpl : (Pfor.plus x2 ds).length = x1 := by rw [Pfor.plus_length, hdl]
        have hgood : Pfor.Good (Pfor.plus x2 ds) := by unfold Pfor.Good; rw [hpl]; exact ⟨hx1, hv1⟩
        have hT := Hs.out _ _ hR0.symm (by rw [hl]; exact hat) hgood
        have HT := Lib.hid hT
        have Hdl := Lib.hid hdl
        have Hpl := Lib.hid hpl
        have Hgood := Lib.hid hgood
        clear hT hR0 hRj hgood hdl hpl HC HN HCb HNb Hat Hle Hbad Hn Hs
        go_wp2
        go_loopw [15] (fun i wr => ∃ (k : Nat), k ≤ x1 ∧ i = .int .i64 k ∧ NOwn wr (g + 1) (some ⟨g7, 0, none⟩) x1 c7 ((Pfor.plus x2 ds).take k ++ ds.drop k) ∧ Rd wr g A n cap at_ false ∧ Below g w wr) (fun i _ => x1 - (intOf i).toNat)
        case atStart => exact ⟨0, by omega, rfl, by simpa using ho, hr, hbel⟩
        case round =>
          clear ho hr hbel hgwr
          obtain ⟨k, hk, rfl, ho, hr, hbel⟩ := hrel
          have hgwr : g ≤ wr.heap.size := Nat.le_trans hgw hbel.size
          by_cases hlt : k < x1
          · have hk' : k < ds.length := by have := Hdl.out; omega
            obtain ⟨hg1, hg2⟩ := turn_get Hdl.out Hpl.out hlt
            have hold := ho.cell hg1
            rw [hg2] at hold
            simp only [uval] at hold
            have hfree := ho.free k
            have hst := ho.store k ((Pfor.plus x2 ds)[k]'(by rw [Hpl.out]; exact hlt))
            rw [turn_set Hdl.out Hpl.out hlt, plus_get hk'] at hst
            obtain ⟨q, hq, hq0, hq1⟩ : ∃ q : Int, q = (ds[k].toNat : Int) ∧ 0 ≤ q ∧ q ≤ 18446744073709551615 := ⟨_, rfl, by omega, by have := Bits.u64_lt ds[k]; omega⟩
            rw [wrap_add hq rfl] at hst
            rw [← hq] at hold
            have Hst := Lib.hid hst
            have Hbl := Lib.hid (hbel.setCell (p := ⟨g7, k, none⟩) (show g ≤ g7 by have := ho.block.1; omega) (.int .u64 (IntKind.u64.wrap (q + (x2 : Int)))))
            have Hrl := Lib.hid (hr.far (i := k) hg7 (.int .u64 (IntKind.u64.wrap (q + (x2 : Int)))))
            clear hst hq hg1 hg2 ho hr hbel
            go_wp2
            go_roundw
            case rel => exact ⟨k + 1, by omega, by go_num, Hst.out, Hrl.out, Hbl.out⟩
            case measure => simp [intOf]; omega
          · obtain rfl : k = x1 := by omega
            rw [List.take_of_length_le (by rw [Hpl.out]; exact Nat.le_refl _), List.drop_of_length_le (by rw [Hdl.out]; exact Nat.le_refl _), List.append_nil] at ho
            generalize Pfor.plus x2 ds = M at *
            have hca := hr.at'
            have HBk := Lib.hid (fun (w' : World) (hrow : Nums w' w'.heap.size (some ⟨g7, 0, none⟩) M) => refBlock_any (some ⟨g7, 0, none⟩) k c7 _ M w' Hpl.out hx1 hv1 hrow (Nat.le_refl _))
            have hslh := run_cut_h A n cap at_ (by omega)
            have hab := hbb.out.below hbel
            have hats : (b.take at_).length = at_ := by rw [List.length_take, hl]; omega
            have HSm := Lib.hid (fun (g9 c9 : Nat) (w' : World) (h1 : Bytes w' w'.heap.size (some ⟨g9, 0, none⟩) (Pfor.block M)) (h2 : Bytes w' g A b) => same_any (some ⟨g9, 0, none⟩) A (Pfor.block M).length at_ c9 cap _ _ (Pfor.block M) (b.take at_) w' rfl hats h1 (h2.take at_))
            have hrow := ho.row
            clear hats
            go_wp2_with fail
            go_region_held3 (fun w' => w'.cell? ⟨g, 1, none⟩ = some (.int .i64 (at_ : Int))) (first | exact hca | exact (hr.below (below_of_drew hb9)).at') (first | (go_at_call 55; refine (HBk.out _ (by exact hrow)).mono ?_; rintro e w9 ⟨g9, c9, rfl, ho9, hb9⟩) | (go_at_call 11; refine (HSm.out g9 c9 _ (by exact ho9.bytes) (by exact hab.below ((below_of_drew hb9).mono hgwr))).mono ?_; rintro e w10 ⟨rfl, rfl⟩))
            have hbel9 := below_of_drew hb9
            have hr9 := hr.below hbel9
            have ho10 := ho.below hbel9
            have hb10 := hbel.trans (hbel9.mono hgwr)
            clear hca hslh hab hrow HBk HSm ho9 hb9 hr ho hbel
            by_cases he : Pfor.block M = b.take at_
            · have hbeq : (Pfor.block M == b.take at_) = true := by rw [he]; exact beq_self_eq_true _
              have hT := HT.out
              rw [if_pos he] at hT
              have Ht := Lib.hid hT
              rw [hbeq]
              have hca := hr9.at'
              clear hT HT he hbeq
              go_wp2_with fail
              go_quiet (fail)
              go_wp2
              go_ret3
              rw [Ht.out]
              refine ⟨some ⟨g7, 0, none⟩, c7, ?_, ?_, ?_⟩
              · rw [Hpl.out]; rfl
              · rw [Hpl.out, ← Hg.out]; exact ho10.low (b' := g) (by omega)
              · rw [← Hg.out]; exact below_drewN hb10 nq
            · have hbeq : (Pfor.block M == b.take at_) = false := by rw [beq_eq_false_iff_ne]; exact he
              have hT := HT.out
              rw [if_neg he] at hT
              have Ht := Lib.hid hT
              rw [hbeq]
              clear hT HT he hbeq
              go_wp2
              go_ret3
              rw [Ht.out]
              exact ⟨none, 0, rfl, nown_none _ _, by rw [← Hg.out]; exact hb10⟩
      · obtain ⟨i, rfl⟩ : ∃ i, j = i + 1 := ⟨j - 1, by omega⟩
        rw [Pfor.refAdd] at hRj
        have hne : ∀ c : Nat, blk (some (⟨g7, 0, none⟩ : Addr)) ≠ some g := fun _ h => hg7 (by simpa [blk] using h)
        have C1 := Lib.hid (HC.out 31 at_ (by omega) hat wr hr hbel)
        clear hr
        go_wp2_with fail
        refine C1.out.mono ?_
        clear C1
        rintro e w1' ⟨rfl, hr, hg1⟩
        have ho1 := ho.kept hg1 (.inr (hne 0))
        have hbel1' : Below g w w1' := hbel.grown hg1 hgwr (fun k hk => by cases hk; exact Nat.le_refl _)
        have hai := (Hat.out 31 at_ hat).2
        rw [hl] at hai
        have hvi := Hle.out 31 at_
        clear hg1 ho
        obtain ⟨⟨i0, ai, badi⟩, hRi⟩ : ∃ R, R = Pfor.rd 31 b at_ := ⟨_, rfl⟩
        rw [← hRi] at hr hai hvi hRj ⊢
        simp only at hr hai hvi hRj ⊢
        clear hRi
        cases badi with
        | true =>
          have Ht := Lib.hid (Hn.out (by rw [← Hbad.out, ← hRj]; simp))
          have D1 := Lib.hid (HNb.out ai w1' hr)
          have hcb := hr.bad'
          clear HC HN HCb HNb Hat Hle Hbad Hn Hs hRj
          go_wp2_with fail
          refine D1.out.mono ?_
          rintro e wx ⟨rfl, rfl⟩
          clear D1
          rw [Hg.out] at hbel1'
          go_wp2
          go_ret3
          rw [Ht.out]
          exact ⟨none, 0, rfl, nown_none _ _, hbel1'⟩
        | false =>
          simp only [Bool.false_eq_true, if_false] at hRj
          have C2 := Lib.hid (HN.out ai hai w1' hr hbel1')
          clear hr
          go_wp2_with fail
          refine C2.out.mono ?_
          clear C2
          rintro e w2' ⟨rfl, hr, hg2⟩
          have ho2 := ho1.kept hg2 (.inr (hne 0))
          have hbel2' : Below g w w2' := hbel1'.grown hg2 (Nat.le_trans hgw hbel1'.size) (fun k hk => by cases hk; exact Nat.le_refl _)
          have hay := (Hat.out 18446744073709551615 ai hai).2
          rw [hl] at hay
          have hvy := Hle.out 18446744073709551615 ai
          clear hg2 ho1
          obtain ⟨⟨y, ay, bady⟩, hRy⟩ : ∃ R, R = Pfor.rd 18446744073709551615 b ai := ⟨_, rfl⟩
          rw [← hRy] at hr hay hvy hRj ⊢
          simp only at hr hay hvy hRj ⊢
          clear hRy
          have hcb := hr.bad'
          cases bady with
          | true =>
            have Ht := Lib.hid (Hn.out (by rw [← Hbad.out, ← hRj]; simp))
            clear HC HN HCb HNb Hat Hle Hbad Hn Hs hRj
            rw [Hg.out] at hbel2'
            go_wp2
            go_ret3
            rw [Ht.out]
            exact ⟨none, 0, rfl, nown_none _ _, hbel2'⟩
          | false =>
            simp only [Bool.false_eq_true, false_or] at hRj
            by_cases hi : x1 ≤ i0
            · rw [if_pos (.inl hi)] at hRj
              have Ht := Lib.hid (Hn.out (by rw [← Hbad.out, ← hRj]; simp))
              have hi' : (x1 : Int) ≤ (i0 : Int) := by omega
              clear HC HN HCb HNb Hat Hle Hbad Hn Hs hRj
              rw [Hg.out] at hbel2'
              go_wp2
              go_ret3
              rw [Ht.out]
              exact ⟨none, 0, rfl, nown_none _ _, hbel2'⟩
            · have hi' : ¬ ((x1 : Int) ≤ (i0 : Int)) := by omega
              by_cases h64 : x3 = 64
              · rw [if_pos (.inr h64)] at hRj
                have Ht := Lib.hid (Hn.out (by rw [← Hbad.out, ← hRj]; simp))
                have h64' : (x3 : Int) = 64 := by omega
                clear HC HN HCb HNb Hat Hle Hbad Hn Hs hRj h64
                rw [Hg.out] at hbel2'
                go_wp2
                go_ret3
                rw [Ht.out]
                exact ⟨none, 0, rfl, nown_none _ _, hbel2'⟩
              · rw [if_neg (by omega)] at hRj
                have h64' : ¬ ((x3 : Int) = 64) := by omega
                have hi0 : i0 < ds.length := by omega
                have hcd := ho2.cell hi0
                simp only [uval] at hcd
                have hfree := ho2.free i0
                have hgd : (ds.getD i0 0).toNat = ds[i0].toNat := by simp [List.getD_eq_getElem?_getD, List.getElem?_eq_getElem hi0]
                rw [hgd] at hRj
                have hd64 := Bits.u64_lt ds[i0]
                generalize ds[i0].toNat = dn at *
                have hst := ho2.store i0 (UInt64.ofNat (dn + y * 2 ^ x3 % 18446744073709551616))
                obtain ⟨p, hp⟩ : ∃ p : Int, p = (dn : Int) := ⟨_, rfl⟩
                obtain ⟨z, hz, hz0, hz1⟩ : ∃ z : Int, z = (y : Int) ∧ 0 ≤ z ∧ z ≤ 18446744073709551615 := ⟨_, rfl, by omega, by omega⟩
                rw [wrap_add hp (show IntKind.u64.wrap (z * 2 ^ x3) = _ from by rw [hz]; exact wrap_shl y x3)] at hst
                rw [← hp] at hcd
                rw [← hz]
                have Hst := Lib.hid hst
                have HRj := Lib.hid hRj
                have Hbl := Lib.hid (hbel2'.setCell (p := ⟨g7, i0, none⟩) (show g ≤ g7 by have := ho2.block.1; omega) (.int .u64 (IntKind.u64.wrap (p + IntKind.u64.wrap (z * 2 ^ x3)))))
                have Hrl := Lib.hid (hr.far (i := i0) hg7 (.int .u64 (IntKind.u64.wrap (p + IntKind.u64.wrap (z * 2 ^ x3)))))
                have hi1 : i0 < x1 := by omega
                clear hst hRj hp hz hgd ho2 hi hi0 hd64 h64
                go_wp2_with fail
                go_region
                go_wp2
                go_roundw
                case rel => exact ⟨i, ay, _, by go_num, by omega, hay, HRj.out, Hst.out, Hrl.out.drew, Hbl.out.drew⟩
                case measure => simp [intOf]
  · have Ht := Lib.hid (Hn.out (by rw [← Hbad.out, hu, if_pos (by simpa using he)]))
    rw [hu] at CU
    simp only [List.length_nil] at CU
    have he' : ¬ ((e : Int) = 0) := by omega
    replace CU := Lib.hid CU
    clear HC HN HCb HNb Hat Hle Hbad Hn Hs HU hu he
    generalize cutAt A cap a4 = A5 at *
    go_wp2_with fail
    refine CU.out.mono ?_
    rintro e' w7 ⟨A7, c7, rfl, ho7, hb7⟩
    clear CU
    have hbel7 := hbel6.trans (hb7.mono (Nat.le_trans hgw hbel6.size))
    rw [Hg.out] at hbel7
    go_wp2
    go_ret3
    rw [Ht.out]
    exact ⟨none, 0, rfl, nown_none _ _, hbel7⟩
end Go.Proofs.YtoebeibmmclhpaaGreat

/- The document's List and TakeList. -/
namespace Go.Proofs.YtoebeibmmclhpaaGreat
open Go.RowKit
set_option maxRecDepth 100000
theorem run_nums_lh (A : Option Addr) (n cap lo hi m : Nat) (h1 : hi = lo + m) (h2 : hi ≤ cap) (W : World) :
    (Instr.slice 45 (.slice A n cap) (some (.int .i64 (lo : Int))) (some (.int .i64 (hi : Int))) none).run Tryz.prog W = .ok (.slice (cutAt A cap lo) m (cap - lo)) W := by
  rw [run_slice_lh (P := Tryz.prog) (w := W) (kl := .i64) (kh := .i64) (l := (lo : Int)) (h := (hi : Int)) (h0 := by omega) (h1 := by omega) (h2 := by omega) (ht := by rw [elem23]; exact Tryz.underlying45)]
  rw [elem23, size64, show m = hi - lo from by omega]
  simp [Result.andThen, sliced, cutAt]
set_option maxHeartbeats 2000000 in
theorem refList_any (A : Option Addr) (n cap B : Nat) (l : List UInt64) (w : World) (hl : l.length = n) (hn : n ≤ 1000000) (hcap : n ≤ cap) (hb : Nums w B A l) (hB : B ≤ w.heap.size) :
    Calls Tryz.prog 28 #[.slice A n cap] w (MadeIn w.heap.size w (Pfor.list l).length (Pfor.list l)) := by
  have hb := hb.wide hB
  have H0 := Lib.hid (refBytes_any n w (by omega))
  have hs9 := Num.size_le9 (show n < 18446744073709551616 by omega)
  have hs1 := Num.size_pos n
  have hL : Num.num n ++ Pfor.blocks (l.drop 0) = Pfor.list l := by rw [Pfor.list, hl, List.drop_zero]
  have hll := Pfor.list_length_le l (by omega)
  have hnl : (Num.num n).length = Num.size n := Num.num_length _
  have Hl := Lib.hid hl
  have HL := Lib.hid hL
  have Hnl := Lib.hid hnl
  have hTl : (Pfor.list l).length ≤ 268000009 := by omega
  have hT1 : 0 < (Pfor.list l).length := by rw [← hL, List.length_append, hnl]; omega
  clear hl hL hll hnl
  generalize Pfor.list l = T at *
  generalize Num.num n = N0 at *
  generalize Num.size n = s at *
  go_enter Tryz.func28, Tryz.ntmps28
  go_wp2_with fail
  refine H0.out.mono ?_
  rintro e w1 ⟨g1, k1, rfl, ho1, hb1⟩
  clear H0
  go_wp2
  go_loopw [3, 4] (fun q i wr => ∃ (j c k : Nat) (A2 : Option Addr) (O : List UInt8), j < n + 32 ∧ i = .int .i64 j ∧ q = .slice A2 k c ∧ k ≤ T.length ∧ Own wr w.heap.size A2 k c O ∧ O ++ Pfor.blocks (l.drop j) = T ∧ Below w.heap.size w wr) (fun _ i _ => n - (intOf i).toNat)
  case atStart => exact ⟨0, k1, s, _, N0, by omega, rfl, rfl, by have h := congrArg List.length HL.out; rw [List.length_append, Hnl.out] at h; omega, ho1, HL.out, hb1⟩
  case round =>
    clear ho1 hb1
    obtain ⟨j, c, k, A2, O, hj, rfl, rfl, hk, ho, hT, hbr⟩ := hrel
    have hszr := hbr.size
    have hbx := hb.below hbr
    by_cases hlt : j < n
    · have hrl : (l.drop j).length = n - j := by rw [List.length_drop, Hl.out]
      have hne : l.drop j ≠ [] := fun h => by rw [h] at hrl; simp at hrl; omega
      obtain ⟨x, hx⟩ : ∃ x, x = min (n - j) 32 := ⟨_, rfl⟩
      have hxl : ((l.drop j).take x).length = x := by rw [List.length_take, hrl]; omega
      have htk : (l.drop j).take x = (l.drop j).take 32 := by
        rcases Nat.lt_or_ge (n - j) 32 with h | h
        · rw [List.take_of_length_le (by omega), List.take_of_length_le (by omega)]
        · rw [show x = 32 from by omega]
      have hrow := (hbx.drop (k := j) (cap := cap) (by rw [Hl.out]; omega) (by rw [Hl.out]; exact hcap)).take x
      have HB := Lib.hid (refBlock_any (cutAt A cap j) x (cap - j) w.heap.size ((l.drop j).take x) wr hxl (by omega) (by omega) hrow hszr)
      rw [Pfor.blocks_cons hne, ← htk, List.drop_drop, ← List.append_assoc] at hT
      have hOK : O.length + (Pfor.block ((l.drop j).take x)).length ≤ T.length := by rw [← hT]; simp only [List.length_append]; omega
      have hOl := ho.len
      generalize hKK : Pfor.block ((l.drop j).take x) = K at *
      clear hKK htk hxl hrow
      have hsl := run_nums_lh A n cap j (j + x) x rfl (by omega)
      rw [show ((j + x : Nat) : Int) = (j : Int) + (x : Int) from by omega] at hsl
      generalize cutAt A cap j = A3 at *
      have HT := Lib.hid hT
      clear hT hne hrl
      by_cases h32 : j + 32 < n
      · obtain rfl : x = 32 := by omega
        have h32' : (j : Int) + 32 < (n : Int) := by omega
        rw [show ((32 : Nat) : Int) = 32 from rfl] at hsl
        clear hx
        go_wp2_with fail
        refine HB.out.mono ?_
        rintro e w2 ⟨g2, k2, rfl, ho2, hb2⟩
        clear HB hsl
        have ho' := ho.below hb2
        have hb2' := hbr.trans (hb2.mono hszr)
        have hsz2 := hb2'.size
        have h2b := ho2.bytes
        go_wp2_with (at_builtin; refine wpList_append_bytes rfl (.tmp 15) (.tmp 24) rfl w.heap.size A2 k c O rfl ho' _ _ _ k2 K rfl rfl h2b (by omega) hsz2 ?_; intro A5 c5 w5 ho5 hg5 hat5)
        have hb5 := hb2'.grown hg5 hsz2 (fun k hk => (ho'.lt hk).1)
        clear hat5
        go_roundw
        case rel => exact ⟨j + 32, c5, k + K.length, A5, O ++ K, by omega, by go_num, rfl, by omega, ho5, HT.out, hb5⟩
        case measure => simp [intOf]; omega
      · have h32' : ¬ ((j : Int) + 32 < (n : Int)) := by omega
        have hjx : (j : Int) + (x : Int) = (n : Int) := by omega
        rw [hjx] at hsl
        clear hx hjx
        go_wp2_with fail
        refine HB.out.mono ?_
        rintro e w2 ⟨g2, k2, rfl, ho2, hb2⟩
        clear HB hsl
        have ho' := ho.below hb2
        have hb2' := hbr.trans (hb2.mono hszr)
        have hsz2 := hb2'.size
        have h2b := ho2.bytes
        go_wp2_with (at_builtin; refine wpList_append_bytes rfl (.tmp 15) (.tmp 24) rfl w.heap.size A2 k c O rfl ho' _ _ _ k2 K rfl rfl h2b (by omega) hsz2 ?_; intro A5 c5 w5 ho5 hg5 hat5)
        have hb5 := hb2'.grown hg5 hsz2 (fun k hk => (ho'.lt hk).1)
        clear hat5
        go_roundw
        case rel => exact ⟨j + 32, c5, k + K.length, A5, O ++ K, by omega, by go_num, rfl, by omega, ho5, HT.out, hb5⟩
        case measure => simp [intOf]; omega
    · rw [List.drop_of_length_le (by rw [Hl.out]; omega), Pfor.blocks_nil, List.append_nil] at hT
      go_wp2
      go_ret
      subst hT
      have hlen := ho.len
      obtain ⟨g9, rfl, _⟩ := ho.at_ (by omega)
      rw [hlen]
      exact ⟨g9, c, rfl, ho, hbr⟩
set_option maxHeartbeats 2000000 in
theorem refTakeList_any (A : Option Addr) (n cap B : Nat) (b : List UInt8) (z : Int) (w : World) (hl : b.length = n) (hcap : n ≤ cap) (hm : n ≤ 10000) (hb : Bytes w B A b) (hB : B ≤ w.heap.size) (hz1 : z ≤ 9223372036854775807) :
    Calls Tryz.prog 34 #[.slice A n cap, .int .i64 z] w (TakesPost w (Pfor.takeList b z)) := by
  have hb := hb.wide hB
  unfold Pfor.takeList
  by_cases hz : z < 0
  · rw [if_pos hz]
    go_enter Tryz.func34, Tryz.ntmps34
    go_wp2
    go_ret3
    exact ⟨none, 0, rfl, nown_none _ _, Below.refl _ _⟩
  rw [if_neg hz]
  have HT := refTake_any A n cap w.heap.size b w hl (by omega) hb
  unfold RefTakePost at HT
  rcases Num.take_cases b with ⟨v, s, ht⟩ | ⟨e, ht, he⟩
  · obtain ⟨hq1, hq2, hsl, hv⟩ := Num.num_take ht
    clear hq1 hq2
    rw [hl] at hsl
    simp only [ht, ne_eq, not_true, if_false] at HT ⊢
    obtain ⟨V, hV, hV0, hV1⟩ : ∃ V : Int, V = (v : Int) ∧ 0 ≤ V ∧ V ≤ 18446744073709551615 := ⟨_, rfl, by omega, by omega⟩
    rw [← hV] at HT
    replace HT := Lib.hid HT
    by_cases hzv : z < V
    · rw [if_pos (by rw [← hV]; exact hzv)]
      clear hV ht
      go_enter Tryz.func34, Tryz.ntmps34
      go_wp2_with fail
      refine HT.out.mono ?_
      rintro e w1 ⟨rfl, hb1⟩
      clear HT
      go_wp2
      go_ret3
      exact ⟨none, 0, rfl, nown_none _ _, hb1⟩
    · rw [if_neg (by rw [← hV]; exact hzv)]
      obtain ⟨R, hR⟩ : ∃ R, Pfor.takeBlocks b v [] s = R := ⟨_, rfl⟩
      rw [hR]
      have HR := Lib.hid hR
      have HV := Lib.hid hV
      clear hV ht hR
      go_enter Tryz.func34, Tryz.ntmps34
      go_wp2_with fail
      refine HT.out.mono ?_
      rintro e w1 ⟨rfl, hb1⟩
      clear HT
      go_wp2
      go_loopw [8, 10] (fun q p wr => ∃ (at_ m k c : Nat) (A2 : Option Addr) (acc : List UInt64), q = .int .i64 at_ ∧ p = .slice A2 k c ∧ NOwn wr w.heap.size A2 k c acc ∧ at_ ≤ n ∧ k + m = v ∧ k ≤ 32 * at_ ∧ Pfor.takeBlocks b m acc at_ = R ∧ Below w.heap.size w wr) (fun _ p _ => v - (match p with | .slice _ k _ => k | _ => 0))
      case atStart => exact ⟨s, v, 0, 0, none, [], rfl, rfl, nown_none _ _, hsl, by omega, by omega, HR.out, hb1⟩
      case round =>
        clear hb1 HR
        obtain ⟨at_, m, k, c, A2, acc, rfl, rfl, ho, hat, hkm, hk32, hRm, hbr⟩ := hrel
        have hszr := hbr.size
        have hVv := HV.out
        by_cases hm0 : m = 0
        · subst hm0
          rw [Pfor.takeBlocks_zero] at hRm
          have hstop : ¬ ((k : Int) < V) := by omega
          clear hVv
          go_wp2
          go_ret3
          subst hRm
          have hlen := ho.len
          exact ⟨A2, c, by simp only [hlen]; rfl, by simp only [hlen]; exact ho, hbr⟩
        · have hgo : (k : Int) < V := by omega
          obtain ⟨x, hx⟩ : ∃ x, x = min m 32 := ⟨_, rfl⟩
          rw [Pfor.takeBlocks_pos b (by omega), ← hx] at hRm
          have hHT := refTakeBlock_any (cutAt A cap at_) (n - at_) (cap - at_) w.heap.size (b.drop at_) wr (by rw [List.length_drop, hl]) (by omega) (by omega) ((hb.below hbr).cut (k := at_) (cap := cap) (by omega) (by omega)) hszr
          unfold TakesPost at hHT
          have hslc := run_cut_from A n cap at_ (n - at_) (by omega)
          generalize cutAt A cap at_ = A1 at *
          rcases Pfor.takeBlock_cases (b.drop at_) with ⟨L, hg, hpre, ht⟩ | ht
          · rw [ht] at hHT hRm
            have hk := hpre.length_le
            rw [List.length_drop, hl] at hk
            have hk4 := Pfor.block_pos L
            have hL1 := hg.1
            have hL32 := hg.2
            simp only at hHT hRm
            obtain ⟨kk, hkk⟩ : ∃ kk, kk = (Pfor.block L).length := ⟨_, rfl⟩
            rw [← hkk] at hHT hRm hk hk4
            clear hkk hpre ht hg
            have hmin : (if V - (k : Int) < 32 then V - (k : Int) else 32) = (x : Int) := by split <;> omega
            by_cases hlx : L.length = x
            · rw [if_pos ⟨trivial, hlx⟩] at hRm
              rw [hlx] at hHT
              have HH := Lib.hid hHT
              have HRm := Lib.hid hRm
              have hx32 : x ≤ 32 := by omega
              have hx1 : 1 ≤ x := by omega
              have Hx := Lib.hid hx
              clear hHT hRm hx hVv
              go_wp2_with fail
              refine HH.out.mono ?_
              rintro e w3 ⟨A3, c3, rfl, ho3, hb3⟩
              clear HH
              have ho' := ho.below hb3
              have hb3' := hbr.trans (hb3.mono hszr)
              have hsz3 := hb3'.size
              have h3r := ho3.row
              clear ho ho3
              go_wp2_with (at_builtin; refine wpList_append_row elem64 rfl (.tmp 55) (.tmp 56) rfl w.heap.size A2 k c acc rfl ho' _ A3 x c3 L rfl hlx h3r (by omega) (by simp only [maxLen]; omega) hsz3 ?_; intro A5 c5 w5 ho5 hg5 hat5)
              have hb5 := hb3'.grown hg5 hsz3 (fun k hk => (ho'.lt hk).1)
              have hVv := HV.out
              have hxx := Hx.out
              go_roundw
              case rel => exact ⟨at_ + kk, m - 32, k + x, c5, A5, acc ++ L, by go_num, rfl, ho5, by omega, by omega, by omega, HRm.out, hb5⟩
              case measure => simp only; omega
            · rw [if_neg (fun h => hlx h.2)] at hRm
              have HH := Lib.hid hHT
              have HRm := Lib.hid hRm
              have hI : ¬ ((L.length : Int) = (x : Int)) := by omega
              have Hx := Lib.hid hx
              clear hHT hRm hx hVv
              go_wp2_with fail
              refine HH.out.mono ?_
              rintro e w3 ⟨A3, c3, rfl, ho3, hb3⟩
              clear HH
              go_wp2
              go_ret3
              rw [← HRm.out]
              exact ⟨none, 0, rfl, nown_none _ _, hbr.trans (hb3.mono hszr)⟩
          · rw [ht] at hHT hRm
            simp only [List.length_nil] at hHT
            rw [if_neg (fun h => by have := h.1; cases this)] at hRm
            have HH := Lib.hid hHT
            have HRm := Lib.hid hRm
            have Hx := Lib.hid hx
            clear hHT hRm hx hVv
            go_wp2_with fail
            refine HH.out.mono ?_
            rintro e w3 ⟨A3, c3, rfl, ho3, hb3⟩
            clear HH
            go_wp2
            go_ret3
            rw [← HRm.out]
            exact ⟨none, 0, rfl, nown_none _ _, hbr.trans (hb3.mono hszr)⟩
  · have he' : ¬ ((e : Int) = 0) := by omega
    simp only [ht] at HT ⊢
    rw [if_pos (by omega)]
    replace HT := Lib.hid HT
    clear ht he
    go_enter Tryz.func34, Tryz.ntmps34
    go_wp2_with fail
    refine HT.out.mono ?_
    rintro e' w1 ⟨rfl, hb1⟩
    clear HT
    go_wp2
    go_ret3
    exact ⟨none, 0, rfl, nown_none _ _, hb1⟩
end Go.Proofs.YtoebeibmmclhpaaGreat

/- pfor.TakeList. -/
namespace Go.Proofs.YtoebeibmmclhpaaGreat
open Go.RowKit Go.Shelf
set_option maxRecDepth 100000
attribute [local go_sem] Oper.semAt_some
theorem wpListIn_append_nums {F : Fence} {k : Nat} {w : World} {ops : Array Oper} {rest : List Oper} {o : Oper} {a : Act} {Q : Exit → Act → World → Prop} (hgd : o.guard = none) (s x : Operand)
    (ho : o.op = .call { callee := .builtin .append, args := #[s, x], argTypes := #[45, 45] })
    (base : Nat) (A : Option Addr) (n c : Nat) (l : List UInt64) (hs : a.eval s = .slice A n c) (hown : NOwn w base A n c l)
    (B : Nat) (A2 : Option Addr) (m c2 : Nat) (l2 : List UInt64) (hx : a.eval x = .slice A2 m c2) (hl2 : l2.length = m) (hb : Nums w B A2 l2) (hbytes : (n + m) * 8 ≤ 140737488355328) (hm : n + m ≤ maxLen) (hbase : base ≤ w.heap.size)
    (h : ∀ A' c' w', NOwn w' base A' (n + m) c' (l ++ l2) → w.grownBy w' (blk A) → (blk A' = blk A ∨ blk A' = some w.heap.size) → wpListIn F k Tryz.prog ops Q rest (a.put o.dst (.slice A' (n + m) c')) w') :
    wpListIn F k Tryz.prog ops Q (o :: rest) a w := by
  obtain ⟨A', c', w', hrun, h2, h3, h4⟩ := run_append_row elem64 w base o.type A n c l hown B A2 m c2 l2 hl2 hb hbytes hm hbase
  refine wpListIn_plain hgd fun K hK' => ?_
  unfold Oper.wpIn
  refine ⟨by simp [Oper.about, ho, resolve, Target.leads, Sem.run_pure], ?_⟩
  rw [Oper.semAt_plain F _ _ (by rw [ho]; intro c hc; cases hc)]
  simp only [execOp, ho, resolve, invoke, builtin, Sem.run_bind, Sem.run_pure, Result.andThen_ok, List.map_toArray, List.map_cons, List.map_nil, hs, hx, hrun]
  exact hK' _ _ (h A' c' w' h2 h3 h4)
theorem nown_cells {w : World} {base n c k : Nat} {A : Option Addr} {l : List UInt64} {o : Obj} (h : NOwn w base A n c l) (hk : blk A = some k) (ho : w.heap[k]? = some o) : o.isCells = true := by
  rcases h.2 with ⟨hv, _⟩ | ⟨g, cap, cur, hv, _, hg, _⟩
  · injection hv with h1; subst h1; cases hk
  · injection hv with h1
    subst h1
    have e' : g = k := by simpa [blk] using hk
    subst e'
    rw [hg] at ho
    cases ho
    rfl
theorem box_nums {w : World} {base B n c : Nat} {t : TypeId} {v : Value} {A : Option Addr} {l : List UInt64} (h : NOwn w base A n c l) (hb : Boxed w B t v) (ht : t ≠ 62) : some B ≠ blk A := by
  have := hb.not_row ht h
  rwa [ownBlock_eq] at this
theorem nums_box {w : World} {base B n c : Nat} {t : TypeId} {v : Value} {A : Option Addr} {l : List UInt64} (h : NOwn w base A n c l) (hb : Boxed w B t v) (ht : t ≠ 62) : blk A = none ∨ blk A ≠ some B := .inr fun e => box_nums h hb ht e.symm
/-- the boxes of TakeList: the bytes, the three results, where one stands, the numbers -/
def TakeBoxes (w : World) (vb v4 v5 v6 vs vl : Value) (W : World) : Prop :=
  Boxed W (w.heap.size) 22 vb ∧ Boxed W (w.heap.size + 1) 45 v4 ∧ Boxed W (w.heap.size + 1 + 1) 3 v5 ∧ Boxed W (w.heap.size + 1 + 1 + 1) 25 v6 ∧ Boxed W (w.heap.size + 1 + 1 + 1 + 1) 3 vs ∧ Boxed W (w.heap.size + 1 + 1 + 1 + 1 + 1) 45 vl
theorem TakeBoxes.kept {w W W' : World} {vb v4 v5 v6 vs vl : Value} {row : Option Nat} (h : TakeBoxes w vb v4 v5 v6 vs vl W) (hg : W.grownBy W' row) (hr : ∀ B, (∃ t v, Boxed W B t v ∧ t ≠ 62) → some B ≠ row) : TakeBoxes w vb v4 v5 v6 vs vl W' := by
  obtain ⟨h1, h2, h3, h4, h5, h6⟩ := h
  exact ⟨h1.kept hg (hr _ ⟨_, _, h1, by decide⟩), h2.kept hg (hr _ ⟨_, _, h2, by decide⟩), h3.kept hg (hr _ ⟨_, _, h3, by decide⟩), h4.kept hg (hr _ ⟨_, _, h4, by decide⟩), h5.kept hg (hr _ ⟨_, _, h5, by decide⟩), h6.kept hg (hr _ ⟨_, _, h6, by decide⟩)⟩
theorem TakeBoxes.below {w W W' : World} {vb v4 v5 v6 vs vl : Value} (h : TakeBoxes w vb v4 v5 v6 vs vl W) (hb : Below W.heap.size W W') : TakeBoxes w vb v4 v5 v6 vs vl W' :=
  h.kept (row := none) ⟨hb.os, hb.tape, hb.output, hb.size, fun k hk _ => hb.block k hk⟩ (by simp)
/-- between two rounds of TakeList: m numbers are left -/
def TakeInv (w : World) (A : Option Addr) (n cap : Nat) (b : List UInt8) (v : Nat) (R : List UInt64 × Nat × Nat) (m : Nat) (W : World) : Prop :=
  ∃ (A2 : Option Addr) (c at_ : Nat) (acc : List UInt64), TakeBoxes w (.slice A n cap) (.slice none 0 0) (.int .i64 0) (.int .i64 0) (.int .i64 (at_ : Int)) (.slice A2 acc.length c) W ∧ NOwn W w.heap.size A2 acc.length c acc ∧
    at_ ≤ n ∧ acc.length + m = v ∧ acc.length ≤ 32 * at_ ∧ Pfor.takeBlocks b m acc at_ = R ∧ Below w.heap.size w W
/-- a round of TakeList has returned -/
def TakeOut (w : World) (A : Option Addr) (n cap : Nat) (R : List UInt64 × Nat × Nat) (W : World) : Prop :=
  ∃ vs vl, TakeBoxes w (.slice A n cap) (.slice none 0 0) (.int .i64 0) (.int .i64 2) vs vl W ∧ R = ([], 0, 2) ∧ Below w.heap.size w W
theorem not_cells_box {W : World} {row : Option Nat} {B0 : Nat} (hr : ∀ r, row = some r → B0 ≤ r ∧ ∃ o : Obj, W.heap[r]? = some o ∧ o.isCells = false) : ∀ B, (∃ t v, Boxed W B t v ∧ t ≠ 62) → some B ≠ row := by
  rintro B ⟨t, v, hb, _⟩ e
  obtain ⟨_, o, ho, hc⟩ := hr B e.symm
  have hb' : W.heap[B]? = some (.cells #[v] t (0, 0)) := hb
  rw [hb'] at ho
  cases ho
  cases hc
theorem takeInv_own (w : World) (A : Option Addr) (n cap : Nat) (b : List UInt8) (v : Nat) (R : List UInt64 × Nat × Nat) (B : Nat) (hB : w.heap.size ≤ B) : OwnFrom B (TakeInv w A n cap b v R) := by
  rintro m W W' row ⟨A2, c, at_, acc, h1, h2, h3, h4, h5, h6, h7⟩ hg hr
  refine ⟨A2, c, at_, acc, h1.kept hg (not_cells_box hr), h2.kept hg ?_, h3, h4, h5, h6, h7.grown hg h7.size (fun k e => Nat.le_trans hB (hr k e).1)⟩
  cases row with
  | none => cases hA : blk A2 <;> simp
  | some r =>
    refine .inr fun e => ?_
    obtain ⟨_, o, ho, hc⟩ := hr r rfl
    rw [nown_cells h2 e ho] at hc
    cases hc
theorem takeOut_own (w : World) (A : Option Addr) (n cap : Nat) (R : List UInt64 × Nat × Nat) (B : Nat) (hB : w.heap.size ≤ B) : OwnFrom B (fun (_ : Unit) => TakeOut w A n cap R) := by
  rintro _ W W' row ⟨vs, vl, h1, h2, h3⟩ hg hr
  exact ⟨vs, vl, h1.kept hg (not_cells_box hr), h2, h3.grown hg h3.size (fun k e => Nat.le_trans hB (hr k e).1)⟩
theorem TakeBoxes.set3 {w W : World} {vb v4 v5 v6 vs vl : Value} (h : TakeBoxes w vb v4 v5 v6 vs vl W) (a b c : Value) :
    TakeBoxes w vb a b c vs vl (((W.setCell ⟨w.heap.size + 1, 0, none⟩ a).setCell ⟨w.heap.size + 1 + 1, 0, none⟩ b).setCell ⟨w.heap.size + 1 + 1 + 1, 0, none⟩ c) := by
  obtain ⟨h1, h2, h3, h4, h5, h6⟩ := h
  exact ⟨((h1.other (by omega) _).other (by omega) _).other (by omega) _, ((h2.set _).other (by omega) _).other (by omega) _, ((h3.other (by omega) _).set _).other (by omega) _, ((h4.other (by omega) _).other (by omega) _).set _,
    ((h5.other (by omega) _).other (by omega) _).other (by omega) _, ((h6.other (by omega) _).other (by omega) _).other (by omega) _⟩
theorem TakeBoxes.setL {w W : World} {vb v4 v5 v6 vs vl : Value} (h : TakeBoxes w vb v4 v5 v6 vs vl W) (a b : Value) :
    TakeBoxes w vb v4 v5 v6 b a ((W.setCell ⟨w.heap.size + 1 + 1 + 1 + 1 + 1, 0, none⟩ a).setCell ⟨w.heap.size + 1 + 1 + 1 + 1, 0, none⟩ b) := by
  obtain ⟨h1, h2, h3, h4, h5, h6⟩ := h
  exact ⟨(h1.other (by omega) _).other (by omega) _, (h2.other (by omega) _).other (by omega) _, (h3.other (by omega) _).other (by omega) _, (h4.other (by omega) _).other (by omega) _, (h5.other (by omega) _).set _, (h6.set _).other (by omega) _⟩
theorem NOwn.set {W : World} {base B n c i : Nat} {t : TypeId} {v : Value} {A : Option Addr} {l : List UInt64} (h : NOwn W base A n c l) (hb : Boxed W B t v) (ht : t ≠ 62) (u : Value) : NOwn (W.setCell ⟨B, i, none⟩ u) base A n c l :=
  h.kept (Lib.grownBy_setCell W B i u) (nums_box h hb ht)
set_option maxHeartbeats 4000000 in
set_option maxRecDepth 100000 in
theorem takeList_any (A : Option Addr) (n cap : Nat) (b : List UInt8) (z : Int) (w : World) (hl : b.length = n) (hcap : n ≤ cap) (hm : n ≤ 281474976710656) (hb : Bytes w w.heap.size A b)
    (hz0 : -9223372036854775808 ≤ z) (hz1 : z ≤ 9223372036854775807) (hbig : z ≤ 1000000 ∨ n ≤ 10000) :
    Calls Tryz.prog 56 #[.slice A n cap, .int .i64 z] w (TakesPost w (Pfor.takeList b z)) := by
  refine (callsIn_wide (n := 3)).1 ?_
  refine callsIn_of_wp_marks Tryz.func56 rfl trivial ?_ rfl
  simp only [Tryz.ntmps56, List.size_toArray, List.length_cons, List.length_nil, Nat.reduceAdd, Nat.reduceSub, Array.replicate_succ, Array.replicate_zero, List.push_toArray, List.append_toArray, List.nil_append, List.cons_append]
  unfold Pfor.takeList
  by_cases hz : z < 0
  · rw [if_pos hz]
    gi_wp2
    refine ⟨.tuple #[.slice none 0 0, .int .i64 0, .int .i64 1], ?_, none, 0, rfl, nown_none _ _, (((((Below.refl _ w).alloc (Nat.le_refl _) _).alloc (by simp) _).alloc (by simp; omega) _).alloc (by simp; omega) _)⟩
    simp [results, Tryz.f56, go_sem]
  · rw [if_neg hz]
    have HT := fun (W' : World) (hB : Below w.heap.size w W') => take_any A n cap w.heap.size b W' hl hcap (by omega) (hb.below hB)
    unfold TakePost at HT
    have hbel4 : Below w.heap.size w ((((w.alloc (.cells #[.slice A n cap] 22)).alloc (.cells #[.slice none 0 0] 45)).alloc (.cells #[.int .i64 0] 3)).alloc (.cells #[.int .i64 0] 25)) := ((((Below.refl _ w).alloc (Nat.le_refl _) _).alloc (by simp) _).alloc (by simp; omega) _).alloc (by simp; omega) _
    rcases Num.take_cases b with ⟨v, s, ht⟩ | ⟨e, ht, he⟩
    · obtain ⟨hq1, hq2, hsl, hv⟩ := Num.num_take ht
      clear hq1 hq2
      rw [hl] at hsl
      simp only [ht, ne_eq, not_true, if_false] at HT ⊢
      obtain ⟨V, hV, hV0, hV1⟩ : ∃ V : Int, V = (v : Int) ∧ 0 ≤ V ∧ V ≤ 18446744073709551615 := ⟨_, rfl, by omega, by omega⟩
      rw [← hV] at HT
      have HT4 := Lib.hid (HT _ hbel4)
      clear HT
      by_cases hzv : z < V
      · rw [if_pos (by rw [← hV]; exact hzv)]
        clear hV ht
        gi_wp2_with (refine ⟨trivial, ?_⟩; gi_at_call 57; refine (callsIn_wide.2 HT4.out).mono ?_; rintro e w1 ⟨rfl, rfl⟩)
        refine ⟨.tuple #[.slice none 0 0, .int .i64 0, .int .i64 5], ?_, none, 0, rfl, nown_none _ _, ((((((Below.refl _ w).alloc (Nat.le_refl _) _).alloc (by simp) _).alloc (by simp; omega) _).alloc (by simp; omega) _).alloc (by simp; omega) _)⟩
        simp [results, Tryz.f56, go_sem]
      · rw [if_neg (by rw [← hV]; exact hzv)]
        have hsz : s ≤ 9 := by
          have h1 := (Num.num_take ht).2.1
          have h2 := Num.size_le9 hv
          omega
        have hs1 : 1 ≤ s := by
          have h1 := (Num.num_take ht).2.1
          have h2 := Num.size_pos v
          omega
        have HB := blockLengths_any v ((((((w.alloc (.cells #[.slice A n cap] 22)).alloc (.cells #[.slice none 0 0] 45)).alloc (.cells #[.int .i64 0] 3)).alloc (.cells #[.int .i64 0] 25)).alloc (.cells #[.int .i64 (s : Int)] 3)).alloc (.cells #[.slice none 0 0] 45))
        rw [← hV] at HB
        have hb7 : Below w.heap.size w (((((((w.alloc (.cells #[.slice A n cap] 22)).alloc (.cells #[.slice none 0 0] 45)).alloc (.cells #[.int .i64 0] 3)).alloc (.cells #[.int .i64 0] 25)).alloc (.cells #[.int .i64 (s : Int)] 3)).alloc (.cells #[.slice none 0 0] 45)).alloc (.cells #[.int .i64 V] 3)) := (((((((Below.refl _ w).alloc (Nat.le_refl _) _).alloc (by simp) _).alloc (by simp; omega) _).alloc (by simp; omega) _).alloc (by simp; omega) _).alloc (by simp; omega) _).alloc (by simp; omega) _
        have hboxes : TakeBoxes w (.slice A n cap) (.slice none 0 0) (.int .i64 0) (.int .i64 0) (.int .i64 (s : Int)) (.slice none 0 0) (((((((w.alloc (.cells #[.slice A n cap] 22)).alloc (.cells #[.slice none 0 0] 45)).alloc (.cells #[.int .i64 0] 3)).alloc (.cells #[.int .i64 0] 25)).alloc (.cells #[.int .i64 (s : Int)] 3)).alloc (.cells #[.slice none 0 0] 45)).alloc (.cells #[.int .i64 V] 3)) := by
          have e0 := Boxed.new w 22 (.slice A n cap)
          have e1 := Boxed.new (w.alloc (.cells #[.slice A n cap] 22)) 45 (.slice none 0 0)
          have e2 := Boxed.new ((w.alloc (.cells #[.slice A n cap] 22)).alloc (.cells #[.slice none 0 0] 45)) 3 (.int .i64 0)
          have e3 := Boxed.new (((w.alloc (.cells #[.slice A n cap] 22)).alloc (.cells #[.slice none 0 0] 45)).alloc (.cells #[.int .i64 0] 3)) 25 (.int .i64 0)
          have e4 := Boxed.new ((((w.alloc (.cells #[.slice A n cap] 22)).alloc (.cells #[.slice none 0 0] 45)).alloc (.cells #[.int .i64 0] 3)).alloc (.cells #[.int .i64 0] 25)) 3 (.int .i64 (s : Int))
          have e5 := Boxed.new (((((w.alloc (.cells #[.slice A n cap] 22)).alloc (.cells #[.slice none 0 0] 45)).alloc (.cells #[.int .i64 0] 3)).alloc (.cells #[.int .i64 0] 25)).alloc (.cells #[.int .i64 (s : Int)] 3)) 45 (.slice none 0 0)
          simp only [World.size_alloc] at e1 e2 e3 e4 e5
          exact ⟨(((((e0.alloc _).alloc _).alloc _).alloc _).alloc _).alloc _, ((((e1.alloc _).alloc _).alloc _).alloc _).alloc _, (((e2.alloc _).alloc _).alloc _).alloc _, ((e3.alloc _).alloc _).alloc _, (e4.alloc _).alloc _, e5.alloc _⟩
        have hcn : (((((((w.alloc (.cells #[.slice A n cap] 22)).alloc (.cells #[.slice none 0 0] 45)).alloc (.cells #[.int .i64 0] 3)).alloc (.cells #[.int .i64 0] 25)).alloc (.cells #[.int .i64 (s : Int)] 3)).alloc (.cells #[.slice none 0 0] 45)).alloc (.cells #[.int .i64 V] 3)).cell? ⟨w.heap.size + 1 + 1 + 1 + 1 + 1 + 1, 0, none⟩ = some (.int .i64 V) := by rw [World.cell?_alloc_at _ _ _ _ (by simp)]; rfl
        have hsz7 : (((((((w.alloc (.cells #[.slice A n cap] 22)).alloc (.cells #[.slice none 0 0] 45)).alloc (.cells #[.int .i64 0] 3)).alloc (.cells #[.int .i64 0] 25)).alloc (.cells #[.int .i64 (s : Int)] 3)).alloc (.cells #[.slice none 0 0] 45)).alloc (.cells #[.int .i64 V] 3)).heap.size = w.heap.size + 1 + 1 + 1 + 1 + 1 + 1 + 1 := by simp
        obtain ⟨R, hR⟩ : ∃ R, Pfor.takeBlocks b v [] s = R := ⟨_, rfl⟩
        rw [hR]
        have hinv : TakeInv w A n cap b v R v (((((((w.alloc (.cells #[.slice A n cap] 22)).alloc (.cells #[.slice none 0 0] 45)).alloc (.cells #[.int .i64 0] 3)).alloc (.cells #[.int .i64 0] 25)).alloc (.cells #[.int .i64 (s : Int)] 3)).alloc (.cells #[.slice none 0 0] 45)).alloc (.cells #[.int .i64 V] 3)) := ⟨none, 0, s, [], hboxes, nown_none _ _, hsl, by simp, by simp, hR, hb7⟩
        have HV := Lib.hid hV
        have HBB := Lib.hid HB
        have HRR := Lib.hid hR
        have hvz : v ≤ 9223372036854775807 := by omega
        have hbig2 : ∀ k at_ m : Nat, k ≤ 32 * at_ → at_ ≤ n → k + m = v → k ≤ 1000000 := fun k at_ m h1 h2 h3 => by omega
        have Hbig := Lib.hid hbig2
        clear hV ht HB hR hbig2 hboxes
        gi_wp2_with (first | (refine ⟨trivial, ?_⟩; gi_at_call 57; refine (callsIn_wide.2 HT4.out).mono ?_; rintro e w1 ⟨rfl, rfl⟩) | (refine ⟨trivial, ?_⟩; gi_at_call 46; refine (callsIn_wide.2 HBB.out).mono ?_; rintro e w2 ⟨rfl, rfl⟩))
        generalize (((((((w.alloc (.cells #[.slice A n cap] 22)).alloc (.cells #[.slice none 0 0] 45)).alloc (.cells #[.int .i64 0] 3)).alloc (.cells #[.int .i64 0] 25)).alloc (.cells #[.int .i64 (s : Int)] 3)).alloc (.cells #[.slice none 0 0] 45)).alloc (.cells #[.int .i64 V] 3)) = W0 at *
        have hcn' := hcn
        rw [HV.out] at hcn'
        refine wpIn_lens (gf := 77) (lb := #[.pointer (some ⟨w.heap.size + 1 + 1 + 1 + 1 + 1 + 1, 0, none⟩)]) (n0 := v) rfl (enters_of Tryz.func77 (by kernel_rfl) rfl)
          (lens_of 2 (w.heap.size + 1 + 1 + 1 + 1 + 1 + 1) v W0 hvz (by omega) hcn') rfl (TakeInv w A n cap b v R) (TakeOut w A n cap R) (takeInv_own _ _ _ _ _ _ _ _ hb7.size) (takeOut_own _ _ _ _ _ _ hb7.size) hinv
          (fun m => { tmps := #[.slice A n cap, .int .i64 z, .pointer (some ⟨w.heap.size, 0, none⟩), undef, .pointer (some ⟨w.heap.size + 1, 0, none⟩), .pointer (some ⟨w.heap.size + 1 + 1, 0, none⟩), .pointer (some ⟨w.heap.size + 1 + 1 + 1, 0, none⟩), .int .u64 V, .pointer (some ⟨w.heap.size + 1 + 1 + 1 + 1, 0, none⟩), .int .i64 0, .pointer (some ⟨w.heap.size + 1 + 1 + 1 + 1 + 1, 0, none⟩), .int .i64 ((min m 32 : Nat) : Int), undef, undef, undef, .int .i64 z, .bool false, (.tuple #[.int .u64 V, .int .i64 (s : Int), .int .i64 0]), .slice A n cap, (.tuple #[.int .u64 V, .int .i64 (s : Int), .int .i64 0]), .int .u64 V, .int .i64 (s : Int), .int .i64 0, .int .i64 0, .bool false, .int .u64 V, .int .i64 z, .int .u64 z, .bool (decide (z < V)), .int .u64 V, .int .i64 V, .func (.func 77) #[] #[.pointer (some ⟨w.heap.size + 1 + 1 + 1 + 1 + 1 + 1, 0, none⟩)], .int .i64 ((min m 32 : Nat) : Int), undef, undef, undef, undef, undef, undef, undef, undef, undef, undef, undef, undef, undef, undef, undef, undef, undef, undef, undef, undef, undef, undef, undef, undef], defers := [] }) ?assign ?body ?done ?stop
        case assign =>
          intro l' m W K hK
          gi_wp2
          exact hK
        case stop =>
          rintro D W hD ⟨vs, vl, hbx, rfl, hbel⟩ hK
          gi_wp2
          refine ⟨by simp, .inl ⟨_, _, rfl, run_takeDeferred hK, ?_⟩⟩
          have hg := grownBy_putObj' W D (.deferred none)
          have hbx' := hbx.kept hg (not_cells_box (B0 := 0) (fun r e => by cases e; exact ⟨Nat.zero_le _, _, hK, rfl⟩))
          have c4 := hbx'.2.1.cell
          have c5 := hbx'.2.2.1.cell
          have c6 := hbx'.2.2.2.1.cell
          refine ⟨.tuple #[.slice none 0 0, .int .i64 0, .int .i64 2], ?_, none, 0, rfl, nown_none _ _, hbel.grown hg hbel.size (fun k e => by cases e; have := hb7.size; omega)⟩
          simp [results, Tryz.f56, go_sem, c4, c5, c6]
        case done =>
          rintro D W hD ⟨A2, c, at_, acc, hbx, hown, hat, hav, ha32, hRm, hbel⟩ hK
          rw [Pfor.takeBlocks_zero] at hRm
          subst hRm
          have d4 := hbx.2.1.cell
          have d5 := hbx.2.2.1.cell
          have d6 := hbx.2.2.2.1.cell
          have ds := hbx.2.2.2.2.1.cell
          have dl := hbx.2.2.2.2.2.cell
          have f4 := hbx.2.1.frozen
          have f5 := hbx.2.2.1.frozen
          have f6 := hbx.2.2.2.1.frozen
          gi_wp2
          refine wpIn_wide.2 ?_
          go_region
          have hbx3 := hbx.set3 (.slice A2 acc.length c) (.int .i64 (at_ : Int)) (.int .i64 0)
          have ho1 := hown.set (i := 0) hbx.2.1 (by decide) (.slice A2 acc.length c)
          have ho2 := ho1.set (i := 0) (hbx.2.2.1.other (B' := w.heap.size + 1) (by omega) (.slice A2 acc.length c)) (by decide) (.int .i64 (at_ : Int))
          have ho3 := ho2.set (i := 0) ((hbx.2.2.2.1.other (B' := w.heap.size + 1) (by omega) (.slice A2 acc.length c)).other (B' := w.heap.size + 1 + 1) (by omega) (.int .i64 (at_ : Int))) (by decide) (.int .i64 0)
          have hb3 := ((hbel.setCell (p := ⟨w.heap.size + 1, 0, none⟩) (show w.heap.size ≤ w.heap.size + 1 by omega) (.slice A2 acc.length c)).setCell (p := ⟨w.heap.size + 1 + 1, 0, none⟩) (show w.heap.size ≤ w.heap.size + 1 + 1 by omega) (.int .i64 (at_ : Int))).setCell (p := ⟨w.heap.size + 1 + 1 + 1, 0, none⟩) (show w.heap.size ≤ w.heap.size + 1 + 1 + 1 by omega) (.int .i64 0)
          have hK3 := (((KeepsOthers.setCell W ⟨w.heap.size + 1, 0, none⟩ (.slice A2 acc.length c)).trans (KeepsOthers.setCell _ ⟨w.heap.size + 1 + 1, 0, none⟩ (.int .i64 (at_ : Int)))).trans (KeepsOthers.setCell _ ⟨w.heap.size + 1 + 1 + 1, 0, none⟩ (.int .i64 0))).same D _ hK rfl
          generalize ((W.setCell ⟨w.heap.size + 1, 0, none⟩ (.slice A2 acc.length c)).setCell ⟨w.heap.size + 1 + 1, 0, none⟩ (.int .i64 (at_ : Int))).setCell ⟨w.heap.size + 1 + 1 + 1, 0, none⟩ (.int .i64 0) = W3 at *
          have hKd : W3.drew.heap[D]? = some (.deferred (some [])) := hK3
          gi_wp2
          refine ⟨by simp, .inl ⟨_, _, rfl, run_takeDeferred hKd, ?_⟩⟩
          have hg := grownBy_putObj' W3.drew D (.deferred none)
          have hbx' := TakeBoxes.kept (W := W3.drew) (by exact hbx3) hg (not_cells_box (B0 := 0) (fun r e => by cases e; exact ⟨Nat.zero_le _, _, hKd, rfl⟩))
          have ho' := ROwn.kept (w := W3.drew) (by exact ho3) hg (by
            cases hA : blk A2 with
            | none => exact .inl rfl
            | some q =>
              refine .inr fun e => ?_
              cases e
              have := nown_cells ho3 hA hK3
              cases this)
          have c4 := hbx'.2.1.cell
          have c5 := hbx'.2.2.1.cell
          have c6 := hbx'.2.2.2.1.cell
          refine ⟨.tuple #[.slice A2 acc.length c, .int .i64 (at_ : Int), .int .i64 0], ?_, A2, c, rfl, ho', hb3.drew.grown hg (by exact hb3.size) (fun k e => by cases e; have := hb7.size; omega)⟩
          simp [results, Tryz.f56, go_sem, c4, c5, c6]
        case body =>
          rintro l' m W hm' ⟨A2, c, at_, acc, hbx, hown, hat, hav, ha32, hRm, hbel⟩
          obtain ⟨x, hx⟩ : ∃ x, x = min m 32 := ⟨_, rfl⟩
          rw [← hx]
          rw [Pfor.takeBlocks_pos b hm', ← hx] at hRm
          have hHT := takeBlock_any (cutAt A cap at_) (n - at_) (cap - at_) w.heap.size (b.drop at_) W (by rw [List.length_drop, hl]) (by omega) (by omega) ((hb.below hbel).cut (k := at_) (cap := cap) (by omega) (by omega)) hbel.size
          unfold TakesPost at hHT
          have hslc := run_cut_from A n cap at_ (n - at_) (by omega)
          have hacc := Hbig.out acc.length at_ m ha32 hat hav
          have Hx := Lib.hid hx; clear hx
          have cb := hbx.1.cell
          have cs := hbx.2.2.2.2.1.cell
          generalize cutAt A cap at_ = A1 at *
          rcases Pfor.takeBlock_cases (b.drop at_) with ⟨L, hg, hpre, ht⟩ | ht
          · rw [ht] at hHT hRm
            have hk := hpre.length_le
            rw [List.length_drop, hl] at hk
            have hk4 := Pfor.block_pos L
            have hL1 := hg.1
            have hL32 := hg.2
            simp only at hHT hRm
            obtain ⟨kk, hkk⟩ : ∃ kk, kk = (Pfor.block L).length := ⟨_, rfl⟩
            rw [← hkk] at hHT hRm hk hk4
            clear hkk hpre ht hg
            by_cases hlx : L.length = x
            · rw [if_pos ⟨trivial, hlx⟩] at hRm
              rw [hlx] at hHT
              have HH := Lib.hid hHT
              have HRm := Lib.hid hRm
              have hx32 : x ≤ 32 := by omega
              have hx1 : 1 ≤ x := by omega
              clear hHT hRm
              gi_wp2_with (first | (refine ⟨trivial, ?_⟩; gi_at_call 86; refine (CallsIn.inRound l' (callsIn_wide.2 HH.out)).mono ?_; rintro e w3 ⟨A3, c3, rfl, ho3, hb3⟩; have hbx3 := hbx.below hb3; have cl3 := hbx3.2.2.2.2.2.cell; have ho2' := hown.below hb3; have hb3' := hbel.trans (hb3.mono hbel.size); have hsz3 := hb3'.size; have ho3r := ho3.row) | (gi_at_builtin; refine wpListIn_append_nums rfl (.tmp 49) (.tmp 50) rfl w.heap.size A2 acc.length c acc rfl ho2' _ A3 x c3 L rfl hlx ho3r (by omega) (by simp only [maxLen]; omega) hsz3 ?_; intro A5 c5 w4 ho4 hg4 hat4; have hbx4 := hbx3.kept hg4 (fun B hB => by obtain ⟨t, u, h1, h2⟩ := hB; exact box_nums ho2' h1 h2); have cl4 := hbx4.2.2.2.2.2.cell; have fl4 := hbx4.2.2.2.2.2.frozen; have cs4 := hbx4.2.2.2.2.1.cell; have fs4 := hbx4.2.2.2.2.1.frozen))
              have hk4' : KeepsOthers w3 w4 := KeepsOthers.of_grownBy hg4 (fun j o hj hjo => nown_cells ho2' hj hjo)
              have hb4 := hb3'.grown hg4 hsz3 (fun k hk => (ho2'.lt hk).1)
              have hbx5 := hbx4.setL (.slice A5 (acc.length + x) c5) (.int .i64 ((at_ : Int) + (kk : Int)))
              have ho5 := (ho4.set (i := 0) hbx4.2.2.2.2.2 (by decide) (.slice A5 (acc.length + x) c5)).set (i := 0) (hbx4.2.2.2.2.1.other (B' := w.heap.size + 1 + 1 + 1 + 1 + 1) (by omega) (.slice A5 (acc.length + x) c5)) (by decide) (.int .i64 ((at_ : Int) + (kk : Int)))
              have hb5 := (hb4.setCell (p := ⟨w.heap.size + 1 + 1 + 1 + 1 + 1, 0, none⟩) (show w.heap.size ≤ w.heap.size + 1 + 1 + 1 + 1 + 1 by omega) (.slice A5 (acc.length + x) c5)).setCell (p := ⟨w.heap.size + 1 + 1 + 1 + 1, 0, none⟩) (show w.heap.size ≤ w.heap.size + 1 + 1 + 1 + 1 by omega) (.int .i64 ((at_ : Int) + (kk : Int)))
              have hal : acc.length + x = (acc ++ L).length := by rw [List.length_append, hlx]
              rw [hal, show (at_ : Int) + (kk : Int) = ((at_ + kk : Nat) : Int) from by omega] at hbx5 ho5 hb5
              have hxx := Hx.out
              have hinv5 : TakeInv w A n cap b v R (m - 32) ((w4.setCell ⟨w.heap.size + 1 + 1 + 1 + 1 + 1, 0, none⟩ (.slice A5 (acc ++ L).length c5)).setCell ⟨w.heap.size + 1 + 1 + 1 + 1, 0, none⟩ (.int .i64 ((at_ + kk : Nat) : Int))) :=
                ⟨A5, c5, at_ + kk, acc ++ L, hbx5, ho5, by omega, by rw [← hal]; omega, by rw [← hal]; omega, HRm.out, hb5⟩
              rw [← hal, show ((at_ + kk : Nat) : Int) = (at_ : Int) + (kk : Int) from by omega] at hinv5
              exact ⟨(((KeepsOthers.below hb3).trans hk4').trans (KeepsOthers.setCell _ _ _)).trans (KeepsOthers.setCell _ _ _), hinv5⟩
            · rw [if_neg (fun h => hlx h.2)] at hRm
              have hI : (L.length : Int) ≠ (x : Int) := by omega
              have HH := Lib.hid hHT
              have HRm := Lib.hid hRm
              clear hHT hRm
              gi_wp2_with (refine ⟨trivial, ?_⟩; gi_at_call 86; refine (CallsIn.inRound l' (callsIn_wide.2 HH.out)).mono ?_; rintro e w3 ⟨A3, c3, rfl, ho3, hb3⟩; have hbx3 := hbx.below hb3; have r4 := hbx3.2.1.cell; have r5 := hbx3.2.2.1.cell; have r6 := hbx3.2.2.2.1.cell; have q4 := hbx3.2.1.frozen; have q5 := hbx3.2.2.1.frozen; have q6 := hbx3.2.2.2.1.frozen)
              have hb4 := ((((hbel.trans (hb3.mono hbel.size)).setCell (p := ⟨w.heap.size + 1, 0, none⟩) (show w.heap.size ≤ w.heap.size + 1 by omega) (.slice none 0 0)).setCell (p := ⟨w.heap.size + 1 + 1, 0, none⟩) (show w.heap.size ≤ w.heap.size + 1 + 1 by omega) (.int .i64 0)).setCell (p := ⟨w.heap.size + 1 + 1 + 1, 0, none⟩) (show w.heap.size ≤ w.heap.size + 1 + 1 + 1 by omega) (.int .i64 2))
              exact ⟨(((KeepsOthers.below hb3).trans (KeepsOthers.setCell _ _ _)).trans (KeepsOthers.setCell _ _ _)).trans (KeepsOthers.setCell _ _ _), _, _, hbx3.set3 (.slice none 0 0) (.int .i64 0) (.int .i64 2), HRm.out.symm, hb4⟩
          · rw [ht] at hHT hRm
            simp only [List.length_nil] at hHT
            rw [if_neg (fun h => by have := h.1; cases this)] at hRm
            have HH := Lib.hid hHT
            have HRm := Lib.hid hRm
            clear hHT hRm
            gi_wp2_with (refine ⟨trivial, ?_⟩; gi_at_call 86; refine (CallsIn.inRound l' (callsIn_wide.2 HH.out)).mono ?_; rintro e w3 ⟨A3, c3, rfl, ho3, hb3⟩; have hbx3 := hbx.below hb3; have r4 := hbx3.2.1.cell; have r5 := hbx3.2.2.1.cell; have r6 := hbx3.2.2.2.1.cell; have q4 := hbx3.2.1.frozen; have q5 := hbx3.2.2.1.frozen; have q6 := hbx3.2.2.2.1.frozen)
            have hb4 := ((((hbel.trans (hb3.mono hbel.size)).setCell (p := ⟨w.heap.size + 1, 0, none⟩) (show w.heap.size ≤ w.heap.size + 1 by omega) (.slice none 0 0)).setCell (p := ⟨w.heap.size + 1 + 1, 0, none⟩) (show w.heap.size ≤ w.heap.size + 1 + 1 by omega) (.int .i64 0)).setCell (p := ⟨w.heap.size + 1 + 1 + 1, 0, none⟩) (show w.heap.size ≤ w.heap.size + 1 + 1 + 1 by omega) (.int .i64 2))
            exact ⟨(((KeepsOthers.below hb3).trans (KeepsOthers.setCell _ _ _)).trans (KeepsOthers.setCell _ _ _)).trans (KeepsOthers.setCell _ _ _), _, _, hbx3.set3 (.slice none 0 0) (.int .i64 0) (.int .i64 2), HRm.out.symm, hb4⟩
    · have he' : ¬ ((e : Int) = 0) := by omega
      simp only [ht] at HT ⊢
      rw [if_pos (by omega)]
      have HT4 := Lib.hid (HT _ hbel4)
      clear HT ht he
      gi_wp2_with (refine ⟨trivial, ?_⟩; gi_at_call 57; refine (callsIn_wide.2 HT4.out).mono ?_; rintro e' w1 ⟨rfl, rfl⟩)
      refine ⟨.tuple #[.slice none 0 0, .int .i64 0, .int .i64 2], ?_, none, 0, rfl, nown_none _ _, ((((((Below.refl _ w).alloc (Nat.le_refl _) _).alloc (by simp) _).alloc (by simp; omega) _).alloc (by simp; omega) _).alloc (by simp; omega) _)⟩
      simp [results, Tryz.f56, go_sem]
end Go.Proofs.YtoebeibmmclhpaaGreat
