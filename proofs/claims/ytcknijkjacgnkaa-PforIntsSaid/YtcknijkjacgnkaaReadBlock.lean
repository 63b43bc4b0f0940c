/- pfor.readBlock. -/
import Derived.Test.YtcknijkjacgnkaaHigh
namespace Go.Proofs.Ytcknijkjacgnkaa
open Go.RowKit

/-- what readBlock answers -/
def ReadPost (w : World) (R : Option (List UInt64)) (e : Ending) (w' : World) : Prop :=
  (∃ L A c, R = some L ∧ e = .returned (.tuple #[.slice A L.length c, .bool true]) ∧ 1 ≤ L.length ∧ L.length ≤ 32 ∧ NOwn w' w.heap.size A L.length c L ∧ Below w.heap.size w w') ∨
    (R = none ∧ e = .returned (.tuple #[.slice none 0 0, .bool false]) ∧ Below w.heap.size w w')

theorem Bits.unpack_le64 {b : List UInt8} {n w : Int} {l : List UInt64} (h : Bits.unpack b n w = (l, 0)) : w ≤ 64 ∧ l.length = n.toNat := by
  have h2 := Bits.pack_unpack h
  unfold Bits.unpack at h
  split at h
  · cases h
  · rename_i h3
    refine ⟨by omega, by omega⟩

theorem plus_get {b : Nat} {l : List UInt64} {k : Nat} (hk : k < l.length) : (Pfor.plus b l)[k]'(by rw [Pfor.plus_length]; exact hk) = UInt64.ofNat (l[k].toNat + b) := by simp [Pfor.plus]
/-- what a slice holds when k of its cells are turned -/
theorem turn_set {α : Type} {l m : List α} {n k : Nat} (hl : l.length = n) (hm : m.length = n) (hk : k < n) : (m.take k ++ l.drop k).set k (m[k]'(by omega)) = m.take (k + 1) ++ l.drop (k + 1) := by
  have hlk : (m.take k).length = k := by simp; omega
  rw [List.set_append_right _ _ (by omega), hlk, Nat.sub_self, List.drop_eq_getElem_cons (by omega), List.set_cons_zero, List.take_succ_eq_append_getElem (by omega), List.append_assoc]
  rfl
theorem turn_get {α : Type} {l m : List α} {n k : Nat} (hl : l.length = n) (hm : m.length = n) (hk : k < n) : ∃ h : k < (m.take k ++ l.drop k).length, (m.take k ++ l.drop k)[k] = l[k]'(by omega) := by
  have hlk : (m.take k).length = k := by simp; omega
  refine ⟨by simp; omega, ?_⟩
  rw [List.getElem_append_right (by omega)]
  simp [hlk]
theorem wrap_add {d b : Nat} {x y : Int} (hx : x = (d : Int)) (hy : y = (b : Int)) : uval (UInt64.ofNat (d + b)) = .int .u64 (IntKind.u64.wrap (x + y)) := by
  have e : IntKind.u64.wrap ((d + b : Nat) : Int) = ((d + b : Nat) : Int) % 18446744073709551616 := by simp [IntKind.wrap, IntKind.bits, IntKind.signed]
  unfold uval
  rw [hx, hy, ← Int.natCast_add, e, UInt64.toNat_ofNat']
  congr 1

theorem read_cons (c : UInt8) (r : List UInt8) : Pfor.read (c :: r) = if 1 ≤ c.toNat ∧ c.toNat ≤ 32 then
      (if (Num.take r).2.2 = 0 then
        (match r.drop (Num.take r).2.1 with
          | v :: x :: t => if Bits.size c.toNat v.toNat ≤ t.length then
              (if (Bits.unpack (t.take (Bits.size c.toNat v.toNat)) c.toNat v.toNat).2 = 0 then
                (Pfor.addHigh v.toNat x.toNat (Bits.unpack (t.take (Bits.size c.toNat v.toNat)) c.toNat v.toNat).1 (t.drop (Bits.size c.toNat v.toNat))).map (Pfor.plus (Num.take r).1)
              else none)
            else none
          | _ => none)
      else none)
    else none := rfl

set_option maxHeartbeats 4000000 in
theorem readBlock_any (A : Option Addr) (n cap B : Nat) (b : List UInt8) (w : World) (hl : b.length = n) (hcap : n ≤ cap) (hm : n ≤ 281474976710656) (hb : Bytes w B A b) (hB : B ≤ w.heap.size) :
    Calls Try.prog 31 #[.slice A n cap] w (ReadPost w (Pfor.read b)) := by
  have hb := hb.wide hB
  rcases b with _ | ⟨c, r⟩
  · obtain rfl : 0 = n := by simpa using hl
    go_enter Try.func31, Try.ntmps31
    go_wp2
    go_ret2
    exact .inr ⟨rfl, rfl, Below.refl _ _⟩
  obtain ⟨ad, rfl, hlt', hcell⟩ := hb.get (k := 0) (by simp)
  simp only [List.getElem_cons_zero, Addr.add, if_true] at hcell
  have hl' : r.length + 1 = n := by simpa using hl
  have hc256 := Num.byte_lt c
  have H0 := isBlockLength_any (c.toNat : Int) w
  have hn0 : ¬ ((n : Int) = 0) := by omega
  have hn1 : 0 < n := by omega
  rw [read_cons]
  by_cases hc : 1 ≤ c.toNat ∧ c.toNat ≤ 32
  · rw [if_pos hc]
    rw [decide_eq_true (show 1 ≤ (c.toNat : Int) ∧ (c.toNat : Int) ≤ 32 by omega)] at H0
    replace H0 := Lib.hid H0
    have hcut := hb.cut (k := 1) (cap := cap) (by simp) (by omega)
    rw [List.drop_succ_cons, List.drop_zero] at hcut
    have hsl := run_cut_from (some ad) n cap 1 r.length (by omega)
    rw [Int.natCast_one] at hsl
    have HT := take_any (cutAt (some ad) cap 1) r.length (cap - 1) w.heap.size r w rfl (by omega) (by omega) hcut
    unfold TakePost at HT
    obtain ⟨p, hp⟩ : ∃ p, p = c.toNat := ⟨_, rfl⟩
    rw [← hp] at hcell H0 hc hc256 ⊢
    have Hp := Lib.hid hp; clear hp
    obtain ⟨hp1, hp32⟩ := hc
    have hcutAll : ∀ s, 1 + s ≤ n → Bytes w w.heap.size (cutAt (some ad) cap (1 + s)) (r.drop s) := fun s hs => by
      have h := hb.cut (k := 1 + s) (cap := cap) (by rw [hl]; exact hs) (by omega)
      rw [Nat.add_comm 1 s, List.drop_succ_cons, Nat.add_comm s 1] at h
      exact h
    rcases Num.take_cases r with ⟨y, s, ht⟩ | ⟨e, ht, he⟩
    · obtain ⟨hnum, hss, hsl2, hy⟩ := Num.num_take ht
      simp only [ht, if_true] at HT ⊢
      obtain ⟨z, hz, hz0, hz1⟩ : ∃ z : Int, z = (y : Int) ∧ 0 ≤ z ∧ z ≤ 18446744073709551615 := ⟨y, rfl, by omega, by omega⟩
      rw [← hz] at HT
      have Hz := Lib.hid hz; clear hz
      replace HT := Lib.hid HT
      have hs9 : s ≤ 9 := by rw [hss]; exact Num.size_le9 hy
      have Hy := Lib.hid hy
      clear hcut hnum hss ht hy
      generalize cutAt (some ad) cap 1 = A1 at *
      rcases hrd : r.drop s with _ | ⟨v, _ | ⟨x, t⟩⟩
      · have hlen : r.length - s = 0 := by rw [← List.length_drop, hrd]; rfl
        have hshort : (n : Int) < 1 + (s : Int) + 2 := by omega
        clear hb hl hl' hsl2 hcutAll
        generalize r.length = rl at *
        go_enter Try.func31, Try.ntmps31
        go_wp2_with fail
        refine H0.out.mono ?_
        rintro e w1 ⟨rfl, rfl⟩
        clear H0
        go_wp2_with fail
        refine HT.out.mono ?_
        rintro e w1 ⟨rfl, rfl⟩
        clear HT
        go_wp2
        go_ret2
        exact .inr ⟨rfl, rfl, Below.refl _ _⟩
      · have hlen : r.length - s = 1 := by rw [← List.length_drop, hrd]; rfl
        have hshort : (n : Int) < 1 + (s : Int) + 2 := by omega
        clear hb hl hl' hsl2 hcutAll
        generalize r.length = rl at *
        go_enter Try.func31, Try.ntmps31
        go_wp2_with fail
        refine H0.out.mono ?_
        rintro e w1 ⟨rfl, rfl⟩
        clear H0
        go_wp2_with fail
        refine HT.out.mono ?_
        rintro e w1 ⟨rfl, rfl⟩
        clear HT
        go_wp2
        go_ret2
        exact .inr ⟨rfl, rfl, Below.refl _ _⟩
      · have hlen : r.length - s = t.length + 2 := by rw [← List.length_drop, hrd]; rfl
        have hlong : ¬ ((n : Int) < 1 + (s : Int) + 2) := by omega
        have hslb := run_cut_from (some ad) n cap (1 + s) (t.length + 2) (by omega)
        rw [show ((1 + s : Nat) : Int) = 1 + (s : Int) from by omega] at hslb
        have hb1 := hcutAll s (by omega)
        rw [hrd] at hb1
        obtain ⟨ad1, hA1, _, hc0⟩ := hb1.get (k := 0) (by simp)
        obtain ⟨ad1', hA1', _, hc1⟩ := hb1.get (k := 1) (by simp)
        rw [hA1] at hA1' hslb hb1
        cases hA1'
        simp only [List.getElem_cons_zero, List.getElem_cons_succ, Addr.add, if_true, Nat.one_ne_zero, if_false] at hc0 hc1
        have hb2 := hb1.cut (k := 2) (cap := cap - (1 + s)) (by simp) (by simp; omega)
        rw [List.drop_succ_cons, List.drop_succ_cons, List.drop_zero] at hb2
        have hslc := run_cut_from (some ad1) (t.length + 2) (cap - (1 + s)) 2 t.length (by omega)
        rw [show ((2 : Nat) : Int) = 2 from rfl] at hslc
        have hv256 := Num.byte_lt v
        have hx256 := Num.byte_lt x
        have htcap : t.length ≤ cap - (1 + s) - 2 := by omega
        have htm : t.length ≤ 281474976710656 := by omega
        have hrl : r.length - s = t.length + 2 := hlen
        clear hb hl hcutAll hrd hA1 hb1 hlen
        simp only
        generalize cap - (1 + s) = capb at *
        generalize cutAt (some ad1) capb 2 = A2 at *
        generalize hvv : v.toNat = V at *
        generalize hxx : x.toNat = X at *
        clear hvv hxx
        have hpv : p * V ≤ 32 * 256 := Nat.mul_le_mul hp32 (by omega)
        have HS := Lib.hid (fun w' => ppackedSize_any p V w' (by omega))
        have hS : Bits.size p V ≤ 1100 := by unfold Bits.size; omega
        by_cases hfit : Bits.size p V ≤ t.length
        · rw [if_pos hfit]
          have hslt := run_cut_h A2 t.length (capb - 2) (Bits.size p V) (by omega)
          have htl : (t.take (Bits.size p V)).length = Bits.size p V := by simp; omega
          have HU := fun (w' : World) (hb2 : Bytes w' w'.heap.size A2 t) => unpack_any A2 (Bits.size p V) (capb - 2) _ (p : Int) (V : Int) (t.take (Bits.size p V)) w' htl (hb2.take _) (Nat.le_refl _) (by omega)
          have hsld := run_cut_from A2 t.length (capb - 2) (Bits.size p V) (t.length - Bits.size p V) (by omega)
          have hb3 := hb2.cut (k := Bits.size p V) (cap := capb - 2) hfit htcap
          have hdl : (t.drop (Bits.size p V)).length = t.length - Bits.size p V := List.length_drop
          have hcapd : t.length - Bits.size p V ≤ capb - 2 - Bits.size p V := by omega
          unfold UnpackPost at HU
          rcases Bits.unpack_cases (t.take (Bits.size p V)) (p : Int) (V : Int) with ⟨L0, hu⟩ | ⟨e, hu, he⟩
          · obtain ⟨hV64', hL0⟩ := Bits.unpack_le64 hu
            rw [hu] at HU ⊢
            rw [Int.toNat_natCast] at hL0
            have hV64 : V ≤ 64 := by omega
            simp only [if_true, hL0] at HU ⊢
            have HA := Lib.hid (fun (g3 c3 : Nat) (w1 : World) (ho : NOwn w1 w.heap.size (some ⟨g3, 0, none⟩) p c3 L0) (hbb : Bytes w1 w.heap.size (cutAt A2 (capb - 2) (Bits.size p V)) (t.drop (Bits.size p V))) =>
              addHighBits_any g3 p c3 w.heap.size V (t.length - Bits.size p V) (capb - 2 - Bits.size p V) X (cutAt A2 (capb - 2) (Bits.size p V)) L0 (t.drop (Bits.size p V)) w1 ho (by omega) hV64 (by omega) hdl hcapd (by omega) hbb)
            replace HU := Lib.hid HU
            have Hb2 := Lib.hid hb2
            have Hb3 := Lib.hid hb3
            clear hu hb2 hb3 htl hdl hpv hl' hsl2 hrl hV64' hL0
            generalize cutAt A2 (capb - 2) (Bits.size p V) = A3 at *
            generalize t.drop (Bits.size p V) = td at *
            generalize r.length = rl at *
            generalize t.length = tl at *
            generalize Bits.size p V = S at *
            go_enter Try.func31, Try.ntmps31
            go_wp2_with fail
            refine H0.out.mono ?_
            rintro e w1 ⟨rfl, rfl⟩
            clear H0
            go_wp2_with fail
            refine HT.out.mono ?_
            rintro e w1 ⟨rfl, rfl⟩
            clear HT
            go_wp2_with fail
            go_quiet (fail)
            obtain ⟨wq, hwq, hsq, hb2q, hb3q, hbq⟩ : ∃ wq, wq = w.drewN nq ∧ wq.heap.size = w.heap.size ∧ Bytes wq wq.heap.size A2 t ∧ Bytes wq w.heap.size A3 td ∧ Below w.heap.size w wq := ⟨_, rfl, rfl, Hb2.out, Hb3.out, below_drewN (Below.refl _ w) nq⟩
            rw [← hwq]
            clear hwq Hb2 Hb3 hcell hc0 hc1 hsl hslb
            have HUq := Lib.hid (HU.out wq hb2q)
            rw [hsq] at HUq
            clear HU
            go_wp2_with fail
            refine (HS.out _).mono ?_
            rintro e w1 ⟨rfl, rfl⟩
            clear HS
            go_wp2_with fail
            refine HUq.out.mono ?_
            rintro e w1 ⟨A4, c4, rfl, ho4, hb4⟩
            clear HUq
            obtain ⟨g4, rfl, _⟩ := ho4.at_ (by omega)
            have hb4' := hbq.trans hb4
            have HA1 := Lib.hid (HA.out g4 c4 w1 ho4 (hb3q.below hb4))
            clear HA hb3q
            go_wp2_with fail
            refine HA1.out.mono ?_
            clear HA1 ho4
            rintro e w2 (⟨ds, hds, rfl, ho5, hb5⟩ | ⟨hds, rfl, hb5⟩)
            · have hdl := ho5.len
              have hpl : (Pfor.plus y ds).length = p := by rw [Pfor.plus_length, hdl]
              have Hds := Lib.hid hds
              have Hdl := Lib.hid hdl
              have Hpl := Lib.hid hpl
              have hb6 := hb4'.trans hb5
              have hg4 := ho5.block.1
              clear hdl hpl hds hb5 hb4 hb4' hbq hsld hslc hslt
              go_wp2
              go_loopw [89] (fun i wr => ∃ (k : Nat), k ≤ p ∧ i = .int .i64 k ∧ NOwn wr w.heap.size (some ⟨g4, 0, none⟩) p c4 ((Pfor.plus y ds).take k ++ ds.drop k) ∧ Below w.heap.size w wr) (fun i _ => p - (intOf i).toNat)
              case atStart => exact ⟨0, by omega, rfl, by simpa using ho5, hb6⟩
              case round =>
                clear ho5 hb6
                obtain ⟨k, hk, rfl, ho, hbel⟩ := hrel
                by_cases hlt : k < p
                · have hk' : k < ds.length := by have := Hdl.out; omega
                  obtain ⟨hg1, hg2⟩ := turn_get Hdl.out Hpl.out hlt
                  have hold := ho.cell hg1
                  rw [hg2] at hold
                  simp only [uval] at hold
                  have hfree := ho.free k
                  have hst := ho.store k ((Pfor.plus y ds)[k]'(by rw [Hpl.out]; exact hlt))
                  rw [turn_set Hdl.out Hpl.out hlt, plus_get hk'] at hst
                  obtain ⟨q, hq, hq0, hq1⟩ : ∃ q : Int, q = (ds[k].toNat : Int) ∧ 0 ≤ q ∧ q ≤ 18446744073709551615 := ⟨_, rfl, by omega, by have := Bits.u64_lt ds[k]; omega⟩
                  rw [wrap_add hq Hz.out] at hst
                  rw [← hq] at hold
                  have Hst := Lib.hid hst
                  have Hbl := Lib.hid (hbel.setCell (p := ⟨g4, k, none⟩) hg4 (.int .u64 (IntKind.u64.wrap (q + z))))
                  clear hst hq hg1 hg2 ho
                  go_wp2
                  go_roundw
                  case rel => exact ⟨k + 1, by omega, by go_num, Hst.out, Hbl.out⟩
                  case measure => simp [intOf]; omega
                · obtain rfl : k = p := by omega
                  rw [List.take_of_length_le (by rw [Hpl.out]; exact Nat.le_refl _), List.drop_of_length_le (by rw [Hdl.out]; exact Nat.le_refl _), List.append_nil] at ho
                  go_wp2
                  go_ret2
                  refine .inl ⟨Pfor.plus y ds, some ⟨g4, 0, none⟩, c4, by rw [Hds.out]; rfl, ?_⟩
                  rw [Hpl.out]
                  exact ⟨rfl, hp1, hp32, ho, hbel⟩
            · have Hds := Lib.hid hds
              clear hds hsld hslc hslt
              go_wp2
              go_ret2
              exact .inr ⟨by rw [Hds.out]; rfl, rfl, hb4'.trans hb5⟩
          · rw [hu] at HU ⊢
            simp only [if_neg he, List.length_nil] at HU ⊢
            have he' : ¬ ((e : Int) = 0) := by omega
            replace HU := Lib.hid HU
            have Hb2 := Lib.hid hb2
            clear hu hb2 hb3 htl hdl hpv hl' hsl2 hrl he hsld
            generalize r.length = rl at *
            generalize t.length = tl at *
            generalize Bits.size p V = S at *
            go_enter Try.func31, Try.ntmps31
            go_wp2_with fail
            refine H0.out.mono ?_
            rintro e w1 ⟨rfl, rfl⟩
            clear H0
            go_wp2_with fail
            refine HT.out.mono ?_
            rintro e w1 ⟨rfl, rfl⟩
            clear HT
            go_wp2_with fail
            go_quiet (fail)
            obtain ⟨wq, hwq, hsq, hb2q, hbq⟩ : ∃ wq, wq = w.drewN nq ∧ wq.heap.size = w.heap.size ∧ Bytes wq wq.heap.size A2 t ∧ Below w.heap.size w wq := ⟨_, rfl, rfl, Hb2.out, below_drewN (Below.refl _ w) nq⟩
            rw [← hwq]
            clear hwq Hb2 hcell hc0 hc1 hsl hslb
            have HUq := Lib.hid (HU.out wq hb2q)
            rw [hsq] at HUq
            clear HU
            go_wp2_with fail
            refine (HS.out _).mono ?_
            rintro e w1 ⟨rfl, rfl⟩
            clear HS
            go_wp2_with fail
            refine HUq.out.mono ?_
            rintro e w1 ⟨A4, c4, rfl, ho4, hb4⟩
            clear HUq
            go_wp2
            go_ret2
            exact .inr ⟨rfl, rfl, hbq.trans hb4⟩
        · rw [if_neg hfit]
          have hshort : (t.length : Int) < (Bits.size p V : Int) := by omega
          clear hb2 hpv hl' hsl2 hrl hfit
          generalize r.length = rl at *
          generalize t.length = tl at *
          generalize Bits.size p V = S at *
          go_enter Try.func31, Try.ntmps31
          go_wp2_with fail
          refine H0.out.mono ?_
          rintro e w1 ⟨rfl, rfl⟩
          clear H0
          go_wp2_with fail
          refine HT.out.mono ?_
          rintro e w1 ⟨rfl, rfl⟩
          clear HT
          go_wp2_with fail
          go_quiet (fail)
          go_wp2_with fail
          refine (HS.out _).mono ?_
          rintro e w1 ⟨rfl, rfl⟩
          clear HS
          go_wp2
          go_ret2
          exact .inr ⟨rfl, rfl, below_drewN (Below.refl _ w) nq⟩
    · have he' : ¬ ((e : Int) = 0) := by omega
      simp only [ht] at HT ⊢
      rw [if_neg (by omega)]
      replace HT := Lib.hid HT
      clear hcut hb hl ht he hl' hcutAll
      generalize cutAt (some ad) cap 1 = A1 at *
      generalize r.length = rl at *
      go_enter Try.func31, Try.ntmps31
      go_wp2_with fail
      refine H0.out.mono ?_
      rintro e' w1 ⟨rfl, rfl⟩
      clear H0
      go_wp2_with fail
      refine HT.out.mono ?_
      rintro e' w1 ⟨rfl, rfl⟩
      clear HT
      go_wp2
      go_ret2
      exact .inr ⟨rfl, rfl, Below.refl _ _⟩
  · rw [if_neg hc]
    rw [decide_eq_false (show ¬ (1 ≤ (c.toNat : Int) ∧ (c.toNat : Int) ≤ 32) by omega)] at H0
    replace H0 := Lib.hid H0
    clear hb hl hl' hc
    generalize c.toNat = p at *
    go_enter Try.func31, Try.ntmps31
    go_wp2_with fail
    refine H0.out.mono ?_
    rintro e' w1 ⟨rfl, rfl⟩
    clear H0
    go_wp2
    go_ret2
    exact .inr ⟨rfl, rfl, Below.refl _ _⟩
end Go.Proofs.Ytcknijkjacgnkaa
