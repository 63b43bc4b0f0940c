/- The document's longest and Encode. -/
import Derived.Test.YtmcioglidgbibaaSymEnc
import Derived.Test.YtmcioglidgbibaaSymForm2
namespace Go.Proofs.Ytmcioglidgbibaa
open Go.RowKit Go.Maps
set_option maxRecDepth 100000

namespace Sym
/-- the place of the best, -1: none -/
def at_ : Option Nat → Int
  | none => -1
  | some k => k
theorem upto_lt {t : List (List UInt8)} {b : List UInt8} {i k : Nat} (hi : i ≤ t.length) (h : upto t b i = some k) : k < i := by
  rcases upto_is t b i hi with ⟨e, _⟩ | ⟨k', e, hk, _⟩
  · rw [e] at h; cases h
  · rw [e] at h; injection h with h; omega
theorem upto_no {t : List (List UInt8)} {b : List UInt8} {i : Nat} (hi : i < t.length) (h : ¬ t[i] <+: b) : upto t b (i + 1) = upto t b i := by
  rw [upto, getD_eq hi, if_neg h]
theorem upto_first {t : List (List UInt8)} {b : List UInt8} {i : Nat} (hi : i < t.length) (h : t[i] <+: b) (hn : upto t b i = none) : upto t b (i + 1) = some i := by
  rw [upto, getD_eq hi, if_pos h, hn]
theorem upto_more {t : List (List UInt8)} {b : List UInt8} {i k : Nat} (hi : i < t.length) (hk : k < t.length) (h : t[i] <+: b) (hn : upto t b i = some k) (hl : t[k].length < t[i].length) : upto t b (i + 1) = some i := by
  rw [upto, getD_eq hi, if_pos h, hn]
  simp only [getD_eq hk, if_pos hl]
theorem upto_less {t : List (List UInt8)} {b : List UInt8} {i k : Nat} (hi : i < t.length) (hk : k < t.length) (h : t[i] <+: b) (hn : upto t b i = some k) (hl : ¬ t[k].length < t[i].length) : upto t b (i + 1) = some k := by
  rw [upto, getD_eq hi, if_pos h, hn]
  simp only [getD_eq hk, if_neg hl]
theorem prefix_take {s b : List UInt8} : s <+: b ↔ b.take s.length = s := by
  rw [List.prefix_iff_eq_take]
  exact eq_comm
end Sym

set_option maxHeartbeats 4000000 in
theorem longest_any (A Ab : Option Addr) (n m cap capb B : Nat) (t : List (List UInt8)) (b : List UInt8) (w : World) (hl : t.length = n) (hn : n ≤ 32) (hlb : b.length = m) (hcapb : m ≤ capb) (_hm : m ≤ 140737488355328)
    (h1 : Strs w B A t) (hs : ∀ s ∈ t, s.length ≤ 8) (hb : Bytes w B Ab b) :
    Calls Try.prog 37 #[.slice A n cap, .slice Ab m capb] w fun e w' => e = .returned (.int .i64 (Sym.at_ (Sym.longest t b))) ∧ Drawn w w' := by
  have Hl := Lib.hid hl; clear hl
  have Hlb := Lib.hid hlb; clear hlb
  have Hs := Lib.hid hs; clear hs
  go_enter Try.func37, Try.ntmps37
  go_wp2
  go_loopw [5, 6] (fun r i wr => ∃ (k : Nat), k ≤ n ∧ i = .int .i64 k ∧ r = .int .i64 (Sym.at_ (Sym.upto t b k)) ∧ Strs wr B A t ∧ Bytes wr B Ab b ∧ Drawn w wr) (fun _ i _ => n - (intOf i).toNat)
  case atStart => exact ⟨0, Nat.zero_le _, rfl, rfl, h1, hb, Drawn.refl _⟩
  case round =>
    clear h1 hb
    obtain ⟨k, hk, rfl, rfl, h1, hb, hdr⟩ := hrel
    by_cases hlt : k < n
    · have hk' : k < t.length := by have := Hl.out; omega
      obtain ⟨ad1, rfl, _, hc1⟩ := h1.get hk'
      have h8 := Hs.out _ (List.getElem_mem hk')
      have i1 : (k : Int) < (n : Int) := by omega
      have i0 : (0 : Int) ≤ (k : Int) := by omega
      have hno := Lib.hid (Sym.upto_no (b := b) hk')
      have hfi := Lib.hid (Sym.upto_first (b := b) hk')
      have hmo := Lib.hid (fun j hj => Sym.upto_more (b := b) (k := j) hk' hj)
      have hle := Lib.hid (fun j hj => Sym.upto_less (b := b) (k := j) hk' hj)
      have hpre := Lib.hid (@Sym.prefix_take t[k] b)
      simp only [sval] at hc1
      obtain ⟨x, hx⟩ : ∃ x, x = t[k] := ⟨_, rfl⟩
      rw [← hx] at hc1 h8 hno hfi hmo hle hpre
      have Hx := Lib.hid hx; clear hx
      by_cases hxm : x.length ≤ m
      · have hd1 : decide ((x.length : Int) ≤ (m : Int)) = true := by simp; omega
        have hcut := run_cut_h Ab m capb x.length (by omega)
        have hcv := fun q => run_string_of ((hb.take x.length).drewN q) capb
        rw [show (b.take x.length).length = x.length from by rw [List.length_take, Hlb.out]; omega] at hcv
        by_cases hp : b.take x.length = x
        · rw [hp] at hcv
          have hxx : (x == x) = true := by simp
          have hpx := hpre.out.2 hp
          clear hpre hp
          rcases hu : Sym.upto t b k with _ | j
          · have HR := Lib.hid (hfi.out hpx hu)
            clear hno hmo hle hfi hpx hu
            simp only [Sym.at_]
            go_wp2_with fail
            go_quiet (fail)
            go_wp2
            go_roundw
            case rel => exact ⟨k + 1, by omega, by go_num, by rw [HR.out], h1, hb, hdr.drewN _⟩
            case measure => simp [intOf]; omega
          · have hjk := Sym.upto_lt (by omega) hu
            have hj' : j < t.length := by omega
            obtain ⟨_, hh, _, hc2⟩ := h1.get hj'
            cases hh
            have hmo := Lib.hid (hmo.out j hj' hpx hu)
            have hle := Lib.hid (hle.out j hj' hpx hu)
            have h8' := Hs.out _ (List.getElem_mem hj')
            simp only [sval] at hc2
            generalize t[j] = y at *
            have i2 : (j : Int) < (n : Int) := by omega
            have i3 : (0 : Int) ≤ (j : Int) := by omega
            have hneg : decide ((j : Int) < 0) = false := by simp
            clear hno hfi hpx hu
            simp only [Sym.at_]
            by_cases hyx : y.length < x.length
            · have hd2 : decide (y.length < x.length) = true := by simpa using hyx
              have HR := Lib.hid (hmo.out hyx)
              go_wp2_with fail
              go_quiet (fail)
              go_wp2
              go_roundw
              case rel => exact ⟨k + 1, by omega, by go_num, by rw [HR.out], h1, hb, hdr.drewN _⟩
              case measure => simp [intOf]; omega
            · have hd2 : decide (y.length < x.length) = false := by simpa using hyx
              have HR := Lib.hid (hle.out hyx)
              go_wp2_with fail
              go_quiet (fail)
              go_wp2
              go_roundw
              case rel => exact ⟨k + 1, by omega, by go_num, by rw [HR.out], h1, hb, hdr.drewN _⟩
              case measure => simp [intOf]; omega
        · have hnp := Lib.hid (hno.out (fun h => hp (hpre.out.1 h)))
          generalize b.take x.length = y at *
          have hyx : (y == x) = false := by simpa using hp
          clear hpre hp hno hfi hmo hle
          go_wp2_with fail
          go_quiet (fail)
          go_wp2
          go_roundw
          case rel => exact ⟨k + 1, by omega, by go_num, by rw [hnp.out], h1, hb, hdr.drewN _⟩
          case measure => simp [intOf]; omega
      · have hd1 : decide ((x.length : Int) ≤ (m : Int)) = false := by simp; omega
        have hnp := Lib.hid (hno.out (fun h => hxm (by rw [← Hlb.out]; exact h.length_le)))
        clear hpre hno hfi hmo hle
        go_wp2_with fail
        go_quiet (fail)
        go_wp2
        go_roundw
        case rel => exact ⟨k + 1, by omega, by go_num, by rw [hnp.out], h1, hb, hdr.drewN _⟩
        case measure => simp [intOf]; omega
    · obtain rfl : k = n := by omega
      have HE : Hid (Sym.longest t b = Sym.upto t b k) := Lib.hid (by unfold Sym.longest; rw [Hl.out])
      go_wp2
      go_ret
      exact ⟨by rw [HE.out]; rfl, hdr⟩

set_option maxHeartbeats 4000000 in
theorem refEncode_any (A Ab : Option Addr) (n m cap capb B : Nat) (t : List (List UInt8)) (b : List UInt8) (w : World) (hl : t.length = n) (hn : n ≤ 140737488355328) (hlb : b.length = m) (hcapb : m ≤ capb) (hm : m ≤ 70368744177664)
    (h1 : Strs w B A t) (hs : ∀ s ∈ t, s.length ≤ maxLen) (hb : Bytes w B Ab b) (hB : B ≤ w.heap.size) :
    Calls Try.prog 17 #[.slice A n cap, .slice Ab m capb] w (PairPost w (Sym.encoded t b)) := by
  have HF := refFormed_any A n cap B t w hl hn h1 hs
  unfold Sym.encoded
  by_cases hf : Sym.Formed t
  · rw [Sym.formed_iff.2 hf] at HF
    rw [if_pos hf]
    replace HF := Lib.hid HF
    have Hf := Lib.hid hf
    have h1' := h1.wide hB
    have hb' := hb.wide hB
    have hn32 : n ≤ 32 := by rw [← hl]; exact hf.1
    have HLO := Lib.hid (fun (A1 : Option Addr) (m1 c1 B1 : Nat) (b1 : List UInt8) (w1 : World) (hlb1 : b1.length = m1) (hc1 : m1 ≤ c1) (hm1 : m1 ≤ 140737488355328) (h11 : Strs w1 B1 A t) (hb1 : Bytes w1 B1 A1 b1) => longest_any A A1 n m1 cap c1 B1 t b1 w1 hl hn32 hlb1 hc1 hm1 h11 (fun s hs => (hf.2.1 s hs).2) hb1)
    have Hl := Lib.hid hl
    have Hlb := Lib.hid hlb
    clear hl h1 hs hf hb hlb
    go_enter Try.func17, Try.ntmps17
    go_wp2_with fail
    refine HF.out.mono ?_
    rintro e w1 ⟨rfl, hd1⟩
    clear HF
    go_wp2
    go_loopg [6, 7] m (fun g ov i wx => ∃ k A2 c2 o, k + g = m ∧ i = .int .i64 (k : Int) ∧ ov = .slice A2 o.length c2 ∧ Own wx w.heap.size A2 o.length c2 o ∧ o ++ Sym.encode t (b.drop k) = Sym.encode t b ∧ o.length + 2 * g ≤ 2 * m ∧ Below w.heap.size w wx)
    case atStart => exact ⟨0, none, 0, [], by omega, rfl, rfl, own_none _ _, rfl, by simp, hd1.below _⟩
    case round =>
      obtain ⟨k, A2, c2, o, hkg, rfl, rfl, hown, henc, hsz, hbel⟩ := hrel
      have HENC := Lib.hid henc; clear henc
      have hszw := hbel.size
      by_cases hkm : k < m
      · have hkm' : (k : Int) < (m : Int) := by omega
        have hsl := run_cut_from Ab m capb k (m - k) (by omega)
        have h1r := h1'.below hbel
        have hbr := hb'.below hbel
        have hcut := hbr.cut (k := k) (cap := capb) (by rw [Hlb.out]; omega) (by rw [Hlb.out]; exact hcapb)
        have HL := Lib.hid (HLO.out (cutAt Ab capb k) (m - k) (capb - k) w.heap.size (b.drop k) wr (by rw [List.length_drop, Hlb.out]) (by omega) (by omega) h1r hcut)
        have hlk := Sym.longest_is t (b.drop k)
        rcases hlo : Sym.longest t (b.drop k) with _ | j
        · rw [hlo] at HL
          simp only [Sym.at_] at HL
          obtain ⟨x, hx, hdrop⟩ : ∃ x, b[k]? = some x ∧ b.drop k = x :: b.drop (k + 1) := ⟨b[k]'(by rw [Hlb.out]; exact hkm), List.getElem?_eq_getElem _, List.drop_eq_getElem_cons _⟩
          have HEN : Hid (Sym.encode t (b.drop k) = 255 :: x :: Sym.encode t (b.drop (k + 1))) := Lib.hid (by rw [hdrop]; exact Sym.encode_none (by rw [← hdrop]; exact hlo))
          obtain ⟨ad, rfl, hblk, hcell⟩ := hbr.get (k := k) (by rw [Hlb.out]; exact hkm)
          rw [show b[k]'(by rw [Hlb.out]; exact hkm) = x from by rw [List.getElem?_eq_getElem (by rw [Hlb.out]; exact hkm)] at hx; injection hx] at hcell
          generalize cutAt (some ad) capb k = A3 at *
          clear hlk hlo hcut hdrop hx
          go_wp2_with fail
          refine HL.out.mono ?_
          rintro e w2 ⟨rfl, hd2⟩
          clear HL
          have hbel2 := hbel.trans (hd2.below w.heap.size)
          have hcell2 : w2.cell? (ad.add k) = some (.int .u8 (x.toNat : Int)) := by obtain ⟨q, rfl⟩ := hd2; exact hcell
          have hown2 : Own w2 w.heap.size A2 o.length c2 o := by obtain ⟨q, rfl⟩ := hd2; exact hown
          have hsz2 : w.heap.size ≤ w2.heap.size := hbel2.size
          have hone := own_byte2 w2 255 x 255 (x.toNat : Int) rfl rfl
          have hob := hone.bytes
          have hoa := hown2.alloc (.cells #[.int .u8 255, .int .u8 (x.toNat : Int)] 5)
          have hba : Below w.heap.size w (w2.alloc (.cells #[.int .u8 255, .int .u8 (x.toNat : Int)] 5)) := hbel2.alloc hsz2 _
          have hsza : w.heap.size ≤ (w2.alloc (.cells #[.int .u8 255, .int .u8 (x.toNat : Int)] 5)).heap.size := by simp; omega
          clear hone hown hown2 hd2 hcell hbr h1r hbel2
          go_wp2_with (at_builtin; refine wpList_append_bytes rfl (.tmp 23) (.tmp 28) rfl w.heap.size A2 o.length c2 o rfl hoa _ _ 2 2 [255, x] rfl rfl hob (by omega) hsza ?_; intro A5 c5 w5 ho5 hg5 hat5)
          have hb5 : Below w.heap.size w w5 := hba.grown hg5 hsza (fun q hq => (hoa.lt hq).1)
          have HE5 : Hid ((o ++ [255, x]) ++ Sym.encode t (b.drop (k + 1)) = Sym.encode t b) := Lib.hid (by rw [← HENC.out, HEN.out, List.append_assoc]; rfl)
          have Hl5 := Lib.hid (show (o ++ [255, x]).length = o.length + 2 from by simp)
          clear hba hoa hob hg5 hat5 hsl hcell2
          go_roundg (m - (k + 1))
          case measure => omega
          case rel => exact ⟨k + 1, A5, c5, o ++ [255, x], by omega, by go_num, by rw [Hl5.out], by rw [Hl5.out]; exact ho5, HE5.out, by rw [Hl5.out]; omega, hb5⟩
        · rw [hlo] at HL hlk
          simp only [Sym.at_] at HL
          obtain ⟨hj', hp, _⟩ := hlk
          have h2 := (Hf.out.2.1 _ (List.getElem_mem hj')).1
          have h8 := (Hf.out.2.1 _ (List.getElem_mem hj')).2
          have hple := hp.length_le
          rw [List.length_drop, Hlb.out] at hple
          have HEN := Lib.hid (Sym.encode_some hlo (by rw [Sym.getD_eq hj']; omega))
          rw [Sym.getD_eq hj', List.drop_drop] at HEN
          have hjn : j < n := by rw [← Hl.out]; exact hj'
          obtain ⟨ad, rfl, hblk, hcell⟩ := h1r.get hj'
          simp only [sval] at hcell
          generalize t[j] = s at *
          generalize cutAt Ab capb k = A3 at *
          clear hp hlo hcut
          go_wp2_with fail
          refine HL.out.mono ?_
          rintro e w2 ⟨rfl, hd2⟩
          clear HL
          have hbel2 := hbel.trans (hd2.below w.heap.size)
          have hcell2 : w2.cell? (ad.add j) = some (.string ⟨s.toArray⟩) := by obtain ⟨q, rfl⟩ := hd2; exact hcell
          have hown2 : Own w2 w.heap.size A2 o.length c2 o := by obtain ⟨q, rfl⟩ := hd2; exact hown
          have hsz2 : w.heap.size ≤ w2.heap.size := hbel2.size
          have hjj : (j : Int) % 256 = (j : Int) := by omega
          have hone := own_byte w2 (UInt8.ofNat j) (j : Int) (bval_lt (by omega))
          have hob := hone.bytes
          have hoa := hown2.alloc (.cells #[.int .u8 (j : Int)] 5)
          have hba : Below w.heap.size w (w2.alloc (.cells #[.int .u8 (j : Int)] 5)) := hbel2.alloc hsz2 _
          have hsza : w.heap.size ≤ (w2.alloc (.cells #[.int .u8 (j : Int)] 5)).heap.size := by simp; omega
          have hca : (w2.alloc (.cells #[.int .u8 (j : Int)] 5)).cell? (ad.add j) = some (.string ⟨s.toArray⟩) := (((Below.refl w.heap.size w2).alloc hsz2 _).cell (by rw [addr_add_block]; exact hblk)).trans hcell2
          have i1 : (j : Int) < (n : Int) := by omega
          clear hone hown hown2 hd2 hcell hbr h1r hbel2 hcell2
          go_wp2_with (at_builtin; refine wpList_append_bytes rfl (.tmp 32) (.tmp 35) rfl w.heap.size A2 o.length c2 o rfl hoa _ _ 1 1 [UInt8.ofNat j] rfl rfl hob (by omega) hsza ?_; intro A5 c5 w5 ho5 hg5 hat5; have hc5 := (((Below.refl w.heap.size _).grown hg5 hsza (fun q hq => (hoa.lt hq).1)).cell (by rw [addr_add_block]; exact hblk)).trans hca)
          have hb5 : Below w.heap.size w w5 := hba.grown hg5 hsza (fun q hq => (hoa.lt hq).1)
          have HE5 : Hid ((o ++ [UInt8.ofNat j]) ++ Sym.encode t (b.drop (k + s.length)) = Sym.encode t b) := Lib.hid (by rw [← HENC.out, HEN.out, List.append_assoc]; rfl)
          have Hl5 := Lib.hid (show (o ++ [UInt8.ofNat j]).length = o.length + 1 from by simp)
          clear hba hoa hob hg5 hat5 hsl hca
          go_roundg (m - (k + s.length))
          case measure => omega
          case rel => exact ⟨k + s.length, A5, c5, o ++ [UInt8.ofNat j], by omega, by go_num, by rw [Hl5.out], by rw [Hl5.out]; exact ho5, HE5.out, by rw [Hl5.out]; omega, hb5⟩
      · have hkm' : ¬ ((k : Int) < (m : Int)) := by omega
        have HE : Hid (Sym.encode t b = o) := by
          have hr : b.drop k = [] := List.drop_eq_nil_of_le (by rw [Hlb.out]; omega)
          have := HENC.out
          rw [hr, Sym.encode_nil, List.append_nil] at this
          exact Lib.hid this.symm
        clear HENC
        go_wp2
        go_ret2
        exact ⟨A2, c2, by rw [HE.out]; rfl, by rw [HE.out]; exact hown, hbel⟩
  · rw [Sym.formed_not.2 hf] at HF
    rw [if_neg hf]
    replace HF := Lib.hid HF
    clear h1 hs hl hb hf
    go_enter Try.func17, Try.ntmps17
    go_wp2_with fail
    refine HF.out.mono ?_
    rintro e w' ⟨rfl, hd⟩
    clear HF
    go_wp2
    go_ret2
    exact PairPost.none 1 (hd.below _)
end Go.Proofs.Ytmcioglidgbibaa
