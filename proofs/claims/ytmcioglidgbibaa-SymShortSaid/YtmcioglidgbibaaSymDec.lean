/- sym.takeCode, sym.Decode. -/
import Derived.Test.YtmcioglidgbibaaSymEnc
import Derived.Test.YtmcioglidgbibaaAppStr
namespace Go.Proofs.Ytmcioglidgbibaa
open Go.RowKit
set_option maxRecDepth 100000

/-- what takeCode answers -/
def codeVal : Option (List UInt8 × Nat) → Value
  | none => .tuple #[.string ⟨#[]⟩, .int .i64 0, .bool false]
  | some (s, k) => .tuple #[.string ⟨s.toArray⟩, .int .i64 (k : Int), .bool true]
set_option maxHeartbeats 1000000 in
theorem takeCode_any (A Ab : Option Addr) (n m cap capb B : Nat) (t : List (List UInt8)) (b : List UInt8) (w : World) (hl : t.length = n) (hn : n ≤ 32) (hlb : b.length = m) (hm1 : 1 ≤ m) (hcapb : m ≤ capb) (h1 : Strs w B A t) (hb : Bytes w B Ab b) :
    Calls Try.prog 38 #[.slice A n cap, .slice Ab m capb] w fun e w' => e = .returned (codeVal (Sym.code t b)) ∧ w = w' := by
  obtain ⟨c, r, rfl⟩ : ∃ c r, b = c :: r := by
    cases b with
    | nil => simp at hlb; omega
    | cons c r => exact ⟨c, r, rfl⟩
  obtain ⟨ad, rfl, _, hcell⟩ := hb.get (k := 0) (by simp)
  simp only [List.getElem_cons_zero] at hcell
  rw [show ad.add 0 = ad from by simp [Addr.add]] at hcell
  have hc256 := Num.byte_lt c
  have i0 : (0 : Int) < (m : Int) := by omega
  by_cases hct : c.toNat < n
  · have hct' : c.toNat < t.length := by omega
    have HC := Lib.hid (Sym.code_sym r hct')
    rw [Sym.getD_eq hct'] at HC
    obtain ⟨ad1, rfl, _, hc1⟩ := h1.get hct'
    simp only [sval] at hc1
    generalize t[c.toNat] = x at *
    have hlt : (c.toNat : Int) < (n : Int) := by omega
    have hge : (0 : Int) ≤ (c.toNat : Int) := by omega
    clear h1 hb hl hlb
    go_enter Try.func38, Try.ntmps38
    go_wp2
    go_ret3
    exact ⟨by rw [HC.out]; rfl, rfl⟩
  · have hct' : ¬ c.toNat < t.length := by omega
    have hlt : ¬ ((c.toNat : Int) < (n : Int)) := by omega
    by_cases h255 : c = 255
    · subst h255
      have h2 : ((255 : UInt8).toNat : Int) = 255 := by decide
      rw [h2] at hcell hlt
      cases r with
      | nil =>
        have HC : Hid (Sym.code t [255] = none) := Lib.hid (by show (if (255 : UInt8).toNat < t.length then _ else _) = _; rw [if_neg hct']; rfl)
        have hm' : ¬ ((1 : Int) < (m : Int)) := by simp at hlb; omega
        clear h1 hb hl hlb
        go_enter Try.func38, Try.ntmps38
        go_wp2
        go_ret3
        exact ⟨by rw [HC.out]; rfl, rfl⟩
      | cons d r =>
        have HC := Lib.hid (Sym.code_esc (t := t) d r (by omega))
        have hm' : (1 : Int) < (m : Int) := by simp at hlb; omega
        have hcut : ∀ W : World, (Instr.slice 24 (.slice (some ad) m capb) (some (.int .i64 (1 : Int))) (some (.int .i64 (2 : Int))) none).run Try.prog W = .ok (.slice (cutAt (some ad) capb 1) 1 (capb - 1)) W := run_cut_lh (some ad) m capb 1 2 (by omega) (by omega)
        have hbc := (hb.cut (k := 1) (cap := capb) (by simp) (by omega)).take 1
        rw [show ((255 :: d :: r).drop 1).take 1 = [d] from rfl] at hbc
        have hcv := run_string_of hbc (capb - 1)
        rw [show [d].length = 1 from rfl] at hcv
        generalize cutAt (some ad) capb 1 = A2 at *
        clear h1 hb hl hlb hbc
        go_enter Try.func38, Try.ntmps38
        go_wp2
        go_ret3
        exact ⟨by rw [HC.out]; rfl, rfl⟩
    · have HC : Hid (Sym.code t (c :: r) = none) := Lib.hid (by show (if c.toNat < t.length then _ else _) = _; rw [if_neg hct', if_neg h255])
      have h2 : ((c.toNat : Int) == 255) = false := by
        have : c.toNat ≠ 255 := fun e => h255 (UInt8.toNat_inj.1 e)
        simp; omega
      clear h1 hb hl hlb
      go_enter Try.func38, Try.ntmps38
      go_wp2
      go_ret3
      exact ⟨by rw [HC.out]; rfl, rfl⟩

set_option maxHeartbeats 4000000 in
theorem decode_any (A Ab : Option Addr) (n m cap capb B : Nat) (most : Int) (t : List (List UInt8)) (b : List UInt8) (w : World) (hl : t.length = n) (hcap : n ≤ cap) (hn : n ≤ 140737488355328) (hlb : b.length = m) (hcapb : m ≤ capb) (hm : m ≤ 17592186044416)
    (h0 : -9223372036854775808 ≤ most) (h63 : most ≤ 9223372036854775807) (h1 : Strs w B A t) (hs : ∀ s ∈ t, s.length ≤ maxLen) (hb : Bytes w B Ab b) (hB : B ≤ w.heap.size) :
    Calls Try.prog 20 #[.slice A n cap, .slice Ab m capb, .int .i64 most] w (PairPost w (Sym.decoded t b most)) := by
  have HF := formed_any A n cap B t w hl hcap hn h1 hs
  unfold Sym.decoded
  by_cases hf : Sym.Formed t
  · rw [Sym.formed_iff.2 hf] at HF
    replace HF := Lib.hid HF
    by_cases hneg : most < 0
    · rw [if_neg (fun h => by omega)]
      clear h1 hs hl hb hf
      go_enter Try.func20, Try.ntmps20
      go_wp2_with fail
      refine HF.out.mono ?_
      rintro e w' ⟨rfl, rfl⟩
      clear HF
      go_wp2
      go_ret2
      exact PairPost.none 1 (Below.refl _ _)
    · rw [if_pos ⟨hf, by omega⟩]
      have hneg' : 0 ≤ most := by omega
      have h1' := h1.wide hB
      have hb' := hb.wide hB
      have hn32 : n ≤ 32 := by rw [← hl]; exact hf.1
      have HTC := Lib.hid (fun (A1 : Option Addr) (m1 c1 : Nat) (b1 : List UInt8) (w1 : World) (hlb1 : b1.length = m1) (hm1 : 1 ≤ m1) (hc1 : m1 ≤ c1) (h11 : Strs w1 w.heap.size A t) (hb1 : Bytes w1 w.heap.size A1 b1) => takeCode_any A A1 n m1 cap c1 w.heap.size t b1 w1 hl hn32 hlb1 hm1 hc1 h11 hb1)
      have Hf := Lib.hid hf
      clear hl h1 hs hf hb
      go_enter Try.func20, Try.ntmps20
      go_wp2_with fail
      refine HF.out.mono ?_
      rintro e w' ⟨rfl, rfl⟩
      clear HF
      go_wp2
      go_loopg [1, 8] m (fun g bv ov wx => ∃ A1 c1 rest A2 c2 o, bv = .slice A1 g c1 ∧ rest.length = g ∧ g ≤ c1 ∧ Bytes wx w.heap.size A1 rest ∧ ov = .slice A2 o.length c2 ∧ Own wx w.heap.size A2 o.length c2 o ∧ Sym.decode t most o rest = Sym.decode t most [] b ∧ o.length + 8 * g ≤ 8 * m ∧ (o.length : Int) ≤ most ∧ Below w.heap.size w wx)
      case atStart => exact ⟨Ab, capb, b, none, 0, [], rfl, hlb, hcapb, hb', rfl, own_none _ _, rfl, by simp, by simpa using hneg', Below.refl _ _⟩
      case round =>
        obtain ⟨A1, c1, rest, A2, c2, o, rfl, hrl, hc1', hbr, rfl, hown, hdec, hsz, hmo, hbel⟩ := hrel
        clear hb'
        have HDEC := Lib.hid hdec; clear hdec
        have HRL := Lib.hid hrl; clear hrl
        have hszw := hbel.size
        by_cases hg0 : gk = 0
        · have hg1 : ¬ ((0 : Int) < (gk : Int)) := by omega
          have HE : Hid (Sym.decode t most [] b = (o, 0)) := by
            have hr : rest = [] := List.eq_nil_of_length_eq_zero (HRL.out.trans hg0)
            have := HDEC.out
            rw [hr, Sym.decode_nil] at this
            exact Lib.hid this.symm
          clear HDEC HRL hbr
          go_wp2
          go_ret2
          exact ⟨A2, c2, by rw [HE.out]; rfl, by rw [HE.out]; exact hown, hbel⟩
        · have hg1 : (0 : Int) < (gk : Int) := by omega
          have HT := Lib.hid (HTC.out A1 gk c1 rest wr HRL.out (by omega) hc1' (h1'.below hbel) hbr)
          rcases hcode : Sym.code t rest with _ | ⟨s, k⟩
          · rw [hcode] at HT
            have HE : Hid (Sym.decode t most [] b = ([], 2)) := Lib.hid (by rw [← HDEC.out]; exact Sym.decode_none (fun h => by have := HRL.out; rw [h] at this; simp at this; omega) hcode)
            simp only [codeVal] at HT
            clear hcode HDEC hbr hown
            go_wp2_with fail
            refine HT.out.mono ?_
            rintro e w2 ⟨rfl, rfl⟩
            clear HT
            go_wp2
            go_ret2
            exact ⟨none, 0, by rw [HE.out]; rfl, by rw [HE.out]; exact own_none _ _, hbel⟩
          · rw [hcode] at HT
            have hk := Sym.code_size hcode
            rw [HRL.out] at hk
            have hs8 := Sym.code_long (fun s hs => (Hf.out.2.1 s hs).2) hcode
            have HD := Lib.hid (Sym.decode_some (most := most) (out := o) hcode)
            simp only [codeVal] at HT
            by_cases hlong : most - (o.length : Int) < (s.length : Int)
            · have HE : Hid (Sym.decode t most [] b = ([], 5)) := Lib.hid (by rw [← HDEC.out, HD.out, if_pos hlong])
              clear hcode HDEC hbr hown HD
              go_wp2_with fail
              refine HT.out.mono ?_
              rintro e w2 ⟨rfl, rfl⟩
              clear HT
              go_wp2
              go_ret2
              exact ⟨none, 0, by rw [HE.out]; rfl, by rw [HE.out]; exact own_none _ _, hbel⟩
            · have HE : Hid (Sym.decode t most (o ++ s) (rest.drop k) = Sym.decode t most [] b) := Lib.hid (by rw [← HDEC.out, HD.out, if_neg hlong])
              have hrest := hbr.cut (k := k) (cap := c1) (by rw [HRL.out]; exact hk.2) (by rw [HRL.out]; exact hc1')
              have HRL2 : Hid ((rest.drop k).length = gk - k) := Lib.hid (by rw [List.length_drop, HRL.out])
              have hsl := run_cut_from A1 gk c1 k (gk - k) (by omega)
              generalize rest.drop k = rest2 at *
              generalize cutAt A1 c1 k = A3 at *
              clear hcode HDEC hbr HD
              go_wp2_with fail
              refine HT.out.mono ?_
              rintro e w2 ⟨rfl, rfl⟩
              clear HT
              go_wp2_with fail
              go_region_held3 (fun _ => True) (trivial) (first | (refine step_append_str (by rfl) (.tmp 38) (.tmp 39) (by rfl) w.heap.size A2 o.length c2 o (by rfl) (by exact hown) s (by rfl) (by omega) (by exact hszw) ?_; intro A5 c5 w5 ho5 hg5))
              have hb5 : Below w.heap.size wr w5 := ((Below.refl _ wr).drew).grown hg5 hszw (fun q hq => (hown.lt hq).1)
              have hr5 := hrest.below hb5
              have hbel5 := hbel.trans hb5
              have Hl5 := Lib.hid (show (o ++ s).length = o.length + s.length from by simp)
              clear hg5 hb5 hrest hsl hown
              go_wp2
              go_roundg (gk - k)
              case measure => omega
              case rel => exact ⟨A3, c1 - k, rest2, A5, c5, o ++ s, rfl, HRL2.out, by omega, hr5, by rw [Hl5.out], by rw [Hl5.out]; exact ho5, HE.out, by rw [Hl5.out]; omega, by rw [Hl5.out]; omega, hbel5⟩
  · rw [Sym.formed_not.2 hf] at HF
    rw [if_neg (fun h => hf h.1)]
    replace HF := Lib.hid HF
    clear h1 hs hl hb hf
    go_enter Try.func20, Try.ntmps20
    go_wp2_with fail
    refine HF.out.mono ?_
    rintro e w' ⟨rfl, rfl⟩
    clear HF
    go_wp2
    go_ret2
    exact PairPost.none 1 (Below.refl _ _)
end Go.Proofs.Ytmcioglidgbibaa
