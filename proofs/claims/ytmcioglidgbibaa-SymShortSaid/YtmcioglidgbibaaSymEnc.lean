/- sym.Encode. -/
import Derived.Test.YtmcioglidgbibaaSymForm
import Derived.Test.YtmcioglidgbibaaSymCodes
import Derived.Test.YtmcioglidgbibaaCutFrom
import Derived.Test.YtmcioglidgbibaaBytesEq
import Derived.Test.YtmcioglidgbibaaStep
import Derived.Deep.RegionHeld3
import Derived.StillTailTactics
import Derived.WalkMore
import Derived.Deep.LoopGhost
namespace Go.Proofs.Ytmcioglidgbibaa
open Go.RowKit Go.Maps
set_option maxRecDepth 100000

/-- what a call leaves that returns bytes of its own and an error -/
def PairPost (w : World) (r : List UInt8 × Nat) (e : Ending) (w' : World) : Prop :=
  ∃ A c, e = .returned (.tuple #[.slice A r.1.length c, .int .i64 (r.2 : Int)]) ∧ Own w' w.heap.size A r.1.length c r.1 ∧ Below w.heap.size w w'
theorem PairPost.none {w w' : World} (e : Nat) (hb : Below w.heap.size w w') : PairPost w ([], e) (.returned (.tuple #[.slice none 0 0, .int .i64 (e : Int)])) w' := ⟨.none, 0, rfl, own_none _ _, hb⟩
/-- how long a slice is -/
def lenOf : Value → Nat
  | .slice _ n _ => n
  | _ => 0
theorem grown_of_drew {w w' : World} {row : Option Nat} (h : w.drew.grownBy w' row) : w.grownBy w' row := ⟨h.os, h.tape, h.output, h.size, h.block⟩
namespace Sym
/-- no symbol longer than j begins b -/
def Above (t : List (List UInt8)) (b : List UInt8) (j : Nat) : Prop := ∀ s ∈ t, s <+: b → s.length ≤ j
theorem above_first {t : List (List UInt8)} {b : List UInt8} (ht : Formed t) : Above t b (min b.length 8) := fun s hs hp => by
  have := hp.length_le
  have := (ht.2.1 s hs).2
  omega
theorem above_found {t : List (List UInt8)} {b : List UInt8} {j : Nat} (ha : Above t b j) (hj : j ≤ b.length) (hm : b.take j ∈ t) (ht : Formed t) : longest t b = some (t.idxOf (b.take j)) ∧ t.getD (t.idxOf (b.take j)) [] = b.take j := by
  have hk := List.idxOf_lt_length_of_mem hm
  have e : t[t.idxOf (b.take j)] = b.take j := List.getElem_idxOf hk
  refine ⟨longest_eq ht.2.2 ⟨hk, by rw [e]; exact List.take_prefix _ _, fun s hs hp => ?_⟩, by rw [getD_eq hk]; exact e⟩
  have hl : (b.take j).length = j := by simp; omega
  rw [e, hl]
  exact ha s hs hp
theorem above_step {t : List (List UInt8)} {b : List UInt8} {j : Nat} (ha : Above t b (j + 1)) (hm : b.take (j + 1) ∉ t) : Above t b j := fun s hs hp => by
  have := ha s hs hp
  rcases Nat.lt_or_ge j s.length with h | h
  · have e : s = b.take (j + 1) := by
      have e := List.prefix_iff_eq_take.1 hp
      rwa [show s.length = j + 1 from by omega] at e
    exact absurd (e ▸ hs) hm
  · exact h
theorem above_none {t : List (List UInt8)} {b : List UInt8} {j : Nat} (ha : Above t b j) (hj : j < 2) (ht : Formed t) : longest t b = none :=
  longest_eq ht.2.2 (fun s hs hp => by
    have := ha s hs hp
    have := (ht.2.1 s hs).1
    omega)
end Sym

set_option maxHeartbeats 4000000 in
theorem encode_any (A Ab : Option Addr) (n m cap capb B : Nat) (t : List (List UInt8)) (b : List UInt8) (w : World) (hl : t.length = n) (hcap : n ≤ cap) (hn : n ≤ 140737488355328) (hlb : b.length = m) (hcapb : m ≤ capb) (hm : m ≤ 70368744177664)
    (h1 : Strs w B A t) (hs : ∀ s ∈ t, s.length ≤ maxLen) (hb : Bytes w B Ab b) (hB : B ≤ w.heap.size) :
    Calls Try.prog 16 #[.slice A n cap, .slice Ab m capb] w (PairPost w (Sym.encoded t b)) := by
  have HF := formed_any A n cap B t w hl hcap hn h1 hs
  unfold Sym.encoded
  by_cases hf : Sym.Formed t
  · rw [Sym.formed_iff.2 hf] at HF
    rw [if_pos hf]
    replace HF := Lib.hid HF
    have HC := Lib.hid (codesOf_any A n cap B t w hl hf h1 hB)
    obtain ⟨M, hM⟩ : ∃ M, M = w.heap.size := ⟨_, rfl⟩
    rw [← hM] at HC
    have HM := Lib.hid hM
    have Hf := Lib.hid hf
    have hb' := hb.wide hB
    clear hl h1 hs hf hM hb
    go_enter Try.func16, Try.ntmps16
    go_wp2
    go_step3
    go_wp2_with fail
    refine HF.out.mono ?_
    rintro e w' ⟨rfl, rfl⟩
    clear HF
    go_wp2_with fail
    refine HC.out.mono ?_
    rintro e w1 ⟨rfl, hc1, hbel1⟩
    clear HC
    have hlt1 := hc1.lt
    have hb1 : Bytes w1 M Ab b := by rw [HM.out]; exact hb'.below (by rw [← HM.out]; exact hbel1)
    clear hb'
    go_wp2
    go_step3
    go_wp2
    go_loopg [1, 7] m (fun g bv ov wx => ∃ A1 c1 rest A2 c2 o, bv = .slice A1 g c1 ∧ rest.length = g ∧ g ≤ c1 ∧ Bytes wx M A1 rest ∧ ov = .slice A2 o.length c2 ∧ Own wx (M + 1) A2 o.length c2 o ∧ o ++ Sym.encode t rest = Sym.encode t b ∧ o.length + 2 * g ≤ 2 * m ∧ Codes wx M t ∧ Below M w wx ∧ M + 1 ≤ wx.heap.size)
    case atStart => exact ⟨Ab, capb, b, none, 0, [], rfl, hlb, hcapb, hb1, rfl, own_none _ _, rfl, by simp, hc1, hbel1, hlt1⟩
    case round =>
      obtain ⟨A1, c1, rest, A2, c2, o, rfl, hrl, hc1', hbr, rfl, hown, henc, hsz, hcd, hbel, hM1⟩ := hrel
      clear hb1 hc1 hbel1 hlt1
      obtain ⟨G, rfl⟩ : ∃ G, G = gk := ⟨_, rfl⟩
      obtain ⟨wx, rfl⟩ : ∃ wx, wx = wr := ⟨_, rfl⟩
      have HENC := Lib.hid henc; clear henc
      have HRL := Lib.hid hrl; clear hrl
      by_cases hg0 : G = 0
      · have hg1 : ¬ ((0 : Int) < (G : Int)) := by omega
        have HE : Hid (Sym.encode t b = o) := by
          have hr : rest = [] := List.eq_nil_of_length_eq_zero (HRL.out.trans hg0)
          have := HENC.out
          rw [hr, Sym.encode_nil, List.append_nil] at this
          exact Lib.hid this.symm
        have HB : Hid (Below w.heap.size w wx) := Lib.hid (by rw [← HM.out]; exact hbel)
        have HO : Hid (Own wx w.heap.size A2 o.length c2 o) := Lib.hid (hown.low (by rw [← HM.out]; omega))
        clear HENC HRL hbr hcd hbel hown
        go_wp2
        try rw [Exit.noGoto_ret]
        go_ret2
        exact ⟨A2, c2, by rw [HE.out]; rfl, by rw [HE.out]; exact HO.out, HB.out⟩
      · have hg1 : (0 : Int) < (G : Int) := by omega
        by_cases h8 : (G : Int) ≤ 8
        all_goals
          go_wp2
          go_loopg [1, 7, 8] (min G 8) (fun j bv ov i wy => bv = .slice A1 G c1 ∧ ov = .slice A2 o.length c2 ∧ i = .int .i64 (j : Int) ∧ j ≤ min G 8 ∧ Sym.Above t rest j ∧ wx = wy)
          case atStart => exact ⟨rfl, rfl, congrArg (Value.int IntKind.i64) (by omega), Nat.le_refl _, by have := Sym.above_first (b := rest) Hf.out; rwa [HRL.out] at this, rfl⟩
          case round =>
            obtain ⟨rfl, rfl, rfl, hj, hab, rfl⟩ := hrel
            obtain ⟨j, rfl⟩ : ∃ j, j = gk := ⟨_, rfl⟩
            by_cases hj2 : 2 ≤ j
            · have hj2' : (2 : Int) ≤ (j : Int) := by omega
              have hjr : j ≤ rest.length := by rw [HRL.out]; omega
              have htl : (rest.take j).length = j := by simp; omega
              have hcut := run_cut_h A1 G c1 j (by omega)
              have hcv := run_string_of (hbr.take j) c1
              rw [htl] at hcv
              have hlook := run_look_strmap hcd Try.underlying57 Try.underlying5 zeroU8 (s := rest.take j) (by unfold maxLen; omega)
              rw [Sym.codeIn_all] at hlook
              by_cases hmem : rest.take j ∈ t
              · obtain ⟨hlong, hgd⟩ := Sym.above_found hab hjr hmem Hf.out
                have hk32 : t.idxOf (rest.take j) < 32 := Nat.lt_of_lt_of_le (List.idxOf_lt_length_of_mem hmem) Hf.out.1
                have HEN := Lib.hid (Sym.encode_some hlong (by rw [hgd, htl]; omega))
                rw [hgd, htl] at HEN
                rw [if_pos hmem] at hlook
                simp only [Option.getD_some, Option.isSome_some] at hlook
                have hrest := hbr.cut (k := j) (cap := c1) hjr (by rw [HRL.out]; exact hc1')
                have HRL2 : Hid ((rest.drop j).length = G - j) := Lib.hid (by rw [List.length_drop, HRL.out])
                have hsl := run_cut_from A1 G c1 j (G - j) (by omega)
                generalize t.idxOf (rest.take j) = k at *
                generalize rest.take j = s at *
                have hone := own_byte wx (UInt8.ofNat k) (k : Int) (bval_lt (by omega))
                have hob := hone.bytes
                have hoa := hown.alloc (.cells #[.int .u8 (k : Int)] 5)
                have hba : Below M w (wx.alloc (.cells #[.int .u8 (k : Int)] 5)) := hbel.alloc (by omega) _
                have hsza : M + 1 ≤ (wx.alloc (.cells #[.int .u8 (k : Int)] 5)).heap.size := by simp; omega
                have hda : Codes (wx.alloc (.cells #[.int .u8 (k : Int)] 5)) M t := StrMap.kept hcd (World.grownBy_alloc _ _ none) (by simp)
                have hra : Bytes (wx.alloc (.cells #[.int .u8 (k : Int)] 5)) M (cutAt A1 c1 j) (rest.drop j) := hrest.below ((Below.refl M wx).alloc (by omega) _)
                generalize rest.drop j = rest2 at *
                have Htl := Lib.hid htl
                clear hlong hgd hone hmem hjr htl hrest
                go_wp2_with fail
                go_region_held3 (fun _ => True) (trivial) (first | (refine step_append_bytes (by rfl) (.tmp 36) (.tmp 38) (by rfl) (M + 1) A2 o.length c2 o (by rfl) (by exact hoa) _ _ 1 1 [UInt8.ofNat k] (by rfl) rfl (by exact hob) (by omega) (by exact hsza) ?_; intro A5 c5 w5 ho5 hg5 hat5))
                have hb5 : Below M w w5 := (hba.drew).grown (by exact hg5) (by exact Nat.le_trans (Nat.le_succ M) hsza) (fun q hq => Nat.le_of_succ_le (hoa.lt hq).1)
                have hr5 : Bytes w5 M (cutAt A1 c1 j) rest2 := hra.below (((Below.refl M _).drew).grown (by exact hg5) (by exact Nat.le_trans (Nat.le_succ M) hsza) (fun q hq => Nat.le_of_succ_le (hoa.lt hq).1))
                have hd5 : Codes w5 M t := StrMap.kept hda (grown_of_drew hg5) (fun h => by have := (hoa.lt h.symm).1; omega)
                have hM5 : M + 1 ≤ w5.heap.size := Nat.le_trans hsza hg5.size
                have hE5 : (o ++ [UInt8.ofNat k]) ++ Sym.encode t rest2 = Sym.encode t b := by rw [← HENC.out, HEN.out, List.append_assoc]; rfl
                have HE5 := Lib.hid hE5
                have Hl5 := Lib.hid (show (o ++ [UInt8.ofNat k]).length = o.length + 1 from by simp)
                clear hE5 hba hra hda hoa hob hg5 hat5 hsl hlook hcv hcut
                go_wp2
                go_roundg (G - j)
                case measure => omega
                case rel => exact ⟨cutAt A1 c1 j, c1 - j, rest2, A5, c5, o ++ [UInt8.ofNat k], rfl, HRL2.out, by omega, hr5, by rw [Hl5.out], by rw [Hl5.out]; exact ho5, HE5.out, by rw [Hl5.out]; omega, hd5, hb5, hM5⟩
              · rw [if_neg hmem] at hlook
                simp only [Option.getD_none, Option.isSome_none] at hlook
                have HAB : Hid (Sym.Above t rest (j - 1)) := Lib.hid (Sym.above_step (j := j - 1) (by rwa [show j - 1 + 1 = j from by omega]) (by rwa [show j - 1 + 1 = j from by omega]))
                generalize rest.take j = s at *
                clear hmem htl
                go_wp2
                go_roundg (j - 1)
                case measure => omega
                case rel => exact ⟨rfl, rfl, congrArg (Value.int IntKind.i64) (by omega), by omega, HAB.out, rfl⟩
            · have hj2' : ¬ ((2 : Int) ≤ (j : Int)) := by omega
              have HN := Lib.hid (Sym.above_none hab (by omega) Hf.out)
              obtain ⟨x, rest2, rfl⟩ : ∃ x r, rest = x :: r := by
                cases rest with
                | nil => exact absurd HRL.out.symm hg0
                | cons x r => exact ⟨x, r, rfl⟩
              have HEN := Lib.hid (Sym.encode_none HN.out)
              obtain ⟨ad, rfl, hblk, hcell⟩ := hbr.get (k := 0) (by simp)
              simp only [List.getElem_cons_zero] at hcell
              rw [show ad.add 0 = ad from by simp [Addr.add]] at hcell
              have hrest := hbr.cut (k := 1) (cap := c1) (by simp) (by rw [HRL.out]; exact hc1')
              rw [show (x :: rest2).drop 1 = rest2 from rfl] at hrest
              have HRL2 : Hid (rest2.length = G - 1) := Lib.hid (by have := HRL.out; simp at this; omega)
              have hsl : ∀ W : World, (Instr.slice 24 (.slice (some ad) G c1) (some (.int .i64 (1 : Int))) none none).run Try.prog W = .ok (.slice (cutAt (some ad) c1 1) (G - 1) (c1 - 1)) W := run_cut_from (some ad) G c1 1 (G - 1) (by omega)
              have hone := own_byte2 wx 255 x 255 (x.toNat : Int) rfl rfl
              have hob := hone.bytes
              have hoa := hown.alloc (.cells #[.int .u8 255, .int .u8 (x.toNat : Int)] 5)
              have hba : Below M w (wx.alloc (.cells #[.int .u8 255, .int .u8 (x.toNat : Int)] 5)) := hbel.alloc (by omega) _
              have hsza : M + 1 ≤ (wx.alloc (.cells #[.int .u8 255, .int .u8 (x.toNat : Int)] 5)).heap.size := by simp; omega
              have hda : Codes (wx.alloc (.cells #[.int .u8 255, .int .u8 (x.toNat : Int)] 5)) M t := StrMap.kept hcd (World.grownBy_alloc _ _ none) (by simp)
              have hra : Bytes (wx.alloc (.cells #[.int .u8 255, .int .u8 (x.toNat : Int)] 5)) M (cutAt (some ad) c1 1) rest2 := hrest.below ((Below.refl M wx).alloc (by omega) _)
              have hca : (wx.alloc (.cells #[.int .u8 255, .int .u8 (x.toNat : Int)] 5)).cell? ad = some (.int .u8 (x.toNat : Int)) := (((Below.refl M wx).alloc (by omega) _).cell hblk).trans hcell
              have hi0 : (0 : Int) < (G : Int) := by omega
              clear hone hrest HN hab hbr
              go_wp2_with fail
              go_region_held3 (fun w' => w'.cell? ad = some (.int .u8 (x.toNat : Int))) (first | exact hcell | exact hca | exact (((Below.refl M _).grown (grown_of_drew hg5) (by exact Nat.le_trans (Nat.le_succ M) hsza) (fun q hq => Nat.le_of_succ_le (hoa.lt hq).1)).cell hblk).trans hca) (first | (refine step_append_bytes (by rfl) (.tmp 43) (.tmp 47) (by rfl) (M + 1) A2 o.length c2 o (by rfl) (by exact hoa) _ _ 2 2 [255, x] (by rfl) rfl (by exact hob) (by omega) (by exact hsza) ?_; intro A5 c5 w5 ho5 hg5 hat5))
              have hb5 : Below M w w5 := (hba.drew).grown (by exact hg5) (by exact Nat.le_trans (Nat.le_succ M) hsza) (fun q hq => Nat.le_of_succ_le (hoa.lt hq).1)
              have hr5 : Bytes w5 M (cutAt (some ad) c1 1) rest2 := hra.below (((Below.refl M _).drew).grown (by exact hg5) (by exact Nat.le_trans (Nat.le_succ M) hsza) (fun q hq => Nat.le_of_succ_le (hoa.lt hq).1))
              have hd5 : Codes w5 M t := StrMap.kept hda (grown_of_drew hg5) (fun h => by have := (hoa.lt h.symm).1; omega)
              have hM5 : M + 1 ≤ w5.heap.size := Nat.le_trans hsza hg5.size
              have hE5 : (o ++ [255, x]) ++ Sym.encode t rest2 = Sym.encode t b := by rw [← HENC.out, HEN.out, List.append_assoc]; rfl
              have HE5 := Lib.hid hE5
              have Hl5 := Lib.hid (show (o ++ [255, x]).length = o.length + 2 from by simp)
              clear hE5 hba hra hda hoa hob hg5 hat5 hsl hca hcell
              go_wp2
              go_roundg (G - 1)
              case measure => omega
              case rel => exact ⟨cutAt (some ad) c1 1, c1 - 1, rest2, A5, c5, o ++ [255, x], rfl, HRL2.out, by omega, hr5, by rw [Hl5.out], by rw [Hl5.out]; exact ho5, HE5.out, by rw [Hl5.out]; omega, hd5, hb5, hM5⟩
  · rw [Sym.formed_not.2 hf] at HF
    rw [if_neg hf]
    replace HF := Lib.hid HF
    clear h1 hs hl hb hf
    go_enter Try.func16, Try.ntmps16
    go_wp2
    go_step3
    go_wp2_with fail
    refine HF.out.mono ?_
    rintro e w' ⟨rfl, rfl⟩
    clear HF
    go_wp2
    rw [Exit.noGoto_ret]
    go_ret2
    exact PairPost.none 1 (Below.refl _ _)
end Go.Proofs.Ytmcioglidgbibaa
