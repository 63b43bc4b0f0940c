/- PROVED: the law CrcBurst (a frame of which some of four neighbouring bytes are other ones isn't unwrapped) returns true and leaves its argument as it was, for any payload, place and change.
   Condition: the package variable crc.fourShifts holds what the program's text lays (the card ties it to the text, by the translator's look). -/
import Derived.Test.YtgjofpjijnbjeaaDoorLaw
import Derived.Test.YtgjofpjijnbjeaaDoorBurst
namespace Go.Proofs.YtgjofpjijnbjeaaDoor.crcBurst
open Go.ChangeShapes Go.WideShapes Go.ChangeAt Go.RowKit

theorem store_flip {wr : World} {base g n c i0 k b y : Nat} {l : List UInt8} {x : Nat → UInt8} (ho : Own wr base (some ⟨g, 0, none⟩) n c (turned l i0 x k)) (hT : i0 + k < (turned l i0 x k).length)
    (hb : (turned l i0 x k)[i0 + k].toNat = b) (hy : (x k).toNat = y) : Own (wr.setCell ⟨g, i0 + k, none⟩ (.int .u8 ((b ^^^ y : Nat) : Int))) base (some ⟨g, 0, none⟩) n c (turned l i0 x (k + 1)) := by
  have hz : b ^^^ y < 256 := by rw [← hb, ← hy]; exact Nat.xor_lt_two_pow (n := 8) (Plain.byte_lt _) (Plain.byte_lt _)
  have h := ho.store (i0 + k) (UInt8.ofNat (b ^^^ y))
  rw [bval_small hz] at h
  have e : UInt8.ofNat (b ^^^ y) = (turned l i0 x k).getD (i0 + k) 0 ^^^ x k := by
    rw [List.getD_eq_getElem?_getD, List.getElem?_eq_getElem hT]
    apply UInt8.toNat_inj.1
    rw [UInt8.toNat_xor, UInt8.toNat_ofNat', Nat.mod_eq_of_lt hz, Option.getD_some, hb, hy]
  rw [e] at h
  exact h
theorem xbyte {by_ k y : Nat} {x : Nat → UInt8} (hx : x = fun k => UInt8.ofNat (by_ / 2 ^ (8 * k))) (h : by_ / 2 ^ (8 * k) % 256 = y) : (x k).toNat = y := by
  rw [hx]
  show (UInt8.ofNat (by_ / 2 ^ (8 * k))).toNat = y
  rw [UInt8.toNat_ofNat']
  exact h

theorem walk_long (A : Option Addr) (n cap : Nat) (at_ by_ : Nat) (w : World)
    (hn : 16777216 < n) (hm : n ≤ 140737488351232) (ht : Table w) :
    Calls Tryd.prog 8 #[.slice A n cap, .int .u32 (at_ : Int), .int .u32 (by_ : Int)] w fun e w' => e = .returned (.bool true) ∧ Below w.heap.size w w' := by
  go_enter Tryd.func8, Tryd.ntmps8
  go_wp2_with fail
  refine (alive_any w ht).mono ?_
  rintro e w1 ⟨rfl, hbel1⟩
  go_wp2_with fail
  refine (wrap_long A n cap w1 hn (by omega)).mono ?_
  rintro e w3 ⟨rfl, rfl⟩
  have hd : decide ((16777216 : Int) < (n : Int)) = true := by simp; omega
  go_wp2
  go_ret
  exact ⟨rfl, hbel1⟩

set_option maxHeartbeats 1000000 in
theorem walk_ok (A : Option Addr) (n cap : Nat) (l : List UInt8) (at_ by_ : Nat) (w : World)
    (hl : l.length = n) (hn : n ≤ 16777216) (hb : Bytes w w.heap.size A l) (hat : at_ < 4294967296) (hby : by_ < 4294967296) (ht : Table w) :
    Calls Tryd.prog 8 #[.slice A n cap, .int .u32 (at_ : Int), .int .u32 (by_ : Int)] w fun e w' => e = .returned (.bool true) ∧ Below w.heap.size w w' := by
  have Hl := Lib.hid hl; clear hl
  have hsz := ht.size
  go_enter Tryd.func8, Tryd.ntmps8
  go_wp2_with fail
  refine (alive_any w ht).mono ?_
  rintro e w1 ⟨rfl, hbel1⟩
  have ht1 := ht.below hbel1 hsz
  have hx1 := hb.below hbel1
  have hsz1 : 0 < w1.heap.size := Nat.lt_of_lt_of_le hsz hbel1.size
  go_wp2_with fail
  refine (wrap_ok A n cap w.heap.size l w1 Hl.out hn hx1 hbel1.size ht1).mono ?_
  rintro e w2 ⟨A2, c2, rfl, ho2, hbel2⟩
  have ht2 := ht1.below hbel2 hsz1
  have hx2 := (hx1.wide hbel1.size).below hbel2
  go_wp2_with fail
  refine (copy_any A2 (n + 8) c2 w2.heap.size (frame l) w2 ho2.len (by omega) ho2.bytes (Nat.le_refl _)).mono ?_
  rintro e w3 ⟨A3, c3, rfl, ho3, hbel3⟩
  obtain ⟨g, rfl, hg1, hg2⟩ := ho3.at_ (by omega)
  have ht3 := ht2.below hbel3 (Nat.lt_of_lt_of_le hsz1 hbel2.size)
  have hx3 := (hx2.wide hbel2.size).below hbel3
  have hfr3 := ho2.bytes.below hbel3
  clear ht ht1 ht2 hx1 hx2 hb
  obtain ⟨x, hx⟩ : ∃ x : Nat → UInt8, x = fun k => UInt8.ofNat (by_ / 2 ^ (8 * k)) := ⟨_, rfl⟩
  have Hx := Lib.hid hx; clear hx
  obtain ⟨i0, hi0⟩ : ∃ i0 : Nat, i0 = at_ % (n + 8) := ⟨_, rfl⟩
  have hi0n : i0 < n + 8 := by rw [hi0]; exact Nat.mod_lt _ (by omega)
  have hrem : (at_ : Int) % ((n : Int) + 8) = (i0 : Int) := by rw [hi0, Int.natCast_emod, Int.natCast_add]; rfl
  clear hi0
  go_wp2
  go_loopw [10] (fun i wr => ∃ (k : Nat), k ≤ 4 ∧ i = .int .i64 k ∧ Own wr w2.heap.size (some ⟨g, 0, none⟩) (n + 8) c3 (turned (frame l) i0 x k) ∧ Below w2.heap.size w3 wr) (fun i _ => 4 - (intOf i).toNat)
  case atStart => exact ⟨0, Nat.zero_le _, rfl, ho3, Below.refl _ _⟩
  case round =>
    obtain ⟨k, hk, rfl, ho, hbl⟩ := hrel
    by_cases hlt : k < 4
    · by_cases hin : i0 + k < n + 8
      · have hTl : i0 + k < (turned (frame l) i0 x k).length := by rw [turned_length, frame_length, Hl.out]; exact hin
        have hcell := ho.cell hTl
        have hfree := ho.free (i0 + k)
        generalize hbyte : (turned (frame l) i0 x k)[i0 + k].toNat = b at hcell
        have hb256 : b < 256 := by rw [← hbyte]; exact Plain.byte_lt _
        have i1 : (i0 : Int) + (k : Int) < (n : Int) + 8 := by omega
        have hst := fun y h => store_flip (y := y) ho hTl hbyte (xbyte Hx.out h)
        have hstb := fun u => hbl.setCell (p := ⟨g, i0 + k, none⟩) hg1 u
        have HT := Lib.hid hTl
        clear hbyte hTl ho
        rcases (by omega : k = 0 ∨ k = 1 ∨ k = 2 ∨ k = 3) with rfl | rfl | rfl | rfl
        · have hy : by_ % 256 < 256 := by omega
          have hxx : bits .xor .u8 (b : Int) ((by_ : Int) % 256) = ((b ^^^ by_ % 256 : Nat) : Int) := by
            have := u8_xor_nat b (by_ % 256) hb256 hy
            rw [show ((by_ % 256 : Nat) : Int) = (by_ : Int) % 256 from by omega] at this
            exact this
          have Hst := Lib.hid (hst (by_ % 256) (by omega))
          have Hbl := Lib.hid (hstb (.int .u8 ((b ^^^ by_ % 256 : Nat) : Int)))
          clear hst hstb
          generalize b ^^^ by_ % 256 = z at hxx Hst Hbl
          simp only [Nat.add_zero] at hcell hfree Hst Hbl
          go_wp2_with fail
          go_region
          go_wp2
          go_roundw
          case rel => exact ⟨1, by omega, rfl, Hst.out, Hbl.out.drew⟩
          case measure => simp [intOf]
        · have hy : by_ / 256 % 256 < 256 := by omega
          have hxx : bits .xor .u8 (b : Int) ((by_ : Int) / 256 % 256) = ((b ^^^ by_ / 256 % 256 : Nat) : Int) := by
            have := u8_xor_nat b (by_ / 256 % 256) hb256 hy
            rw [show ((by_ / 256 % 256 : Nat) : Int) = (by_ : Int) / 256 % 256 from by omega] at this
            exact this
          have Hst := Lib.hid (hst (by_ / 256 % 256) (by omega))
          have Hbl := Lib.hid (hstb (.int .u8 ((b ^^^ by_ / 256 % 256 : Nat) : Int)))
          clear hst hstb
          generalize b ^^^ by_ / 256 % 256 = z at hxx Hst Hbl
          go_wp2_with fail
          go_region
          go_wp2
          go_roundw
          case rel => exact ⟨2, by omega, rfl, Hst.out, Hbl.out.drew⟩
          case measure => simp [intOf]
        · have hy : by_ / 65536 % 256 < 256 := by omega
          have hxx : bits .xor .u8 (b : Int) ((by_ : Int) / 65536 % 256) = ((b ^^^ by_ / 65536 % 256 : Nat) : Int) := by
            have := u8_xor_nat b (by_ / 65536 % 256) hb256 hy
            rw [show ((by_ / 65536 % 256 : Nat) : Int) = (by_ : Int) / 65536 % 256 from by omega] at this
            exact this
          have Hst := Lib.hid (hst (by_ / 65536 % 256) (by omega))
          have Hbl := Lib.hid (hstb (.int .u8 ((b ^^^ by_ / 65536 % 256 : Nat) : Int)))
          clear hst hstb
          generalize b ^^^ by_ / 65536 % 256 = z at hxx Hst Hbl
          go_wp2_with fail
          go_region
          go_wp2
          go_roundw
          case rel => exact ⟨3, by omega, rfl, Hst.out, Hbl.out.drew⟩
          case measure => simp [intOf]
        · have hy : by_ / 16777216 < 256 := by omega
          have hxx : bits .xor .u8 (b : Int) ((by_ : Int) / 16777216) = ((b ^^^ by_ / 16777216 : Nat) : Int) := by
            have := u8_xor_nat b (by_ / 16777216) hb256 hy
            rw [show ((by_ / 16777216 : Nat) : Int) = (by_ : Int) / 16777216 from by omega] at this
            exact this
          have Hst := Lib.hid (hst (by_ / 16777216) (by omega))
          have Hbl := Lib.hid (hstb (.int .u8 ((b ^^^ by_ / 16777216 : Nat) : Int)))
          clear hst hstb
          generalize b ^^^ by_ / 16777216 = z at hxx Hst Hbl
          go_wp2_with fail
          go_region
          go_wp2
          go_roundw
          case rel => exact ⟨4, by omega, rfl, Hst.out, Hbl.out.drew⟩
          case measure => simp [intOf]
      · have ho' : Own wr w2.heap.size (some ⟨g, 0, none⟩) (n + 8) c3 (turned (frame l) i0 x (k + 1)) := by
          rw [turned, flip_out (by rw [turned_length, frame_length, Hl.out]; omega)]
          exact ho
        have i1 : (n : Int) + 8 ≤ (i0 : Int) + (k : Int) := by omega
        clear ho
        go_wp2
        go_roundw
        case rel => exact ⟨k + 1, by omega, by go_num, ho', hbl⟩
        case measure => simp [intOf]; omega
    · obtain rfl : k = 4 := by omega
      have hx4 := hx3.below hbl
      have hfr4 := hfr3.below hbl
      have ht4 := ht3.below hbl (Nat.lt_of_lt_of_le hsz1 hbel2.size)
      have hT := ho.bytes
      have HTl := Lib.hid ho.len
      have hcap := ho.cap
      have hbig : w2.heap.size ≤ wr.heap.size := Nat.le_trans hbel3.size hbl.size
      have hwr : Below w1.heap.size w1 wr := hbel2.trans ((hbel3.trans hbl).mono hbel2.size)
      by_cases hsame : turned (frame l) i0 x 4 = frame l
      · rw [hsame] at hT HTl
        clear ho hsame hrem
        have Hu0 := Lib.hid (unwrapErr_frame (p := l) (by rw [Hl.out]; exact hn))
        have Hup := Lib.hid (show uPay (frame l) = l by unfold uPay; rw [if_pos Hu0.out, pay_frame (by rw [Hl.out]; exact hn)])
        have Hul := Lib.hid (show uLen (frame l) = n by unfold uLen; rw [if_pos Hu0.out, word_frame (by rw [Hl.out]; exact hn), Hl.out])
        go_wp2_with fail
        refine (unwrap_any _ (n + 8) c3 wr.heap.size (frame l) wr HTl.out (by omega) hcap hT (Nat.le_refl _) ht4).mono ?_
        intro e w5 hp
        obtain ⟨A5, c5, rfl, ho5, hbel5⟩ := hp.uni
        clear hp
        rw [Hul.out, Hup.out] at ho5
        rw [Hul.out, Hu0.out]
        have hT5 := hT.below hbel5
        have hfr5 := (hfr4.wide hbig).below hbel5
        have hx5 := (hx4.wide hbig).below hbel5
        go_wp2_with fail
        refine (same_any _ A2 (n + 8) (n + 8) c3 c2 _ _ (frame l) (frame l) w5 HTl.out HTl.out hT5 hfr5).mono ?_
        rintro e w6 ⟨rfl, rfl⟩
        rw [beq_self_eq_true]
        go_wp2_with fail
        refine (same_any A5 A n n c5 cap _ _ l l w5 Hl.out Hl.out ho5.bytes hx5).mono ?_
        rintro e w6 ⟨rfl, rfl⟩
        rw [beq_self_eq_true]
        go_wp2
        go_ret
        exact ⟨rfl, hbel1.trans ((hwr.trans (hbel5.mono hwr.size)).mono hbel1.size)⟩
      · have hne := burst (p := l) (by rw [Hl.out]; exact hn) (by rw [frame_length, Hl.out]; exact hi0n) x hsame
        have hul : uLen (turned (frame l) i0 x 4) = 0 := by unfold uLen; rw [if_neg hne]
        have Hul := Lib.hid hul
        have hbeq : (turned (frame l) i0 x 4 == frame l) = false := by rw [beq_eq_false_iff_ne]; exact hsame
        have Hbeq := Lib.hid hbeq
        have hFl := Lib.hid (show (frame l).length = n + 8 by rw [frame_length, Hl.out])
        have hnz := nonzero hne
        clear ho hsame hrem hul hbeq hne
        generalize turned (frame l) i0 x 4 = T at *
        go_wp2_with fail
        refine (unwrap_any _ (n + 8) c3 wr.heap.size T wr HTl.out (by omega) hcap hT (Nat.le_refl _) ht4).mono ?_
        intro e w5 hp
        obtain ⟨A5, c5, rfl, ho5, hbel5⟩ := hp.uni
        clear hp ho5
        rw [Hul.out]
        have hT5 := hT.below hbel5
        have hfr5 := (hfr4.wide hbig).below hbel5
        generalize unwrapErr T = ue at *
        go_wp2_with fail
        refine (same_any _ A2 (n + 8) (n + 8) c3 c2 _ _ T (frame l) w5 HTl.out hFl.out hT5 hfr5).mono ?_
        rintro e w6 ⟨rfl, rfl⟩
        rw [Hbeq.out]
        go_wp2
        go_ret
        exact ⟨rfl, hbel1.trans ((hwr.trans (hbel5.mono hwr.size)).mono hbel1.size)⟩

theorem walk (A : Option Addr) (n cap : Nat) (l : List UInt8) (at_ by_ : Nat) (w : World)
    (hl : l.length = n) (_ : n ≤ cap) (hm : n ≤ 140737488351232) (hb : Bytes w w.heap.size A l) (hat : at_ < 4294967296) (hby : by_ < 4294967296) (ht : Table w) :
    Calls Tryd.prog 8 #[.slice A n cap, .int .u32 (at_ : Int), .int .u32 (by_ : Int)] w fun e w' => e = .returned (.bool true) ∧ Below w.heap.size w w' := by
  rcases Nat.lt_or_ge 16777216 n with hlt | hge
  · exact walk_long A n cap at_ by_ w hlt hm ht
  · exact walk_ok A n cap l at_ by_ w hl hge hb hat hby ht

/-- WHAT THE WALK GIVES, FOR EVERY ARGUMENT AND EVERY WORLD THAT HOLDS THE TABLE. -/
theorem contract (H : Type) (enc : TypeId × Value → H) (W : World) (base : Nat) (args : Array Value) (ds gs : List (DataW H)) (before : List MemPlace)
    (hval : ∀ (j : Nat) t v, Tryd.f8.params[j]? = some t → args[j]? = some v → Value.okWide Tryd.prog W .any base t v)
    (hW : DataW.Whole enc Tryd.prog Tryd.f8.params.toList Rows.crcBurstSpec.vars false W args.toList ds gs before) (hL : laidMetH Tryd.prog Rows.crcBurstRow.laid W)
    (hsz0 : (DataW.weightsEach Tryd.prog (Tryd.f8.params.toList ++ Rows.crcBurstSpec.plain.varTypes Tryd.prog) (ds ++ gs)).all (· ≤ reachBytes) = true) :
    Calls Tryd.prog 8 args W fun e W' => ∃ v, e = .returned v ∧ Rows.crcBurstSpec.post enc Tryd.prog Tryd.f8 false true false false W args v W' := by
  have hW' := hW
  obtain ⟨p, q, hA0, hV, rfl, hfz, hnd⟩ := hW
  have hA : DataW.TrodAll enc Tryd.prog W 0 (fun _ => true) true Tryd.f8.params.toList args.toList ds p := hA0
  rw [Tryd.params8] at hA hval hsz0
  obtain ⟨v0, vs0, d0, ds0, p0, q0, hargs, rfl, rfl, h0, r0⟩ := trodAll_cons hA
  obtain ⟨v1, vs1, d1, ds1, p1, q1, rfl, rfl, rfl, h1, r1⟩ := trodAll_cons r0
  obtain ⟨v2, vs2, d2, ds2, p2, q2, rfl, rfl, rfl, h2, r2⟩ := trodAll_cons r1
  obtain ⟨rfl, rfl, rfl⟩ := trodAll_nil r2
  obtain rfl : args = #[v0, v1, v2] := by cases args; simp_all
  obtain ⟨rfl, rfl⟩ := trodVars_none hV
  obtain ⟨a0, len0, cap0, rfl⟩ := okWide_slice Tryd.underlying22 (hval 0 22 v0 rfl rfl)
  have lt0 : ∀ x ∈ p0, x.block < W.heap.size := by obtain ⟨m, hm⟩ := h0; exact DataW.trod_lt m _ _ _ hm
  obtain ⟨l0, e0, ec0, b0, k0⟩ := open_bytes h0
  have reach0 := reach_bytes hsz0 (j := 0) rfl rfl k0
  obtain ⟨x1, rfl, rfl, rfl, w1⟩ := open_int Tryd.underlying25 (hval 1 25 v1 rfl rfl) h1
  obtain ⟨c1, rfl⟩ := Int.eq_ofNat_of_zero_le (bounds_u32 w1).1
  obtain ⟨x2, rfl, rfl, rfl, w2⟩ := open_int Tryd.underlying25 (hval 2 25 v2 rfl rfl) h2
  obtain ⟨c2, rfl⟩ := Int.eq_ofNat_of_zero_le (bounds_u32 w2).1
  clear hA0
  refine (walk a0 len0 cap0 l0 c1 c2 W e0 ec0 reach0 b0 (by have := (bounds_u32 w1).2; omega) (by have := (bounds_u32 w2).2; omega) (table hL)).mono fun e W' ⟨he, bel⟩ => ?_
  subst he
  exact ⟨_, rfl, _, _, _, [], _, [], hW', trodAll_mk1 (shut_bool Tryd.underlying4 _), (trodAll_cons_mk (Below.trod laidOut (by kernel_rfl) (of_decide_eq_true (by kernel_rfl)) h0 bel lt0) (trodAll_cons_mk (shut_int Tryd.underlying25 w1) (trodAll_cons_mk (shut_int Tryd.underlying25 w2) trodAll_mk0))), rfl, bel.frame _, fun h => by cases h⟩

theorem laid_met (os : Os) : laidMet Tryd.prog Rows.crcBurstRow.laid ((laidWorld os).forCall (fun _ _ => 0) ⟨#[], #[.slice none 0 0, .int .u32 0, .int .u32 0], []⟩).memory :=
  laidMet_of_run' 8 (by kernel_rfl) (by kernel_rfl)
theorem reads (os : Os) {H : Type} (enc : TypeId × Value → H) : ∃ places, DataW.whole enc Tryd.prog ((laidWorld os).forCall (fun _ _ => 0) ⟨#[], #[.slice none 0 0, .int .u32 0, .int .u32 0], []⟩).memory Tryd.f8.params.toList Rows.crcBurstSpec.vars false #[Value.slice none 0 0, .int .u32 0, .int .u32 0].toList 8 = some ([.nil, .lit (.int .u32 0), .lit (.int .u32 0)], [], places) :=
  ⟨[], by kernel_rfl⟩

set_option maxRecDepth 100000 in
theorem lifted (os : Os) (started : os.Started) (H : Type) (enc : TypeId × Value → H) (F : Stop.Interp) :
    ReturnsInHanded {} Tryd.checked os 8 .any ((OpenSpec.ofChange Rows.crcBurstSpec).preRow enc Tryd.prog Tryd.f8 Rows.crcBurstRow.domain false Rows.crcBurstRow.laid) (((OpenSpec.ofChange Rows.crcBurstSpec).at F).post enc Tryd.prog Tryd.f8 false true false false) := by
  obtain ⟨places, hx⟩ := reads os enc
  refine returnsInHanded_of_row (C := Tryd.checked) (s := OpenSpec.ofChange Rows.crcBurstSpec) own started (by kernel_rfl) Tryd.func8
    (witness_row_at (enc := enc) (C := Tryd.checked) false (laidWorld os) #[.slice none 0 0, .int .u32 0, .int .u32 0] rfl (by kernel_rfl) (by kernel_rfl) (by kernel_rfl)
      (OpenSpec.preRow_of_cond 8 hx (by kernel_rfl) (fun k hk => by cases hk) (by kernel_rfl) (laid_met os))) ?_
  intro W base args ds gs before hval hW _ _ hsz hL _ _
  exact contract H enc W base args ds gs before hval hW hL hsz

theorem said : Rows.CrcBurstSaid :=
  OpenClaim.holds_of_cond 8 Tryd.f8 rfl rfl rfl rfl rfl rfl rfl ⟨rfl, rfl, rfl, rfl, rfl⟩ rfl rfl rfl rfl rfl (by kernel_rfl) Tryd.func8 (by kernel_rfl)
    (of_decide_eq_true (by kernel_rfl)) (by unfold Func.isWrapper; first | (rw [if_pos (by decide +kernel)]; kernel_rfl) | (rw [if_neg (by decide +kernel)]; exact ⟨rfl, rfl⟩))
    (fun os started H enc _ F => by rw [OpenClaim.pre_eq_preRow]; exact lifted os started H enc F)

theorem plain (f : FuncId) (fn : Func) (hf : Tryd.pinned.checked.prog.funcNamed "dragnet/dragnetlaw01.CrcBurst" = some f) (hfn : Tryd.pinned.checked.prog.funcs[f]? = some fn) :
    false = Tryd.pinned.checked.prog.looks [] ∧ ∀ (j : Nat) t, fn.params[j]? = some t → Tryd.pinned.checked.prog.wantsStandIn t = false := by
  obtain rfl : f = 8 := Option.some.inj ((show Tryd.prog.funcNamed "dragnet/dragnetlaw01.CrcBurst" = some 8 by kernel_rfl).symm.trans hf) |>.symm
  obtain rfl : fn = Tryd.f8 := (Option.some.inj (Tryd.func8.symm.trans hfn)).symm
  refine ⟨by kernel_rfl, fun j t ht => ?_⟩
  rw [Tryd.params8] at ht
  have hm : t = 22 ∨ t = 25 ∨ t = 25 := by simpa using Array.mem_of_getElem? ht
  rcases hm with rfl | rfl | rfl
  · exact (show Tryd.prog.wantsStandIn 22 = false by kernel_rfl)
  · exact (show Tryd.prog.wantsStandIn 25 = false by kernel_rfl)
  · exact (show Tryd.prog.wantsStandIn 25 = false by kernel_rfl)

/-- THE CARD -/
theorem card : Rows.CrcBurstCardSaid :=
  Claim7.holds_tied_plain_at .later [] _ _ _ _ said (fun _ h => by cases h) (by kernel_rfl) (fun _ h => by cases h) crcBurst_row_tie rfl ⟨rfl, rfl⟩ (by kernel_rfl) rfl plain (by kernel_rfl)
end Go.Proofs.YtgjofpjijnbjeaaDoor.crcBurst
