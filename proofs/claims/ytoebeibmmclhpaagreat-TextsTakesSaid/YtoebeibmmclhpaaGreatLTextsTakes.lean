/- PROVED: the law TextsTakes (the granule that any bytes of up to 2000 begin with is the document's, or there is none, and it is new memory) returns true and leaves its argument as it was, for every byte slice.
   Conditions: none but the form's own reach (a slice has fewer than 2^47 bytes). -/
import Derived.Test.YtoebeibmmclhpaaGreatGTM
import Derived.Test.YtoebeibmmclhpaaGreatGTN
namespace Go.Proofs.YtoebeibmmclhpaaGreat.textsTakes
open Go.ChangeShapes Go.WideShapes Go.ChangeAt Go.RowKit
set_option maxRecDepth 100000

theorem len_at {a b : List (List UInt8)} (h : a.map List.length = b.map List.length) {k : Nat} (ha : k < a.length) (hb : k < b.length) : a[k].length = b[k].length := by
  have h2 := congrArg (fun l => l[k]?) h
  simpa [List.getElem?_eq_getElem ha, List.getElem?_eq_getElem hb] using h2

theorem cut_small : ∀ (t : List UInt8) (L : List UInt64), (∀ n ∈ L, n.toNat ≤ 65536) → ∀ l ∈ Texts.cut t L, l.length ≤ 65536
  | _, [], _, l, h => by cases h
  | t, n :: r, hs, l, h => by
    rw [Texts.cut] at h
    rcases List.mem_cons.1 h with rfl | h
    · have := hs n (by simp)
      rw [List.length_take]
      omega
    · exact cut_small _ r (fun x hx => hs x (by simp [hx])) l h
theorem take_small (b : List UInt8) : (Texts.take b).1.length ≤ 16 ∧ ∀ l ∈ (Texts.take b).1, l.length ≤ 65536 := by
  have h0 : (([], 0, 2) : List (List UInt8) × Nat × Nat).1.length ≤ 16 ∧ ∀ l ∈ (([], 0, 2) : List (List UInt8) × Nat × Nat).1, l.length ≤ 65536 := ⟨by simp, fun l h => by cases h⟩
  rcases b with _ | ⟨x, r⟩
  · exact h0
  · unfold Texts.take
    simp only
    split
    · exact h0
    · split
      · exact h0
      · rename_i hg
        split
        · exact h0
        · split
          · exact h0
          · have hg' : Texts.good (Pfor.takeList r 16) = true := by
              rcases h : Texts.good (Pfor.takeList r 16) with _ | _
              · exact absurd h hg
              · rfl
            have hall := (Texts.good_total hg').2.2
            refine ⟨?_, cut_small _ _ hall⟩
            simp only [Texts.cut_length]
            rcases Pfor.takeList_cases r with ⟨L, s, e, h, _⟩ | ⟨f, e, _⟩
            · rw [e]; exact h
            · rw [e]; simp

set_option maxHeartbeats 4000000 in
theorem walk (Ab : Option Addr) (m capb : Nat) (b : List UInt8) (w : World)
    (hlb : b.length = m) (hcapb : m ≤ capb) (hm : m ≤ 140737488351232) (hbb : Bytes w w.heap.size Ab b) :
    Calls Tryz.prog 4 #[.slice Ab m capb] w fun e w' => e = .returned (.bool true) ∧ Below w.heap.size w w' := by
  by_cases hbig : 2000 < m
  · have hbig' : (2000 : Int) < (m : Int) := by omega
    clear hbb hlb hbig
    go_enter Tryz.func4, Tryz.ntmps4
    go_wp2_with fail
    refine (txAlive_any w).mono ?_
    rintro e w1 ⟨rfl, hbel1⟩
    go_wp2
    go_ret
    exact ⟨rfl, hbel1⟩
  · have hsm : ¬ ((2000 : Int) < (m : Int)) := by omega
    have K1 := Lib.hid fun w' (h1 : Bytes w' w'.heap.size Ab b) => copy_any Ab m capb _ b w' hlb (by omega) h1 (Nat.le_refl _)
    unfold MadeAt at K1
    have T1 := fun A1 c1 w' (hc : m ≤ c1) (h1 : Bytes w' w'.heap.size A1 b) => txTake_any A1 m c1 b w' hlb hc (by omega) h1 (fun k r _ => by
      have h1 := Num.takeRow_le (b.drop (1 + (Pfor.takeList r 16).2.1)) (m : Int)
      rw [List.length_drop] at h1
      omega)
    have T2 := fun w' (h1 : Bytes w' w'.heap.size Ab b) => txRefTake_any Ab m capb b w' hlb hcapb (by omega) h1
    unfold TxTakePost at T1 T2
    have S1 := Lib.hid fun A1 A2 c1 c2 B1 B2 w' (h1 : Bytes w' B1 A1 b) (h2 : Bytes w' B2 A2 b) => same_any A1 A2 m m c1 c2 B1 B2 b b w' hlb hlb h1 h2
    have hts := take_small b
    generalize Texts.take b = R at *
    obtain ⟨LS, kz, er⟩ := R
    simp only at T1 T2 hts
    obtain ⟨q, hq⟩ : ∃ q, LS.length = q := ⟨_, rfl⟩
    rw [hq] at T1 T2 hts
    have hq16 := hts.1
    have HLS := Lib.hid hts.2
    have Hq := Lib.hid hq
    replace T1 := Lib.hid T1
    replace T2 := Lib.hid T2
    have hkk : ((kz : Int) == (kz : Int)) = true := by simp
    have hee : ((er : Int) == (er : Int)) = true := by simp
    clear hlb hbig hm hq hts
    go_enter Tryz.func4, Tryz.ntmps4
    go_wp2_with fail
    refine (txAlive_any w).mono ?_
    rintro e w1 ⟨rfl, hbel1⟩
    have hy1 := (hbb.below hbel1).wide hbel1.size
    have C3 := Lib.hid (K1.out w1 hy1)
    clear K1
    go_wp2_with fail
    refine C3.out.mono ?_
    rintro e w2 ⟨A2, c2, rfl, ho2, hb2⟩
    have bel2 := hbel1.trans (hb2.mono hbel1.size)
    have hc2 : m ≤ c2 := ho2.cap
    have C4 := Lib.hid (T1.out A2 c2 w2 hc2 ho2.bytes)
    have HO2 := Lib.hid ho2.bytes
    clear C3 T1 hy1 ho2
    go_wp2_with fail
    refine C4.out.mono ?_
    rintro e w3 ⟨A3, c3, rfl, ho3, hb3⟩
    have bel3 := bel2.trans (hb3.mono bel2.size)
    have C5 := Lib.hid (T2.out w3 ((hbb.below bel3).wide bel3.size))
    clear C4 T2
    go_wp2_with fail
    refine C5.out.mono ?_
    rintro e w4 ⟨A4, c4, rfl, ho4, hb4⟩
    have bel4 := bel3.trans (hb4.mono bel3.size)
    have o4 := ho3.below hb4
    have bm4 := hb3.trans (hb4.mono hb3.size)
    have C6 := Lib.hid (lists_same A3 A4 q c3 c4 _ _ LS w4 Hq.out (by omega) o4.lists ho4.lists)
    clear C5 ho3 ho4 hb3 hb4
    go_wp2_with fail
    refine C6.out.mono ?_
    rintro e w5 ⟨rfl, hd5⟩
    have bel5 := bel4.trans (hd5.below _)
    have bm5 := bm4.trans (hd5.below _)
    have o5 := o4.below (hd5.below _)
    have hw2 := bel2.size
    clear C6 o4 bm4 bel4 hd5
    have hEnd : Hid (∀ w6, Below w2.heap.size w2 w6 → Calls Tryz.prog 11 #[.slice A2 m c2, .slice Ab m capb] w6 fun e w' => e = .returned (.bool true) ∧ w6 = w') := Lib.hid fun w6 hb => by
      have h := S1.out A2 Ab c2 capb _ _ w6 (HO2.out.below hb) (hbb.below (bel2.trans (hb.mono hw2)))
      rw [beq_self_eq_true] at h
      exact h
    clear S1 HO2
    by_cases hq0 : q = 0
    · subst hq0
      clear o5
      go_wp2
      go_loopw [11] (fun i wr => i = .int .i64 0 ∧ w5 = wr) (fun _ _ => 0)
      case atStart => exact ⟨rfl, rfl⟩
      case round =>
        obtain ⟨rfl, rfl⟩ := hrel
        have C7 := Lib.hid (hEnd.out w5 bm5)
        go_wp2_with fail
        refine C7.out.mono ?_
        rintro e w7 ⟨rfl, rfl⟩
        go_wp2
        go_ret
        exact ⟨rfl, bel5⟩
    · obtain ⟨gl, hA⟩ : ∃ gl, A3 = some ⟨gl, 0, none⟩ := by
        obtain ⟨vs, h1, _⟩ := o5
        obtain ⟨g, cap, hv, _⟩ := h1.form (by omega)
        injection hv with hv
        exact ⟨g, hv⟩
      subst hA
      have hqi : (0 : Int) < (q : Int) := by omega
      go_wp2
      go_loopw [11] (fun i wr => ∃ (k : Nat) (ls : List (List UInt8)), k ≤ q ∧ i = .int .i64 k ∧ ls.map List.length = LS.map List.length ∧ ListOwn wr w2.heap.size (some ⟨gl, 0, none⟩) q c3 ls ∧ Below w2.heap.size w2 wr) (fun i _ => q - (intOf i).toNat)
      case atStart => exact ⟨0, LS, Nat.zero_le _, rfl, rfl, o5, bm5⟩
      case round =>
        clear o5 bm5
        obtain ⟨k, ls, hk, rfl, hls, hlo, hbw⟩ := hrel
        obtain ⟨w7, hw7⟩ : ∃ w7, w7 = wr := ⟨_, rfl⟩
        subst hw7
        by_cases hlt : k < q
        · have i1 : (k : Int) < (q : Int) := by omega
          have i0 : (0 : Int) ≤ (k : Int) := by omega
          have hkL : k < LS.length := by have := Hq.out; omega
          obtain ⟨z, hz⟩ : ∃ z, LS[k].length = z := ⟨_, rfl⟩
          have Hz := Lib.hid hz
          have hz6 : z ≤ 65536 := by rw [← hz]; exact HLS.out _ (List.getElem_mem hkL)
          clear hz
          go_wp2
          go_loopw [12] (fun s wr => ∃ (j : Nat) (ls : List (List UInt8)), j ≤ z ∧ s = .int .i64 j ∧ ls.map List.length = LS.map List.length ∧ ListOwn wr w2.heap.size (some ⟨gl, 0, none⟩) q c3 ls ∧ Below w2.heap.size w2 wr) (fun s _ => z - (intOf s).toNat)
          case atStart => exact ⟨0, ls, Nat.zero_le _, rfl, hls, hlo, hbw⟩
          case round =>
            clear hls hlo hbw
            obtain ⟨j, ls2, hj, rfl, hls, hlo, hbw⟩ := hrel
            have hkl : k < ls2.length := by have := hlo.len; omega
            have hlz : ls2[k].length = z := (len_at hls hkl hkL).trans Hz.out
            by_cases hjl : j < z
            · obtain ⟨gl', g, ci, v, e1, hcl, hcv, hfr, hg, hput⟩ := hlo.poke hkl (by rw [hlz]; exact hjl)
              injection e1 with e1
              injection e1 with e1
              subst e1
              rw [hlz] at hcl
              obtain ⟨ls3, hl3, ho3⟩ := hput (UInt8.ofNat (255 - v.toNat))
              rw [bval_turn] at ho3
              have j1 : (j : Int) < (z : Int) := by omega
              have j0 : (0 : Int) ≤ (j : Int) := by omega
              have HB := Lib.hid (hbw.setCell (p := ⟨g, j, none⟩) hg (.int .u8 (bits .xor .u8 ((v.toNat : Nat) : Int) 255)))
              have HO := Lib.hid ho3
              have HL := Lib.hid (hl3.trans hls)
              clear ho3 hl3 hls hlo hbw hput
              generalize ((v.toNat : Nat) : Int) = x at *
              go_wp2
              go_roundw
              case rel => exact ⟨j + 1, ls3, by omega, by go_num, HL.out, HO.out, HB.out⟩
              case measure => simp [intOf]; omega
            · obtain ⟨ad, Ai, ci, e1, _, hcl, _⟩ := hlo.lists.at_ hkl
              injection e1 with e1
              subst e1
              rw [hlz] at hcl
              have hcl' : wr.cell? ⟨gl, k, none⟩ = some (.slice Ai z ci) := by
                rw [← hcl]
                congr 1
                unfold Addr.add
                simp
              have j1 : ¬ ((j : Int) < (z : Int)) := by omega
              have HL := Lib.hid hls
              have HO := Lib.hid hlo
              have HB := Lib.hid hbw
              clear hls hlo hbw hcl
              go_wp2
              go_roundw
              case rel => exact ⟨k + 1, ls2, by omega, by go_num, HL.out, HO.out, HB.out⟩
              case measure => simp [intOf]; omega
        · obtain rfl : k = q := by omega
          have bel := bel2.trans (hbw.mono hw2)
          have C7 := Lib.hid (hEnd.out w7 hbw)
          clear hls hlo hEnd
          go_wp2_with fail
          refine C7.out.mono ?_
          rintro e w8 ⟨rfl, rfl⟩
          go_wp2
          go_ret
          exact ⟨rfl, bel⟩
set_option maxRecDepth 100000 in
/-- from the walk to the post of the row -/
theorem contract (H : Type) (enc : TypeId × Value → H) (W : World) (base : Nat) (args : Array Value) (ds gs : List (DataW H)) (before : List MemPlace)
    (hval : ∀ (j : Nat) t v, Tryz.f4.params[j]? = some t → args[j]? = some v → Value.okWide Tryz.prog W .any base t v)
    (hW : DataW.Whole enc Tryz.prog Tryz.f4.params.toList Rows.textsTakesSpec.vars false W args.toList ds gs before) (_ : laidMetH Tryz.prog Rows.textsTakesRow.laid W)
    (hsz0 : (DataW.weightsEach Tryz.prog (Tryz.f4.params.toList ++ Rows.textsTakesSpec.plain.varTypes Tryz.prog) (ds ++ gs)).all (· ≤ reachBytes) = true) :
    Calls Tryz.prog 4 args W fun e W' => ∃ v, e = .returned v ∧ Rows.textsTakesSpec.post enc Tryz.prog Tryz.f4 false true false false W args v W' := by
  have hW' := hW
  obtain ⟨p, q, hA0, hV, rfl, hfz, hnd⟩ := hW
  have hA : DataW.TrodAll enc Tryz.prog W 0 (fun _ => true) true Tryz.f4.params.toList args.toList ds p := hA0
  rw [Tryz.params4] at hA hval hsz0
  obtain ⟨v0, vs0, d0, ds0, p0, q0, hargs, rfl, rfl, h0, r0⟩ := trodAll_cons hA
  obtain ⟨rfl, rfl, rfl⟩ := trodAll_nil r0
  obtain rfl : args = #[v0] := by cases args; simp_all
  obtain ⟨rfl, rfl⟩ := trodVars_none hV
  obtain ⟨a0, len0, cap0, rfl⟩ := okWide_slice Tryz.underlying22 (hval 0 22 v0 rfl rfl)
  have lt0 : ∀ x ∈ p0, x.block < W.heap.size := by obtain ⟨m, hm⟩ := h0; exact DataW.trod_lt m _ _ _ hm
  obtain ⟨l0, e0, ec0, b0, k0⟩ := open_bytes h0
  have reach0 := reach_bytes hsz0 (j := 0) rfl rfl k0
  clear hA0
  refine (walk a0 len0 cap0 l0 W e0 ec0 reach0 b0).mono fun e W' ⟨he, bel⟩ => ?_
  subst he
  exact ⟨_, rfl, _, _, _, [], _, [], hW', trodAll_mk1 (shut_bool Tryz.underlying4 _), (trodAll_cons_mk (Below.trod laidOut (by kernel_rfl) (of_decide_eq_true (by kernel_rfl)) h0 bel lt0) trodAll_mk0), rfl, bel.frame _, fun h => by cases h⟩

theorem laid_met (os : Os) : laidMet Tryz.prog Rows.textsTakesRow.laid ((World.holding Tryz.prog os ⟨#[], #[], []⟩).forCall (fun _ _ => 0) ⟨#[], #[.slice none 0 0], []⟩).memory :=
  laidMet_of_run' 8 (by kernel_rfl) (by kernel_rfl)
theorem reads (os : Os) {H : Type} (enc : TypeId × Value → H) : ∃ places, DataW.whole enc Tryz.prog ((World.holding Tryz.prog os ⟨#[], #[], []⟩).forCall (fun _ _ => 0) ⟨#[], #[.slice none 0 0], []⟩).memory Tryz.f4.params.toList Rows.textsTakesSpec.vars false #[Value.slice none 0 0].toList 8 = some ([.nil], [], places) :=
  ⟨[], by kernel_rfl⟩

set_option maxRecDepth 100000 in
theorem lifted (os : Os) (started : os.Started) (H : Type) (enc : TypeId × Value → H) (F : Stop.Interp) :
    ReturnsInHanded {} Tryz.checked os 4 .any ((OpenSpec.ofChange Rows.textsTakesSpec).preRow enc Tryz.prog Tryz.f4 Rows.textsTakesRow.domain false Rows.textsTakesRow.laid) (((OpenSpec.ofChange Rows.textsTakesSpec).at F).post enc Tryz.prog Tryz.f4 false true false false) := by
  obtain ⟨places, hx⟩ := reads os enc
  refine returnsInHanded_of_row (C := Tryz.checked) (s := OpenSpec.ofChange Rows.textsTakesSpec) own started (by kernel_rfl) Tryz.func4
    (witness_row_at (enc := enc) (C := Tryz.checked) false (World.holding Tryz.prog os ⟨#[], #[], []⟩) #[.slice none 0 0] rfl (by kernel_rfl) (by kernel_rfl) (by kernel_rfl)
      (OpenSpec.preRow_of_cond 8 hx (by kernel_rfl) (fun k hk => by cases hk) (by kernel_rfl) (laid_met os))) ?_
  intro W base args ds gs before hval hW _ _ hsz hL _ _
  exact contract H enc W base args ds gs before hval hW hL hsz

theorem said : Rows.TextsTakesSaid :=
  OpenClaim.holds_of_cond 4 Tryz.f4 rfl rfl rfl rfl rfl rfl rfl ⟨rfl, rfl, rfl, rfl, rfl⟩ rfl rfl rfl rfl rfl (by kernel_rfl) Tryz.func4 (by kernel_rfl)
    (of_decide_eq_true (by kernel_rfl)) (by unfold Func.isWrapper; first | (rw [if_pos (by decide +kernel)]; kernel_rfl) | (rw [if_neg (by decide +kernel)]; exact ⟨rfl, rfl⟩))
    (fun os started H enc _ F => by rw [OpenClaim.pre_eq_preRow]; exact lifted os started H enc F)

end Go.Proofs.YtoebeibmmclhpaaGreat.textsTakes
