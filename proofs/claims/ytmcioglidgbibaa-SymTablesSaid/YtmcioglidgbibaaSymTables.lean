/- PROVED: the law SymTables (any table is laid, and the table that any bytes begin with is taken, as the document says, or refused) returns true and leaves its arguments as they were, for every list of strings and byte slice.
   Conditions: none but the form's own reach (a slice has fewer than 2^47 bytes). -/
import Derived.Test.YtmcioglidgbibaaSymLaw
import Derived.Test.YtmcioglidgbibaaSymPut
import Derived.Test.YtmcioglidgbibaaSymRefTake
namespace Go.Proofs.Ytmcioglidgbibaa.symTables
open Go.ChangeShapes Go.WideShapes Go.ChangeAt Go.RowKit
set_option maxRecDepth 100000

set_option maxHeartbeats 4000000 in
theorem walk (A : Option Addr) (n cap : Nat) (t : List (List UInt8)) (Ab : Option Addr) (m capb : Nat) (b : List UInt8) (w : World)
    (hl : t.length = n) (hcap : n ≤ cap) (hn : 16 * n ≤ 140737488351232) (ht : Strs w w.heap.size A t) (hs : ∀ s ∈ t, s.length ≤ maxLen)
    (hlb : b.length = m) (hcapb : m ≤ capb) (hm : m ≤ 140737488351232) (hb : Bytes w w.heap.size Ab b) :
    Calls Try.prog 6 #[.slice A n cap, .slice Ab m capb] w fun e w' => e = .returned (.bool true) ∧ Below w.heap.size w w' := by
  have C1 := fun w' B (hb : Bytes w' B Ab b) (h1 : Strs w' B A t) (hB : B ≤ w'.heap.size) => putTable_any Ab A m n capb cap B b t w' hlb hl hcap (by omega) hm hb h1 hs hB
  have F2 := fun w' B (h1 : Strs w' B A t) => refFormed_any A n cap B t w' hl (by omega) h1 hs
  have T1 := fun w' B (hb : Bytes w' B Ab b) (hB : B ≤ w'.heap.size) => takeTable_any Ab m capb B b w' hlb hcapb (by omega) hb hB
  have T2 := fun w' B (hb : Bytes w' B Ab b) (hB : B ≤ w'.heap.size) => refTakeTable_any Ab m capb B b w' hlb hcapb (by omega) hb hB
  rcases hR : Sym.takeTable b with ⟨L, N, E⟩
  have hL : L.length ≤ 140737488355328 := by
    have : L.length ≤ 32 := by
      have e : L = (Sym.takeTable b).1 := by rw [hR]
      rw [e]
      unfold Sym.takeTable Sym.told
      split
      · split
        · split
          · rename_i h; exact h.1
          · simp
        · simp
      · simp
    omega
  rw [hR] at T1 T2
  unfold TabPost at T1 T2
  dsimp only at T1 T2
  have S2 := fun A1 A2 c1 c2 B1 B2 w' (h1 : Strs w' B1 A1 L) (h2 : Strs w' B2 A2 L) => sameStr_any A1 A2 L.length c1 c2 B1 B2 L w' rfl hL h1 h2
  generalize L.length = k at *
  have hEE : ((E : Int) == (E : Int)) = true := by simp
  have hNN : ((N : Int) == (N : Int)) = true := by simp
  replace T1 := Lib.hid T1
  replace T2 := Lib.hid T2
  replace S2 := Lib.hid S2
  unfold Sym.putTable at C1
  by_cases hf : Sym.Formed t
  · rw [Sym.formed_iff.2 hf] at F2
    rw [if_pos hf] at C1
    replace F2 := Lib.hid F2
    have K1 := Lib.hid fun w' B (hb : Bytes w' B Ab b) (hB : B ≤ w'.heap.size) => copy_any Ab m capb B b w' hlb (by omega) hb hB
    have K2 := fun w' B (h1 : Strs w' B A t) (hB : B ≤ w'.heap.size) => refTable_any A n cap B t w' hl hf h1 hB
    have hT := Sym.table_length_le hf
    have h32 := hf.1
    unfold PairPost at C1
    have hlen : (b ++ Sym.table t).length = m + (Sym.table t).length := by rw [List.length_append, hlb]
    simp only [hlen] at C1
    have S1 := fun A1 A2 c1 c2 B1 B2 w' (h1 : Bytes w' B1 A1 (b ++ Sym.table t)) (h2 : Bytes w' B2 A2 (b ++ Sym.table t)) => same_any A1 A2 (m + (Sym.table t).length) (m + (Sym.table t).length) c1 c2 B1 B2 _ _ w' hlen hlen h1 h2
    have Hlen := Lib.hid hlen
    have hT2 : (Sym.table t).length ≤ 1000 := by omega
    generalize Sym.table t = T at *
    replace C1 := Lib.hid C1
    replace K2 := Lib.hid K2
    replace S1 := Lib.hid S1
    have Hlb := Lib.hid hlb
    clear hl hlb hR hf hs hlen
    go_enter Try.func6, Try.ntmps6
    go_wp2_with fail
    refine (symAlive_any w).mono ?_
    rintro e w1 ⟨rfl, hbel1⟩
    have hx1 := (hb.below hbel1).wide hbel1.size
    have ht1 := (ht.below hbel1).wide hbel1.size
    go_wp2_with fail
    refine (C1.out w1 _ hx1 ht1 (Nat.le_refl _)).mono ?_
    rintro e w2 ⟨A2, c2, rfl, ho2, hb2⟩
    have hx2 := (hx1.below hb2).wide hb2.size
    have ht2 := (ht1.below hb2).wide hb2.size
    have hbel2 := hbel1.trans (hb2.mono hbel1.size)
    clear hx1 ht1 C1
    go_wp2_with fail
    refine (F2.out w2 _ ht2).mono ?_
    rintro e w3 ⟨rfl, hd3⟩
    obtain ⟨q3, rfl⟩ := hd3
    have hbel3 : Below w.heap.size w (w2.drewN q3) := below_drewN hbel2 q3
    have hx3 : Bytes (w2.drewN q3) (w2.drewN q3).heap.size Ab b := hx2
    have ht3 : Strs (w2.drewN q3) (w2.drewN q3).heap.size A t := ht2
    have ho3 : Own (w2.drewN q3) w1.heap.size A2 (m + T.length) c2 (b ++ T) := ho2
    clear F2 hx2 ht2 ho2 hbel2 hb2
    generalize w2.drewN q3 = w3 at *
    go_wp2_with fail
    refine (K1.out w3 _ hx3 (Nat.le_refl _)).mono ?_
    rintro e w4 ⟨A4, c4, rfl, ho4, hb4⟩
    have hx4 := (hx3.below hb4).wide hb4.size
    have ht4 := (ht3.below hb4).wide hb4.size
    have hox4 := ho3.below hb4
    have hbel4 := hbel3.trans (hb4.mono hbel3.size)
    have hA2lt := Lib.hid (fun g (h : blk A2 = some g) => (ho3.lt h).2)
    clear K1 hx3 ht3 ho3
    go_wp2_with fail
    refine (K2.out w4 _ ht4 (Nat.le_refl _)).mono ?_
    rintro e w5 ⟨A5, c5, rfl, ho5, hb5⟩
    have hx5 := (hx4.below hb5).wide hb5.size
    have hox5 := hox4.below hb5
    have hoc5 := ho4.below hb5
    have hbel5 := hbel4.trans (hb5.mono hbel4.size)
    have hsz45 : w3.heap.size ≤ w5.heap.size := Nat.le_trans hb4.size hb5.size
    have hb35 : Below w3.heap.size w3 w5 := hb4.trans (hb5.mono hb4.size)
    clear K2 hx4 ht4 hox4 ho4
    have hwb : w.heap.size ≤ w3.heap.size := hbel3.size
    go_wp2_with (at_builtin; refine wpList_append_bytes rfl (.tmp 36) (.tmp 38) rfl w3.heap.size A4 m c4 b rfl hoc5 _ A5 T.length c5 T rfl rfl ho5.bytes (by omega) hsz45 ?_; intro A6 c6 w6 ho6 hg6 hat6)
    have hfar : blk A2 = none ∨ blk A2 ≠ blk A4 := by
      rcases hA2 : blk A2 with _ | g2
      · exact .inl rfl
      · refine .inr fun h => ?_
        have h4 := (hoc5.lt h.symm).1
        have h2 := hA2lt.out g2 hA2
        omega
    have hox6 := hox5.kept hg6 hfar
    have hbel6 : Below w.heap.size w w6 := hbel5.grown hg6 hbel5.size (fun k hk => Nat.le_trans hwb (hoc5.lt hk).1)
    have hx6 : Bytes w6 w6.heap.size Ab b := by
      have h := hb.below hbel6
      exact h.wide hbel6.size
    have U1 := S1.out A2 A6 c2 c6 _ _ w6 hox6.bytes ho6.bytes
    rw [beq_self_eq_true] at U1
    replace U1 := Lib.hid U1
    clear S1 hfar hox5 hoc5 ho5 ho6 hg6 hat6 hx5 hox6 hA2lt hb35 hbel5
    go_wp2_with fail
    refine U1.out.mono ?_
    rintro e w7 ⟨rfl, rfl⟩
    clear U1
    go_wp2_with fail
    refine (T1.out w6 _ hx6 (Nat.le_refl _)).mono ?_
    rintro e w7 ⟨A7, c7, rfl, ho7, hb7⟩
    have hx7 := (hx6.below hb7).wide hb7.size
    have hbel7 := hbel6.trans (hb7.mono hbel6.size)
    clear T1 hx6
    go_wp2_with fail
    refine (T2.out w7 _ hx7 (Nat.le_refl _)).mono ?_
    rintro e w8 ⟨A8, c8, rfl, ho8, hb8⟩
    have hy8 := ho7.row.below hb8
    have hbel8 := hbel7.trans (hb8.mono hbel7.size)
    clear T2 hx7 ho7
    go_wp2_with fail
    refine (S2.out A7 A8 c7 c8 _ _ w8 hy8 ho8.row).mono ?_
    rintro e w9 ⟨rfl, hd9⟩
    have hbel9 := hbel8.trans (hd9.below w.heap.size)
    clear S2 hy8
    go_wp2
    go_ret
    exact ⟨rfl, hbel9⟩
  · rw [Sym.formed_not.2 hf] at F2
    rw [if_neg hf] at C1
    replace F2 := Lib.hid F2
    unfold PairPost at C1
    simp only [List.length_nil] at C1
    replace C1 := Lib.hid C1
    clear hl hlb hR hf hs
    go_enter Try.func6, Try.ntmps6
    go_wp2_with fail
    refine (symAlive_any w).mono ?_
    rintro e w1 ⟨rfl, hbel1⟩
    have hx1 := (hb.below hbel1).wide hbel1.size
    have ht1 := (ht.below hbel1).wide hbel1.size
    go_wp2_with fail
    refine (C1.out w1 _ hx1 ht1 (Nat.le_refl _)).mono ?_
    rintro e w2 ⟨A2, c2, rfl, ho2, hb2⟩
    have hx2 := (hx1.below hb2).wide hb2.size
    have ht2 := (ht1.below hb2).wide hb2.size
    have hbel2 := hbel1.trans (hb2.mono hbel1.size)
    clear hx1 ht1 C1
    go_wp2_with fail
    refine (F2.out w2 _ ht2).mono ?_
    rintro e w3 ⟨rfl, hd3⟩
    obtain ⟨q3, rfl⟩ := hd3
    have hbel3 : Below w.heap.size w (w2.drewN q3) := below_drewN hbel2 q3
    have hx3 : Bytes (w2.drewN q3) (w2.drewN q3).heap.size Ab b := hx2
    clear F2 hx2 ht2 ho2 hbel2 hb2
    generalize w2.drewN q3 = w3 at *
    go_wp2_with fail
    refine (T1.out w3 _ hx3 (Nat.le_refl _)).mono ?_
    rintro e w7 ⟨A7, c7, rfl, ho7, hb7⟩
    have hx7 := (hx3.below hb7).wide hb7.size
    have hbel7 := hbel3.trans (hb7.mono hbel3.size)
    clear T1 hx3
    go_wp2_with fail
    refine (T2.out w7 _ hx7 (Nat.le_refl _)).mono ?_
    rintro e w8 ⟨A8, c8, rfl, ho8, hb8⟩
    have hy8 := ho7.row.below hb8
    have hbel8 := hbel7.trans (hb8.mono hbel7.size)
    clear T2 hx7 ho7
    go_wp2_with fail
    refine (S2.out A7 A8 c7 c8 _ _ w8 hy8 ho8.row).mono ?_
    rintro e w9 ⟨rfl, hd9⟩
    have hbel9 := hbel8.trans (hd9.below w.heap.size)
    clear S2 hy8
    go_wp2
    go_ret
    exact ⟨rfl, hbel9⟩

/-- from the walk to the post of the row -/
theorem contract (H : Type) (enc : TypeId × Value → H) (W : World) (base : Nat) (args : Array Value) (ds gs : List (DataW H)) (before : List MemPlace)
    (hval : ∀ (j : Nat) t v, Try.f6.params[j]? = some t → args[j]? = some v → Value.okWide Try.prog W .any base t v)
    (hW : DataW.Whole enc Try.prog Try.f6.params.toList Rows.symTablesSpec.vars false W args.toList ds gs before) (_ : laidMetH Try.prog Rows.symTablesRow.laid W)
    (hsz0 : (DataW.weightsEach Try.prog (Try.f6.params.toList ++ Rows.symTablesSpec.plain.varTypes Try.prog) (ds ++ gs)).all (· ≤ reachBytes) = true) :
    Calls Try.prog 6 args W fun e W' => ∃ v, e = .returned v ∧ Rows.symTablesSpec.post enc Try.prog Try.f6 false true false false W args v W' := by
  have hW' := hW
  obtain ⟨p, q, hA0, hV, rfl, hfz, hnd⟩ := hW
  have hA : DataW.TrodAll enc Try.prog W 0 (fun _ => true) true Try.f6.params.toList args.toList ds p := hA0
  rw [Try.params6] at hA hval hsz0
  obtain ⟨v0, vs0, d0, ds0, p0, q0, hargs, rfl, rfl, h0, r0⟩ := trodAll_cons hA
  obtain ⟨v1, vs1, d1, ds1, p1, q1, rfl, rfl, rfl, h1, r1⟩ := trodAll_cons r0
  obtain ⟨rfl, rfl, rfl⟩ := trodAll_nil r1
  obtain rfl : args = #[v0, v1] := by cases args; simp_all
  obtain ⟨rfl, rfl⟩ := trodVars_none hV
  obtain ⟨a0, len0, cap0, rfl⟩ := okWide_slice Try.underlying25 (hval 0 25 v0 rfl rfl)
  have lt0 : ∀ x ∈ p0, x.block < W.heap.size := by obtain ⟨m, hm⟩ := h0; exact DataW.trod_lt m _ _ _ hm
  obtain ⟨l0, e0, ec0, b0, em0, k0⟩ := open_strs h0
  have reach0 := reach_strs hsz0 (j := 0) rfl rfl k0
  obtain ⟨a1, len1, cap1, rfl⟩ := okWide_slice Try.underlying24 (hval 1 24 v1 rfl rfl)
  have lt1 : ∀ x ∈ p1, x.block < W.heap.size := by obtain ⟨m, hm⟩ := h1; exact DataW.trod_lt m _ _ _ hm
  obtain ⟨l1, e1, ec1, b1, k1⟩ := open_bytes h1
  have reach1 := reach_bytes hsz0 (j := 1) rfl rfl k1
  clear hA0
  refine (walk a0 len0 cap0 l0 a1 len1 cap1 l1 W e0 ec0 reach0 b0 em0 e1 ec1 reach1 b1).mono fun e W' ⟨he, bel⟩ => ?_
  subst he
  exact ⟨_, rfl, _, _, _, [], _, [], hW', trodAll_mk1 (shut_bool Try.underlying4 _), (trodAll_cons_mk (Below.trod laidOut (by kernel_rfl) (of_decide_eq_true (by kernel_rfl)) h0 bel lt0) (trodAll_cons_mk (Below.trod laidOut (by kernel_rfl) (of_decide_eq_true (by kernel_rfl)) h1 bel lt1) trodAll_mk0)), rfl, bel.frame _, fun h => by cases h⟩

theorem laid_met (os : Os) : laidMet Try.prog Rows.symTablesRow.laid ((World.holding Try.prog os ⟨#[], #[], []⟩).forCall (fun _ _ => 0) ⟨#[], #[.slice none 0 0, .slice none 0 0], []⟩).memory :=
  laidMet_of_run' 8 (by kernel_rfl) (by kernel_rfl)
theorem reads (os : Os) {H : Type} (enc : TypeId × Value → H) : ∃ places, DataW.whole enc Try.prog ((World.holding Try.prog os ⟨#[], #[], []⟩).forCall (fun _ _ => 0) ⟨#[], #[.slice none 0 0, .slice none 0 0], []⟩).memory Try.f6.params.toList Rows.symTablesSpec.vars false #[Value.slice none 0 0, .slice none 0 0].toList 8 = some ([.nil, .nil], [], places) :=
  ⟨[], by kernel_rfl⟩

set_option maxRecDepth 100000 in
theorem lifted (os : Os) (started : os.Started) (H : Type) (enc : TypeId × Value → H) (F : Stop.Interp) :
    ReturnsInHanded {} Try.checked os 6 .any ((OpenSpec.ofChange Rows.symTablesSpec).preRow enc Try.prog Try.f6 Rows.symTablesRow.domain false Rows.symTablesRow.laid) (((OpenSpec.ofChange Rows.symTablesSpec).at F).post enc Try.prog Try.f6 false true false false) := by
  obtain ⟨places, hx⟩ := reads os enc
  refine returnsInHanded_of_row (C := Try.checked) (s := OpenSpec.ofChange Rows.symTablesSpec) own started (by kernel_rfl) Try.func6
    (witness_row_at (enc := enc) (C := Try.checked) false (World.holding Try.prog os ⟨#[], #[], []⟩) #[.slice none 0 0, .slice none 0 0] rfl (by kernel_rfl) (by kernel_rfl) (by kernel_rfl)
      (OpenSpec.preRow_of_cond 8 hx (by kernel_rfl) (fun k hk => by cases hk) (by kernel_rfl) (laid_met os))) ?_
  intro W base args ds gs before hval hW _ _ hsz hL _ _
  exact contract H enc W base args ds gs before hval hW hL hsz

theorem said : Rows.SymTablesSaid :=
  OpenClaim.holds_of_cond 6 Try.f6 rfl rfl rfl rfl rfl rfl rfl ⟨rfl, rfl, rfl, rfl, rfl⟩ rfl rfl rfl rfl rfl (by kernel_rfl) Try.func6 (by kernel_rfl)
    (of_decide_eq_true (by kernel_rfl)) (by unfold Func.isWrapper; first | (rw [if_pos (by decide +kernel)]; kernel_rfl) | (rw [if_neg (by decide +kernel)]; exact ⟨rfl, rfl⟩))
    (fun os started H enc _ F => by rw [OpenClaim.pre_eq_preRow]; exact lifted os started H enc F)

end Go.Proofs.Ytmcioglidgbibaa.symTables
