/- sym.countPieces. -/
import Derived.Test.YtmcioglidgbibaaStrMap
import Derived.Test.YtmcioglidgbibaaSymPie
import Derived.Test.YtmcioglidgbibaaSamples
import Derived.Test.YtmcioglidgbibaaCuts
import Derived.Test.YtmcioglidgbibaaBytesEq
import Derived.Deep.LoopGhost
namespace Go.Proofs.Ytmcioglidgbibaa
open Go.RowKit Go.Maps
set_option maxRecDepth 100000

theorem zeroI64 (w : World) : (zeroValue 3).run Try.prog w = .ok (.int .i64 0) w := by kernel_rfl
/-- block M counts the pieces of a list -/
def Counts (w : World) (M : Nat) (P : List (List UInt8)) : Prop := StrMap .i64 3 w M P.length (Sym.cnt P)

/-- counted once more -/
theorem counts_step {w : World} {M : Nat} {P : List (List UInt8)} (h : Counts w M P) (hP : P.length < 1000000) {p : List UInt8} (hp : p.length ≤ 8) :
    (Instr.lookup 45 (.map (some M)) (.string ⟨p.toArray⟩) false).run Try.prog w = .ok (.int .i64 (P.count p : Int)) w ∧
    ∃ w', (Instr.mapUpdate 45 (.map (some M)) (.string ⟨p.toArray⟩) (.int .i64 ((P.count p : Int) + 1))).run Try.prog w = .ok () w' ∧ Counts w' M (P ++ [p]) ∧ w.grownBy w' (some M) := by
  have hc : P.count p ≤ P.length := List.count_le_length
  have h1 := run_look1_strmap h Try.underlying45 Try.underlying3 zeroI64 (s := p) (by unfold maxLen; omega)
  rw [Sym.cnt_get] at h1
  obtain ⟨w', h2, h3, h4⟩ := run_put_strmap h Try.underlying45 Try.underlying3 (by unfold maxLen; omega) (s := p) (by unfold maxLen; omega) (v := (P.count p : Int) + 1) (WalkArith.wf_i64 ⟨by omega, by omega⟩)
  rw [Sym.cnt_step] at h3
  refine ⟨h1, w', h2, ?_, h4⟩
  unfold Counts
  rw [List.length_append]
  exact h3

set_option maxHeartbeats 4000000 in
theorem countPieces_any (A : Option Addr) (n cap B : Nat) (ss : List (List UInt8)) (w : World) (hl : ss.length = n) (hn : n ≤ 140737488355328) (hs : ∀ s ∈ ss, s.length ≤ 140737488351232) (h1 : Samples w B A ss) (hB : B ≤ w.heap.size) :
    Calls Try.prog 26 #[.slice A n cap] w fun e w' => e = .returned (.map (some w.heap.size)) ∧ Counts w' w.heap.size (Sym.pieces ss 1024) ∧ Below w.heap.size w w' := by
  have Hl := Lib.hid hl; clear hl
  have Hs := Lib.hid hs; clear hs
  have h1' := h1.wide hB
  clear h1
  obtain ⟨M, hM⟩ : ∃ M, M = w.heap.size := ⟨_, rfl⟩
  have HM := Lib.hid hM
  have hmm := @run_makeMap Try.prog
  go_enter Try.func26, Try.ntmps26
  go_wp2
  rw [← hM] at h1' ⊢
  clear hmm hM
  go_loopg [4, 12] n (fun g lv i wx => ∃ k : Nat, k + g = n ∧ i = .int .i64 (k : Int) ∧ lv = .int .i64 ((1024 - Sym.tot (ss.take k) : Nat) : Int) ∧ Counts wx M (Sym.pieces (ss.take k) 1024) ∧ Below M w wx)
  case atStart => exact ⟨0, by omega, rfl, rfl, by rw [HM.out]; exact StrMap.made _ _ _, by rw [HM.out]; exact (Below.refl _ _).alloc (Nat.le_refl _) _⟩
  case round =>
    obtain ⟨k, hkg, rfl, rfl, hct, hbel⟩ := hrel
    by_cases hkn : k < n
    · have hkn' : (k : Int) < (n : Int) := by omega
      have hk' : k < ss.length := by rw [Hl.out]; exact hkn
      obtain ⟨ad, Ai, ci, rfl, hadb, hci, hcell, hbi⟩ := (h1'.below hbel).at_ hk'
      have hsl := Hs.out _ (List.getElem_mem hk')
      have hstep := Sym.pieces_snoc (ss.take k) ss[k] 1024
      rw [← List.take_succ_eq_append_getElem hk'] at hstep
      have htot : Sym.tot (ss.take (k + 1)) = Sym.tot (ss.take k) + ss[k].length := by
        rw [List.take_succ_eq_append_getElem hk', Sym.tot_append]
        simp [Sym.tot]
      have HST := Lib.hid hstep
      have HTT : Hid (1024 - Sym.tot (ss.take (k + 1)) = 1024 - Sym.tot (ss.take k) - ss[k].length) := Lib.hid (by omega)
      clear hstep htot
      have hPl := Sym.pieces_length (ss.take k) 1024
      have hL : 1024 - Sym.tot (ss.take k) ≤ 1024 := by omega
      generalize Sym.pieces (ss.take k) 1024 = P at *
      generalize 1024 - Sym.tot (ss.take k) = L at *
      have hml : (ss[k].take L).length = min ss[k].length L := by rw [List.length_take]; omega
      have hbt := hbi.take L
      generalize hx : ss[k] = x at *
      clear hx hbi
      obtain ⟨G, rfl⟩ : ∃ G, G = gk := ⟨_, rfl⟩
      obtain ⟨wx, rfl⟩ : ∃ wx, wx = wr := ⟨_, rfl⟩
      obtain ⟨mm, hmm⟩ : ∃ mm, mm = min x.length L := ⟨_, rfl⟩
      rw [← hmm] at hml
      have hmm1 : mm ≤ 1024 := by omega
      have HLM : Hid (((L : Int) - (mm : Int)) = ((L - x.length : Nat) : Int)) := Lib.hid (by omega)
      have hmci : mm ≤ ci := by omega
      have hLmm : mm ≤ L := by omega
      have hcase : ((x.length : Int) ≤ (L : Int) ∧ x.length = mm) ∨ (¬ ((x.length : Int) ≤ (L : Int)) ∧ L = mm) := by omega
      have hcutA : x.length = mm → ∀ W : World, (Instr.slice 24 (.slice Ai x.length ci) none (some (.int .i64 (x.length : Int))) none).run Try.prog W = .ok (.slice Ai mm ci) W := fun e W => by rw [run_cut_h Ai x.length ci x.length hci W, e]
      have hcutB : L = mm → ∀ W : World, (Instr.slice 24 (.slice Ai x.length ci) none (some (.int .i64 (L : Int))) none).run Try.prog W = .ok (.slice Ai mm ci) W := fun e W => by rw [run_cut_h Ai x.length ci L (by omega) W, e]
      generalize x.take L = y at *
      have Hml := Lib.hid hml
      have HLM2 : Hid ((1024 - Sym.tot (ss.take (k + 1)) : Nat) = L - x.length) := Lib.hid HTT.out
      clear hmm hml HTT
      rcases hcase with ⟨hxL, hmeq⟩ | ⟨hxL, hmeq⟩
      all_goals
        first | (have hcut := hcutA hmeq) | (have hcut := hcutB hmeq)
        clear hcutA hcutB hmeq
        go_wp2
        go_loopg [28] mm (fun g2 i2 wy => ∃ q : Nat, q + g2 = mm ∧ i2 = .int .i64 (q : Int) ∧ Counts wy M (P ++ Sym.occTo y q) ∧ Below M wx wy)
        case atStart => exact ⟨0, by omega, rfl, by rw [Sym.occTo, List.append_nil]; exact hct, Below.refl _ _⟩
        case round =>
          clear hct hcell hcut
          obtain ⟨q, hqg, rfl, hct, hbq⟩ := hrel
          obtain ⟨G2, rfl⟩ : ∃ G2, G2 = gk := ⟨_, rfl⟩
          obtain ⟨wq, rfl⟩ : ∃ wq, wq = wr := ⟨_, rfl⟩
          by_cases hqm : q < mm
          · have hqm' : (q : Int) < (mm : Int) := by omega
            have HNA : Hid (Sym.nAt y q = min 8 (mm - q) - 1) := Lib.hid (by unfold Sym.nAt; rw [Hml.out])
            have hol := Sym.occTo_length y q
            have HOS := Lib.hid (Sym.occTo_step y q)
            generalize Sym.occTo y q = O at *
            go_wp2
            go_loopg [8] (min 8 (mm - q) - 1) (fun g3 nv wz => ∃ j : Nat, j + g3 = min 8 (mm - q) - 1 ∧ nv = .int .i64 ((j : Int) + 2) ∧ Counts wz M (P ++ (O ++ Sym.posK y q j)) ∧ Below M wx wz)
            case atStart => exact ⟨0, by omega, rfl, by rw [Sym.posK_zero, List.append_nil]; exact hct, hbq⟩
            case round =>
              clear hct hbq
              obtain ⟨j, hjg, rfl, hct, hbz⟩ := hrel
              by_cases hj : j < min 8 (mm - q) - 1
              · have hj8 : (j : Int) + 2 ≤ 8 := by omega
                have hjm : (q : Int) + ((j : Int) + 2) ≤ (mm : Int) := by omega
                have hbz2 := (hbt.below hbz)
                have hbc := (hbz2.cut (k := q) (cap := ci) (by rw [Hml.out]; omega) (by rw [Hml.out]; exact hmci)).take (j + 2)
                have hlc : ((y.drop q).take (j + 2)).length = j + 2 := by rw [List.length_take, List.length_drop, Hml.out]; omega
                have hcv := run_string_of hbc (ci - q)
                rw [hlc] at hcv
                have hcut2 := run_cut_lh Ai mm ci q (q + (j + 2)) (by omega) (by omega)
                rw [show q + (j + 2) - q = j + 2 from by omega, show ((q + (j + 2) : Nat) : Int) = (q : Int) + ((j : Int) + 2) from by omega] at hcut2
                obtain ⟨hlook, w2, hput, hct2, hg2⟩ := counts_step hct (by rw [List.length_append, List.length_append, Sym.posK_length]; omega) (p := (y.drop q).take (j + 2)) (by omega)
                have HPS := Lib.hid (Sym.posK_step y q j)
                have hbz2' : Below M wx w2 := hbz.grown hg2 (Nat.le_of_lt (StrMap.lt hct)) (fun r hr => by cases hr; exact Nat.le_refl _)
                have hcle := List.count_le_length (a := (y.drop q).take (j + 2)) (l := P ++ (O ++ Sym.posK y q j))
                rw [List.length_append, List.length_append, Sym.posK_length] at hcle
                rw [List.append_assoc, List.append_assoc, ← HPS.out] at hct2
                generalize List.count ((y.drop q).take (j + 2)) (P ++ (O ++ Sym.posK y q j)) = C at *
                generalize (y.drop q).take (j + 2) = p at *
                generalize cutAt Ai ci q = A3 at *
                clear hct hbz hbc hbz2 hg2 HPS hlc
                go_wp2
                go_roundg (min 8 (mm - q) - 1 - (j + 1))
                case measure => omega
                case rel => exact ⟨j + 1, by omega, congrArg (Value.int IntKind.i64) (by omega), hct2, hbz2'⟩
              · have hjn : j = Sym.nAt y q := by rw [HNA.out]; omega
                rw [hjn, ← HOS.out] at hct
                by_cases hj8 : (j : Int) + 2 ≤ 8
                · have hjm : ¬ ((q : Int) + ((j : Int) + 2) ≤ (mm : Int)) := by omega
                  clear hjn
                  go_wp2
                  go_roundg (mm - (q + 1))
                  case measure => omega
                  case rel => exact ⟨q + 1, by omega, by go_num, hct, hbz⟩
                · clear hjn
                  go_wp2
                  go_roundg (mm - (q + 1))
                  case measure => omega
                  case rel => exact ⟨q + 1, by omega, by go_num, hct, hbz⟩
          · have hqm' : ¬ ((q : Int) < (mm : Int)) := by omega
            have hq : q = y.length := by rw [Hml.out]; omega
            rw [hq] at hct
            have hct' : Counts wq M (Sym.pieces (ss.take (k + 1)) 1024) := by rw [HST.out]; exact hct
            have hbel' := hbel.trans hbq
            clear hq hct
            go_wp2
            go_roundg (n - (k + 1))
            case measure => omega
            case rel => exact ⟨k + 1, by omega, by go_num, congrArg (Value.int IntKind.i64) (by rw [HLM2.out, ← HLM.out]), hct', hbel'⟩
    · have hkn' : ¬ ((k : Int) < (n : Int)) := by omega
      have HE : Hid (Sym.pieces ss 1024 = Sym.pieces (ss.take k) 1024) := Lib.hid (by rw [List.take_of_length_le (by rw [Hl.out]; omega)])
      go_wp2
      go_ret
      exact ⟨by rw [HM.out]; rfl, by rw [HE.out, ← HM.out]; exact hct, by rw [← HM.out]; exact hbel⟩
end Go.Proofs.Ytmcioglidgbibaa
