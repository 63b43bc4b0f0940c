/- pfor.encodeBlock: a block's bytes. -/
import Derived.Test.YtcknijkjacgnkaaPforBest
import Derived.Test.YtcknijkjacgnkaaPforLow
import Derived.Test.YtcknijkjacgnkaaPut
import Derived.Deep.RegionHeld3
import Derived.Deep.RegionLaw
namespace Go.Proofs.Ytcknijkjacgnkaa
open Go.RowKit

/-- a slice at the start of block g is below g + 1 -/
theorem ROwn.rowAt {α : Type} {f : α → Value} {e : TypeId} {w : World} {base g n c : Nat} {l : List α} (h : ROwn f e w base (some ⟨g, 0, none⟩) n c l) : Row f w (g + 1) (some ⟨g, 0, none⟩) l := fun hn => by
  obtain ⟨ad, ha, _, hc⟩ := h.row hn
  cases ha
  exact ⟨_, rfl, Nat.lt_succ_self g, hc⟩

/-- append at a step of a region that draws its order -/
theorem step_append_bytes {w : World} {ops : Array Oper} {o : Oper} {a : Act} {K : Act → World → Prop} {Q : Exit → Act → World → Prop} {E : Prop} (hw : Region.wanted o (yielded ops a.tmps) = true) (s x : Operand)
    (ho : o.op = .call { callee := .builtin .append, args := #[s, x], argTypes := #[22, 22] })
    (base : Nat) (A : Option Addr) (n c : Nat) (l : List UInt8) (hs : a.eval s = .slice A n c) (hown : Own w base A n c l)
    (B : Nat) (A2 : Option Addr) (m c2 : Nat) (l2 : List UInt8) (hx : a.eval x = .slice A2 m c2) (hl2 : l2.length = m) (hb : Bytes w B A2 l2) (hbytes : n + m ≤ 140737488355328) (hbase : base ≤ w.heap.size)
    (h : ∀ A' c' w', Own w' base A' (n + m) c' (l ++ l2) → w.grownBy w' (blk A) → (blk A' = blk A ∨ blk A' = some w.heap.size) → K (a.put o.dst (.slice A' (n + m) c')) w') :
    if Region.wanted o (yielded ops a.tmps) = true then Oper.wp Try.prog o a w K Q else E := by
  obtain ⟨A', c', w', hrun, h2, h3, h4⟩ := run_append_bytes w base o.type A n c l hown B A2 m c2 l2 hl2 hb hbytes hbase
  rw [if_pos hw]
  unfold Oper.wp execOp
  simp only [ho, resolve, invoke, builtin, Sem.run_bind, Sem.run_pure, Result.andThen_ok, List.map_toArray, List.map_cons, List.map_nil, hs, hx, hrun]
  exact h A' c' w' h2 h3 h4

theorem own_byte (w : World) (b : UInt8) (x : Int) (h : bval b = .int .u8 x) : Own (w.alloc (.cells #[.int .u8 x] 5)) w.heap.size (some ⟨w.heap.size, 0, none⟩) 1 1 [b] := by
  have h1 := own_lit w w.heap.size [b] (Nat.le_refl _) (by simp [maxLen])
  rw [show (bvals [b]).toArray = #[bval b] from rfl, h] at h1
  exact h1
theorem own_byte2 (w : World) (b d : UInt8) (x y : Int) (h : bval b = .int .u8 x) (h2 : bval d = .int .u8 y) : Own (w.alloc (.cells #[.int .u8 x, .int .u8 y] 5)) w.heap.size (some ⟨w.heap.size, 0, none⟩) 2 2 [b, d] := by
  have h1 := own_lit w w.heap.size [b, d] (Nat.le_refl _) (by simp [maxLen])
  rw [show (bvals [b, d]).toArray = #[bval b, bval d] from rfl, h, h2] at h1
  exact h1
theorem bval_lt {x : Nat} (h : x < 256) : bval (UInt8.ofNat x) = .int .u8 (x : Int) := by unfold bval; rw [Num.toNat_ofNat, Nat.mod_eq_of_lt h]

set_option maxHeartbeats 4000000 in
theorem encodeBlock_any (A : Option Addr) (n cap B : Nat) (l : List UInt64) (w : World) (hl : l.length = n) (h1 : 1 ≤ n) (hn : n ≤ 32) (hb : Nums w B A l) (hB : B ≤ w.heap.size) :
    Calls Try.prog 30 #[.slice A n cap] w (MadeIn w.heap.size w (Pfor.block l).length (Pfor.block l)) := by
  have hb := hb.wide hB
  have H0 := min_any A n cap _ l w hl h1 (by omega) hb
  obtain ⟨x, hx, hx0, hx1⟩ : ∃ x : Int, x = (Pfor.base l : Int) ∧ 0 ≤ x ∧ x ≤ 18446744073709551615 := ⟨_, rfl, by omega, by have := Pfor.base_lt l; omega⟩
  rw [← hx] at H0
  replace H0 := Lib.hid H0
  have hmk := run_make_nums n (by omega) w
  have ho0 := own_nums w n (by simp only [maxLen]; omega)
  have hbel0 : Below w.heap.size w (w.alloc (.cells (madeCells #[.int .u64 0] n) 50)) := (Below.refl _ _).alloc (Nat.le_refl _) _
  generalize w.alloc (.cells (madeCells #[.int .u64 0] n) 50) = w0 at *
  have hDl : (Pfor.diffs l).length = n := by rw [Pfor.diffs_length, hl]
  have HDl := Lib.hid hDl
  have Hl := Lib.hid hl
  obtain ⟨g, hg⟩ : ∃ g, g = w.heap.size := ⟨_, rfl⟩
  rw [← hg] at hmk ho0 hbel0 hb ⊢
  have Hg := Lib.hid hg
  have Hx := Lib.hid hx
  clear hDl hl hg hx
  have hW := Pfor.width_le l
  have hC : Pfor.cnt (Pfor.width l) (Pfor.diffs l) ≤ 32 := by have := Pfor.cnt_le (Pfor.width l) (Pfor.diffs l); have := HDl.out; omega
  -- what is called behind the first loop, in any world that keeps the differences
  have H1 := Lib.hid (fun (wr : World) (hD : Nums wr (g + 1) (some ⟨g, 0, none⟩) (Pfor.diffs l)) (hs : g + 1 ≤ wr.heap.size) => bestWidth_any (some ⟨g, 0, none⟩) n n _ (Pfor.diffs l) wr HDl.out hn hD hs)
  rw [Pfor.width_stop] at H1
  have H3 := Lib.hid (fun (wr : World) (hD : Nums wr (g + 1) (some ⟨g, 0, none⟩) (Pfor.diffs l)) => countExceptions_any (some ⟨g, 0, none⟩) n n _ (Pfor.width l) (Pfor.diffs l) wr HDl.out (by omega) hW hD)
  have H4 := Lib.hid (fun (wr : World) (hD : Nums wr (g + 1) (some ⟨g, 0, none⟩) (Pfor.diffs l)) (hs : g + 1 ≤ wr.heap.size) => packLowBits_any (some ⟨g, 0, none⟩) n n _ (Pfor.width l) (Pfor.diffs l) wr HDl.out hn hW hD hs)
  have hfin : Pfor.block l = (([UInt8.ofNat n] ++ Num.num (Pfor.base l)) ++ [UInt8.ofNat (Pfor.width l), UInt8.ofNat (Pfor.cnt (Pfor.width l) (Pfor.diffs l))]) ++ Bits.packed (Pfor.width l) (Pfor.lows (Pfor.width l) (Pfor.diffs l)) ++ Pfor.excs (Pfor.width l) 0 (Pfor.diffs l) := by
    have := Hl.out
    simp only [Pfor.block, Pfor.byW, Pfor.body, this, List.append_assoc, List.cons_append, List.nil_append]
  have hp256 : (Bits.packed (Pfor.width l) (Pfor.lows (Pfor.width l) (Pfor.diffs l))).length ≤ 256 := by
    have h2 : n * Pfor.width l ≤ 32 * 64 := Nat.mul_le_mul hn hW
    rw [Bits.packed_length, Pfor.lows_length, HDl.out]
    unfold Bits.size
    omega
  have hs9 := Num.size_le9 (Pfor.base_lt l)
  have hbv := bval_lt (show n < 256 by omega)
  have hbw := bval_lt (show Pfor.width l < 256 by omega)
  have hbc := bval_lt (show Pfor.cnt (Pfor.width l) (Pfor.diffs l) < 256 by omega)
  have Hfin := Lib.hid hfin; clear hfin
  have Hget := Lib.hid (fun (k : Nat) (hk : k < l.length) (h2 : k < (Pfor.diffs l).length) => show (Pfor.diffs l)[k] = UInt64.ofNat (l[k].toNat - Pfor.base l) from Pfor.diffs_get hk)
  have Hle := Lib.hid (fun (k : Nat) (hk : k < l.length) => Pfor.base_le (List.getElem_mem hk))
  generalize hDD : Pfor.diffs l = D at *
  have HDD := Lib.hid hDD; clear hDD
  generalize hWW : Pfor.width l = W at *
  clear hWW
  generalize Pfor.cnt W D = C at *
  generalize Bits.packed W (Pfor.lows W D) = pk at *
  generalize hs9' : Num.size (Pfor.base l) = s at *
  have Hs9' := Lib.hid hs9'; clear hs9'
  go_enter Try.func30, Try.ntmps30
  go_wp2_with fail
  refine H0.out.mono ?_
  rintro e w1 ⟨rfl, rfl⟩
  clear H0
  go_wp2
  go_loopw [18] (fun i wr => ∃ (k : Nat), k ≤ n ∧ i = .int .i64 k ∧ NOwn wr g (some ⟨g, 0, none⟩) n n (D.take k ++ List.replicate (n - k) 0) ∧ Below g w wr) (fun i _ => n - (intOf i).toNat)
  case atStart => exact ⟨0, by omega, rfl, by simpa using ho0, hbel0⟩
  case round =>
    clear ho0 hbel0 hmk
    obtain ⟨k, hk, rfl, ho, hbel⟩ := hrel
    have hbr := hb.below hbel
    by_cases hlt : k < n
    · have hk' : k < l.length := by have := Hl.out; omega
      obtain ⟨ad, rfl, hlt', hcell⟩ := hbr.get hk'
      simp only [uval] at hcell
      obtain ⟨hg1, hg2⟩ := fill_get (0 : UInt64) HDl.out hlt
      have hold := ho.cell hg1
      rw [hg2] at hold
      have hold' : wr.cell? ⟨g, k, none⟩ = some (.int .u64 0) := hold
      have hfree := ho.free k
      have hst := ho.store k (D[k]'(by rw [HDl.out]; exact hlt))
      have hle := Hle.out k hk'
      have hlt64 := Bits.u64_lt l[k]
      rw [fill_set (0 : UInt64) HDl.out hlt, Hget.out k hk' (by rw [HDl.out]; exact hlt)] at hst
      obtain ⟨z, hz, hz0, hz1⟩ : ∃ z : Int, z = (l[k].toNat : Int) ∧ 0 ≤ z ∧ z ≤ 18446744073709551615 := ⟨_, rfl, by omega, by omega⟩
      have hzx : x ≤ z := by rw [hz, Hx.out]; omega
      have hu : uval (UInt64.ofNat (l[k].toNat - Pfor.base l)) = .int .u64 (z - x) := by
        unfold uval
        rw [Bits.toNat_ofNat (by omega), hz, Hx.out, Int.natCast_sub hle]
      rw [hu] at hst
      rw [← hz] at hcell
      have Hst := Lib.hid hst
      have Hbl := Lib.hid (hbel.setCell (p := ⟨g, k, none⟩) (Nat.le_refl _) (.int .u64 (z - x)))
      clear hst hu hz hold hg1 hg2 ho hle hlt64
      go_wp2
      go_roundw
      case rel => exact ⟨k + 1, by omega, by go_num, Hst.out, Hbl.out⟩
      case measure => simp [intOf]; omega
    · obtain rfl : k = n := by omega
      rw [Nat.sub_self, List.replicate_zero, List.append_nil, List.take_of_length_le (by rw [HDl.out]; exact Nat.le_refl _)] at ho
      have hD := ho.rowAt
      have hsz : g + 1 ≤ wr.heap.size := ho.block.2
      have C1 := Lib.hid (H1.out wr hD hsz)
      clear H1 ho hb hbr
      go_wp2_with fail
      refine C1.out.mono ?_
      rintro e w1 ⟨rfl, hb1⟩
      clear C1
      have hbA := hb1.mono hsz
      have hszA : k * 0 + g + 1 ≤ w1.heap.size := by have := hbA.size; omega
      rw [Nat.mul_zero, Nat.zero_add] at hszA
      have hone := own_byte w1 _ _ hbv
      have hbone : Below (g + 1) wr (w1.alloc (.cells #[.int .u8 (k : Int)] 5)) := hbA.alloc hszA _
      have hszB : g + 1 ≤ (w1.alloc (.cells #[.int .u8 (k : Int)] 5)).heap.size := by simp; omega
      have CP := put_any _ 1 1 _ (Pfor.base l) [UInt8.ofNat k] _ rfl (Pfor.base_lt l) (by omega) hone.bytes (Nat.le_refl _)
      rw [← Hx.out, Hs9'.out] at CP
      replace CP := Lib.hid CP
      clear hone
      go_wp2_with fail
      refine CP.out.mono ?_
      rintro e w2 ⟨g2, c2, rfl, ho2, hb2⟩
      clear CP
      have hb2' := hbone.trans (hb2.mono hszB)
      have hszC : g + 1 ≤ w2.heap.size := Nat.le_trans hszB hb2.size
      have ho2' := ho2.low hszB
      have C3 := Lib.hid (H3.out w2 (hD.below hb2'))
      clear H3 ho2 hbA hb1 hbone hb2 hszB hszA
      go_wp2_with fail
      refine C3.out.mono ?_
      rintro e w3 ⟨rfl, rfl⟩
      clear C3
      have htwo := own_byte2 w2 _ _ _ _ hbw hbc
      have ho2a := ho2'.alloc (.cells #[.int .u8 (W : Int), .int .u8 (C : Int)] 5)
      have hb2a : Below (g + 1) wr (w2.alloc (.cells #[.int .u8 (W : Int), .int .u8 (C : Int)] 5)) := hb2'.alloc hszC _
      have hszD : g + 1 ≤ (w2.alloc (.cells #[.int .u8 (W : Int), .int .u8 (C : Int)] 5)).heap.size := by simp; omega
      have htb := htwo.bytes
      clear htwo ho2'
      go_wp2_with (at_builtin; refine wpList_append_bytes rfl (.tmp 38) (.tmp 45) rfl (g + 1) _ (1 + s) c2 _ rfl ho2a _ _ 2 2 [_, _] rfl rfl htb (by omega) hszD ?_; intro A3 c3 w3 ho3 hg3 hat3)
      have hb3 := hb2a.grown hg3 hszD (fun k hk => (ho2a.lt hk).1)
      have hszE : g + 1 ≤ w3.heap.size := Nat.le_trans hsz hb3.size
      have C4 := Lib.hid (H4.out w3 (hD.below hb3) hszE)
      clear H4 hg3 hat3 ho2a htb hb2a hszD hb2' hszC
      refine C4.out.mono ?_
      rintro e w4 ⟨A4, c4, rfl, ho4, hb4⟩
      clear C4
      have ho3' := ho3.below hb4
      have hb4' := hb3.trans (hb4.mono hszE)
      have hszF : g + 1 ≤ w4.heap.size := Nat.le_trans hsz hb4'.size
      have h4b := ho4.bytes
      clear ho4 ho3 hb3 hb4 hszE
      go_wp2_with (at_builtin; refine wpList_append_bytes rfl (.tmp 47) (.tmp 50) rfl (g + 1) _ (1 + s + 2) c3 _ rfl ho3' _ _ _ c4 pk rfl rfl h4b (by omega) hszF ?_; intro A5 c5 w5 ho5 hg5 hat5)
      have hb5 := hb4'.grown hg5 hszF (fun k hk => (ho3'.lt hk).1)
      clear hg5 hat5 ho3' h4b hb4' hszF
      generalize hP : ([UInt8.ofNat k] ++ Num.num (Pfor.base l) ++ [UInt8.ofNat W, UInt8.ofNat C]) ++ pk = P at *
      have HP := Lib.hid hP; clear hP
      generalize hws : wr = ws at *
      clear hws
      have hm5 : 1 + s + 2 + pk.length ≤ 300 := by omega
      generalize 1 + s + 2 + pk.length = m0 at *
      go_loopw [8, 54] (fun b i wr => ∃ (j m c : Nat) (A : Option Addr), j ≤ k ∧ i = .int .i64 j ∧ b = .slice A m c ∧ m ≤ 300 + 10 * j ∧ Own wr (g + 1) A m c (P ++ Pfor.excs W 0 (D.take j)) ∧ Below (g + 1) ws wr) (fun _ i _ => k - (intOf i).toNat)
      case atStart => exact ⟨0, m0, c5, A5, by omega, rfl, rfl, by omega, by simpa [Pfor.excs] using ho5, hb5⟩
      case round =>
        clear ho5 hb5
        obtain ⟨j, m, c, A6, hj, rfl, rfl, hm, ho, hbr⟩ := hrel
        have hDr := hD.below hbr
        have hszr : g + 1 ≤ wr.heap.size := Nat.le_trans hsz hbr.size
        by_cases hlt : j < k
        · have hj' : j < D.length := by have := HDl.out; omega
          obtain ⟨ad, had, hlt', hcell⟩ := hDr.get hj'
          cases had
          rw [show (⟨g, 0, none⟩ : Addr).add j = ⟨g, j, none⟩ from by by_cases h : j = 0 <;> simp [Addr.add, h]] at hcell
          simp only [uval] at hcell
          obtain ⟨z, hz, hz0, hz1⟩ : ∃ z : Int, z = (D[j].toNat : Int) ∧ 0 ≤ z ∧ z ≤ 18446744073709551615 := ⟨_, rfl, by omega, by have := Bits.u64_lt D[j]; omega⟩
          have E1 := isException_any D[j].toNat W z wr hz (Bits.u64_lt _) hW
          have Hs := Pfor.excs_take_succ W hj'
          have hv := Pfor.div_lt D[j] W
          have h9 := Num.size_le9 hv
          have Hshr := shr_nat (v := W) hz
          rw [← hz] at hcell
          clear hz
          rcases div_eq_zero_or D[j].toNat W with ⟨hd, h0⟩ | ⟨hd, h0⟩
          · rw [hd] at E1
            rw [Pfor.exc, if_neg h0] at Hs
            replace E1 := Lib.hid E1
            replace Hs := Lib.hid Hs
            have hwr : IntKind.u8.wrap (j : Int) = j := by
              have : IntKind.u8.wrap (j : Int) = (j : Int) % 256 := by simp [IntKind.wrap, IntKind.bits, IntKind.signed]
              rw [this]; omega
            have hone := own_byte wr (UInt8.ofNat j) (IntKind.u8.wrap (j : Int)) (by rw [hwr]; exact bval_lt (by omega))
            have hob := hone.bytes
            have hoa := ho.alloc (.cells #[.int .u8 (IntKind.u8.wrap (j : Int))] 5)
            have hba : Below (g + 1) ws (wr.alloc (.cells #[.int .u8 (IntKind.u8.wrap (j : Int))] 5)) := hbr.alloc hszr _
            have hsza : g + 1 ≤ (wr.alloc (.cells #[.int .u8 (IntKind.u8.wrap (j : Int))] 5)).heap.size := by simp; omega
            have HP1 := Lib.hid (fun (A2 : Option Addr) (c2 : Nat) (l2 : List UInt8) (B2 : Nat) (w2 : World) (hl2 : l2.length = m + 1) (hb2 : Bytes w2 B2 A2 l2) (hB2 : B2 ≤ w2.heap.size) => put_any A2 (m + 1) c2 B2 _ l2 w2 hl2 hv (by omega) hb2 hB2)
            rw [← Hshr] at HP1
            have Hv := Lib.hid hv
            clear hd h0 hone Hshr hv hDr hwr
            generalize Num.num (D[j].toNat / 2 ^ W) = nv at *
            generalize hsv : Num.size (D[j].toNat / 2 ^ W) = sv at *
            clear hsv
            go_wp2_with fail
            refine E1.out.mono ?_
            rintro e w1 ⟨rfl, rfl⟩
            clear E1
            go_wp2_with fail
            go_region_held3 (fun _ => True) (trivial) (first | (refine step_append_bytes (by rfl) (.tmp 62) (.tmp 65) (by rfl) (g + 1) A6 m c _ (by rfl) (by exact hoa) _ _ 1 1 [UInt8.ofNat j] (by rfl) rfl (by exact hob) (by omega) (by exact hsza) ?_; intro A7 c7 w7 ho7 hg7 hat7) | (go_at_call 37; refine (HP1.out A7 c7 _ _ _ (by exact ho7.len) (by exact ho7.bytes) (by exact Nat.le_refl _)).mono ?_; rintro e w8 ⟨g8, c8, rfl, ho8, hb8⟩))
            have hb7 : Below (g + 1) ws w7 := (hba.drew).grown (by exact hg7) (by exact hsza) (fun k hk => (hoa.lt hk).1)
            have hsz7 : g + 1 ≤ w7.heap.size := Nat.le_trans hsz hb7.size
            have hb8' : Below w7.heap.size w7 w8 := by exact hb8
            have hb9 := hb7.trans (hb8'.mono hsz7)
            have ho9 : Own w8 (g + 1) (some ⟨g8, 0, none⟩) (m + 1 + sv) c8 ((P ++ Pfor.excs W 0 (D.take j) ++ [UInt8.ofNat j]) ++ nv) := ho8.low hsz7
            rw [List.append_assoc, List.append_assoc, List.singleton_append, ← Hs.out] at ho9
            clear ho7 hg7 hat7 ho8 hb8 hb8' hb7 hsz7 hoa hob hba hsza HP1 ho hbr
            go_wp2
            go_roundw
            case rel => exact ⟨j + 1, m + 1 + sv, c8, _, by omega, by go_num, rfl, by omega, ho9, hb9⟩
            case measure => simp [intOf]; omega
          · rw [hd] at E1
            rw [Pfor.exc, if_pos h0, List.append_nil] at Hs
            replace E1 := Lib.hid E1
            replace Hs := Lib.hid Hs
            clear hd h0 Hshr hv h9
            go_wp2_with fail
            refine E1.out.mono ?_
            rintro e w1 ⟨rfl, rfl⟩
            clear E1
            go_wp2
            go_roundw
            case rel => exact ⟨j + 1, m, c, A6, by omega, by go_num, rfl, by omega, by rw [Hs.out]; exact ho, hbr⟩
            case measure => simp [intOf]; omega
        · obtain rfl : j = k := by omega
          rw [List.take_of_length_le (by rw [HDl.out]; exact Nat.le_refl _), ← Hfin.out] at ho
          go_wp2
          go_ret
          have hlen := ho.len
          have hp := Pfor.block_pos l
          obtain ⟨g9, rfl, _⟩ := ho.at_ (by omega)
          rw [hlen]
          exact ⟨g9, c, rfl, ho.low (by omega), hbel.trans (hbr.mono (by omega))⟩
end Go.Proofs.Ytcknijkjacgnkaa
