/- lz.Unpack: from part to part, and to its two failures, by goto. -/
import Derived.Test.YtonknkmbkfndcaaLzBack
import Derived.Test.YtonknkmbkfndcaaGotos
import Derived.Deep.RegionHeld3
import Derived.StillTailTactics
namespace Go.Proofs.Ytonknkmbkfndcaa
open Go.RowKit

/-- what Unpack answers -/
def UnPost (w : World) (r : List UInt8 × Nat) (e : Ending) (w' : World) : Prop :=
  ∃ A c, e = .returned (.tuple #[.slice A r.1.length c, .int .i64 (r.2 : Int)]) ∧ Own w' w.heap.size A r.1.length c r.1 ∧ Below w.heap.size w w'
theorem own_none (w : World) (base : Nat) : Own w base none 0 0 [] := World.ownsRow_nil w base _ _

theorem step_append_bytes {w : World} {ops : Array Oper} {o : Oper} {a : Act} {K : Act → World → Prop} {Q : Exit → Act → World → Prop} {E : Prop} (hw : Region.wanted o (yielded ops a.tmps) = true) (s x : Operand)
    (ho : o.op = .call { callee := .builtin .append, args := #[s, x], argTypes := #[22, 22] })
    (base : Nat) (A : Option Addr) (n c : Nat) (l : List UInt8) (hs : a.eval s = .slice A n c) (hown : Own w base A n c l)
    (B : Nat) (A2 : Option Addr) (m c2 : Nat) (l2 : List UInt8) (hx : a.eval x = .slice A2 m c2) (hl2 : l2.length = m) (hb : Bytes w B A2 l2) (hbytes : n + m ≤ 140737488355328) (hbase : base ≤ w.heap.size)
    (h : ∀ A' c' w', Own w' base A' (n + m) c' (l ++ l2) → w.grownBy w' (blk A) → (blk A' = blk A ∨ blk A' = some w.heap.size) → K (a.put o.dst (.slice A' (n + m) c')) w') :
    if Region.wanted o (yielded ops a.tmps) = true then Oper.wp Try.prog o a w K Q else E := by
  obtain ⟨A', c', w', hrun, h2, h3, h4⟩ := run_append_bytes w base o.type A n c l hown B A2 m c2 l2 hl2 hb hbytes hbase
  rw [if_pos hw]
  unfold Oper.wp execOp
  simp only [ho, resolve, invoke, builtin, Sem.run_bind, Sem.run_pure, Result.andThen_ok, List.map_toArray, List.map_cons, List.map_nil, hs, hx, hrun]
  exact h A' c' w' h2 h3 h4


theorem list_frame {l : List Value} {n : Nat} (h : l.length = n) : l = (List.range n).map (fun i => l.getD i undef) := by
  apply List.ext_getElem
  · simp [h]
  · intro i h1 h2
    simp [List.getD_eq_getElem?_getD, List.getElem?_eq_getElem h1]
/-- a frame of this function's size -/
def AtBad (a : Act) : Prop := a.tmps.size = 97 ∧ a.defers = []
theorem AtBad.frame {a : Act} (h : AtBad a) : ∃ g : Nat → Value, a = { tmps := #[g 0, g 1, g 2, g 3, g 4, g 5, g 6, g 7, g 8, g 9, g 10, g 11, g 12, g 13, g 14, g 15, g 16, g 17, g 18, g 19, g 20, g 21, g 22, g 23, g 24, g 25, g 26, g 27, g 28, g 29, g 30, g 31, g 32, g 33, g 34, g 35, g 36, g 37, g 38, g 39, g 40, g 41, g 42, g 43, g 44, g 45, g 46, g 47, g 48, g 49, g 50, g 51, g 52, g 53, g 54, g 55, g 56, g 57, g 58, g 59, g 60, g 61, g 62, g 63, g 64, g 65, g 66, g 67, g 68, g 69, g 70, g 71, g 72, g 73, g 74, g 75, g 76, g 77, g 78, g 79, g 80, g 81, g 82, g 83, g 84, g 85, g 86, g 87, g 88, g 89, g 90, g 91, g 92, g 93, g 94, g 95, g 96], defers := [] } ∧ ∀ i, g i = a.tmps.getD i undef := by
  rcases a with ⟨⟨l⟩, d⟩
  obtain ⟨h1, h2⟩ := h
  cases h2
  refine ⟨fun i => l.getD i undef, ?_, fun i => by simp [List.getD_eq_getElem?_getD, Array.getD_eq_getD_getElem?]⟩
  have e := list_frame (l := l) (n := 97) h1
  exact congrArg (fun x : List Value => ({ tmps := ⟨x⟩, defers := [] } : Act)) e
def AtPart (A1 : Option Addr) (n1 c1 : Nat) (most : Int) (A2 : Option Addr) (n2 c2 : Nat) (a : Act) : Prop := AtBad a ∧ a.tmps.getD 0 undef = .slice A1 n1 c1 ∧ a.tmps.getD 1 undef = .int .i64 most ∧ a.tmps.getD 6 undef = .slice A2 n2 c2
theorem AtPart.frame {A1 : Option Addr} {n1 c1 : Nat} {most : Int} {A2 : Option Addr} {n2 c2 : Nat} {a : Act} (h : AtPart A1 n1 c1 most A2 n2 c2 a) : ∃ g : Nat → Value, a = { tmps := #[.slice A1 n1 c1, .int .i64 most, g 2, g 3, g 4, g 5, .slice A2 n2 c2, g 7, g 8, g 9, g 10, g 11, g 12, g 13, g 14, g 15, g 16, g 17, g 18, g 19, g 20, g 21, g 22, g 23, g 24, g 25, g 26, g 27, g 28, g 29, g 30, g 31, g 32, g 33, g 34, g 35, g 36, g 37, g 38, g 39, g 40, g 41, g 42, g 43, g 44, g 45, g 46, g 47, g 48, g 49, g 50, g 51, g 52, g 53, g 54, g 55, g 56, g 57, g 58, g 59, g 60, g 61, g 62, g 63, g 64, g 65, g 66, g 67, g 68, g 69, g 70, g 71, g 72, g 73, g 74, g 75, g 76, g 77, g 78, g 79, g 80, g 81, g 82, g 83, g 84, g 85, g 86, g 87, g 88, g 89, g 90, g 91, g 92, g 93, g 94, g 95, g 96], defers := [] } := by
  obtain ⟨h0, h1, h2, h3⟩ := h
  obtain ⟨g, e, hg⟩ := h0.frame
  refine ⟨g, ?_⟩
  rw [← h1, ← h2, ← h3, ← hg, ← hg, ← hg]
  exact e
def AtLast (m : Nat) (A2 : Option Addr) (n2 c2 : Nat) (a : Act) : Prop := AtBad a ∧ a.tmps.getD 6 undef = .slice A2 n2 c2 ∧ a.tmps.getD 8 undef = .int .i64 (m : Int)
theorem AtLast.frame {m : Nat} {A2 : Option Addr} {n2 c2 : Nat} {a : Act} (h : AtLast m A2 n2 c2 a) : ∃ g : Nat → Value, a = { tmps := #[g 0, g 1, g 2, g 3, g 4, g 5, .slice A2 n2 c2, g 7, .int .i64 (m : Int), g 9, g 10, g 11, g 12, g 13, g 14, g 15, g 16, g 17, g 18, g 19, g 20, g 21, g 22, g 23, g 24, g 25, g 26, g 27, g 28, g 29, g 30, g 31, g 32, g 33, g 34, g 35, g 36, g 37, g 38, g 39, g 40, g 41, g 42, g 43, g 44, g 45, g 46, g 47, g 48, g 49, g 50, g 51, g 52, g 53, g 54, g 55, g 56, g 57, g 58, g 59, g 60, g 61, g 62, g 63, g 64, g 65, g 66, g 67, g 68, g 69, g 70, g 71, g 72, g 73, g 74, g 75, g 76, g 77, g 78, g 79, g 80, g 81, g 82, g 83, g 84, g 85, g 86, g 87, g 88, g 89, g 90, g 91, g 92, g 93, g 94, g 95, g 96], defers := [] } := by
  obtain ⟨h0, h1, h2⟩ := h
  obtain ⟨g, e, hg⟩ := h0.frame
  refine ⟨g, ?_⟩
  rw [← h1, ← h2, ← hg, ← hg]
  exact e

/-- what holds at each label -/
def UnJ (w : World) (B : Nat) (most : Nat) (R : List UInt8 × Nat) (l n : Nat) (a : Act) (w' : World) : Prop :=
  (l = 1 ∧ ∃ A1 n1 c1 b A2 n2 c2 out f, AtPart A1 n1 c1 (most : Int) A2 n2 c2 a ∧ b.length = n1 ∧ n1 ≤ c1 ∧ n1 ≤ 140737488355328 ∧ Bytes w' B A1 b ∧ Own w' w.heap.size A2 n2 c2 out ∧ n2 ≤ most ∧ n1 < f ∧ Lz.run most f b out = R ∧ Below w.heap.size w w' ∧ n = n1 + 2) ∨
  (l = 3 ∧ ∃ m A2 n2 c2 out, AtLast m A2 n2 c2 a ∧ Own w' w.heap.size A2 n2 c2 out ∧ (if m = 0 then (out, 0) else ([], 2)) = R ∧ Below w.heap.size w w' ∧ n = 1) ∨
  (l = 0 ∧ AtBad a ∧ R = ([], 2) ∧ Below w.heap.size w w' ∧ n = 0) ∨
  (l = 2 ∧ AtBad a ∧ R = ([], 5) ∧ Below w.heap.size w w' ∧ n = 0)

theorem UnJ.bad {w : World} {B most : Nat} {R : List UInt8 × Nat} {n : Nat} {a : Act} {w' : World} (ha : AtBad a) (hR : R = ([], 2)) (hb : Below w.heap.size w w') (hn : 0 < n) : ∃ n', n' < n ∧ UnJ w B most R 0 n' a w' := ⟨0, hn, .inr (.inr (.inl ⟨rfl, ha, hR, hb, rfl⟩))⟩
theorem UnJ.long {w : World} {B most : Nat} {R : List UInt8 × Nat} {n : Nat} {a : Act} {w' : World} (ha : AtBad a) (hR : R = ([], 5)) (hb : Below w.heap.size w w') (hn : 0 < n) : ∃ n', n' < n ∧ UnJ w B most R 2 n' a w' := ⟨0, hn, .inr (.inr (.inr ⟨rfl, ha, hR, hb, rfl⟩))⟩
theorem UnJ.last {w : World} {B most : Nat} {R : List UInt8 × Nat} {n : Nat} {a : Act} {w' : World} {m n2 c2 : Nat} {A2 : Option Addr} {out : List UInt8} (ha : AtLast m A2 n2 c2 a) (ho : Own w' w.heap.size A2 n2 c2 out) (hR : (if m = 0 then (out, 0) else ([], 2)) = R) (hb : Below w.heap.size w w') (hn : 1 < n) : ∃ n', n' < n ∧ UnJ w B most R 3 n' a w' := ⟨1, hn, .inr (.inl ⟨rfl, m, A2, n2, c2, out, ha, ho, hR, hb, rfl⟩)⟩

theorem nibbles (x : UInt8) : ∃ a m : Nat, a ≤ 15 ∧ m ≤ 15 ∧ x.toNat / 16 = a ∧ x.toNat % 16 = m ∧ ((x.toNat : Nat) : Int) / 16 = (a : Int) ∧ bits .and .u8 ((x.toNat : Nat) : Int) 15 = (m : Int) := by
  have hx := x.toNat_lt
  refine ⟨x.toNat / 16, x.toNat % 16, by omega, by omega, rfl, rfl, by omega, ?_⟩
  rw [show (15 : Int) = ((15 : Nat) : Int) from rfl, u8_and_nat _ _ (by omega) (by omega), nat_mask4]

set_option maxHeartbeats 4000000 in
theorem unpack_pos (A : Option Addr) (n cap B : Nat) (l : List UInt8) (most : Nat) (w : World) (hl : l.length = n) (hcap : n ≤ cap) (hm : n ≤ 140737488355328) (hmost : most ≤ 100000000) (hb : Bytes w B A l) (hB : B ≤ w.heap.size) :
    Calls Try.prog 13 #[.slice A n cap, .int .i64 (most : Int)] w (UnPost w (Lz.run most (n + 1) l [])) := by
  generalize hR : Lz.run most (n + 1) l [] = R
  have HR := Lib.hid hR; clear hR
  have Hl := Lib.hid hl; clear hl
  go_enter Try.func13, Try.ntmps13
  go_wp2
  refine wp_scope_gotos2 (UnJ w B most R) ?_ ?_
  · -- from a label on
    clear HR Hl hb hcap hm
    rintro L nn a w1 (⟨rfl, A1, n1, c1, b, A2, n2, c2, out, f, ha, hl1, hc1, hm1, hb1, ho1, hn2, hf, hR, hbel, rfl⟩ | ⟨rfl, m, A2, n2, c2, out, ha, ho1, hR, hbel, rfl⟩ | ⟨rfl, ha, hR, hbel, rfl⟩ | ⟨rfl, ha, hR, hbel, rfl⟩)
    · refine ⟨_, rfl, ?_⟩
      obtain ⟨g, rfl⟩ := ha.frame
      clear ha
      obtain ⟨f, rfl⟩ : ∃ f', f = f' + 1 := ⟨f - 1, by omega⟩
      have hlo := ho1.len
      rcases b with _ | ⟨x, b1⟩
      · obtain rfl : 0 = n1 := by simpa using hl1
        have HR := Lib.hid hR.symm; clear hR
        clear hb1 ho1 hlo
        go_wp2
        go_step3
        exact UnJ.bad ⟨rfl, rfl⟩ HR.out hbel (by omega)
      · rw [Lz.run_cons] at hR
        obtain ⟨k, rfl⟩ : ∃ k, n1 = k + 1 := ⟨n1 - 1, by simp at hl1; omega⟩
        have hlb : b1.length = k := by simpa using hl1
        obtain ⟨ad, rfl⟩ := hb1.addr (k := 0) (by simp)
        have hcell := hb1.at_ (k := 0) (by simp)
        rw [show Lz.at_ (x :: b1) 0 = x.toNat from rfl] at hcell
        have hidx := run_index_at ad (k + 1) c1 0 (by omega)
        rw [Int.natCast_zero] at hidx
        have hcut := hb1.cut (k := 1) (cap := c1) (by simp) (by omega)
        rw [List.drop_succ_cons, List.drop_zero] at hcut
        have hrun := run_cut_l (some ad) (k + 1) c1 1 (by omega)
        rw [Int.natCast_one, show k + 1 - 1 = k from rfl] at hrun
        obtain ⟨h, m, hh, hm15, e1, e2, hdiv, hand⟩ := nibbles x
        rw [e1, e2, hlo] at hR
        have hx256 := x.toNat_lt
        generalize x.toNat = X at *
        generalize ad.add 0 = p0 at *
        generalize cutAt (some ad) c1 1 = A1' at *
        clear hb1 e1 e2 hl1
        have hk0 : ¬ (((k + 1 : Nat) : Int) = 0) := by omega
        have HR := Lib.hid hR; clear hR
        have HB := Lib.hid hcut; clear hcut
        go_wp2_with fail
        go_quiet (fail)
        rename_i nq
        clear hcell hidx hrun hdiv hand hx256 hk0
        have hd1 : Drawn w1 (w1.drewN nq) := ⟨nq, rfl⟩
        have hbel1 := hbel.trans (hd1.below w.heap.size)
        have ho2 := ho1.below (hd1.below w1.heap.size)
        have hsz1 : w.heap.size ≤ (w1.drewN nq).heap.size := hbel1.size
        have C1 := Lib.hid (takeCount_any A1' k (c1 - 1) B h b1 (w1.drewN nq) hlb (by omega) hh (by omega) (bytes_drawn HB.out hd1))
        clear hbel ho1 HB hd1
        generalize w1.drewN nq = w2 at *
        have hck := fun c b2 => Lz.takeCount_length (b := b1) (r := b2) (h := h) (c := c) hh
        rw [hlb] at hck
        rcases hT : Lz.takeCount h b1 with _ | ⟨c, b2⟩
        · have hR := HR.out
          rw [hT] at hR
          have HR' := Lib.hid hR.symm; clear hR HR
          rw [hT] at C1
          clear hck hT hlb
          go_wp2_with fail
          refine C1.out.mono ?_
          rintro e w3 ⟨rfl, hd3⟩
          clear C1
          go_wp2
          go_step3
          exact UnJ.bad ⟨rfl, rfl⟩ HR'.out (hbel1.trans (hd3.below _)) (by omega)
        · have hR := HR.out
          rw [hT] at hR C1
          dsimp only at hR
          obtain ⟨hl2, _, hc63⟩ := hck c b2 hT
          clear HR hck hT
          obtain ⟨k2, hk2⟩ : ∃ k2, b2.length = k2 := ⟨_, rfl⟩
          go_wp2_with fail
          refine C1.out.mono ?_
          rintro e w3 ⟨⟨A3, c3, rfl, hb3, hcap3⟩, hd3⟩
          rw [hk2] at hcap3 hR hl2 ⊢
          have Hk2 := Lib.hid hk2; clear hk2
          have hbel3 := hbel1.trans (hd3.below _)
          have ho3 := ho2.below (hd3.below _)
          have hsz3 : w.heap.size ≤ w3.heap.size := hbel3.size
          clear C1 hbel1 ho2 hd3 hsz1
          by_cases h1 : most < n2 + c
          · rw [if_pos h1] at hR
            have HR' := Lib.hid hR.symm; clear hR
            have h1' : (most : Int) - (n2 : Int) < (c : Int) := by omega
            clear hb3 ho3
            go_wp2
            go_step3
            exact UnJ.long ⟨rfl, rfl⟩ HR'.out hbel3 (by omega)
          · rw [if_neg h1] at hR
            have h1' : ¬ ((most : Int) - (n2 : Int) < (c : Int)) := by omega
            by_cases h2 : k2 < c
            · rw [if_pos h2] at hR
              have HR' := Lib.hid hR.symm; clear hR
              have h2' : (k2 : Int) < (c : Int) := by omega
              clear hb3 ho3
              go_wp2
              go_step3
              exact UnJ.bad ⟨rfl, rfl⟩ HR'.out hbel3 (by omega)
            · rw [if_neg h2] at hR
              have h2' : ¬ ((k2 : Int) < (c : Int)) := by omega
              have hsrc := hb3.take c
              have hlsrc : (b2.take c).length = c := by rw [List.length_take, Hk2.out]; omega
              have hrest := hb3.cut (k := c) (cap := c3) (by rw [Hk2.out]; omega) (by rw [Hk2.out]; omega)
              have hlrest : (b2.drop c).length = k2 - c := by rw [List.length_drop, Hk2.out]
              have hcr : k2 - c ≤ c3 - c := by omega
              have r1 := run_cut_h A3 k2 c3 c (by omega)
              have r2 := run_cut_l A3 k2 c3 c (by omega)
              have hc0 : (0 : Int) ≤ (c : Int) := by omega
              have hc1 : (c : Int) ≤ (k2 : Int) := by omega
              have hc2 : (c : Int) ≤ (c3 : Int) := by omega
              have hk4 : k2 - c ≤ k := by omega
              generalize k2 - c = k4 at *
              generalize c3 - c = c4 at *
              generalize cutAt A3 c3 c = A4 at *
              clear hb3
              generalize hT4 : b2.drop c = T4 at *
              generalize hT3 : b2.take c = T3 at *
              clear hT4 hT3
              have HT3 := Lib.hid hlsrc
              have HT4 := Lib.hid hlrest
              have HREST := Lib.hid hrest
              have HR' := Lib.hid hR
              clear hlsrc hlrest hrest hR
              go_wp2_with fail
              go_region_held3 (fun _ => True) (trivial) (first | (refine step_append_bytes (by rfl) (.tmp 48) (.tmp 51) (by rfl) w.heap.size A2 n2 c2 out (by rfl) (by exact ho3) B A3 c c3 T3 (by rfl) (by exact HT3.out) (by exact hsrc) (by omega) (by exact hsz3) ?_; intro A5 c5 w5 ho5 hg5 hat5))
              have hb35 : Below w.heap.size w3 w5 := ((Below.refl _ w3).drew).grown hg5 hsz3 (fun k hk => (ho3.lt hk).1)
              have hbel5 := hbel3.trans hb35
              have hrest5 := HREST.out.below (hb35.mono hB)
              have hlo5 := ho5.len
              clear hg5 hat5 hb35 HREST hsrc ho3 hbel3 r1 r2 Hk2 HT3 h1' h2' hc0 hc1 hc2
              rcases T4 with _ | ⟨x, _ | ⟨y, b3⟩⟩
              · obtain rfl : 0 = k4 := HT4.out
                clear hrest5
                go_wp2
                go_step3
                exact UnJ.last ⟨⟨rfl, rfl⟩, rfl, rfl⟩ ho5 HR'.out hbel5 (by omega)
              · obtain rfl : 1 = k4 := HT4.out
                have C2 := Lib.hid (takeDistance_any A4 1 c4 B [x] w5 rfl hcr (by omega) hrest5)
                have HR2 := Lib.hid HR'.out.symm
                clear hrest5 HR' ho5
                go_wp2_with fail
                refine C2.out.mono ?_
                rintro e w6 ⟨h6, hd6⟩
                rw [if_pos (by simp)] at h6
                subst h6
                clear C2
                go_wp2
                go_step3
                exact UnJ.bad ⟨rfl, rfl⟩ HR2.out (hbel5.trans (hd6.below _)) (by omega)
              · obtain ⟨k6, hk6⟩ : ∃ k6, b3.length = k6 := ⟨_, rfl⟩
                obtain rfl : k6 + 2 = k4 := by rw [← hk6]; exact HT4.out
                have hR := HR'.out
                dsimp only at hR
                have C2 := takeDistance_any A4 (k6 + 2) c4 B (x :: y :: b3) w5 (by simp [hk6]) hcr (by omega) hrest5
                unfold DistPost at C2
                have hlt2 : ¬ (x :: y :: b3).length < 2 := by simp
                simp only [if_neg hlt2] at C2
                have e0 : Lz.at_ (x :: y :: b3) 0 = x.toNat := rfl
                have e1 : Lz.at_ (x :: y :: b3) 1 = y.toNat := rfl
                have e2 : (x :: y :: b3).length - 2 = k6 := by simp [hk6]
                have e3 : (x :: y :: b3).drop 2 = b3 := rfl
                rw [e0, e1, e2, e3] at C2
                clear hlt2
                have hx := x.toNat_lt
                have hy := y.toNat_lt
                have hd64 : x.toNat + 256 * y.toNat ≤ 65535 := by omega
                generalize x.toNat + 256 * y.toNat = d at *
                have Hk6 := Lib.hid hk6
                replace C2 := Lib.hid C2
                clear hrest5 HR' e0 e1 e2 e3 hx hy hk6 HT4
                have hk40 : ¬ (((k6 + 2 : Nat) : Int) = 0) := by omega
                go_wp2_with fail
                refine C2.out.mono ?_
                rintro e w6 ⟨⟨A6, c6, rfl, hb6, hc6⟩, hd6⟩
                have hbel6 := hbel5.trans (hd6.below _)
                have ho6 := ho5.below (hd6.below _)
                clear C2 ho5 hbel5 hd6
                by_cases hd0 : d = 0 ∨ n2 + c < d
                · rw [if_pos hd0] at hR
                  have HR2 := Lib.hid hR.symm
                  clear hR hb6 ho6
                  by_cases hdz : d = 0
                  · have hdd : decide (0 < d) = false := by simp [hdz]
                    clear hd0 hdz
                    rw [hdd]
                    go_wp2
                    go_step3
                    exact UnJ.bad ⟨rfl, rfl⟩ HR2.out hbel6 (by omega)
                  · have hdd : decide (0 < d) = true := by simp; omega
                    have hdl : (n2 : Int) + (c : Int) < (d : Int) := by omega
                    clear hd0 hdz
                    rw [hdd]
                    go_wp2
                    go_step3
                    exact UnJ.bad ⟨rfl, rfl⟩ HR2.out hbel6 (by omega)
                · rw [if_neg hd0] at hR
                  have hdd : decide (0 < d) = true := by simp; omega
                  have hdl : ¬ ((n2 : Int) + (c : Int) < (d : Int)) := by omega
                  have hd1 : 1 ≤ d := by omega
                  have hd2 : d ≤ n2 + c := by omega
                  rw [hdd]
                  clear hd0 hdd
                  have hsz6 : w.heap.size ≤ w6.heap.size := hbel6.size
                  have C3 := Lib.hid (takeCount_any A6 k6 c6 B m b3 w6 Hk6.out hc6 hm15 (by omega) hb6)
                  have hck := fun c b2 => Lz.takeCount_length (b := b3) (r := b2) (h := m) (c := c) hm15
                  rw [Hk6.out] at hck
                  clear hb6
                  rcases hT : Lz.takeCount m b3 with _ | ⟨c7, b4⟩
                  · rw [hT] at hR C3
                    have HR2 := Lib.hid hR.symm
                    clear hR hck hT
                    go_wp2_with fail
                    refine C3.out.mono ?_
                    rintro e w7 ⟨rfl, hd7⟩
                    clear C3
                    go_wp2
                    go_step3
                    exact UnJ.bad ⟨rfl, rfl⟩ HR2.out (hbel6.trans (hd7.below _)) (by omega)
                  · rw [hT] at hR C3
                    dsimp only at hR
                    obtain ⟨hl7, _, hc63'⟩ := hck c7 b4 hT
                    clear hck hT
                    obtain ⟨k7, hk7⟩ : ∃ k7, b4.length = k7 := ⟨_, rfl⟩
                    go_wp2_with fail
                    refine C3.out.mono ?_
                    rintro e w7 ⟨⟨A7, c7', rfl, hb7, hcap7⟩, hd7⟩
                    rw [hk7] at hcap7 hl7 ⊢
                    have Hk7 := Lib.hid hk7; clear hk7
                    have hbel7 := hbel6.trans (hd7.below _)
                    have ho7 := ho6.below (hd7.below _)
                    have hsz7 : w.heap.size ≤ w7.heap.size := hbel7.size
                    clear C3 ho6 hbel6 hd7
                    by_cases h3 : most < n2 + c + (c7 + 4)
                    · rw [if_pos h3] at hR
                      have HR2 := Lib.hid hR.symm
                      have h3' : (most : Int) - ((n2 : Int) + (c : Int)) < (c7 : Int) + 4 := by omega
                      clear hR hb7 ho7
                      go_wp2
                      go_step3
                      exact UnJ.long ⟨rfl, rfl⟩ HR2.out hbel7 (by omega)
                    · rw [if_neg h3] at hR
                      have h3' : ¬ ((most : Int) - ((n2 : Int) + (c : Int)) < (c7 : Int) + 4) := by omega
                      have C4 := appendEarlier_any A5 (n2 + c) c5 w.heap.size d (c7 + 4) (out ++ T3) w7 ho7 hsz7 hd1 hd2 (by omega)
                      rw [show ((c7 + 4 : Nat) : Int) = (c7 : Int) + 4 from by omega] at C4
                      replace C4 := Lib.hid C4
                      have HR2 := Lib.hid hR
                      clear hR ho7
                      go_wp2_with fail
                      refine C4.out.mono ?_
                      rintro e w8 ⟨A8, c8, rfl, ho8, hb8⟩
                      have hbel8 := hbel7.trans hb8
                      have hb9 := hb7.below (hb8.mono hB)
                      clear C4 hb7
                      go_wp2
                      go_step3
                      exact ⟨k7 + 2, by omega, .inl ⟨rfl, A7, k7, c7', b4, A8, n2 + c + (c7 + 4), c8, _, f, ⟨⟨rfl, rfl⟩, rfl, rfl, rfl⟩, Hk7.out, hcap7, by omega, hb9, ho8, by omega, by omega, HR2.out, hbel8, rfl⟩⟩
    · refine ⟨_, rfl, ?_⟩
      obtain ⟨g, rfl⟩ := ha.frame
      have HR := Lib.hid hR; clear hR
      by_cases h0 : m = 0
      · have h0' : ((m : Int) != 0) = false := by simp; omega
        have h0'' : (m : Int) = 0 := by omega
        go_wp2
        go_ret2
        have e := HR.out
        rw [if_pos h0] at e
        have hlen := ho1.len
        subst e
        exact ⟨A2, c2, by rw [hlen]; rfl, by rw [hlen]; exact ho1, hbel⟩
      · have h0' : ((m : Int) != 0) = true := by simp; omega
        have h0'' : ¬ ((m : Int) = 0) := by omega
        have e := HR.out
        rw [if_neg h0] at e
        have E := Lib.hid e.symm; clear e
        go_wp2
        go_step3
        exact UnJ.bad ⟨rfl, rfl⟩ E.out hbel (by omega)
    · refine ⟨_, rfl, ?_⟩
      obtain ⟨g, rfl, hg⟩ := ha.frame
      clear hg ha
      have HR := Lib.hid hR; clear hR
      go_wp2
      go_ret2
      rw [HR.out]
      exact ⟨none, 0, rfl, own_none _ _, hbel⟩
    · refine ⟨_, rfl, ?_⟩
      obtain ⟨g, rfl, hg⟩ := ha.frame
      clear hg ha
      have HR := Lib.hid hR; clear hR
      go_wp2
      go_ret2
      rw [HR.out]
      exact ⟨none, 0, rfl, own_none _ _, hbel⟩
  · intro Pass
    have PASS := Lib.hid Pass; clear Pass
    go_wp2
    go_step3
    rename_i hK
    refine hK _ _ ?_
    refine use_pass (PASS.out 1 (n + 2) _ _ (.inl ⟨rfl, A, n, cap, l, none, 0, 0, [], n + 1, ⟨⟨rfl, rfl⟩, rfl, rfl, rfl⟩, Hl.out, hcap, hm, hb, own_none _ _, Nat.zero_le _, Nat.lt_succ_self _, HR.out, Below.refl _ _, rfl⟩)) rfl ?_
    exact Exit.jumps_mono (fun l a w ⟨n', _, h⟩ => ⟨n', h⟩)
end Go.Proofs.Ytonknkmbkfndcaa
