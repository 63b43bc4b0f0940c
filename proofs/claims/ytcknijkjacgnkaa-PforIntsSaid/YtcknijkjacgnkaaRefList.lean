/- The document's List and TakeList. -/
import Derived.Test.YtcknijkjacgnkaaRefTakeBlock
import Derived.Test.YtcknijkjacgnkaaPutList
import Derived.Laws.Small
namespace Go.Proofs.Ytcknijkjacgnkaa
open Go.RowKit

theorem run_nums_lh (A : Option Addr) (n cap lo hi m : Nat) (h1 : hi = lo + m) (h2 : hi ≤ cap) (W : World) :
    (Instr.slice 23 (.slice A n cap) (some (.int .i64 (lo : Int))) (some (.int .i64 (hi : Int))) none).run Try.prog W = .ok (.slice (cutAt A cap lo) m (cap - lo)) W := by
  rw [run_slice_lh (P := Try.prog) (w := W) (kl := .i64) (kh := .i64) (l := (lo : Int)) (h := (hi : Int)) (h0 := by omega) (h1 := by omega) (h2 := by omega) (ht := by rw [elem23]; exact Try.underlying23)]
  rw [elem23, size64, show m = hi - lo from by omega]
  simp [Result.andThen, sliced, cutAt]

set_option maxHeartbeats 2000000 in
theorem refList_any (A : Option Addr) (n cap B : Nat) (l : List UInt64) (w : World) (hl : l.length = n) (hn : n ≤ 1000000) (hcap : n ≤ cap) (hb : Nums w B A l) (hB : B ≤ w.heap.size) :
    Calls Try.prog 21 #[.slice A n cap] w (MadeIn w.heap.size w (Pfor.list l).length (Pfor.list l)) := by
  have hb := hb.wide hB
  have H0 := Lib.hid (refBytes_any n w (by omega))
  have hs9 := Num.size_le9 (show n < 18446744073709551616 by omega)
  have hs1 := Num.size_pos n
  have hL : Num.num n ++ Pfor.blocks (l.drop 0) = Pfor.list l := by rw [Pfor.list, hl, List.drop_zero]
  have hll := Pfor.list_length_le l (by omega)
  have hnl : (Num.num n).length = Num.size n := Num.num_length _
  have Hl := Lib.hid hl
  have HL := Lib.hid hL
  have Hnl := Lib.hid hnl
  have hTl : (Pfor.list l).length ≤ 268000009 := by omega
  have hT1 : 0 < (Pfor.list l).length := by rw [← hL, List.length_append, hnl]; omega
  clear hl hL hll hnl
  generalize Pfor.list l = T at *
  generalize Num.num n = N0 at *
  generalize Num.size n = s at *
  go_enter Try.func21, Try.ntmps21
  go_wp2_with fail
  refine H0.out.mono ?_
  rintro e w1 ⟨g1, k1, rfl, ho1, hb1⟩
  clear H0
  go_wp2
  go_loopw [3, 4] (fun q i wr => ∃ (j c k : Nat) (A2 : Option Addr) (O : List UInt8), j < n + 32 ∧ i = .int .i64 j ∧ q = .slice A2 k c ∧ k ≤ T.length ∧ Own wr w.heap.size A2 k c O ∧ O ++ Pfor.blocks (l.drop j) = T ∧ Below w.heap.size w wr) (fun _ i _ => n - (intOf i).toNat)
  case atStart => exact ⟨0, k1, s, _, N0, by omega, rfl, rfl, by have h := congrArg List.length HL.out; rw [List.length_append, Hnl.out] at h; omega, ho1, HL.out, hb1⟩
  case round =>
    clear ho1 hb1
    obtain ⟨j, c, k, A2, O, hj, rfl, rfl, hk, ho, hT, hbr⟩ := hrel
    have hszr := hbr.size
    have hbx := hb.below hbr
    by_cases hlt : j < n
    · have hrl : (l.drop j).length = n - j := by rw [List.length_drop, Hl.out]
      have hne : l.drop j ≠ [] := fun h => by rw [h] at hrl; simp at hrl; omega
      obtain ⟨x, hx⟩ : ∃ x, x = min (n - j) 32 := ⟨_, rfl⟩
      have hxl : ((l.drop j).take x).length = x := by rw [List.length_take, hrl]; omega
      have htk : (l.drop j).take x = (l.drop j).take 32 := by
        rcases Nat.lt_or_ge (n - j) 32 with h | h
        · rw [List.take_of_length_le (by omega), List.take_of_length_le (by omega)]
        · rw [show x = 32 from by omega]
      have hrow := (hbx.drop (k := j) (cap := cap) (by rw [Hl.out]; omega) (by rw [Hl.out]; exact hcap)).take x
      have HB := Lib.hid (refBlock_any (cutAt A cap j) x (cap - j) w.heap.size ((l.drop j).take x) wr hxl (by omega) (by omega) hrow hszr)
      rw [Pfor.blocks_cons hne, ← htk, List.drop_drop, ← List.append_assoc] at hT
      have hOK : O.length + (Pfor.block ((l.drop j).take x)).length ≤ T.length := by rw [← hT]; simp only [List.length_append]; omega
      have hOl := ho.len
      generalize hKK : Pfor.block ((l.drop j).take x) = K at *
      clear hKK htk hxl hrow
      have hsl := run_nums_lh A n cap j (j + x) x rfl (by omega)
      rw [show ((j + x : Nat) : Int) = (j : Int) + (x : Int) from by omega] at hsl
      generalize cutAt A cap j = A3 at *
      have HT := Lib.hid hT
      clear hT hne hrl
      by_cases h32 : j + 32 < n
      · obtain rfl : x = 32 := by omega
        have h32' : (j : Int) + 32 < (n : Int) := by omega
        rw [show ((32 : Nat) : Int) = 32 from rfl] at hsl
        clear hx
        go_wp2_with fail
        refine HB.out.mono ?_
        rintro e w2 ⟨g2, k2, rfl, ho2, hb2⟩
        clear HB hsl
        have ho' := ho.below hb2
        have hb2' := hbr.trans (hb2.mono hszr)
        have hsz2 := hb2'.size
        have h2b := ho2.bytes
        go_wp2_with (at_builtin; refine wpList_append_bytes rfl (.tmp 15) (.tmp 24) rfl w.heap.size A2 k c O rfl ho' _ _ _ k2 K rfl rfl h2b (by omega) hsz2 ?_; intro A5 c5 w5 ho5 hg5 hat5)
        have hb5 := hb2'.grown hg5 hsz2 (fun k hk => (ho'.lt hk).1)
        clear hat5
        go_roundw
        case rel => exact ⟨j + 32, c5, k + K.length, A5, O ++ K, by omega, by go_num, rfl, by omega, ho5, HT.out, hb5⟩
        case measure => simp [intOf]; omega
      · have h32' : ¬ ((j : Int) + 32 < (n : Int)) := by omega
        have hjx : (j : Int) + (x : Int) = (n : Int) := by omega
        rw [hjx] at hsl
        clear hx hjx
        go_wp2_with fail
        refine HB.out.mono ?_
        rintro e w2 ⟨g2, k2, rfl, ho2, hb2⟩
        clear HB hsl
        have ho' := ho.below hb2
        have hb2' := hbr.trans (hb2.mono hszr)
        have hsz2 := hb2'.size
        have h2b := ho2.bytes
        go_wp2_with (at_builtin; refine wpList_append_bytes rfl (.tmp 15) (.tmp 24) rfl w.heap.size A2 k c O rfl ho' _ _ _ k2 K rfl rfl h2b (by omega) hsz2 ?_; intro A5 c5 w5 ho5 hg5 hat5)
        have hb5 := hb2'.grown hg5 hsz2 (fun k hk => (ho'.lt hk).1)
        clear hat5
        go_roundw
        case rel => exact ⟨j + 32, c5, k + K.length, A5, O ++ K, by omega, by go_num, rfl, by omega, ho5, HT.out, hb5⟩
        case measure => simp [intOf]; omega
    · rw [List.drop_of_length_le (by rw [Hl.out]; omega), Pfor.blocks_nil, List.append_nil] at hT
      go_wp2
      go_ret
      subst hT
      have hlen := ho.len
      obtain ⟨g9, rfl, _⟩ := ho.at_ (by omega)
      rw [hlen]
      exact ⟨g9, c, rfl, ho, hbr⟩

set_option maxHeartbeats 2000000 in
theorem refTakeList_any (A : Option Addr) (n cap B : Nat) (b : List UInt8) (z : Int) (w : World) (hl : b.length = n) (hcap : n ≤ cap) (hm : n ≤ 10000) (hb : Bytes w B A b) (hB : B ≤ w.heap.size) (hz1 : z ≤ 9223372036854775807) :
    Calls Try.prog 20 #[.slice A n cap, .int .i64 z] w (TakesPost w (Pfor.takeList b z)) := by
  have hb := hb.wide hB
  unfold Pfor.takeList
  by_cases hz : z < 0
  · rw [if_pos hz]
    go_enter Try.func20, Try.ntmps20
    go_wp2
    go_ret3
    exact ⟨none, 0, rfl, nown_none _ _, Below.refl _ _⟩
  rw [if_neg hz]
  have HT := refTake_any A n cap w.heap.size b w hl (by omega) hb
  unfold RefTakePost at HT
  rcases Num.take_cases b with ⟨v, s, ht⟩ | ⟨e, ht, he⟩
  · obtain ⟨hq1, hq2, hsl, hv⟩ := Num.num_take ht
    clear hq1 hq2
    rw [hl] at hsl
    simp only [ht, ne_eq, not_true, if_false] at HT ⊢
    obtain ⟨V, hV, hV0, hV1⟩ : ∃ V : Int, V = (v : Int) ∧ 0 ≤ V ∧ V ≤ 18446744073709551615 := ⟨_, rfl, by omega, by omega⟩
    rw [← hV] at HT
    replace HT := Lib.hid HT
    by_cases hzv : z < V
    · rw [if_pos (by rw [← hV]; exact hzv)]
      clear hV ht
      go_enter Try.func20, Try.ntmps20
      go_wp2_with fail
      refine HT.out.mono ?_
      rintro e w1 ⟨rfl, hb1⟩
      clear HT
      go_wp2
      go_ret3
      exact ⟨none, 0, rfl, nown_none _ _, hb1⟩
    · rw [if_neg (by rw [← hV]; exact hzv)]
      obtain ⟨R, hR⟩ : ∃ R, Pfor.takeBlocks b v [] s = R := ⟨_, rfl⟩
      rw [hR]
      have HR := Lib.hid hR
      have HV := Lib.hid hV
      clear hV ht hR
      go_enter Try.func20, Try.ntmps20
      go_wp2_with fail
      refine HT.out.mono ?_
      rintro e w1 ⟨rfl, hb1⟩
      clear HT
      go_wp2
      go_loopw [8, 10] (fun q p wr => ∃ (at_ m k c : Nat) (A2 : Option Addr) (acc : List UInt64), q = .int .i64 at_ ∧ p = .slice A2 k c ∧ NOwn wr w.heap.size A2 k c acc ∧ at_ ≤ n ∧ k + m = v ∧ k ≤ 32 * at_ ∧ Pfor.takeBlocks b m acc at_ = R ∧ Below w.heap.size w wr) (fun _ p _ => v - (match p with | .slice _ k _ => k | _ => 0))
      case atStart => exact ⟨s, v, 0, 0, none, [], rfl, rfl, nown_none _ _, hsl, by omega, by omega, HR.out, hb1⟩
      case round =>
        clear hb1 HR
        obtain ⟨at_, m, k, c, A2, acc, rfl, rfl, ho, hat, hkm, hk32, hRm, hbr⟩ := hrel
        have hszr := hbr.size
        have hVv := HV.out
        by_cases hm0 : m = 0
        · subst hm0
          rw [Pfor.takeBlocks_zero] at hRm
          have hstop : ¬ ((k : Int) < V) := by omega
          clear hVv
          go_wp2
          go_ret3
          subst hRm
          have hlen := ho.len
          exact ⟨A2, c, by simp only [hlen]; rfl, by simp only [hlen]; exact ho, hbr⟩
        · have hgo : (k : Int) < V := by omega
          obtain ⟨x, hx⟩ : ∃ x, x = min m 32 := ⟨_, rfl⟩
          rw [Pfor.takeBlocks_pos b (by omega), ← hx] at hRm
          have hHT := refTakeBlock_any (cutAt A cap at_) (n - at_) (cap - at_) w.heap.size (b.drop at_) wr (by rw [List.length_drop, hl]) (by omega) (by omega) ((hb.below hbr).cut (k := at_) (cap := cap) (by omega) (by omega)) hszr
          unfold TakesPost at hHT
          have hslc := run_cut_from A n cap at_ (n - at_) (by omega)
          generalize cutAt A cap at_ = A1 at *
          rcases Pfor.takeBlock_cases (b.drop at_) with ⟨L, hg, hpre, ht⟩ | ht
          · rw [ht] at hHT hRm
            have hk := hpre.length_le
            rw [List.length_drop, hl] at hk
            have hk4 := Pfor.block_pos L
            have hL1 := hg.1
            have hL32 := hg.2
            simp only at hHT hRm
            obtain ⟨kk, hkk⟩ : ∃ kk, kk = (Pfor.block L).length := ⟨_, rfl⟩
            rw [← hkk] at hHT hRm hk hk4
            clear hkk hpre ht hg
            have hmin : (if V - (k : Int) < 32 then V - (k : Int) else 32) = (x : Int) := by split <;> omega
            by_cases hlx : L.length = x
            · rw [if_pos ⟨trivial, hlx⟩] at hRm
              rw [hlx] at hHT
              have HH := Lib.hid hHT
              have HRm := Lib.hid hRm
              have hx32 : x ≤ 32 := by omega
              have hx1 : 1 ≤ x := by omega
              have Hx := Lib.hid hx
              clear hHT hRm hx hVv
              go_wp2_with fail
              refine HH.out.mono ?_
              rintro e w3 ⟨A3, c3, rfl, ho3, hb3⟩
              clear HH
              have ho' := ho.below hb3
              have hb3' := hbr.trans (hb3.mono hszr)
              have hsz3 := hb3'.size
              have h3r := ho3.row
              clear ho ho3
              go_wp2_with (at_builtin; refine wpList_append_row elem64 rfl (.tmp 55) (.tmp 56) rfl w.heap.size A2 k c acc rfl ho' _ A3 x c3 L rfl hlx h3r (by omega) (by simp only [maxLen]; omega) hsz3 ?_; intro A5 c5 w5 ho5 hg5 hat5)
              have hb5 := hb3'.grown hg5 hsz3 (fun k hk => (ho'.lt hk).1)
              have hVv := HV.out
              have hxx := Hx.out
              go_roundw
              case rel => exact ⟨at_ + kk, m - 32, k + x, c5, A5, acc ++ L, by go_num, rfl, ho5, by omega, by omega, by omega, HRm.out, hb5⟩
              case measure => simp only; omega
            · rw [if_neg (fun h => hlx h.2)] at hRm
              have HH := Lib.hid hHT
              have HRm := Lib.hid hRm
              have hI : ¬ ((L.length : Int) = (x : Int)) := by omega
              have Hx := Lib.hid hx
              clear hHT hRm hx hVv
              go_wp2_with fail
              refine HH.out.mono ?_
              rintro e w3 ⟨A3, c3, rfl, ho3, hb3⟩
              clear HH
              go_wp2
              go_ret3
              rw [← HRm.out]
              exact ⟨none, 0, rfl, nown_none _ _, hbr.trans (hb3.mono hszr)⟩
          · rw [ht] at hHT hRm
            simp only [List.length_nil] at hHT
            rw [if_neg (fun h => by have := h.1; cases this)] at hRm
            have HH := Lib.hid hHT
            have HRm := Lib.hid hRm
            have Hx := Lib.hid hx
            clear hHT hRm hx hVv
            go_wp2_with fail
            refine HH.out.mono ?_
            rintro e w3 ⟨A3, c3, rfl, ho3, hb3⟩
            clear HH
            go_wp2
            go_ret3
            rw [← HRm.out]
            exact ⟨none, 0, rfl, nown_none _ _, hbr.trans (hb3.mono hszr)⟩
  · have he' : ¬ ((e : Int) = 0) := by omega
    simp only [ht] at HT ⊢
    rw [if_pos (by omega)]
    replace HT := Lib.hid HT
    clear ht he
    go_enter Try.func20, Try.ntmps20
    go_wp2_with fail
    refine HT.out.mono ?_
    rintro e' w1 ⟨rfl, hb1⟩
    clear HT
    go_wp2
    go_ret3
    exact ⟨none, 0, rfl, nown_none _ _, hb1⟩
end Go.Proofs.Ytcknijkjacgnkaa
