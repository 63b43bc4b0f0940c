/- crc.payload: the copy of what a frame holds, if its checksum is right. -/
import Derived.Test.YtgjofpjijnbjeaaDoorFrame
namespace Go.Proofs.YtgjofpjijnbjeaaDoor
open Go.RowKit

theorem quiet_left {P : Program} {f : FuncId} {args : Array Value} {w : World} {n : Nat} {v : Value}
    (h : Calls P f args (w.drewN n) fun e w' => e = .returned v ∧ w.drewN n = w') : Calls P f args (w.drewN n) fun e w'' => e = .returned v ∧ ∃ m, w'' = w.drewN m :=
  h.mono fun _ _ ⟨he, hm⟩ => ⟨he, n, hm.symm⟩

set_option maxHeartbeats 400000 in
theorem payload_bad (ad : Addr) (m cap B : Nat) (l : List UInt8) (w : World) (hl : l.length = m + 4) (hm : m ≤ 16777224) (hcap : m + 4 ≤ cap) (hb : Bytes w B (some ad) l) (ht : Table w)
    (hne : Plain.sum (l.take m) ≠ word (l.drop m)) :
    Calls Tryd.prog 28 #[.slice (some ad) (m + 4) cap] w fun e w' => e = .returned (.tuple #[.slice none 0 0, .int .i64 4]) ∧ ∃ q, w' = w.drewN q := by
  have hS := fun q => Lib.hid (sum_any (some ad) m cap B (l.take m) (w.drewN q) (by simp; omega) (by omega) ((hb.take m).drewN q) (ht.drewN q))
  have hR := fun q => Lib.hid (readWord_any (some (ad.add m)) 4 (cap - m) B (l.drop m) (w.drewN q) (by simp; omega) (by omega) (by omega) (by have := hb.drop (k := m) (cap := cap) (by omega) (by omega); rw [if_neg (by omega)] at this; exact this.drewN q))
  have hslt := Plain.sum_lt (l.take m)
  have hwlt := word_lt (l.drop m)
  generalize Plain.sum (l.take m) = S at *
  generalize word (l.drop m) = R at *
  have hd : ((S : Int) != (R : Int)) = true := by rw [bne_iff_ne]; omega
  have hcm : ¬ cap = m := by omega
  clear hb ht hl hne
  go_enter Tryd.func28, Tryd.ntmps28
  go_wp2_with fail
  go_quiet ((first | (go_at_call 12; exact quiet_left (hS _).out) | (go_at_call 31; exact Calls.quiet_of (hR _).out)))
  go_wp2
  go_ret2
  exact ⟨rfl, _, rfl⟩

set_option maxHeartbeats 400000 in
theorem payload_ok (ad : Addr) (k cap B : Nat) (l : List UInt8) (w : World) (hl : l.length = k + 8) (hm : k ≤ 16777216) (hcap : k + 8 ≤ cap) (hb : Bytes w B (some ad) l) (hB : B ≤ w.heap.size) (ht : Table w)
    (heq : Plain.sum (l.take (k + 4)) = word (l.drop (k + 4))) :
    Calls Tryd.prog 28 #[.slice (some ad) (k + 8) cap] w fun e w' => ∃ A c, e = .returned (.tuple #[.slice A k c, .int .i64 0]) ∧ Own w' w.heap.size A k c ((l.drop 4).take k) ∧ Below w.heap.size w w' := by
  have hS := fun q => Lib.hid (sum_any (some ad) (k + 4) cap B (l.take (k + 4)) (w.drewN q) (by simp; omega) (by omega) ((hb.take (k + 4)).drewN q) (ht.drewN q))
  have hR := fun q => Lib.hid (readWord_any (some (ad.add (k + 4))) 4 (cap - (k + 4)) B (l.drop (k + 4)) (w.drewN q) (by simp; omega) (by omega) (by omega) (by have := hb.drop (k := k + 4) (cap := cap) (by omega) (by omega); rw [if_neg (by omega)] at this; exact this.drewN q))
  have hC := fun q => Lib.hid (clone_any (ad.add 4) k (cap - 4) B ((l.drop 4).take k) (w.drewN q) (by simp; omega) (by omega) (by have := hb.drop (k := 4) (cap := cap) (by omega) (by omega); rw [if_neg (by omega)] at this; exact (this.take k).drewN q) hB)
  rw [show ad.add 4 = ⟨ad.block, ad.off + 4, none⟩ from rfl] at hC
  have hslt := Plain.sum_lt (l.take (k + 4))
  rw [← heq] at hR
  generalize Plain.sum (l.take (k + 4)) = S at *
  generalize (l.drop 4).take k = p at *
  have hcm : ¬ cap = k + 4 := by omega
  have hc4 : ¬ cap = 4 := by omega
  clear hb ht hl heq
  go_enter Tryd.func28, Tryd.ntmps28
  go_wp2_with fail
  go_quiet ((first | (go_at_call 12; exact quiet_left (hS _).out) | (go_at_call 31; exact Calls.quiet_of (hR _).out)))
  go_wp2_with fail
  refine (hC nq).out.mono ?_
  rintro e w1 ⟨A1, c1, rfl, ho1, hb1⟩
  clear hS hR hC
  go_wp2
  go_ret2
  exact ⟨A1, c1, rfl, ho1, below_of_drewN hb1⟩
end Go.Proofs.YtgjofpjijnbjeaaDoor
