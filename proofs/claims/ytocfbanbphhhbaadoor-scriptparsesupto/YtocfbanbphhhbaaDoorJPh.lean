/- printHead. -/
import Derived.Test.YtocfbanbphhhbaaDoorJPo
namespace Go.Proofs.YtocfbanbphhhbaaDoor
open Go.RowKit T Y V
variable {w w' w2 : World} {g : Nat}

/-- the words of a head, as far as they are there -/
def hds (l : List Int) : List ByteArray := bs storeL :: l.map fun n => bs (num n)
theorem hds_snoc (l : List Int) (n : Int) : hds (l ++ [n]) = hds l ++ [bs (num n)] := by simp [hds]
theorem hds_join (l : List Int) : Lib.join ((hds l).map (·.data.toList)) [32] = storeL ++ numsT l := by
  unfold hds numsT
  rw [List.map_cons, join_sp, bs_list, List.map_map, List.map_map]
  congr 2
/-- a number of 64 bits -/
structure R64 (n : Int) : Prop where
  lo : -9223372036854775808 ≤ n
  hi : n ≤ 9223372036854775807
theorem numsT_len : ∀ {l : List Int}, (∀ n, n ∈ l → R64 n) → (numsT l).length ≤ 22 * l.length
  | [], _ => by simp [numsT]
  | n :: l, h => by
    have e : numsT (n :: l) = [32] ++ num n ++ numsT l := by simp [numsT]
    have h0 := h n (List.mem_cons_self ..)
    have h1 := num_len n h0.lo h0.hi
    have h2 := numsT_len (fun x hx => h x (List.mem_cons_of_mem _ hx))
    have h4 : ([32] : List UInt8).length = 1 := rfl
    have h5 : (n :: l).length = l.length + 1 := rfl
    rw [e, List.length_append, List.length_append, h5, h4]
    omega
theorem fresh_ap {ao bo : Option Addr} {n : Nat} {v : World} (A : Ap v w2 ao bo) (hn : n ≤ v.heap.size) (hk : ∀ k, blk ao = some k → n ≤ k) : ∀ k, blk bo = some k → n ≤ k := by
  intro k hj
  rcases A.lies with e | ⟨i, e, hi⟩
  · exact hk k (e ▸ hj)
  · rw [e] at hj
    have := Option.some.inj hj
    omega
set_option maxRecDepth 100000 in
set_option maxHeartbeats 3200000 in
theorem printHead_any (a b c d e f : Int) (w : World) (h : ∀ n, n ∈ [a, b, c, d, e, f] → R64 n) (ht : Tab w) : Calls Tryd.prog 27 #[.agg #[.int .i64 a, .int .i64 b, .int .i64 c, .int .i64 d, .int .i64 e, .int .i64 f]] w fun r w' => r = .returned (.string (bs (storeL ++ numsT [a, b, c, d, e, f]))) ∧ Below w.heap.size w w' := by
  obtain ⟨w1, hw1⟩ : ∃ w1, w.alloc (.cells #[.int .i64 a, .int .i64 b, .int .i64 c, .int .i64 d, .int .i64 e, .int .i64 f] 23) = w1 := ⟨_, rfl⟩
  have hx : HdBox w1 w.heap.size ⟨a, b, c, d, e, f⟩ := by rw [← hw1]; exact HdBox_new w ⟨a, b, c, d, e, f⟩
  have hb1 : Below w.heap.size w w1 := by rw [← hw1]; exact below_new _ _
  obtain ⟨w2, hw2⟩ : ∃ w2, w1.alloc (.cells #[.string (bs storeL)] 9) = w2 := ⟨_, rfl⟩
  have hb2 : Below w1.heap.size w1 w2 := by rw [← hw2]; exact below_new _ _
  have hx2 := hx.below hb2
  have c0 := hx2.c0
  have c1 := hx2.c1
  have c2 := hx2.c2
  have c3 := hx2.c3
  have c4 := hx2.c4
  have c5 := hx2.c5
  simp only at c0 c1 c2 c3 c4 c5
  have HR2 : Hid (SR w2 (some ⟨w1.heap.size, 0, none⟩) 1 1 (hds [])) := by show SR _ _ _ _ _; rw [← hw2]; exact SR_one w1 _
  have HB2 : Hid (Below w.heap.size w w2) := hb1.trans (hb2.mono hb1.size)
  have HZ : Hid (w.heap.size ≤ w1.heap.size) := hb1.size
  have HT := hide ht
  have HH := hide h
  have HLn := hide (numsT_len h)
  have hw2' : w1.alloc (.cells #[.string ⟨#[115, 116, 111, 114, 101]⟩] 9) = w2 := hw2
  obtain ⟨H, hH⟩ : ∃ H, [a, b, c, d, e, f] = H := ⟨_, rfl⟩
  have HHl := hide hH
  clear hx hb1 hb2 hx2 ht h hw2 hH
  go_enter Tryd.func27, Tryd.ntmps27
  go_wp2_with fail
  go_loopw [3, 20] (fun t v wr => ∃ (k m cc : Nat) (bo : Option Addr), k ≤ 6 ∧ v = .int .i64 (k : Int) ∧ t = .slice bo m cc ∧ m ≤ 7 ∧ Hid (m = k + 1) ∧ Hid (SR wr bo m cc (hds (H.take k))) ∧ Hid (Below w.heap.size w wr) ∧ Hid (∀ j, blk bo = some j → w.heap.size ≤ j)) (fun _ v _ => 6 - (intOf v).toNat)
  case atStart => exact ⟨0, 1, 1, _, by omega, rfl, rfl, by omega, rfl, HR2, HB2, (fun j hj => by have := Option.some.inj hj; have := HZ.out; simp only at *; omega)⟩
  case round =>
    clear HR2 HB2
    obtain ⟨k, m, cc, bo, hk, rfl, rfl, hm7, Hm, HR, HB, HK⟩ := hrel
    by_cases hlt : k < 6
    · rcases (show k = 0 ∨ k = 1 ∨ k = 2 ∨ k = 3 ∨ k = 4 ∨ k = 5 by omega) with rfl | rfl | rfl | rfl | rfl | rfl
      · have hix : (Instr.index 65 (.agg #[.int .i64 a, .int .i64 b, .int .i64 c, .int .i64 d, .int .i64 e, .int .i64 f]) (.int .i64 0)).run Tryd.prog wr = .ok (.int .i64 a) wr := by kernel_rfl
        have HE : Hid (H.take (0 + 1) = H.take 0 ++ [a]) := by show _ = _; rw [← HHl.out]; rfl
        have hx := HH.out a (by simp)
        have HC := hide (numberWord_any a hx.lo hx.hi wr (HT.out.on HB.out))
        clear hx
        go_wp2_with (first | (go_at_call 37; refine HC.out.mono ?_; rintro r w4 ⟨rfl, b4⟩; have HR4 := hide (SR_below HR.out b4); have HB4 := hide (HB.out.trans (b4.mono HB.out.size))) | (at_builtin; refine HR4.out.app1 (bs (num a)) (by omega) rfl (.tmp 23) (.tmp 26) rfl rfl rfl ?_; intro b5 q5 w5 R5 A5; have HB5 := hide (below_ap HB4.out HB4.out.size A5 HK.out); have HK5 := hide (fresh_ap A5 HB4.out.size HK.out); rw [← hds_snoc, ← HE.out] at R5; have HR5 := hide R5; clear R5 A5))
        go_roundw
        case rel => exact ⟨1, m + 1, q5, b5, by omega, rfl, rfl, by have := Hm.out; omega, by show _ = _; have := Hm.out; omega, HR5, HB5, HK5⟩
        case measure => simp [intOf]
      · have hix : (Instr.index 65 (.agg #[.int .i64 a, .int .i64 b, .int .i64 c, .int .i64 d, .int .i64 e, .int .i64 f]) (.int .i64 1)).run Tryd.prog wr = .ok (.int .i64 b) wr := by kernel_rfl
        have HE : Hid (H.take (1 + 1) = H.take 1 ++ [b]) := by show _ = _; rw [← HHl.out]; rfl
        have hx := HH.out b (by simp)
        have HC := hide (numberWord_any b hx.lo hx.hi wr (HT.out.on HB.out))
        clear hx
        go_wp2_with (first | (go_at_call 37; refine HC.out.mono ?_; rintro r w4 ⟨rfl, b4⟩; have HR4 := hide (SR_below HR.out b4); have HB4 := hide (HB.out.trans (b4.mono HB.out.size))) | (at_builtin; refine HR4.out.app1 (bs (num b)) (by omega) rfl (.tmp 23) (.tmp 26) rfl rfl rfl ?_; intro b5 q5 w5 R5 A5; have HB5 := hide (below_ap HB4.out HB4.out.size A5 HK.out); have HK5 := hide (fresh_ap A5 HB4.out.size HK.out); rw [← hds_snoc, ← HE.out] at R5; have HR5 := hide R5; clear R5 A5))
        go_roundw
        case rel => exact ⟨2, m + 1, q5, b5, by omega, rfl, rfl, by have := Hm.out; omega, by show _ = _; have := Hm.out; omega, HR5, HB5, HK5⟩
        case measure => simp [intOf]
      · have hix : (Instr.index 65 (.agg #[.int .i64 a, .int .i64 b, .int .i64 c, .int .i64 d, .int .i64 e, .int .i64 f]) (.int .i64 2)).run Tryd.prog wr = .ok (.int .i64 c) wr := by kernel_rfl
        have HE : Hid (H.take (2 + 1) = H.take 2 ++ [c]) := by show _ = _; rw [← HHl.out]; rfl
        have hx := HH.out c (by simp)
        have HC := hide (numberWord_any c hx.lo hx.hi wr (HT.out.on HB.out))
        clear hx
        go_wp2_with (first | (go_at_call 37; refine HC.out.mono ?_; rintro r w4 ⟨rfl, b4⟩; have HR4 := hide (SR_below HR.out b4); have HB4 := hide (HB.out.trans (b4.mono HB.out.size))) | (at_builtin; refine HR4.out.app1 (bs (num c)) (by omega) rfl (.tmp 23) (.tmp 26) rfl rfl rfl ?_; intro b5 q5 w5 R5 A5; have HB5 := hide (below_ap HB4.out HB4.out.size A5 HK.out); have HK5 := hide (fresh_ap A5 HB4.out.size HK.out); rw [← hds_snoc, ← HE.out] at R5; have HR5 := hide R5; clear R5 A5))
        go_roundw
        case rel => exact ⟨3, m + 1, q5, b5, by omega, rfl, rfl, by have := Hm.out; omega, by show _ = _; have := Hm.out; omega, HR5, HB5, HK5⟩
        case measure => simp [intOf]
      · have hix : (Instr.index 65 (.agg #[.int .i64 a, .int .i64 b, .int .i64 c, .int .i64 d, .int .i64 e, .int .i64 f]) (.int .i64 3)).run Tryd.prog wr = .ok (.int .i64 d) wr := by kernel_rfl
        have HE : Hid (H.take (3 + 1) = H.take 3 ++ [d]) := by show _ = _; rw [← HHl.out]; rfl
        have hx := HH.out d (by simp)
        have HC := hide (numberWord_any d hx.lo hx.hi wr (HT.out.on HB.out))
        clear hx
        go_wp2_with (first | (go_at_call 37; refine HC.out.mono ?_; rintro r w4 ⟨rfl, b4⟩; have HR4 := hide (SR_below HR.out b4); have HB4 := hide (HB.out.trans (b4.mono HB.out.size))) | (at_builtin; refine HR4.out.app1 (bs (num d)) (by omega) rfl (.tmp 23) (.tmp 26) rfl rfl rfl ?_; intro b5 q5 w5 R5 A5; have HB5 := hide (below_ap HB4.out HB4.out.size A5 HK.out); have HK5 := hide (fresh_ap A5 HB4.out.size HK.out); rw [← hds_snoc, ← HE.out] at R5; have HR5 := hide R5; clear R5 A5))
        go_roundw
        case rel => exact ⟨4, m + 1, q5, b5, by omega, rfl, rfl, by have := Hm.out; omega, by show _ = _; have := Hm.out; omega, HR5, HB5, HK5⟩
        case measure => simp [intOf]
      · have hix : (Instr.index 65 (.agg #[.int .i64 a, .int .i64 b, .int .i64 c, .int .i64 d, .int .i64 e, .int .i64 f]) (.int .i64 4)).run Tryd.prog wr = .ok (.int .i64 e) wr := by kernel_rfl
        have HE : Hid (H.take (4 + 1) = H.take 4 ++ [e]) := by show _ = _; rw [← HHl.out]; rfl
        have hx := HH.out e (by simp)
        have HC := hide (numberWord_any e hx.lo hx.hi wr (HT.out.on HB.out))
        clear hx
        go_wp2_with (first | (go_at_call 37; refine HC.out.mono ?_; rintro r w4 ⟨rfl, b4⟩; have HR4 := hide (SR_below HR.out b4); have HB4 := hide (HB.out.trans (b4.mono HB.out.size))) | (at_builtin; refine HR4.out.app1 (bs (num e)) (by omega) rfl (.tmp 23) (.tmp 26) rfl rfl rfl ?_; intro b5 q5 w5 R5 A5; have HB5 := hide (below_ap HB4.out HB4.out.size A5 HK.out); have HK5 := hide (fresh_ap A5 HB4.out.size HK.out); rw [← hds_snoc, ← HE.out] at R5; have HR5 := hide R5; clear R5 A5))
        go_roundw
        case rel => exact ⟨5, m + 1, q5, b5, by omega, rfl, rfl, by have := Hm.out; omega, by show _ = _; have := Hm.out; omega, HR5, HB5, HK5⟩
        case measure => simp [intOf]
      · have hix : (Instr.index 65 (.agg #[.int .i64 a, .int .i64 b, .int .i64 c, .int .i64 d, .int .i64 e, .int .i64 f]) (.int .i64 5)).run Tryd.prog wr = .ok (.int .i64 f) wr := by kernel_rfl
        have HE : Hid (H.take (5 + 1) = H.take 5 ++ [f]) := by show _ = _; rw [← HHl.out]; rfl
        have hx := HH.out f (by simp)
        have HC := hide (numberWord_any f hx.lo hx.hi wr (HT.out.on HB.out))
        clear hx
        go_wp2_with (first | (go_at_call 37; refine HC.out.mono ?_; rintro r w4 ⟨rfl, b4⟩; have HR4 := hide (SR_below HR.out b4); have HB4 := hide (HB.out.trans (b4.mono HB.out.size))) | (at_builtin; refine HR4.out.app1 (bs (num f)) (by omega) rfl (.tmp 23) (.tmp 26) rfl rfl rfl ?_; intro b5 q5 w5 R5 A5; have HB5 := hide (below_ap HB4.out HB4.out.size A5 HK.out); have HK5 := hide (fresh_ap A5 HB4.out.size HK.out); rw [← hds_snoc, ← HE.out] at R5; have HR5 := hide R5; clear R5 A5))
        go_roundw
        case rel => exact ⟨6, m + 1, q5, b5, by omega, rfl, rfl, by have := Hm.out; omega, by show _ = _; have := Hm.out; omega, HR5, HB5, HK5⟩
        case measure => simp [intOf]
    · obtain rfl : k = 6 := by omega
      have HF : Hid (H.take 6 = [a, b, c, d, e, f]) := by show _ = _; rw [← HHl.out]; rfl
      have R6 := HR.out
      rw [HF.out] at R6
      have HJ := hide (joinS R6 (by have := Hm.out; omega) (by omega) [32] (by rw [hds_join]; have := HLn.out; simp [storeL]; simp at this; omega))
      rw [hds_join] at HJ
      clear R6
      go_wp2_with (go_at_call 24; refine HJ.out.mono ?_; rintro r w9 ⟨rfl, b9⟩)
      go_ret
      exact ⟨rfl, HB.out.trans (b9.mono HB.out.size)⟩
end Go.Proofs.YtocfbanbphhhbaaDoor
