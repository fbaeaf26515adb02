/- UNs UTs IRv IGw -/
import Derived.Test.YtphohmoibnoeaaaGreatPb18
import Derived.Test.YtphohmoibnoeaaaGreatPb21
import Derived.Test.YtphohmoibnoeaaaGreatPb30
import Derived.Test.YtphohmoibnoeaaaGreatPb14
import Derived.Test.YtphohmoibnoeaaaGreatPb40
namespace Go.Proofs.YtphohmoibnoeaaaGreat.U
open Go.RowKit
variable {w w' w2 : World} {g : Nat}

set_option maxRecDepth 100000 in
theorem rnum9_any (ao : Option Addr) (n c : Nat) (Z : List Int) (x : Nat) (w : World) (S : BR w ao n c Z) (hx : x ≤ 9223372036854775807) (hn : n ≤ 140737488355000) : Calls Tryz.prog 36 #[.slice ao n c, .int .i64 (x : Int)] w fun r w' =>
  ∃ bo cc, r = .returned (.slice bo (n + (numB x).length) cc) ∧ BR w' bo (n + (numB x).length) cc (Z ++ numB x) ∧ Ap w w' ao bo := by
 have HL : Hid (n + (numB x).length ≤ 140737488355100) := by show _ ≤ _; have := numB_nine hx; omega
 have HS := hide S
 have HX := hide hx
 clear S hn hx
 go_enter Tryz.func36, Tryz.ntmps36
 go_wp2_with fail
 go_loopw [0, 1] (fun b i wr => ∃ (y : Nat) (m : Nat) (bo : Option Addr) (cc : Nat) (Y : List Int), i = .int .i64 y ∧ b = .slice bo m cc ∧ Hid (BR wr bo m cc Y ∧ Ap w wr ao bo ∧ y ≤ x ∧ Y ++ numB y = Z ++ numB x ∧ m + (numB y).length = n + (numB x).length)) (fun _ i _ => (intOf i).toNat)
 case atStart => exact ⟨x, n, ao, c, Z, rfl, rfl, HS.out, Ap.refl _ _, Nat.le_refl _, rfl, rfl⟩
 case round =>
  obtain ⟨y, m, bo, cc, Y, rfl, rfl, HI⟩ := hrel
  by_cases hlt : y < 128
  ·have HM : Hid (m + 1 = n + (numB x).length ∧ Y ++ [(y : Int)] = Z ++ numB x) := by
    obtain ⟨-, -, -, e1, e2⟩ := HI.out
    rw [numB_lt hlt] at e1 e2
    exact ⟨e2, e1⟩
   go_wp2_with (at_builtin; refine HI.out.1.app1 (y : Int) (by have := HM.out.1; have := HL.out; omega) rfl (.tmp 16) (.tmp 19) rfl rfl rfl ?_; intro b5 c5 w5 S5 A5; have HS5 := hide S5; have HA5 := hide A5; clear S5 A5)
   go_ret
   refine ⟨b5, c5, ?_, ?_, HI.out.2.1.trans HA5.out⟩
   ·rw [HM.out.1]; rfl
   ·rw [← HM.out.1, ← HM.out.2]; exact HS5.out
  ·have HM : Hid (m + 1 + (numB (y / 128)).length = n + (numB x).length ∧ Y ++ [(y : Int) % 128 + 128] ++ numB (y / 128) = Z ++ numB x) := by
    obtain ⟨-, -, -, e1, e2⟩ := HI.out
    rw [numB_step hlt] at e1
    rw [numB_stepLen hlt] at e2
    exact ⟨by omega, by rw [List.append_assoc]; exact e1⟩
   have HD : Hid (y / 128 < y ∧ y ≤ x) := ⟨by omega, HI.out.2.2.1⟩
   have hrem : (y : Int).tmod 128 = (y : Int) % 128 := Int.tmod_eq_emod_of_nonneg (by omega)
   have hquo : (y : Int).tdiv 128 = ((y / 128 : Nat) : Int) := rfl
   have HK1 : Hid (wrap64 ((y : Int) / 128) = ((y / 128 : Nat) : Int)) := by show _ = _; have := HX.out; have := HD.out.2; rw [w64 (by omega) (by omega)]; rfl
   have hge : (128 : Int) ≤ y := by omega
   go_wp2_with (at_builtin; refine HI.out.1.app1 ((y : Int) % 128 + 128) (by have := HM.out.1; have := HL.out; omega) rfl (.tmp 7) (.tmp 12) rfl rfl rfl ?_; intro b5 c5 w5 S5 A5; have HS5 := hide S5; have HA5 := hide (HI.out.2.1.trans A5); clear S5 A5)
   go_roundw
   case rel => exact ⟨y / 128, m + 1, b5, c5, _, by rw [HK1.out], rfl, HS5.out, HA5.out, by have := HD.out; omega, HM.out.2, HM.out.1⟩
   case measure => rw [HK1.out]; have := HD.out; simp [intOf]; omega
end Go.Proofs.YtphohmoibnoeaaaGreat.U
namespace Go.Proofs.YtphohmoibnoeaaaGreat.U
open Go.RowKit
variable {w w' w2 : World} {g : Nat}

theorem strB_take (s : ByteArray) (k : Nat) (h : k < s.size) : (strB s).take (k + 1) = (strB s).take k ++ [(s[k].toNat : Int)] := by
 have hl : k < (strB s).length := by rw [strB_length]; exact h
 rw [List.take_succ_eq_append_getElem hl]
 congr 1
 simp [strB]
 rfl
set_option maxRecDepth 100000 in
theorem rtext9_any (ao : Option Addr) (n c : Nat) (Z : List Int) (s : ByteArray) (w : World) (S : BR w ao n c Z) (hs : s.size ≤ 1000000) (hn : n ≤ 140737480000000) : Calls Tryz.prog 37 #[.slice ao n c, .string s] w fun r w' =>
  ∃ bo m cc, r = .returned (.slice bo m cc) ∧ BR w' bo m cc (Z ++ (numB s.size ++ strB s)) ∧ Ap w w' ao bo := by
 have HS := hide S
 have hn9 := numB_nine (n := s.size) (by omega)
 clear S
 go_enter Tryz.func37, Tryz.ntmps37
 go_wp2_with fail
 refine (rnum9_any ao n c Z s.size w HS.out (by omega) (by omega)).mono ?_
 rintro r w2 ⟨bo, cc, rfl, hR, hA⟩
 obtain ⟨m, hm⟩ : ∃ m, n + (numB s.size).length = m := ⟨_, rfl⟩
 rw [hm] at hR ⊢
 have HR := hide hR
 have HA := hide hA
 clear hR hA
 go_wp2_with fail
 go_loopw [0, 5] (fun b i wr => ∃ (k : Nat) (bo : Option Addr) (cc : Nat), i = .int .i64 k ∧ b = .slice bo (m + k) cc ∧ k ≤ s.size ∧ Hid (BR wr bo (m + k) cc (Z ++ numB s.size ++ (strB s).take k) ∧ Ap w wr ao bo)) (fun _ i _ => s.size - (intOf i).toNat)
 case atStart => exact ⟨0, bo, cc, rfl, rfl, Nat.zero_le _, by rw [List.take_zero, List.append_nil]; exact HR.out, HA.out⟩
 case round =>
  obtain ⟨k, bo2, cc2, rfl, rfl, hk, HI⟩ := hrel
  by_cases hlt : k < s.size
  ·have hlti : ((k : Nat) : Int) < (s.size : Int) := by omega
   have hb : m + k + 1 ≤ 140737488355328 := by omega
   have HT : Hid ((strB s).take (k + 1) = (strB s).take k ++ [(s[k].toNat : Int)]) := strB_take s k hlt
   go_wp2_with (at_builtin; go_loud (refine HI.out.1.app1 _ hb rfl (.tmp 16) (.tmp 20) rfl rfl rfl ?_); intro b5 c5 w5 S5 A5; have HS5 := hide S5; have HA5 := hide (HI.out.2.trans A5); clear S5 A5)
   exact ⟨⟨k + 1, b5, c5, rfl, rfl, by omega, by rw [HT.out, ← List.append_assoc]; exact HS5.out, HA5.out⟩, by show s.size - (k + 1) < s.size - k; omega⟩
  ·have hlti : ¬ ((k : Nat) : Int) < (s.size : Int) := by omega
   go_wp2_with fail
   go_ret
   refine ⟨bo2, m + k, cc2, rfl, ?_, HI.out.2⟩
   have h := HI.out.1
   rwa [List.take_of_length_le (by rw [strB_length]; omega), List.append_assoc] at h
end Go.Proofs.YtphohmoibnoeaaaGreat.U
namespace Go.Proofs.YtphohmoibnoeaaaGreat
open Go.RowKit
attribute [local go_sem ↓] ldP_eq stP_eq
attribute [local go_sem] zero_PC cells_PV PC_size
variable {w w' w2 W W' : World} {g gv gr : Nat} {Z : List Int}

set_option maxRecDepth 100000 in
theorem vecAt9_any (p : Pv) (r : Nat) (w : World) (hS : PSrc w p) (_ : r < 1000) : Calls Tryz.prog 65 #[PV p, .int .i64 (r : Int)] w fun e w' => e = .returned (.int .i64 (trl p.P.vec r)) ∧ Below w.heap.size w w' := by
 have b1 := below_new w (.cells (PC p) 25)
 have HX := hide (pbox_new w p)
 have HB := hide b1
 have HS := hide (hS.below b1)
 clear hS b1
 obtain ⟨wk, hwk⟩ : ∃ wk, w.alloc (.cells (PC p) 25) = wk := ⟨_, rfl⟩
 obtain ⟨G, hG⟩ : ∃ G, w.heap.size = G := ⟨_, rfl⟩
 rw [hwk] at HX HB HS
 rw [hG] at HX
 have c0 := HX.out.at.c0
 have hbig := HS.out.big
 have hlen := HS.out.vec.1
 by_cases hlt : r < p.vn
 ·have hlti : ((r : Nat) : Int) < (p.vn : Int) := by omega
  obtain ⟨ad, had, hc⟩ := vsrc_at HS.out.vec r hlt
  have HV : Hid (p.P.vec.getD r 0 = trl p.P.vec r) := rfl
  obtain ⟨v, hv⟩ : ∃ v, p.P.vec.getD r 0 = v := ⟨_, rfl⟩
  have HV2 := hide hv
  rw [hv] at hc
  rw [had] at c0
  clear hv hlen
  go_enter Tryz.func65, Tryz.ntmps65
  go_wp2_with fail
  clear hwk hG
  go_ret
  exact ⟨by rw [← HV.out, HV2.out]; rfl, HB.out⟩
 ·have hlti : ¬ ((r : Nat) : Int) < (p.vn : Int) := by omega
  have HV : Hid (trl p.P.vec r = 0) := by
   show _ = _
   unfold trl
   rw [List.getD_eq_getElem?_getD, List.getElem?_eq_none (by omega)]
   rfl
  clear hlen
  go_enter Tryz.func65, Tryz.ntmps65
  go_wp2_with fail
  clear hwk
  go_ret
  exact ⟨by rw [HV.out]; rfl, by have h := HB.out; rw [hG] at h; exact h⟩
end Go.Proofs.YtphohmoibnoeaaaGreat
namespace Go.Proofs.YtphohmoibnoeaaaGreat
open Go.RowKit

structure GW (w0 W : World) (ao : Option Addr) (n cap : Nat) (Z : List Int) (F : List (Nat × Obj)) : Prop where
 r : U.BR W ao n cap Z
 nw : U.NewB w0 W ao
 keep : ∀ x ∈ F, W.heap[x.1]? = some x.2 ∧ U.blk ao ≠ some x.1
variable {w0 W W' : World} {ao bo : Option Addr} {n cap n' cap' : Nat} {Z Z' : List Int} {F : List (Nat × Obj)}
theorem gw_new (w : World) : GW w w none 0 0 [] [] := ⟨U.BR.nil w, ⟨Below.refl _ _, fun k hk => by cases hk⟩, fun x hx => by cases hx⟩
theorem GW.lt (h : GW w0 W ao n cap Z F) (x : Nat × Obj) (hx : x ∈ F) : x.1 < W.heap.size := (Array.getElem?_eq_some_iff.1 (h.keep x hx).1).1
theorem GW.ap (h : GW w0 W ao n cap Z F) (hr : U.BR W' bo n' cap' Z') (a : U.Ap W W' ao bo) : GW w0 W' bo n' cap' Z' F := by
 refine ⟨hr, ⟨⟨a.grown.os.trans h.nw.1.os, a.grown.tape.trans h.nw.1.tape, a.grown.output.trans h.nw.1.output, Nat.le_trans h.nw.1.size a.grown.size, fun k hk => ?_⟩, fun k hk => ?_⟩, fun x hx => ⟨?_, ?_⟩⟩
 ·refine (a.grown.block k (Nat.lt_of_lt_of_le hk h.nw.1.size) (fun e => ?_)).trans (h.nw.1.block k hk)
  have := h.nw.2 k e.symm
  omega
 ·rcases a.lies with e | ⟨j, e, hj⟩
  ·exact h.nw.2 k (by rw [← e]; exact hk)
  ·rw [e] at hk
   have := Option.some.inj hk
   have := h.nw.1.size
   omega
 ·exact (a.grown.block x.1 (h.lt x hx) (fun e => (h.keep x hx).2 e.symm)).trans (h.keep x hx).1
 ·have hl := h.lt x hx
  rcases a.lies with e | ⟨j, e, hj⟩
  ·rw [e]; exact (h.keep x hx).2
  ·rw [e]
   intro ee
   have := Option.some.inj ee
   omega
theorem GW.below (h : GW w0 W ao n cap Z F) (b : Below W.heap.size W W') : GW w0 W' ao n cap Z F :=
 ⟨h.r.below b, ⟨h.nw.1.trans (b.mono h.nw.1.size), h.nw.2⟩, fun x hx => ⟨(b.block x.1 (h.lt x hx)).trans (h.keep x hx).1, (h.keep x hx).2⟩⟩
theorem GW.add (h : GW w0 W ao n cap Z F) (b : Below W.heap.size W W') {g : Nat} (hg : W.heap.size ≤ g) {ob : Obj} (hx : W'.heap[g]? = some ob) : GW w0 W' ao n cap Z ((g, ob) :: F) := by
 have hb := h.below b
 refine ⟨hb.r, hb.nw, fun x hx' => ?_⟩
 rcases List.mem_cons.1 hx' with rfl | hx'
 ·exact ⟨hx, fun e => by have := h.r.lt g e; omega⟩
 ·exact hb.keep x hx'
theorem GW.new (h : GW w0 W ao n cap Z F) (ob : Obj) : GW w0 (W.alloc ob) ao n cap Z ((W.heap.size, ob) :: F) := h.add (below_new W ob) (Nat.le_refl _) (heap_alloc_new W ob)
theorem GW.sub {F' : List (Nat × Obj)} (h : GW w0 W ao n cap Z F) (hs : ∀ x ∈ F', x ∈ F) : GW w0 W ao n cap Z F' := ⟨h.r, h.nw, fun x hx => h.keep x (hs x hx)⟩
theorem GW.pre {w1 : World} (b : Below w1.heap.size w1 w0) (h : GW w0 W ao n cap Z F) : GW w1 W ao n cap Z F := ⟨h.r, h.nw.pre b, h.keep⟩
def LstOk (i : Nat) (rep hi : Int) (V : List Int) (T : Nat → Int) : Prop := ∀ r : Nat, rep ≤ (r : Int) → T r = if 0 < i ∧ (r : Int) = rep then hi else trl V r
theorem lst_start (V : List Int) (rep hi : Int) : LstOk 0 rep hi V (trl V) := fun r _ => by rw [if_neg (fun h => Nat.lt_irrefl 0 h.1)]
theorem LstOk.next {i : Nat} {rep hi : Int} {V : List Int} {T : Nat → Int} (h : LstOk i rep hi V T) (r : Nat) (hr : rep ≤ (r : Int)) (x : Int) : LstOk (i + 1) (r : Int) x V (upd T r x) := fun k hk => by
 unfold upd
 by_cases e : k = r
 ·subst e
  rw [if_pos rfl, if_pos ⟨Nat.succ_pos _, rfl⟩]
 ·rw [if_neg e, if_neg (fun h => e (by omega)), h k (by omega), if_neg (fun h => e (by omega))]
end Go.Proofs.YtphohmoibnoeaaaGreat
