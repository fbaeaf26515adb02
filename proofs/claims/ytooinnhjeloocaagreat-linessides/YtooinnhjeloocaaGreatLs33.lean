/- OPk LPick LOf -/
import Derived.Test.YtooinnhjeloocaaGreatLs32
namespace Go.Proofs.YtooinnhjeloocaaGreat.K
open Go.RowKit
attribute [local go_sem ↓] ld28_eq st28_eq
attribute [local go_sem] zero_EC cells_EV EC_size
attribute [local go_sem] fold_EC
set_option maxHeartbeats 1600000 in
theorem pickPa_any (ao : Option Addr) (n cap : Nat) (L : List En) (b c2 : Nat) (p : En → Bool) (w : World) (hS : ESrc w ao n cap L)
    (hp : ∀ W, Below w.heap.size w W → ∀ e, Calls Tryz.prog 30 #[EV e, .pointer (some ⟨b, 0, none⟩), .pointer (some ⟨c2, 0, none⟩)] W fun x w' => x = .returned (.bool (p e)) ∧ Below W.heap.size W w') :
    Calls Tryz.prog 29 #[.slice ao n cap, .func (.func 30) #[] #[.pointer (some ⟨b, 0, none⟩), .pointer (some ⟨c2, 0, none⟩)]] w fun x w' => GivesE w w' x (L.filter p) := by
  have HS := hide hS
  have hn := hS.2.2.2.2
  have HL : Hid (L.length = n) := hS.1
  have HP := hide hp
  clear hS hp
  go_enter Tryz.func29, Tryz.ntmps29
  go_wp2_with fail
  go_loopw [5, 10] (fun v i wr => ∃ (k : Nat) (ap : Option Addr) (c : Nat), k ≤ n ∧ v = .slice ap ((L.take k).filter p).length c ∧ i = .int .i64 k ∧ Hid (OwnE w.heap.size w.heap.size w wr ap c ((L.take k).filter p))) (fun _ i _ => n - (intOf i).toNat)
  case atStart => exact ⟨0, none, 0, Nat.zero_le _, rfl, rfl, OwnE.nil (Below.refl _ _) (Nat.le_refl _) (Nat.le_refl _)⟩
  case round =>
    obtain ⟨k, ap, c, hk, rfl, rfl, HO⟩ := hrel
    obtain ⟨acc, Hacc⟩ : ∃ acc, Hid ((L.take k).filter p = acc) := ⟨_, rfl⟩
    have hal : acc.length ≤ k := by
      rw [← Hacc.out]; have h1 := List.length_filter_le p (L.take k); have h2 := List.length_take_le k L; omega
    rw [Hacc.out] at HO ⊢
    by_cases hlt : k < n
    · obtain ⟨ad, rfl, A0⟩ := (HS.out.below HO.out.below).at k hlt
      have hld := run_ld28 A0
      obtain ⟨e, He⟩ : ∃ e, Hid (L.getD k en0 = e) := ⟨_, rfl⟩
      rw [He.out] at hld A0
      have HT := hide (take_snoc L k (by rw [HL.out]; exact hlt))
      rw [He.out] at HT
      obtain ⟨w1, hst, X1, B1, Z1⟩ := made wr e wr.heap.size rfl
      have HX := hide X1
      have O1 := hide (HO.out.later B1)
      have lx := run_ld28 X1.at
      have HC := hide (HP.out w1 O1.out.below e)
      clear X1 B1 A0
      obtain ⟨q, Hq⟩ : ∃ q, Hid (p e = q) := ⟨_, rfl⟩
      rw [Hq.out] at HC
      cases q with
      | false =>
        have HN : Hid ((L.take (k + 1)).filter p = acc) := by show _ = _; rw [HT.out, List.filter_append, Hacc.out]; simp [Hq.out]
        go_wp2_with fail
        refine HC.out.mono ?_
        rintro x w2 ⟨rfl, b2⟩
        have O2 := hide (O1.out.later b2)
        clear b2
        go_wp2_with fail
        go_roundw
        case rel => exact ⟨k + 1, ap, c, by omega, by rw [HN.out], by go_num, by rw [HN.out]; exact O2⟩
        case measure => simp [intOf]; omega
      | true =>
        have HN : Hid ((L.take (k + 1)).filter p = acc ++ [e]) := by show _ = _; rw [HT.out, List.filter_append, Hacc.out]; simp [Hq.out]
        go_wp2_with fail
        refine HC.out.mono ?_
        rintro x w2 ⟨rfl, b2⟩
        have O2 := O1.out.later b2
        have l2 := run_ld28 (HX.out.below b2).at
        clear b2 lx
        go_wp2_with (at_builtin; refine O2.append e _ rfl (by omega) rfl (.tmp 17) (.tmp 19) rfl acc.length rfl rfl rfl ?_; intro g4 c4 w4 O4 hk4)
        go_roundw
        case rel => exact ⟨k + 1, some ⟨g4, 0, none⟩, c4, by omega, by rw [HN.out]; simp, by go_num, by rw [HN.out]; exact O4⟩
        case measure => simp [intOf]; omega
    · obtain rfl : k = n := by omega
      have HF : Hid (L.filter p = acc) := by show _ = _; rw [← Hacc.out, List.take_of_length_le (by rw [HL.out]; exact Nat.le_refl _)]
      have hs : ∀ e ∈ acc, e.sku.size ≤ maxLen := by
        intro e he; rw [← HF.out] at he; exact HS.out.2.2.2.1 e ((List.mem_filter.1 he).1)
      obtain ⟨S1, F1⟩ := HO.out.src hs (by omega)
      have HS1 := hide S1
      have HF1 := hide F1
      clear S1 F1 hs
      go_wp2_with fail
      go_ret
      exact ⟨_, _, _, rfl, by rw [HF.out]; exact HS1.out, HO.out.below, HF1.out⟩
end Go.Proofs.YtooinnhjeloocaaGreat.K
namespace Go.Proofs.YtooinnhjeloocaaGreat.K
open Go.RowKit
attribute [local go_sem ↓] ld28_eq st28_eq
attribute [local go_sem] zero_EC cells_EV EC_size
attribute [local go_sem] fold_EC
end Go.Proofs.YtooinnhjeloocaaGreat.K
namespace Go.Proofs.YtooinnhjeloocaaGreat.K
open Go.RowKit

def eqS (a b : ByteArray) : Bool := a.toList == b.toList
/-- a list and an error are handed back -/
def GivesEE (w w' : World) (x : Ending) (L : List En) (er : Int) : Prop := ∃ ao n c, x = .returned (.tuple #[.slice ao n c, .int .i64 er]) ∧ ESrc w' ao n c L ∧ Below w.heap.size w w' ∧ ∀ ad, ao = some ad → w.heap.size ≤ ad.block
theorem chk_cases (L : List En) : chk L = 0 ∨ chk L = 1 := by unfold chk; split <;> simp
/-- Of's answer -/
def ofE (L : List En) (s : ByteArray) : Int := if chk L = 0 then (if good s.data.toList = true then 0 else 5) else 1
def ofV (L : List En) (s : ByteArray) : List En := if ofE L s = 0 then L.filter (fun e => eqS e.sku s) else []
def owE (L : List En) (r : Int) (s : ByteArray) : Int := if chk L = 0 then (if isR r = true then (if good s.data.toList = true then 0 else 5) else 3) else 1
def owV (L : List En) (r : Int) (s : ByteArray) : List En := if owE L r s = 0 then L.filter (fun e => e.rep == r && eqS e.sku s) else []

end Go.Proofs.YtooinnhjeloocaaGreat.K
