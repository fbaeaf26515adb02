/- TUo -/
import Derived.Test.YtalcmdjiejhkgaaGreatTk
import Derived.Test.YtalcmdjiejhkgaaGreatKl28
import Derived.Test.YtalcmdjiejhkgaaGreatKl31
import Derived.Deep.CutRange
import Derived.Deep.CutBlock
set_option maxRecDepth 100000
set_option maxHeartbeats 6400000
namespace Go.Proofs.YtalcmdjiejhkgaaGreat
open Go.RowKit Go.Maps Go.Sort
attribute [local go_sem ↓] ldP_eq stP_eq ldRe_eq stRe_eq
attribute [local go_sem] cells_ReV ReC_size zero_ReC
theorem OwnRc.made0 (w : World) : OwnRc w.heap.size w (w.alloc (.cells #[] 43)) ⟨some ⟨w.heap.size, 0, none⟩, 0, 0⟩ [] :=
 ⟨⟨rfl, Or.inr ⟨w.heap.size, 0, #[], rfl, Nat.le_refl _, heap_alloc_new w _, Nat.zero_le _, by unfold maxLen; omega, rfl, rfl⟩⟩, fun r h => (by cases h), below_new w _, Nat.le_refl _, by simp⟩
theorem RcT.take {w : World} {ad : Addr} {n c : Nat} {L : List Rc} (h : RcT w (some ad) n c L) (k : Nat) (hk : k <= n) : RcT w (some ad) k c (L.take k) := by
 have hl := h.src.len
 refine ⟨⟨by rw [List.length_take]; omega, fun e => (by cases e), fun ad' e t ht => ?_, fun r hr => h.src.ok r (List.mem_of_mem_take hr), Nat.le_trans hk h.src.big⟩, Nat.le_trans hk h.room, fun e => (by cases e)⟩
 have A := h.src.at_ ad' e t (by omega)
 have e1 : (L.take k).getD t rc0 = L.getD t rc0 := by
  simp only [List.getD, List.getElem?_take, if_pos ht]
 rw [e1]; exact A
theorem RcT.drop {w : World} {ad : Addr} {n c : Nat} {L : List Rc} (h : RcT w (some ad) n c L) (k : Nat) (hk : k <= n) : RcT w (some (ad.add (k * 3))) (n - k) (c - k) (L.drop k) := by
 have hl := h.src.len
 have hc := h.room
 have hb := h.src.big
 refine ⟨⟨by rw [List.length_drop]; omega, fun e => (by cases e), fun ad' e t ht => ?_, fun r hr => h.src.ok r (List.mem_of_mem_drop hr), by omega⟩, by omega, fun e => (by cases e)⟩
 obtain rfl := Option.some.inj e
 have A := h.src.at_ ad rfl (k + t) (by omega)
 have e1 : (L.drop k).getD t rc0 = L.getD (k + t) rc0 := by
  simp only [List.getD, List.getElem?_drop]
 rw [e1, add_add, show k * 3 + t * 3 = (k + t) * 3 by omega]
 exact A
def SoOf (L F : List Rc) : Prop := Srt ck (plR F) /\ (∀ y, y ∈ plR F ↔ y ∈ plR L) /\ ∀ r ∈ F, RecOk r
def OrA (w w' : World) (x : Ending) (L : List Rc) : Prop := ∃ (h : Hs) (F : List Rc), x = .returned (HsV h) /\ RcT w' h.o h.n h.c F /\ h.n <= L.length /\ (∀ ad, h.o = some ad -> w.heap.size <= ad.block) /\ Below w.heap.size w w' /\ SoOf L F
def ZOf (A B : List Rc) (i j na nb : Nat) (z : Int) : Prop := (i = na /\ z = 1) ∨ (i < na /\ j = nb /\ z = -1) ∨ (i < na /\ j < nb /\ z = ck (rck (A.getD i rc0)) (rck (B.getD j rc0)))
theorem rcDrop {L : List Rc} {i : Nat} (h : i < L.length) : L.drop i = L.getD i rc0 :: L.drop (i + 1) := by
 rw [rcD_at h, List.drop_eq_getElem_cons h]
theorem plR_drop_end {L : List Rc} {i : Nat} (h : i = L.length) : plR (L.drop i) = [] := by rw [h, List.drop_length]; rfl
section
variable {X Y D : List Rp} {A B : List Rc} {i j : Nat} {z : Int}
theorem zlt (h : Mg ck X Y D (plR (A.drop i)) (plR (B.drop j))) (hz : ZOf A B i j A.length B.length z) (h0 : z < 0) : i < A.length /\ Mg ck X Y (D ++ [rck (A.getD i rc0)]) (plR (A.drop (i + 1))) (plR (B.drop j)) := by
 rcases hz with ⟨-, rfl⟩ | ⟨h1, h2, -⟩ | ⟨h1, h2, h3⟩
 ·omega
 ·refine ⟨h1, ?_⟩
  rw [rcDrop h1, plR_cons] at h
  exact h.left (fun y hy => by rw [plR_drop_end h2] at hy; cases hy)
 ·refine ⟨h1, ?_⟩
  rw [rcDrop h1, plR_cons] at h
  refine h.left ?_
  rw [rcDrop h2, plR_cons] at h ⊢
  exact srt_head ck_tot h.sb (by omega)
theorem zgt (h : Mg ck X Y D (plR (A.drop i)) (plR (B.drop j))) (hz : ZOf A B i j A.length B.length z) (h0 : 0 < z) (hj : i < A.length ∨ j < B.length) : j < B.length /\ Mg ck X Y (D ++ [rck (B.getD j rc0)]) (plR (A.drop i)) (plR (B.drop (j + 1))) := by
 rcases hz with ⟨h1, -⟩ | ⟨h1, h2, rfl⟩ | ⟨h1, h2, h3⟩
 ·have h2 : j < B.length := by omega
  refine ⟨h2, ?_⟩
  rw [rcDrop h2, plR_cons] at h
  exact h.right (fun y hy => by rw [plR_drop_end h1] at hy; cases hy)
 ·omega
 ·refine ⟨h2, ?_⟩
  rw [rcDrop h2, plR_cons] at h
  refine h.right ?_
  rw [rcDrop h1, plR_cons] at h ⊢
  exact srt_head ck_tot h.sa (by have := ck_tot.neg (rck (A.getD i rc0)) (rck (B.getD j rc0)); omega)
theorem zeq (h : Mg ck X Y D (plR (A.drop i)) (plR (B.drop j))) (hz : ZOf A B i j A.length B.length z) (h0 : z = 0) : (i < A.length /\ j < B.length) /\ Mg ck X Y (D ++ [rck (A.getD i rc0)]) (plR (A.drop (i + 1))) (plR (B.drop (j + 1))) := by
 rcases hz with ⟨-, rfl⟩ | ⟨h1, h2, rfl⟩ | ⟨h1, h2, h3⟩
 ·omega
 ·omega
 ·refine ⟨⟨h1, h2⟩, ?_⟩
  rw [rcDrop h1, rcDrop h2, plR_cons, plR_cons] at h
  exact h.eq2 ck_tot (by omega)
end
theorem srt_small {L : List Rc} (h : L.length < 2) : Srt ck (plR L) := by
 match L, h with
 | [], _ => exact List.Pairwise.nil
 | [x], _ => exact List.pairwise_singleton _ _
theorem SoOf.halves {L A B F : List Rc} {k : Nat} (hA : SoOf (L.take k) A) (hB : SoOf (L.drop k) B) (hF : UnK ck (plR A) (plR B) (plR F)) (ho : ∀ r ∈ F, RecOk r) : SoOf L F := by
 refine ⟨hF.1, fun y => ?_, ho⟩
 rw [hF.2 y, hA.2.1 y, hB.2.1 y, <- List.mem_append, <- plR_app, List.take_append_drop]
structure UO (w2 wr : World) (A B : List Rc) (i j : Nat) (h : Hs) (D : List Rc) : Prop where
 own : OwnRc w2.heap.size w2 wr h D
 okd : ∀ r ∈ D, RecOk r
 mg : Mg ck (plR A) (plR B) (plR D) (plR (A.drop i)) (plR (B.drop j))
 num : h.n <= i + j
theorem UO.later {w2 wr wr2 : World} {A B : List Rc} {i j : Nat} {h : Hs} {D : List Rc} (U : UO w2 wr A B i j h D) (hb : Below wr.heap.size wr wr2) : UO w2 wr2 A B i j h D := ⟨U.own.later hb, U.okd, U.mg, U.num⟩
def UOv (w2 : World) (A B : List Rc) (na nb : Nat) (v vi vj : Value) (wr : World) : Prop := ∃ (i j : Nat) (h : Hs) (D : List Rc), i <= na /\ j <= nb /\ v = .slice h.o h.n h.c /\ vi = .int .i64 (i : Int) /\ vj = .int .i64 (j : Int) /\ Hid (UO w2 wr A B i j h D)
theorem getOk {L : List Rc} (h : ∀ r ∈ L, RecOk r) {i : Nat} (hi : i < L.length) : RecOk (L.getD i rc0) := h _ (rcD_mem hi)
theorem ordered_any : ∀ (n : Nat) (ao : Option Addr) (c : Nat) (L : List Rc) (w : World), RcT w ao n c L -> (∀ r ∈ L, RecOk r) ->
  Calls Tryz.prog 24 #[.slice ao n c] w fun x w' => OrA w w' x L := by
 intro n
 induction n using Nat.strongRecOn with
 | ind n ih =>
  intro ao c L w hS hok
  have HS := hide hS
  have HL : Hid (L.length = n) := hS.src.len
  have HOk := hide hok
  have HIH := hide ih
  have hbig := hS.src.big
  clear hS ih hok
  by_cases h2 : n < 2
  ·have h2' : (n : Int) < 2 := by omega
   have O0 := OwnRc.made0 w
   have S1 := HS.out.below (below_new w (.cells #[] 43))
   obtain ⟨h5, w5, ha5, n5, O5, -⟩ := O0.appAll ao n c L S1.src S1.nil (fun r hr => farH_of O0 (HS.out.src.ok r hr).1) (by show 0 + n <= _; omega)
   have HA5 : Hid ((Builtin.append_ #[22, 22] 22 #[.slice (some ⟨w.heap.size, 0, none⟩) 0 0, .slice ao n c]).run Tryz.prog (w.alloc (.cells #[] 43)) = .ok (.slice h5.o h5.n h5.c) w5) := ha5
   have HE : Hid (OrA w w5 (.returned (HsV h5)) L) := by
    have hn5 : h5.n = n := by rw [n5]; exact Nat.zero_add n
    obtain ⟨q1, q2, q3⟩ := ownRc_row O5 (by omega)
    rw [List.nil_append] at q1
    exact ⟨h5, L, rfl, q1, by have := HL.out; omega, q2, O5.below, srt_small (by rw [HL.out]; exact h2), fun y => Iff.rfl, HOk.out⟩
   clear O0 S1 ha5 n5 O5 h2
   go_enter Tryz.func24, Tryz.ntmps24
   go_wp2_with (at_builtin; refine seq_appM rfl (.tmp 12) (.tmp 13) rfl rfl rfl HA5.out ?_)
   go_ret
   exact HE.out
  ·obtain ⟨ad, hao⟩ : ∃ ad, ao = some ad := by
    cases ao with
    | none => have := HS.out.src.nil rfl; omega
    | some ad => exact ⟨ad, rfl⟩
   subst hao
   have h2' : ¬ (n : Int) < 2 := by omega
   have hk1 : n / 2 <= n := by omega
   have hkc : n / 2 <= c := by have := HS.out.room; omega
   have hnc : n <= c := HS.out.room
   have hcne : ¬ c = n / 2 := by omega
   go_enter Tryz.func24, Tryz.ntmps24
   go_wp2_with fail
   refine (HIH.out (n / 2) (by omega) (some ad) c (L.take (n / 2)) w (HS.out.take (n / 2) hk1) (fun r hr => HOk.out r (List.mem_of_mem_take hr))).mono ?_
   rintro e w1 ⟨hA, A, rfl, SA, nA, fA, bA, oA⟩
   have HSA := hide SA
   have HFA := hide oA
   have HnA := hide nA
   have HB1 := hide bA
   have HSL := hide (HS.out.below bA)
   clear SA nA fA bA oA HS
   obtain ⟨ao1, na, c1⟩ := hA
   rw [show HsV ⟨ao1, na, c1⟩ = Value.slice ao1 na c1 from rfl]
   have HLA : Hid (A.length = na) := HSA.out.src.len
   go_wp2_with fail
   refine (HIH.out (n - n / 2) (by omega) (some (ad.add (n / 2 * 3))) (c - n / 2) (L.drop (n / 2)) w1 (HSL.out.drop (n / 2) hk1) (fun r hr => HOk.out r (List.mem_of_mem_drop hr))).mono ?_
   rintro e w2 ⟨hB, B, rfl, SB, nB, fB, bB, oB⟩
   obtain ⟨ao2, nb, c2⟩ := hB
   rw [show HsV ⟨ao2, nb, c2⟩ = Value.slice ao2 nb c2 from rfl]
   have HSB : Hid (RcT w2 ao2 nb c2 B) := SB
   have HSA2 : Hid (RcT w2 ao1 na c1 A) := HSA.out.below bB
   have HFB := hide oB
   have HB2 := hide (HB1.out.trans (bB.mono HB1.out.size))
   have HLB : Hid (B.length = nb) := HSB.out.src.len
   have HN : Hid (na + nb <= n /\ n <= 2199023255552) := by
    have h1 : na <= (L.take (n / 2)).length := HnA.out
    have h2 : nb <= (L.drop (n / 2)).length := nB
    rw [List.length_take] at h1
    rw [List.length_drop] at h2
    have := HL.out
    exact ⟨by omega, hbig⟩
   have HU0 : Hid (UO w2 w2 A B 0 0 hs0 []) := ⟨OwnRc.nil w2, fun r hr => (by cases hr), Mg.start HFA.out.1 HFB.out.1, Nat.zero_le _⟩
   clear SB nB fB bB oB HSL HSA HB1 HIH hcne HnA h2' h2 hk1 hkc hnc hbig
   go_wp2_with fail
   go_loopw [5, 6, 7] (fun v vi vj wr => UOv w2 A B na nb v vi vj wr) (fun _ vi vj _ => (na - (intOf vi).toNat) + (nb - (intOf vj).toNat))
   case atStart => exact ⟨0, 0, hs0, [], Nat.zero_le _, Nat.zero_le _, rfl, rfl, rfl, HU0.out⟩
   case round =>
    obtain ⟨i, j, h, D, hi, hj, rfl, rfl, rfl, HU⟩ := hrel
    rename World => wr
    clear HU0
    obtain ⟨bb, Hbb⟩ : ∃ bb : Bool, Hid (bb = (decide (i < na) || decide (j < nb))) := ⟨_, rfl⟩
    go_upto_region 7 with fail
    go_cut [36] from 27 to 75 (fun s wx => s = .bool bb /\ wx = wr)
    case first =>
     by_cases h1 : i < na
     ·have i1 : (i : Int) < (na : Int) := by omega
      obtain rfl : bb = true := by rw [Hbb.out, decide_eq_true h1]; rfl
      clear Hbb
      go_wp2_with fail
      go_meet
      case rel => exact ⟨rfl, rfl⟩
     ·have i1 : ¬ (i : Int) < (na : Int) := by omega
      by_cases h2 : j < nb
      ·have i2 : (j : Int) < (nb : Int) := by omega
       obtain rfl : bb = true := by rw [Hbb.out, decide_eq_true h2]; simp
       clear Hbb
       go_wp2_with fail
       go_meet
       case rel => exact ⟨rfl, rfl⟩
      ·have i2 : ¬ (j : Int) < (nb : Int) := by omega
       obtain rfl : bb = false := by rw [Hbb.out, decide_eq_false h1, decide_eq_false h2]; rfl
       clear Hbb
       go_wp2_with fail
       go_meet
       case rel => exact ⟨rfl, rfl⟩
    case rest =>
     obtain ⟨rfl, rfl⟩ := hcut
     rename World => wr
     cases bb with
     | false =>
      have HE : Hid (OrA w wr (.returned (.slice h.o h.n h.c)) L) := by
       have hb := Hbb.out.symm
       rw [Bool.or_eq_false_iff, decide_eq_false_iff_not, decide_eq_false_iff_not] at hb
       have hmg := HU.out.mg
       rw [plR_drop_end (show i = A.length by have := HLA.out; omega), plR_drop_end (show j = B.length by have := HLB.out; omega)] at hmg
       have hnum := HU.out.num
       have hN := HN.out
       obtain ⟨q1, q2, q3⟩ := ownRc_row HU.out.own (by omega)
       exact ⟨h, D, rfl, q1, by have := HL.out; omega, fun ad e => Nat.le_trans HB2.out.size (q2 ad e), HB2.out.trans (HU.out.own.below.mono HB2.out.size), HFA.out.halves HFB.out hmg.done HU.out.okd⟩
      clear Hbb HU
      go_wp2_with fail
      go_ret
      exact HE.out
     | true =>
      have Hij : Hid (i < A.length ∨ j < B.length) := by
       have hb := Hbb.out.symm
       rw [Bool.or_eq_true, decide_eq_true_eq, decide_eq_true_eq] at hb
       rwa [HLA.out, HLB.out]
      clear Hbb
      go_upto_block 1 with fail
      go_upto_if 40 with fail
      go_cut [8] from 27 to 75 (fun s wx => ∃ z : Int, s = .int .i64 z /\ Hid (ZOf A B i j na nb z) /\ Hid (Below wr.heap.size wr wx))
      case first =>
       by_cases h1 : i < na
       ·have e1 : ((i : Int) == (na : Int)) = false := by simp; omega
        by_cases h2 : j < nb
        ·clear e1
         obtain ⟨d1, hd1, Ax⟩ := (HSA2.out.below HU.out.own.below).src.at i h1
         obtain ⟨d2, hd2, Ay⟩ := (HSB.out.below HU.out.own.below).src.at j h2
         have HKx := hide ((HSA2.out.below HU.out.own.below).src.okAt i h1)
         have HKy := hide ((HSB.out.below HU.out.own.below).src.okAt j h2)
         have HAx := hide Ax
         have HAy := hide Ay
         clear Ax Ay
         have Hok : Hid (RecOk (A.getD i rc0) /\ RecOk (B.getD j rc0)) := ⟨getOk HFA.out.2.2 (by rw [HLA.out]; exact h1), getOk HFB.out.2.2 (by rw [HLB.out]; exact h2)⟩
         have Hij2 : Hid (i < na /\ j < nb) := ⟨h1, h2⟩
         subst hd1 hd2
         have e1 : ((i : Int) == (na : Int)) = false := by simp; omega
         have e2 : ((j : Int) == (nb : Int)) = false := by simp; omega
         have i1 : (i : Int) < (na : Int) := by omega
         have i2 : (j : Int) < (nb : Int) := by omega
         go_upto_region 13 with fail
         refine wp_region_held_drew (S := fun v => (ldRe (.pointer (some (d1.add (i * 3))))).run Tryz.prog v = .ok (.agg (ReC (mkR (A.getD i rc0)))) v /\ (ldRe (.pointer (some (d2.add (j * 3))))).run Tryz.prog v = .ok (.agg (ReC (mkR (B.getD j rc0)))) v) (by kernel_rfl) (⟨run_laRe (HAx.out.on (below_drew1 wr)), run_laRe (HAy.out.on (below_drew1 wr))⟩) (fun hHeld => ?_)
         refine wTk 0 ⟨some 45, .move (.tmp 3), 22, "ref.go:87", #[], none⟩ rfl ?_
         refine wTk 1 ⟨some 46, .move (.tmp 6), 3, "ref.go:87", #[], none⟩ rfl ?_
         refine wTk 2 ⟨some 47, .indexAddr 22 (.tmp 45) (.tmp 46), 0, "ref.go:87", #[⟨0, .data⟩, ⟨1, .data⟩], none⟩ rfl ?_
         refine wTk 3 ⟨some 48, .load 43 (.tmp 47), 43, "ref.go:87", #[⟨2, .data⟩], none⟩ rfl ?_
         refine wTk 4 ⟨some 49, .move (.tmp 4), 22, "ref.go:87", #[], none⟩ rfl ?_
         refine wTk 5 ⟨some 50, .move (.tmp 7), 3, "ref.go:87", #[], none⟩ rfl ?_
         refine wTk 6 ⟨some 51, .indexAddr 22 (.tmp 49) (.tmp 50), 0, "ref.go:87", #[⟨4, .data⟩, ⟨5, .data⟩], none⟩ rfl ?_
         refine wTk 7 ⟨some 52, .load 43 (.tmp 51), 43, "ref.go:87", #[⟨6, .data⟩], none⟩ rfl ?_
         refine wpAnyH_ready (rs := [8]) (by kernel_rfl) (by simp) (.cons rfl (fun K hK => ?_) .nil)
         go_simp
         go_wp2_with fail
         refine (refCmpR_any _ _ _ (HKx.out.below (below_drew1 wr)) (HKy.out.below (below_drew1 wr))).mono ?_
         rintro e w4 ⟨z, rfl, hz, b4⟩
         have hB4 : Below wr.heap.size wr w4 := (below_drew1 wr).trans b4
         have HB4 := hide hB4
         refine hK.out _ _ (⟨run_laRe (HAx.out.on (hB4)), run_laRe (HAy.out.on (hB4))⟩) (fun hHeld => ?_)
         clear hK K b4 hB4
         refine wTk 9 ⟨some 8, .assign (.tmp 53), 3, "ref.go:87", #[⟨8, .data⟩, ⟨8, .chain⟩, ⟨0, .phase⟩, ⟨1, .phase⟩, ⟨2, .phase⟩, ⟨3, .phase⟩, ⟨4, .phase⟩, ⟨5, .phase⟩, ⟨6, .phase⟩, ⟨7, .phase⟩, ⟨8, .phase⟩], none⟩ rfl ?_
         refine wpAnyH_done (by kernel_rfl) ?_ _
         clear hHeld
         have HZc : Hid (ZOf A B i j na nb z) := .inr (.inr ⟨Hij2.out.1, Hij2.out.2, cmpR_ck Hok.out.1.2.1 Hok.out.2.2.1 hz⟩)
         clear hz i1 i2 e1 e2
         go_wp2_with fail
         go_meet
         case rel => exact ⟨z, rfl, HZc.out, HB4.out⟩
        ·obtain rfl : j = nb := by omega
         have HZc : Hid (ZOf A B i j na j (-1)) := .inr (.inl ⟨h1, rfl, rfl⟩)
         have e2 : ((j : Int) == (j : Int)) = true := by simp
         go_wp2_with fail
         go_meet
         case rel => exact ⟨-1, rfl, HZc.out, Below.refl _ _⟩
       ·obtain rfl : i = na := by omega
        have HZc : Hid (ZOf A B i j i nb 1) := .inl ⟨rfl, rfl⟩
        have e1 : ((i : Int) == (i : Int)) = true := by simp
        go_wp2_with fail
        go_meet
        case rel => exact ⟨1, rfl, HZc.out, Below.refl _ _⟩
      case rest =>
       obtain ⟨z, rfl, HZ0, HBx⟩ := hcut
       rename World => wx
       have HUx := hide (HU.out.later HBx.out)
       have HZ : Hid (ZOf A B i j A.length B.length z) := by rw [HLA.out, HLB.out]; exact HZ0.out
       clear HU HBx HZ0
       by_cases hz0 : z < 0
       ·obtain ⟨hq, hmg⟩ := zlt HUx.out.mg HZ.out hz0
        have hz1 : z <= 0 := by omega
        have hz2 : ¬ 0 <= z := by omega
        obtain ⟨d1, hd1, Ax⟩ := (HSA2.out.below HUx.out.own.below).src.at i (by have := HLA.out; have := hq; omega)
        have hKx := (HSA2.out.below HUx.out.own.below).src.okAt i (by have := HLA.out; have := hq; omega)
        have hold := (HSA2.out.src.okAt i (by have := HLA.out; have := hq; omega)).1
        have hrok := getOk HFA.out.2.2 hq
        obtain ⟨r, Hr⟩ : ∃ r, Hid (A.getD i rc0 = r) := ⟨_, rfl⟩
        rw [Hr.out] at Ax hKx hold hrok hmg
        subst hd1
        have hld := run_laRe Ax
        obtain ⟨gb, cb2, wb, hab, Ob, -⟩ := HUx.out.own.app r hKx (farH_of HUx.out.own hold) (by have := HUx.out.num; have := HN.out; have := HLA.out; have := HLB.out; have := hq; omega)
        have HAb : Hid ((Builtin.append_ #[22, 22] 22 #[.slice h.o h.n h.c, .slice (some ⟨wx.heap.size, 0, none⟩) 1 1]).run Tryz.prog (wx.alloc (.cells #[.string r.s, .slice r.p.vo r.p.vn r.p.vc, .slice r.p.co r.p.cn r.p.cc] 43)) = .ok (.slice (some ⟨gb, 0, none⟩) (h.n + 1) cb2) wb) := hab
        have HNx : Hid (UO w2 wb A B (i + 1) (j) ⟨some ⟨gb, 0, none⟩, h.n + 1, cb2⟩ (D ++ [r])) := ⟨Ob, mem_snoc HUx.out.okd hrok, by rw [plR_sn]; exact hmg, by show h.n + 1 <= _; have := HUx.out.num; omega⟩
        have hlq : i < na := by have := HLA.out; have := HLB.out; omega
        have Hlt := hide hlq
        have hbA : na <= 2199023255552 := by have := HN.out; omega
        have hbB : nb <= 2199023255552 := by have := HN.out; omega
        clear hab Ob hKx hold hrok hmg Ax hq
        go_wp2_with (at_builtin; refine seq_appM rfl (.tmp 56) (.tmp 61) rfl rfl rfl HAb.out ?_)
        clear hld
        go_roundw
        case rel => exact ⟨i + 1, j, ⟨some ⟨gb, 0, none⟩, h.n + 1, cb2⟩, D ++ [r], by have := Hlt.out; omega, hj, rfl, by simp, rfl, HNx.out⟩
        case measure => simp [intOf]; have := Hlt.out; omega
       ·by_cases hz1 : 0 < z
        ·obtain ⟨hq, hmg⟩ := zgt HUx.out.mg HZ.out hz1 Hij.out
         have hz2 : ¬ z <= 0 := by omega
         have hz3 : 0 <= z := by omega
         obtain ⟨d1, hd1, Ax⟩ := (HSB.out.below HUx.out.own.below).src.at j (by have := HLB.out; have := hq; omega)
         have hKx := (HSB.out.below HUx.out.own.below).src.okAt j (by have := HLB.out; have := hq; omega)
         have hold := (HSB.out.src.okAt j (by have := HLB.out; have := hq; omega)).1
         have hrok := getOk HFB.out.2.2 hq
         obtain ⟨r, Hr⟩ : ∃ r, Hid (B.getD j rc0 = r) := ⟨_, rfl⟩
         rw [Hr.out] at Ax hKx hold hrok hmg
         subst hd1
         have hld := run_laRe Ax
         obtain ⟨gb, cb2, wb, hab, Ob, -⟩ := HUx.out.own.app r hKx (farH_of HUx.out.own hold) (by have := HUx.out.num; have := HN.out; have := HLA.out; have := HLB.out; have := hq; omega)
         have HAb : Hid ((Builtin.append_ #[22, 22] 22 #[.slice h.o h.n h.c, .slice (some ⟨wx.heap.size, 0, none⟩) 1 1]).run Tryz.prog (wx.alloc (.cells #[.string r.s, .slice r.p.vo r.p.vn r.p.vc, .slice r.p.co r.p.cn r.p.cc] 43)) = .ok (.slice (some ⟨gb, 0, none⟩) (h.n + 1) cb2) wb) := hab
         have HNx : Hid (UO w2 wb A B (i) (j + 1) ⟨some ⟨gb, 0, none⟩, h.n + 1, cb2⟩ (D ++ [r])) := ⟨Ob, mem_snoc HUx.out.okd hrok, by rw [plR_sn]; exact hmg, by show h.n + 1 <= _; have := HUx.out.num; omega⟩
         have hlq : j < nb := by have := HLA.out; have := HLB.out; omega
         have Hlt := hide hlq
         have hbA : na <= 2199023255552 := by have := HN.out; omega
         have hbB : nb <= 2199023255552 := by have := HN.out; omega
         clear hab Ob hKx hold hrok hmg Ax hq
         go_wp2_with (at_builtin; refine seq_appM rfl (.tmp 65) (.tmp 70) rfl rfl rfl HAb.out ?_)
         clear hld
         go_roundw
         case rel => exact ⟨i, j + 1, ⟨some ⟨gb, 0, none⟩, h.n + 1, cb2⟩, D ++ [r], hi, by have := Hlt.out; omega, rfl, rfl, by simp, HNx.out⟩
         case measure => simp [intOf]; have := Hlt.out; omega
        ·obtain rfl : z = 0 := by omega
         obtain ⟨⟨hq, hq2⟩, hmg⟩ := zeq HUx.out.mg HZ.out rfl
         clear hz0 hz1
         obtain ⟨d1, hd1, Ax⟩ := (HSA2.out.below HUx.out.own.below).src.at i (by have := HLA.out; have := hq; omega)
         have hKx := (HSA2.out.below HUx.out.own.below).src.okAt i (by have := HLA.out; have := hq; omega)
         have hold := (HSA2.out.src.okAt i (by have := HLA.out; have := hq; omega)).1
         have hrok := getOk HFA.out.2.2 hq
         obtain ⟨r, Hr⟩ : ∃ r, Hid (A.getD i rc0 = r) := ⟨_, rfl⟩
         rw [Hr.out] at Ax hKx hold hrok hmg
         subst hd1
         have hld := run_laRe Ax
         obtain ⟨gb, cb2, wb, hab, Ob, -⟩ := HUx.out.own.app r hKx (farH_of HUx.out.own hold) (by have := HUx.out.num; have := HN.out; have := HLA.out; have := HLB.out; have := hq; omega)
         have HAb : Hid ((Builtin.append_ #[22, 22] 22 #[.slice h.o h.n h.c, .slice (some ⟨wx.heap.size, 0, none⟩) 1 1]).run Tryz.prog (wx.alloc (.cells #[.string r.s, .slice r.p.vo r.p.vn r.p.vc, .slice r.p.co r.p.cn r.p.cc] 43)) = .ok (.slice (some ⟨gb, 0, none⟩) (h.n + 1) cb2) wb) := hab
         have HNx : Hid (UO w2 wb A B (i + 1) (j + 1) ⟨some ⟨gb, 0, none⟩, h.n + 1, cb2⟩ (D ++ [r])) := ⟨Ob, mem_snoc HUx.out.okd hrok, by rw [plR_sn]; exact hmg, by show h.n + 1 <= _; have := HUx.out.num; omega⟩
         have hlq : i < na /\ j < nb := by have := HLA.out; have := HLB.out; omega
         have Hlt := hide hlq
         have hbA : na <= 2199023255552 := by have := HN.out; omega
         have hbB : nb <= 2199023255552 := by have := HN.out; omega
         clear hab Ob hKx hold hrok hmg Ax hq
         go_wp2_with (at_builtin; refine seq_appM rfl (.tmp 56) (.tmp 61) rfl rfl rfl HAb.out ?_)
         clear hld
         go_roundw
         case rel => exact ⟨i + 1, j + 1, ⟨some ⟨gb, 0, none⟩, h.n + 1, cb2⟩, D ++ [r], by have := Hlt.out; omega, by have := Hlt.out; omega, rfl, by simp, by simp, HNx.out⟩
         case measure => simp [intOf]; have := Hlt.out; omega
def UrA (w w' : World) (x : Ending) (L : List Rc) (n : Nat) (M : List Rc) (m : Nat) : Prop := (OkR L n /\ OkR M m /\ ∃ (h : Hs) (F : List Rc), x = .returned (.tuple #[HsV h, .int .i64 0]) /\ RcT w' h.o h.n h.c F /\ (∀ ad, h.o = some ad -> w.heap.size <= ad.block) /\ h.n <= n + m /\ Below w.heap.size w w' /\ UnOf L M F) ∨ (¬ (OkR L n /\ OkR M m) /\ x = .returned (.tuple #[.slice none 0 0, .int .i64 1]) /\ Below w.heap.size w w')
theorem refUnionR_any (ao bo : Option Addr) (n ca m cb : Nat) (L M : List Rc) (w : World) (hS : RcT w ao n ca L) (hR : RcT w bo m cb M) (hnm : n + m <= 2199023255551) :
  Calls Tryz.prog 7 #[.slice ao n ca, .slice bo m cb] w fun x w' => UrA w w' x L n M m := by
 have HS := hide hS
 have HR := hide hR
 have HNM := hide hnm
 clear hS hR hnm
 go_enter Tryz.func7, Tryz.ntmps7
 go_wp2_with fail
 refine (refChkR_any ao n ca L _ HS.out.src).mono ?_
 rintro x w1 ⟨z, rfl, hz, b1⟩
 have HB1 := hide b1
 clear b1
 rcases hz with ⟨rfl, hO⟩ | ⟨rfl, hO⟩
 rotate_left
 ·have HE : Hid (UrA w w1 (.returned (.tuple #[.slice none 0 0, .int .i64 1])) L n M m) := .inr ⟨fun h => hO h.1, rfl, HB1.out⟩
  clear hO
  go_wp2_with fail
  go_ret2
  exact HE.out
 have HO := hide hO
 clear hO
 go_wp2_with fail
 refine (refChkR_any bo m cb M _ (HR.out.src.below HB1.out)).mono ?_
 rintro x w0 ⟨z, rfl, hz, b2⟩
 have HB0 := hide (HB1.out.trans (b2.mono HB1.out.size))
 clear b2
 rcases hz with ⟨rfl, hP⟩ | ⟨rfl, hP⟩
 rotate_left
 ·have HE : Hid (UrA w w0 (.returned (.tuple #[.slice none 0 0, .int .i64 1])) L n M m) := .inr ⟨fun h => hP h.2, rfl, HB0.out⟩
  clear hP
  go_wp2_with fail
  go_ret2
  exact HE.out
 have HP := hide hP
 have HOO : Hid ((∀ r ∈ L ++ M, RecOk r)) := fun r hr => (List.mem_append.1 hr).elim ((okR_iff.1 (by rw [HS.out.src.len]; exact HO.out)).1 r) ((okR_iff.1 (by rw [HR.out.src.len]; exact hP)).1 r)
 have O0 := OwnRc.made0 w0
 have S1 := (HS.out.below HB0.out).below (below_new w0 (.cells #[] 43))
 obtain ⟨h5, w5, ha5, n5, O5, -⟩ := O0.appAll ao n ca L S1.src S1.nil (fun r hr => farH_of O0 ((HS.out.below HB0.out).src.ok r hr).1) (by show 0 + n <= _; have := HNM.out; omega)
 have S2 := (HR.out.below HB0.out).below O5.below
 obtain ⟨h6, w6, ha6, n6, O6, -⟩ := O5.appAll bo m cb M S2.src S2.nil (fun r hr => farH_of O5 ((HR.out.below HB0.out).src.ok r hr).1) (by rw [n5]; show 0 + n + m <= _; have := HNM.out; omega)
 rw [List.nil_append] at O6
 have HA5 : Hid ((Builtin.append_ #[22, 22] 22 #[.slice (some ⟨w0.heap.size, 0, none⟩) 0 0, .slice ao n ca]).run Tryz.prog (w0.alloc (.cells #[] 43)) = .ok (.slice h5.o h5.n h5.c) w5) := ha5
 have HA6 : Hid ((Builtin.append_ #[22, 22] 22 #[.slice h5.o h5.n h5.c, .slice bo m cb]).run Tryz.prog w5 = .ok (.slice h6.o h6.n h6.c) w6) := ha6
 have hn6 : h6.n = n + m := by rw [n6, n5]; show 0 + n + m = _; omega
 have HR6 : Hid (RcT w6 h6.o h6.n h6.c (L ++ M)) := (ownRc_row O6 (by rw [hn6]; have := HNM.out; omega)).1
 have HB6 : Hid (Below w.heap.size w w6) := HB0.out.trans (O6.below.mono HB0.out.size)
 have HN6 := hide hn6
 clear O0 S1 ha5 n5 O5 S2 ha6 n6 O6 hn6 hP
 go_wp2_with (at_builtin; first | refine seq_appM rfl (.tmp 16) (.tmp 17) rfl rfl rfl HA6.out ?_ | refine seq_appM rfl (.tmp 14) (.tmp 15) rfl rfl rfl HA5.out ?_)
 refine (ordered_any h6.n h6.o h6.c (L ++ M) w6 HR6.out HOO.out).mono ?_
 rintro x w7 ⟨h, F, rfl, SF, nF, fF, bF, oF⟩
 have HE : Hid (UrA w w7 (.returned (.tuple #[.slice h.o h.n h.c, .int .i64 0])) L n M m) := .inl ⟨HO.out, HP.out, h, F, rfl, SF, fun ad e => Nat.le_trans HB6.out.size (fF ad e), by rw [List.length_append, HS.out.src.len, HR.out.src.len] at nF; exact nF, HB6.out.trans (bF.mono HB6.out.size), ⟨oF.1, fun y => by rw [oF.2.1 y, plR_app, List.mem_append]⟩, oF.2.2⟩
 clear SF nF fF bF oF
 go_wp2_with fail
 go_ret2
 exact HE.out
end Go.Proofs.YtalcmdjiejhkgaaGreat
