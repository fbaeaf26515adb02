/- IFo IFi -/
import Derived.Test.YtphohmoibnoeaaaGreatPb34
import Derived.Test.YtphohmoibnoeaaaGreatPb35
import Derived.Test.YtphohmoibnoeaaaGreatPb38
import Derived.Test.YtphohmoibnoeaaaGreatPb14
import Derived.Lib.SlBytesConst
namespace Go.Proofs.YtphohmoibnoeaaaGreat
open Go.RowKit
attribute [local go_sem ↓] ldP_eq stP_eq
attribute [local go_sem] zero_PC cells_PV PC_size
variable {w w' w2 W W' : World} {g gv gr : Nat} {Z : List Int}

theorem recsB_len (X : List Rp) : (recB X).length ≤ (recsB X).length := by
 unfold recsB
 rw [List.length_append]
 omega
end Go.Proofs.YtphohmoibnoeaaaGreat
namespace Go.Proofs.YtphohmoibnoeaaaGreat
open Go.RowKit
attribute [local go_sem ↓] ldP_eq stP_eq bldE_eq run_bldE bldR_eq run_bldR
attribute [local go_sem] zero_PC cells_PV PC_size cells_ReV ReC_size zero_ReC fold_ReC
variable {w w' w2 W W' : World} {g gv gr : Nat} {Z : List Int}

theorem run_bldR1 (p : Pv) (w : World) : (bldR #[(1, .agg (PC p))]).run Tryz.prog w = .ok (.agg (ReC (mkR ⟨⟨#[]⟩, p⟩))) w := by kernel_rfl
attribute [local go_sem ↓] run_bldR1
theorem entsB_inj {L M : List K.En} (h : K.okN L L.length = true) (h' : K.okN M M.length = true) (e : entsB L = entsB M) : L = M := by
 have l1 := eOk_room L (fun _ => 0) 0 (Int.le_refl 0) (by decide) (ok_eok h).1 (fun k => ⟨Int.le_refl 0, by decide⟩)
 have l2 := eOk_room M (fun _ => 0) 0 (Int.le_refl 0) (by decide) (ok_eok h').1 (fun k => ⟨Int.le_refl 0, by decide⟩)
 have h1 := rdEnts_to (ok_eok h).1 (ok_eok h).2 (by omega) []
 have h2 := rdEnts_to (ok_eok h').1 (ok_eok h').2 (by omega) []
 rw [e, h2] at h1
 exact (congrArg Prod.fst (Option.some.inj h1)).symm
theorem recsB_inj {L M : List Rc} (h : OkR L L.length) (h' : OkR M M.length) (l1 : L.length ≤ 9223372036854775807) (l2 : M.length ≤ 9223372036854775807) (e : recsB (plR L) = recsB (plR M)) : plR L = plR M := by
 have h1 := rdRecs_to h l1 []
 have h2 := rdRecs_to h' l2 []
 rw [e, h2] at h1
 exact (congrArg Prod.fst (Option.some.inj h1)).symm
def PF : Pst := ⟨[4], [⟨0, 6, 12⟩, ⟨1, 2, 2⟩]⟩
theorem form_PF : InForm PF := by
 refine ⟨by decide, ?_⟩
 exact ⟨⟨by decide, by decide, by decide, by decide, by decide, by decide⟩, ⟨by decide, by decide, by decide, by decide, by decide, by decide⟩, trivial⟩
theorem bytes_PF : pastB PF = [1, 4, 2, 0, 0, 6, 1, 0, 0] := by
 simp [pastB, vecB, nB, PF, cloudB, upd, trl, U.numB_lt]
def eA : K.En := ⟨2, 1, ⟨#[65]⟩, 5⟩
theorem ok_eA : K.okN [eA] [eA].length = true := by decide +kernel
theorem bytes_eA : entsB [eA] = [1, 2, 0, 1, 65, 4] := by
 have h : U.strB ⟨#[65]⟩ = [65] := by decide +kernel
 have h2 : ByteArray.size ⟨#[65]⟩ = 1 := rfl
 simp [entsB, entB, eA, nB, txB, h, h2, U.numB_lt]
def PO : Pst := ⟨[1], []⟩
theorem form_PO : FormP PO := by
 refine ⟨⟨by decide, trivial⟩, fun h => h 0 (by decide) 1 ⟨by decide, by decide, ⟨1, 1⟩, ?_, by decide, by decide⟩⟩
 simp [runsAt, vecPart, PO, V.at', V.clamp]
theorem ok_rA (p : Pv) (h : p.P = PO) : OkR [⟨⟨#[]⟩, p⟩] 1 := by
 intro j hj
 obtain rfl : j = 0 := by omega
 refine ⟨⟨rfl, ?_⟩, fun h => absurd h (by omega)⟩
 show FormP p.P
 rw [h]
 exact form_PO
theorem bytes_rA (p : Pv) (h : p.P = PO) : recsB (plR [⟨⟨#[]⟩, p⟩]) = [1, 0, 1, 1, 0] := by
 have h1 : U.strB ⟨#[]⟩ = [] := by decide +kernel
 have h2 : ByteArray.size ⟨#[]⟩ = 0 := rfl
 have h3 : pastB PO = [1, 1, 0] := by simp [pastB, vecB, nB, PO, cloudB, U.numB_lt]
 simp [recsB, recB, plR, h, h1, h2, h3, txB, U.numB_lt]
theorem oc_ob {Z : List Int} (h : ∀ x ∈ Z, 0 ≤ x ∧ x ≤ 255) (t : Nat) : 0 ≤ Z.getD t 0 ∧ Z.getD t 0 ≤ 255 := by
 rw [List.getD_eq_getElem?_getD]
 by_cases ht : t < Z.length
 ·rw [List.getElem?_eq_getElem ht]; exact h _ (List.getElem_mem ht)
 ·rw [List.getElem?_eq_none (Nat.le_of_not_lt ht)]; exact ⟨by decide, by decide⟩
theorem src_lit (w : World) (T : TypeId) (mk : Nat × Nat) (C : Array Value) (Z : List Int) (hC : C = (Z.map fun x => Value.int .u8 x).toArray) (hO : ∀ x ∈ Z, 0 ≤ x ∧ x ≤ 255) (g n : Nat) (hg : w.heap.size = g) (hn : Z.length = n) : U.Src (w.alloc (.cells C T mk)) (some ⟨g, 0, none⟩) n n Z := by
 subst hg hn hC
 refine ⟨rfl, (fun h => by cases h), fun ad h t ht => ?_, oc_ob hO⟩
 obtain rfl := Option.some.inj h
 have h1 := heap_alloc_new w (.cells (Z.map fun x => Value.int .u8 x).toArray T mk)
 rw [Addr.add_lit, Nat.zero_add]
 simp only [World.cell?, h1]
 simp [ht]
theorem vsrc_one (w : World) (x : Int) (T : TypeId) (g : Nat) (hg : w.heap.size = g) : V.Src (w.alloc (.cells #[.int .i64 x] T)) (some ⟨g, 0, none⟩) 1 1 [x] := by
 subst hg
 refine ⟨rfl, (fun h => by cases h), fun ad h t ht => ?_⟩
 obtain rfl := Option.some.inj h
 obtain rfl : t = 0 := by omega
 have h1 := heap_alloc_new w (.cells #[.int .i64 x] T)
 rw [Addr.add_lit, Nat.zero_add]
 simp only [World.cell?, h1]
 rfl
def CF : Array Value := #[.int .i64 0, .int .i64 6, .int .i64 12, .int .i64 1, .int .i64 2, .int .i64 2]
theorem ssrc_two (w : World) (T : TypeId) (g : Nat) (hg : w.heap.size = g) : SSrc (w.alloc (.cells CF T)) (some ⟨g, 0, none⟩) 2 2 PF.cloud := by
 subst hg
 refine ⟨rfl, (fun h => by cases h), fun ad h t ht => ?_, by decide⟩
 obtain rfl := Option.some.inj h
 have h1 := heap_alloc_new w (.cells CF T)
 rw [Addr.add_lit, Nat.zero_add]
 match t, ht with
 | 0, _ => refine ⟨?_, ?_, ?_⟩ <;> (try rw [Addr.add_lit]) <;> simp only [World.cell?, h1] <;> rfl
 | 1, _ => refine ⟨?_, ?_, ?_⟩ <;> (try rw [Addr.add_lit]) <;> simp only [World.cell?, h1] <;> rfl
theorem src_PF (w : World) (T T' : TypeId) (g : Nat) (hg : w.heap.size = g) : PSrc ((w.alloc (.cells #[.int .i64 4] T)).alloc (.cells CF T')) ⟨some ⟨g, 0, none⟩, 1, 1, some ⟨g + 1, 0, none⟩, 2, 2, PF⟩ :=
 ⟨(vsrc_one w 4 T g hg).below (below_new _ _), ssrc_two _ T' _ (by rw [World.size_alloc, hg]), (show (1 : Nat) ≤ 17592186044415 by decide)⟩
theorem src_eA (w : World) (T : TypeId) (g : Nat) (hg : w.heap.size = g) : K.ESrc (w.alloc (.cells (K.EC eA) T)) (some ⟨g, 0, none⟩) 1 1 [eA] := by
 subst hg
 refine ⟨rfl, (fun h => by cases h), fun ad h t ht => ?_, (fun e he => by rw [List.mem_singleton.1 he]; decide), by decide⟩
 obtain rfl := Option.some.inj h
 obtain rfl : t = 0 := by omega
 have h1 := heap_alloc_new w (.cells (K.EC eA) T)
 rw [Addr.add_lit, Nat.zero_add]
 refine ⟨?_, ?_, ?_, ?_⟩ <;> (try rw [Addr.add_lit]) <;> simp only [World.cell?, h1] <;> rfl
theorem src_rA (w : World) (T T' : TypeId) (g : Nat) (hg : w.heap.size = g) (p : Pv) (hp : p = ⟨some ⟨g, 0, none⟩, 1, 1, none, 0, 0, PO⟩) : RcS ((w.alloc (.cells #[.int .i64 1] T)).alloc (.cells (ReC (mkR ⟨⟨#[]⟩, p⟩)) T')) (some ⟨g + 1, 0, none⟩) 1 1 [⟨⟨#[]⟩, p⟩] := by
 have hv := (vsrc_one w 1 T g hg).below (below_new (w.alloc (.cells #[.int .i64 1] T)) (.cells (ReC (mkR ⟨⟨#[]⟩, p⟩)) T'))
 have hs : (w.alloc (.cells #[.int .i64 1] T)).heap.size = g + 1 := by rw [World.size_alloc, hg]
 generalize w.alloc (.cells #[.int .i64 1] T) = w1 at hv hs ⊢
 have h1 := heap_alloc_new w1 (.cells (ReC (mkR ⟨⟨#[]⟩, p⟩)) T')
 rw [hs] at h1
 refine ⟨rfl, (fun h => by cases h), fun ad h t ht => ?_, fun r hr => ?_, by decide⟩
 ·obtain rfl := Option.some.inj h
  obtain rfl : t = 0 := by omega
  rw [Addr.add_lit, Nat.zero_add]
  refine ⟨?_, ?_, ?_⟩ <;> (try rw [Addr.add_lit]) <;> simp only [World.cell?, h1] <;> rfl
 ·rw [List.mem_singleton.1 hr]
  subst hp
  exact ⟨⟨hv, SSrc.empty _, (show (1 : Nat) ≤ 17592186044415 by decide)⟩, Nat.zero_le _⟩
set_option maxRecDepth 100000 in
set_option maxHeartbeats 8000000 in
theorem fixed_any (w : World) : Calls Tryz.prog 8 #[] w fun e w' => e = .returned (.bool true) ∧ Below w.heap.size w w' := by
 obtain ⟨g1, hg1⟩ : ∃ g1, w.heap.size = g1 := ⟨_, rfl⟩
 have S1 := src_PF w 3 59 g1 hg1
 have b1 := below_new w (.cells #[.int .i64 4] 3)
 have b2 := b1.trans ((below_new (w.alloc (.cells #[.int .i64 4] 3)) (.cells CF 59)).mono b1.size)
 unfold CF at S1 b2
 obtain ⟨w1, hw1⟩ : ∃ w1, (w.alloc (.cells #[.int .i64 4] 3)).alloc (.cells #[.int .i64 0, .int .i64 6, .int .i64 12, .int .i64 1, .int .i64 2, .int .i64 2] 59) = w1 := ⟨_, rfl⟩
 rw [hw1] at S1 b2
 obtain ⟨p, hp⟩ : ∃ p : Pv, (⟨some ⟨g1, 0, none⟩, 1, 1, some ⟨g1 + 1, 0, none⟩, 2, 2, PF⟩ : Pv) = p := ⟨_, rfl⟩
 have hbp : ((PC pv0).setIfInBounds 0 (.slice (some ⟨g1, 0, none⟩) 1 1)).setIfInBounds 1 (.slice (some ⟨g1 + 1, 0, none⟩) 2 2) = PC p := by rw [← hp]; rfl
 have hpp : p.P = PF := by rw [← hp]
 rw [hp] at S1
 have HB1 := hide b2
 have HP := hide (putPast_any p w1 S1)
 rw [hpp] at HP
 clear b1 b2 S1 hp hpp
 go_enter Tryz.func8, Tryz.ntmps8
 go_wp2_with fail
 clear hg1 hw1 hbp
 refine HP.out.mono ?_
 rintro e w2 (⟨hno, -, -⟩ | ⟨-, bo, cc, rfl, hR, hN⟩)
 ·exact absurd form_PF hno
 rw [bytes_PF, show ([1, 4, 2, 0, 0, 6, 1, 0, 0] : List Int).length = 9 from rfl] at hR ⊢
 have hst := hR.bs.str
 have hs9 : strOfNums [1, 4, 2, 0, 0, 6, 1, 0, 0] = ⟨#[1, 4, 2, 0, 0, 6, 1, 0, 0]⟩ := by decide +kernel
 rw [hs9] at hst
 have HB2 := hide (HB1.out.trans (hN.1.mono HB1.out.size))
 have hc := Lib.run_convert_bytes_const (P := Tryz.prog) w2 28 5 #[.int .u8 1, .int .u8 2, .int .u8 0, .int .u8 1, .int .u8 65, .int .u8 4] 6 6 Tryz.underlying28 Tryz.underlying5
 have S3 := src_lit w2 5 (6, 7) #[.int .u8 1, .int .u8 2, .int .u8 0, .int .u8 1, .int .u8 65, .int .u8 4] [1, 2, 0, 1, 65, 4] rfl (by decide) w2.heap.size 6 rfl rfl
 have hc6 : (#[.int .u8 1, .int .u8 2, .int .u8 0, .int .u8 1, .int .u8 65, .int .u8 4] : Array Value).size = 6 := rfl
 rw [hc6] at hc
 simp only [Nat.reduceAdd] at hc
 have b3 := below_new w2 (.cells #[.int .u8 1, .int .u8 2, .int .u8 0, .int .u8 1, .int .u8 65, .int .u8 4] 5 (6, 7))
 obtain ⟨w3, hw3⟩ : ∃ w3, w2.alloc (.cells #[.int .u8 1, .int .u8 2, .int .u8 0, .int .u8 1, .int .u8 65, .int .u8 4] 5 (6, 7)) = w3 := ⟨_, rfl⟩
 rw [hw3] at hc S3 b3
 obtain ⟨g3, hg3⟩ : ∃ g3, w2.heap.size = g3 := ⟨_, rfl⟩
 rw [hg3] at hc S3
 have HB3 := hide (HB2.out.trans (b3.mono HB2.out.size))
 have HG := hide (getE_any (some ⟨g3, 0, none⟩) 6 6 _ w3 S3 (Nat.le_refl _) (by decide))
 clear hR hN HP hs9 hc6 b3 S3
 go_wp2_with fail
 clear hg3 hw3 hc hst
 refine HG.out.mono ?_
 rintro e w4 ⟨b4, h4⟩
 obtain ⟨bo4, cc4, rfl, S4⟩ : ∃ bo4 cc4, e = .returned (.tuple #[.slice bo4 1 cc4, .int .i64 0]) ∧ K.ESrc w4 bo4 1 cc4 [eA] := by
  rcases h4 with ⟨L, bo4, cc4, h1, h2, rfl, h4⟩ | ⟨hno, -⟩
  ·obtain rfl := entsB_inj h1 ok_eA (by rw [← h2, bytes_eA])
   exact ⟨bo4, cc4, rfl, h4.src⟩
  ·exact absurd bytes_eA.symm (hno [eA] ok_eA)
 have HB4 := hide (HB3.out.trans (b4.mono HB3.out.size))
 obtain ⟨g5, hg5⟩ : ∃ g5, w4.heap.size = g5 := ⟨_, rfl⟩
 have S5 := src_eA w4 57 g5 hg5
 have b5 := below_new w4 (.cells (K.EC eA) 57)
 obtain ⟨w5, hw5⟩ : ∃ w5, w4.alloc (.cells (K.EC eA) 57) = w5 := ⟨_, rfl⟩
 rw [hw5] at S5 b5
 have HB5 := hide (HB4.out.trans (b5.mono HB4.out.size))
 have HC := hide (sameEntries_any bo4 (some ⟨g5, 0, none⟩) 1 1 cc4 1 [eA] [eA] w5 (S4.below b5) S5)
 clear b4 h4 HG S4 S5 b5
 go_wp2_with fail
 change Calls _ _ _ (w4.alloc (.cells (K.EC eA) 57)) _
 rw [hw5]
 clear hg5 hw5
 refine HC.out.mono ?_
 rintro e w6 ⟨x, rfl, hx, b6⟩
 obtain rfl : x = true := hx.2 trivial
 have HB6 := hide (HB5.out.trans (b6.mono HB5.out.size))
 have hc := Lib.run_convert_bytes_const (P := Tryz.prog) w6 28 5 #[.int .u8 1, .int .u8 0, .int .u8 1, .int .u8 1, .int .u8 0] 5 5 Tryz.underlying28 Tryz.underlying5
 have S7 := src_lit w6 5 (5, 6) #[.int .u8 1, .int .u8 0, .int .u8 1, .int .u8 1, .int .u8 0] [1, 0, 1, 1, 0] rfl (by decide) w6.heap.size 5 rfl rfl
 have hc5 : (#[.int .u8 1, .int .u8 0, .int .u8 1, .int .u8 1, .int .u8 0] : Array Value).size = 5 := rfl
 rw [hc5] at hc
 simp only [Nat.reduceAdd] at hc
 have b7 := below_new w6 (.cells #[.int .u8 1, .int .u8 0, .int .u8 1, .int .u8 1, .int .u8 0] 5 (5, 6))
 obtain ⟨w7, hw7⟩ : ∃ w7, w6.alloc (.cells #[.int .u8 1, .int .u8 0, .int .u8 1, .int .u8 1, .int .u8 0] 5 (5, 6)) = w7 := ⟨_, rfl⟩
 rw [hw7] at hc S7 b7
 obtain ⟨g7, hg7⟩ : ∃ g7, w6.heap.size = g7 := ⟨_, rfl⟩
 rw [hg7] at hc S7
 have HB7 := hide (HB6.out.trans (b7.mono HB6.out.size))
 have HG := hide (getR_any (some ⟨g7, 0, none⟩) 5 5 _ w7 S7 (Nat.le_refl _) (by decide) (by decide))
 clear hx b6 HC hc5 b7 S7
 go_wp2_with fail
 clear hg7 hw7 hc
 refine HG.out.mono ?_
 rintro e w8 ⟨b8, h8⟩
 obtain ⟨L, bo8, n8, cc8, rfl, S8, hL⟩ : ∃ L bo8 n8 cc8, e = .returned (.tuple #[.slice bo8 n8 cc8, .int .i64 0]) ∧ RcS w8 bo8 n8 cc8 L ∧ ∀ p : Pv, p.P = PO → plR L = plR [⟨⟨#[]⟩, p⟩] := by
  rcases h8 with ⟨L, bo8, cc8, h1, h2, rfl, h4⟩ | ⟨hno, -⟩
  ·exact ⟨L, bo8, _, cc8, rfl, h4.src, fun p hp => recsB_inj h1 (ok_rA p hp) (by have := h4.big; omega) (show (1 : Nat) ≤ 9223372036854775807 by decide) (by rw [← h2, bytes_rA p hp])⟩
  ·exact absurd (bytes_rA ⟨none, 0, 0, none, 0, 0, PO⟩ rfl).symm (hno _ ⟨ok_rA _ rfl, (show (1 : Nat) ≤ 9223372036854775807 by decide)⟩)
 have HB8 := hide (HB7.out.trans (b8.mono HB7.out.size))
 obtain ⟨g9, hg9⟩ : ∃ g9, w8.heap.size = g9 := ⟨_, rfl⟩
 obtain ⟨p9, hp9⟩ : ∃ p9 : Pv, (⟨some ⟨g9, 0, none⟩, 1, 1, none, 0, 0, PO⟩ : Pv) = p9 := ⟨_, rfl⟩
 have hbp : (PC pv0).setIfInBounds 0 (.slice (some ⟨g9, 0, none⟩) 1 1) = PC p9 := by rw [← hp9]; rfl
 have hpp : p9.P = PO := by rw [← hp9]
 have S9 := src_rA w8 3 61 g9 hg9 p9 hp9.symm
 have b9 := below_new w8 (.cells #[.int .i64 1] 3)
 have b10 := b9.trans ((below_new (w8.alloc (.cells #[.int .i64 1] 3)) (.cells (ReC (mkR ⟨⟨#[]⟩, p9⟩)) 61)).mono b9.size)
 obtain ⟨w9, hw9⟩ : ∃ w9, (w8.alloc (.cells #[.int .i64 1] 3)).alloc (.cells (ReC (mkR ⟨⟨#[]⟩, p9⟩)) 61) = w9 := ⟨_, rfl⟩
 rw [hw9] at S9 b10
 have HB9 := hide (HB8.out.trans (b10.mono HB8.out.size))
 have HC := hide (sameRecords_any bo8 (some ⟨g9 + 1, 0, none⟩) n8 1 cc8 1 L [⟨⟨#[]⟩, p9⟩] w9 (S8.below b10) S9)
 have HE := hide (hL p9 hpp)
 clear b8 h8 HG S8 S9 b9 b10 hp9 hpp hL
 go_wp2_with fail
 change Calls _ _ _ ((w8.alloc (.cells #[.int .i64 1] 3)).alloc (.cells (ReC (mkR ⟨⟨#[]⟩, p9⟩)) 61)) _
 rw [hw9]
 clear hg9 hw9 hbp
 refine HC.out.mono ?_
 rintro e w10 ⟨x, rfl, hx, b10⟩
 obtain rfl : x = true := hx.2 HE.out
 have HB10 := hide (HB9.out.trans (b10.mono HB9.out.size))
 clear hx b10 HC
 go_wp2_with fail
 go_ret
 exact ⟨rfl, HB10.out⟩
end Go.Proofs.YtphohmoibnoeaaaGreat
