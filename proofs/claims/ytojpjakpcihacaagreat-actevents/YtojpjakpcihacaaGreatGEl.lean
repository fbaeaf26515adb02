/- ActEvents: the law. -/
import Derived.Test.YtojpjakpcihacaaGreatGRv
namespace Go.Proofs.YtojpjakpcihacaaGreat
open Go.RowKit
attribute [local go_sem ↓] ldP_eq stP_eq ldFa_eq stFa_eq ldD_eq stD_eq
attribute [local go_sem] cells_PV PC_size cells_FaV FaC_size cells_RV RC_size

def sA : ByteArray := ⟨#[65]⟩
def e1 : K.En := ⟨0, 1, sA, 5⟩
def e2 : K.En := ⟨1, 2, sA, 7⟩
def two : Array Value := #[.int .i64 0, .int .i64 1, .string ⟨#[65]⟩, .int .i64 5, .int .i64 1, .int .i64 2, .string ⟨#[65]⟩, .int .i64 7]
def f2 (w : World) : Fc := ⟨some ⟨w.heap.size, 0, none⟩, 2, 2, [e1, e2], pv0, none, 0, 0, []⟩
def f0 : Fc := ⟨none, 0, 0, [], pv0, none, 0, 0, []⟩
theorem BIf.same {a b : Bool} {P : Prop} (h : BIf a P) (k : BIf b P) : a = b := by
  cases a <;> cases b <;> first | rfl | (have := h.out.1 rfl; have := k.out.2 this; cases this) | (have := k.out.1 rfl; have := h.out.2 this; cases this)
theorem form0 : InForm pv0.P := ⟨by decide, trivial⟩
theorem f2_ok (w : World) : FcOk (w.alloc (.cells two 40)) (f2 w) := by
  refine ⟨⟨rfl, (fun h => by cases h), fun ad h t ht => ?_, ?_, (show (2 : Nat) ≤ 3518437208883 by decide)⟩, PSrc.zero _, RcS.empty _⟩
  · obtain rfl := Option.some.inj h
    have h1 := heap_alloc_new w (.cells two 40)
    have ht2 : t < 2 := ht
    unfold f2
    dsimp only
    generalize w.alloc (.cells two 40) = W at h1 ⊢
    generalize w.heap.size = g at h1 ⊢
    clear h ht
    obtain rfl | rfl : t = 0 ∨ t = 1 := by omega
    · refine ⟨?_, ?_, ?_, ?_⟩ <;> simp [Addr.add, World.cell?, h1, two, e1, sA]
    · refine ⟨?_, ?_, ?_, ?_⟩ <;> simp [Addr.add, World.cell?, h1, two, e2, sA]
  · intro e he
    rcases List.mem_cons.1 he with rfl | he
    · exact (show (1 : Nat) ≤ maxLen by decide)
    · rcases List.mem_cons.1 he with rfl | he
      · exact (show (1 : Nat) ≤ maxLen by decide)
      · cases he
theorem f2_ev (w : World) : EvOf (f2 w) 2 := by
  refine .inr (.inl ⟨⟨(show K.okN [e1, e2] 2 = true by decide), form0, okR_zero _⟩, ?_, rfl⟩)
  rintro (⟨h1, h2⟩ | ⟨h1, h2, _⟩ | ⟨h1, h2, _⟩) <;> cases h1
theorem f0_ok (w : World) : FcOk w f0 := ⟨esrc_nil w, PSrc.zero w, RcS.empty w⟩
theorem f0_none : NoneF f0 := by
  refine ⟨rfl, rfl, fun r hr n hm => ?_⟩
  rcases (mem_runs pv0.P r hr n).1 hm with ⟨h1, h2, h3 | ⟨c, hc, _⟩⟩
  · have h4 : n ≤ ([] : List Int).getD r 0 := h3
    simp at h4
    omega
  · cases hc
set_option maxRecDepth 100000 in
set_option maxHeartbeats 3200000 in
theorem events_any (f : Fc) (w : World) (hF : FcOk w f) : Calls Tryz.prog 4 #[FaV (mkF f)] w fun e w' => e = .returned (.bool true) ∧ Below w.heap.size w w' := by
  have HX := hide (FaBox_new w (mkF f))
  have HBK := hide (below_new w (.cells (FaC (mkF f)) 38))
  have HS := hide (hF.below HBK.out)
  clear hF
  obtain ⟨wk, hwk⟩ : ∃ wk, w.alloc (.cells (FaC (mkF f)) 38) = wk := ⟨_, rfl⟩
  obtain ⟨G, hG⟩ : ∃ G, w.heap.size = G := ⟨_, rfl⟩
  rw [hwk] at HX HBK HS
  rw [hG] at HX
  go_enter Tryz.func4, Tryz.ntmps4
  go_wp2_with fail
  clear hwk hG
  have b1 := below_new wk (.cells two 40)
  refine (show Calls Tryz.prog 9 #[.agg #[.slice (some ⟨wk.heap.size, 0, none⟩) 2 2, .slice none 0 0, .slice none 0 0, .slice none 0 0]] (wk.alloc (.cells #[.int .i64 0, .int .i64 1, .string ⟨#[65]⟩, .int .i64 5, .int .i64 1, .int .i64 2, .string ⟨#[65]⟩, .int .i64 7] 40)) _ from actEvent_any (f2 wk) _ (f2_ok wk)).mono ?_
  rintro e w2 ⟨x, rfl, hx, b2⟩
  obtain rfl := hx.unique (f2_ev wk)
  have bb := b1.trans (b2.mono b1.size)
  have HB2 := hide (HBK.out.trans (bb.mono HBK.out.size))
  have HX2 := hide (HX.out.below bb)
  have HS2 := hide (HS.out.below bb)
  clear b1 b2 bb hx HX HS HBK
  go_wp2_with fail
  refine (show Calls Tryz.prog 10 #[.agg #[.slice none 0 0, .slice none 0 0, .slice none 0 0, .slice none 0 0]] w2 _ from actEmpty_any f0 _ (f0_ok w2)).mono ?_
  rintro e w3 ⟨b, rfl, hb, b3⟩
  obtain rfl : b = true := hb.out.2 f0_none
  have HB3 := hide (HB2.out.trans (b3.mono HB2.out.size))
  have HX3 := hide (HX2.out.below b3)
  have HS3 := hide (HS2.out.below b3)
  clear b3 hb HX2 HS2 HB2
  go_wp2_with fail
  refine wp_region_held_drew (S := fun v => (ldFa (.pointer (some ⟨G, 0, none⟩))).run Tryz.prog v = .ok (.agg (FaC (mkF f))) v) (by kernel_rfl) (run_ldFa (HX3.out.below (below_drew1 w3))) (fun hHeld => ?_)
  refine wpAnyH_take (i := 0) (oi := { dst := some 20, op := Op.load 38 (Operand.tmp 1), type := 38, pos := "law.go:93", after := #[], guard := none }) (v := ?_) rfl (by kernel_rfl) (by kernel_rfl) (by kernel_rfl) (fun _ _ _ h => h) (Or.inl ⟨by rfl, ?_⟩) (by assumption) ?_
  rotate_left
  · (intro w hSw; (try dsimp only at hSw); go_simp); first | done | with_reducible rfl
  simp only [Act.put, List.setIfInBounds_toArray, List.set_cons_zero, List.set_cons_succ]
  refine wpAnyH_take (i := 2) (oi := { dst := some 22, op := Op.load 38 (Operand.tmp 1), type := 38, pos := "law.go:93", after := #[], guard := none }) (v := ?_) rfl (by kernel_rfl) (by kernel_rfl) (by kernel_rfl) (fun _ _ _ h => h) (Or.inl ⟨by rfl, ?_⟩) (by assumption) ?_
  rotate_left
  · (intro w hSw; (try dsimp only at hSw); go_simp); first | done | with_reducible rfl
  simp only [Act.put, List.setIfInBounds_toArray, List.set_cons_zero, List.set_cons_succ]
  refine wpAnyH_ready (rs := [1]) (by kernel_rfl) (by simp) ?_
  refine AllReadyH.cons rfl (fun K hK => ?_) ?_
  rotate_left
  · exact AllReadyH.nil
  go_simp
  go_wp2_with fail
  refine (refEvent_any f _ (HS3.out.below (below_drew1 w3))).mono ?_
  rintro e w4 ⟨x, rfl, hx, b4⟩
  have hB4 : Below w3.heap.size w3 w4 := (below_drew1 w3).trans b4
  have HB4 := hide hB4
  have HEx := hide hx
  refine hK.out _ _ (run_ldFa (HX3.out.below (hB4))) (fun hHeld => ?_)
  clear hK K b4 hx
  refine wpAnyH_ready (rs := [3]) (by kernel_rfl) (by simp) ?_
  refine AllReadyH.cons rfl (fun K hK => ?_) ?_
  rotate_left
  · exact AllReadyH.nil
  go_simp
  go_wp2_with fail
  refine (refActEmpty_any f _ (HS3.out.below hB4)).mono ?_
  rintro e w5 ⟨b, rfl, hb, b5⟩
  have hB5 : Below w3.heap.size w3 w5 := HB4.out.trans (b5.mono HB4.out.size)
  have HB5 := hide (HB3.out.trans (hB5.mono HB3.out.size))
  have HX5 := hide (HX3.out.below hB5)
  have HS5 := hide (HS3.out.below hB5)
  have HBb := hide hb
  refine hK.out _ _ (run_ldFa (HX3.out.below (hB5))) (fun hHeld => ?_)
  clear hK K b5 hb hB4 hB5
  refine wpAnyH_take (i := 4) (oi := { dst := some 4, op := Op.assign (Operand.tmp 21), type := 30, pos := "law.go:93", after := #[{ on := 1, ground := Ground.data }, { on := 3, ground := Ground.chain }, { on := 0, ground := Ground.phase }, { on := 1, ground := Ground.phase }, { on := 2, ground := Ground.textOnly Departure.lateStores }, { on := 3, ground := Ground.textOnly Departure.lateStoresUnsure }], guard := none }) (v := ?_) rfl (by kernel_rfl) (by kernel_rfl) (by kernel_rfl) (fun _ _ _ h => h) (Or.inl ⟨by rfl, ?_⟩) (by assumption) ?_
  rotate_left
  · (intro w hSw; (try dsimp only at hSw); go_simp); first | done | with_reducible rfl
  simp only [Act.put, List.setIfInBounds_toArray, List.set_cons_zero, List.set_cons_succ]
  refine wpAnyH_take (i := 5) (oi := { dst := some 5, op := Op.assign (Operand.tmp 23), type := 4, pos := "law.go:93", after := #[{ on := 3, ground := Ground.data }, { on := 4, ground := Ground.chain }, { on := 0, ground := Ground.phase }, { on := 1, ground := Ground.phase }, { on := 2, ground := Ground.phase }, { on := 3, ground := Ground.phase }, { on := 4, ground := Ground.phase }], guard := none }) (v := ?_) rfl (by kernel_rfl) (by kernel_rfl) (by kernel_rfl) (fun _ _ _ h => h) (Or.inl ⟨by rfl, ?_⟩) (by assumption) ?_
  rotate_left
  · (intro w hSw; (try dsimp only at hSw); go_simp); first | done | with_reducible rfl
  simp only [Act.put, List.setIfInBounds_toArray, List.set_cons_zero, List.set_cons_succ]
  refine wpAnyH_done (by kernel_rfl) ?_ _
  clear hHeld
  have lf := run_ldFa HX5.out
  go_wp2_with fail
  refine (actEvent_any f _ HS5.out).mono ?_
  rintro e w6 ⟨y, rfl, hy, b6⟩
  obtain rfl := hy.unique HEx.out
  have HB6 := hide (HB5.out.trans (b6.mono HB5.out.size))
  have lf6 := run_ldFa (HX5.out.below b6)
  have HS6 := hide (HS5.out.below b6)
  clear b6 lf hy
  go_wp2_with fail
  refine (actEmpty_any f _ HS6.out).mono ?_
  rintro e w7 ⟨c, rfl, hc, b7⟩
  obtain rfl : c = b := hc.same HBb.out
  have HB7 := hide (HB6.out.trans (b7.mono HB6.out.size))
  clear b7 hc lf6
  go_wp2_with fail
  go_ret
  exact ⟨rfl, HB7.out⟩
end Go.Proofs.YtojpjakpcihacaaGreat
