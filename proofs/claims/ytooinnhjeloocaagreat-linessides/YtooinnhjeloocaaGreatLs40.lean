/- LCct LUp LUn LSp OLp -/
import Derived.Test.YtooinnhjeloocaaGreatLs39
import Derived.Laws.AppendOwnNone
import Derived.Deep.LoopGhost
import Derived.Test.YtooinnhjeloocaaGreatLs30
import Derived.Test.YtooinnhjeloocaaGreatLs32
import Derived.Test.YtooinnhjeloocaaGreatLs34
import Derived.Test.YtooinnhjeloocaaGreatLs37
namespace Go.Proofs.YtooinnhjeloocaaGreat.K
open Go.RowKit Go.Lib

theorem zc_size (n : Nat) : (Builtin.zeroCells (EC en0) n).size = n * 4 := by simp [Builtin.zeroCells, EC_size]
theorem below_drew1 (w : World) : Below w.heap.size w w.drew := ⟨rfl, rfl, rfl, Nat.le_refl _, fun _ _ => rfl⟩
theorem grow_nil (n : Nat) (w : World) (hn : n ≤ 3518437208883) : Calls Tryz.prog 39 #[.slice none 0 0, .int .i64 n] w fun e w' => ∃ ao c, e = .returned (.slice ao 0 c) ∧ OwnE w.heap.size w.heap.size w w' ao c [] := by
  by_cases h0 : n = 0
  · subst h0
    refine Calls.mono (Any8.slices_Grow_room Tryz.growEn none 0 0 0 w (Nat.le_refl _) (by omega) (by omega) (Nat.le_refl _)) ?_
    rintro e w' ⟨rfl, rfl⟩
    exact ⟨none, 0, rfl, OwnE.nil (Below.refl _ _) (Nat.le_refl _) (Nat.le_refl _)⟩
  · obtain ⟨i0, hi, hz0, hz1, hz2⟩ := info_parts info28
    have h := Any8.slices_Grow_grow Tryz.growEn i0 _ hi hz0 (by rw [hz1]; omega) none 0 0 n [] w (Nat.le_refl _) (by omega) (by rw [hz2]; omega) (by omega) (by simp) (fun _ => rfl) (fun a ha => by cases ha)
    rw [show Tryz.growEn_ren.t 25 = 36 from rfl] at h
    refine Calls.mono h ?_
    rintro e w' ⟨rfl, rfl⟩
    have hge := grownCap_ge w (0 + n) 0 36
    have hle := grownCap_le_maxLen w (0 + n) 0 36 (by unfold maxLen; omega)
    refine ⟨some ⟨w.heap.size, 0, none⟩, grownCap w (0 + n) 0 36, rfl, ⟨rfl, Or.inr ⟨w.heap.size, grownCap w (0 + n) 0 36, _, rfl, Nat.le_refl _, heap_alloc_new w.drew _, Nat.zero_le _, hle, ?_, by simp [ecs]⟩⟩, (below_drew1 w).trans ((below_new w.drew _).mono (Nat.le_refl _)), by simp, Nat.le_refl _⟩
    have hc : (Value.agg #[.int .i64 0, .int .i64 0, .string ⟨#[]⟩, .int .i64 0]).cells = EC en0 := by simp [Value.cells]; rfl
    rw [hc]
    simp only [Array.size_append, zc_size]
    rw [Nat.zero_add] at hge ⊢
    simp
    omega
/-- a whole row appended -/
theorem OwnE.appendAll {B0 B : Nat} {w w' : World} {ao : Option Addr} {cap : Nat} {acc : List En} (O : OwnE B0 B w w' ao cap acc) (bo : Option Addr) (m c : Nat) (R : List En) (hR : ESrc w' bo m c R) (hlen : acc.length + m ≤ 3518437208883)
    {ops : Array Oper} {rest : List Oper} {o : Oper} {a : Act} {Q : Exit → Act → World → Prop} (hgd : o.guard = none) (s x : Operand) (ho : o.op = .call { callee := .builtin .append, args := #[s, x], argTypes := #[22, 22] })
    (n : Nat) (hn : acc.length = n) (hs : a.eval s = .slice ao n cap) (hx : a.eval x = .slice bo m c)
    (hK : ∀ (ap : Option Addr) (cap2 : Nat) (w2 : World), OwnE B0 B w w2 ap cap2 (acc ++ R) → wpList Tryz.prog ops Q rest (a.put o.dst (.slice ap (n + m) cap2)) w2) :
    wpList Tryz.prog ops Q (o :: rest) a w' := by
  subst hn
  obtain ⟨i0, hi, hz0, hz1, hz2⟩ := info_parts info28
  have hB := O.hB
  have hB0 := O.hB0
  cases bo with
  | none =>
    obtain ⟨rfl, rfl⟩ := hR.2.1 rfl
    obtain rfl : R = [] := List.eq_nil_of_length_eq_zero hR.1
    refine wpList_append_own_none hgd s x 22 ho B 36 i0 4 Tryz.underlying22 hi _ acc.length (ecs acc) hs O.own hx ?_
    have := hK ao cap w' (by rw [List.append_nil]; exact O)
    exact this
  | some ad =>
    refine wpList_append_own _ hgd s x 22 ho B 36 i0 (.agg #[.int .i64 0, .int .i64 0, .string ⟨#[]⟩, .int .i64 0]) 4 40 Tryz.underlying22 hi hz0 hz1 hz2 rfl (by decide) _ acc.length (ecs acc) hs O.own ad m c (ecs R) hx (by rw [ecs_length, hR.1]) (fun j u hj => hR.cells j u hj) (ecs_onecell R) (by unfold maxLen; omega) (by omega) hB ?_
    intro v' w2 hown hgrow _
    have hrow : ∀ k, (Value.slice ao acc.length cap).ownBlock = some k → B ≤ k := fun k hk => (O.own.lt k hk).1
    have hsz := hgrow.size
    have hbel : Below B0 w w2 := O.below.grown hgrow (by omega) (fun k hk => by have := hrow k hk; omega)
    have hm : m = R.length := hR.1.symm
    have hown2 : w2.ownsRow B 36 4 v' (acc ++ R).length (ecs (acc ++ R)) := by rw [List.length_append, ecs_append, ← hm]; exact hown
    rcases hown.2 with ⟨h0, h00⟩ | ⟨g, cap2, cur, hv, r⟩
    · subst h0
      have e0 : acc.length + m = 0 := h00
      have := hK none 0 w2 ⟨by rw [List.length_append, ← hm, e0] at hown2; rw [List.length_append, ← hm, e0]; exact hown2, hbel, by omega, hB0⟩
      rwa [e0] at this
    · subst hv
      exact hK (some ⟨g, 0, none⟩) cap2 w2 ⟨by rw [List.length_append, ← hm] at hown2 ⊢; exact hown2, hbel, by omega, hB0⟩
set_option maxRecDepth 100000 in
set_option maxHeartbeats 4000000 in
theorem concat_any (gb : Nat) (ao bo : Option Addr) (n cap m cap' : Nat) (L R : List En) (w : World) (hS : ESrc w ao n cap L) (hR : ESrc w bo m cap' R) (c0 : w.cell? ⟨gb, 0, none⟩ = some (.slice ao n cap)) (c1 : w.cell? ⟨gb, 1, none⟩ = some (.slice bo m cap')) (hlen : n + m ≤ 3518437208883) :
    Calls Tryz.prog 22 #[.slice (some ⟨gb, 0, none⟩) 2 2] w fun e w' => ∃ ap c, e = .returned (.slice ap (n + m) c) ∧ OwnE w.heap.size w.heap.size w w' ap c (L ++ R) := by
  have HS := hide hS
  have HR := hide hR
  have HL : Hid (L.length = n) := hS.1
  have HLR : Hid (R.length = m) := hR.1
  have HC0 := hide c0
  have HC1 := hide c1
  clear hS hR
  go_enter Tryz.func22, Tryz.ntmps22
  go_wp2_with fail
  go_loopw [3, 5, 11] (fun s _ i wr => ∃ k z : Nat, k ≤ 2 ∧ s = .int .i64 z ∧ i = .int .i64 k ∧ z = (if k = 0 then 0 else if k = 1 then n else n + m) ∧ w = wr) (fun _ _ i _ => 2 - (intOf i).toNat)
  case atStart => exact ⟨0, 0, Nat.zero_le _, rfl, rfl, rfl, rfl⟩
  case round =>
    obtain ⟨k, z, hk, rfl, rfl, hz, rfl⟩ := hrel
    by_cases h2 : k = 2
    · subst h2
      simp at hz
      subst hz
      clear c0 c1
      go_wp2_with fail
      refine (grow_nil (n + m) _ hlen).mono ?_
      rintro e w3 ⟨a3, c3, rfl, O3⟩
      have HO3 := hide O3
      clear O3
      go_wp2_with fail
      go_loopw [6, 8, 27] (fun v _ i wr => ∃ (k : Nat) (ap : Option Addr) (c : Nat) (acc : List En), k ≤ 2 ∧ v = .slice ap acc.length c ∧ i = .int .i64 k ∧ Hid (acc = (if k = 0 then [] else if k = 1 then L else L ++ R) ∧ OwnE w.heap.size w.heap.size w wr ap c acc)) (fun _ _ i _ => 2 - (intOf i).toNat)
      case atStart => exact ⟨0, a3, c3, [], Nat.zero_le _, rfl, rfl, rfl, HO3.out⟩
      case round =>
        clear HO3
        obtain ⟨k, ap, c, acc, hk, rfl, rfl, H⟩ := hrel
        rename World => w4
        have d0 : w4.cell? ⟨gb, 0, none⟩ = some (.slice ao n cap) := by rw [H.out.2.below.cell (World.block_lt_of_cell? _ _ HC0.out)]; exact HC0.out
        have d1 : w4.cell? ⟨gb, 1, none⟩ = some (.slice bo m cap') := by rw [H.out.2.below.cell (World.block_lt_of_cell? _ _ HC1.out)]; exact HC1.out
        by_cases h2 : k = 2
        · subst h2
          have HF : Hid (∃ c', (Value.slice ap acc.length c : Value) = .slice ap (n + m) c' ∧ OwnE w.heap.size w.heap.size w w4 ap c' (L ++ R)) := by
            have e : acc = L ++ R := H.out.1
            rw [e, List.length_append, HL.out, HLR.out]
            exact ⟨c, rfl, by rw [← e]; exact H.out.2⟩
          clear d0 d1
          go_wp2_with fail
          go_ret
          obtain ⟨c', e1, e2⟩ := HF.out
          exact ⟨ap, c', by rw [e1]; rfl, e2⟩
        · by_cases h1 : k = 1
          · subst h1
            have e : acc = L := H.out.1
            have hal : acc.length = n := by rw [e]; exact HL.out
            have HR4 := hide (HR.out.below H.out.2.below)
            go_wp2_with (at_builtin; refine H.out.2.appendAll bo m cap' R HR4.out (by omega) rfl (.tmp 31) (.tmp 32) rfl acc.length rfl rfl rfl ?_; intro a5 c5 w5 O5)
            go_roundw
            case rel => exact ⟨1 + 1, a5, c5, acc ++ R, by omega, by simp [List.length_append, HLR.out, HL.out, e], by go_num, by rw [e]; rfl, O5⟩
            case measure => simp [intOf]
          · obtain rfl : k = 0 := by omega
            have e : acc = [] := H.out.1
            have hal : acc.length = 0 := by rw [e]; rfl
            have HS4 := hide (HS.out.below H.out.2.below)
            go_wp2_with (at_builtin; refine H.out.2.appendAll ao n cap L HS4.out (by omega) rfl (.tmp 31) (.tmp 32) rfl acc.length rfl rfl rfl ?_; intro a5 c5 w5 O5)
            go_roundw
            case rel => exact ⟨0 + 1, a5, c5, acc ++ L, by omega, by simp [HL.out, e], by go_num, by rw [e]; rfl, O5⟩
            case measure => simp [intOf]
    · by_cases h1 : k = 1
      · subst h1
        simp at hz
        subst hz
        go_wp2_with fail
        go_roundw
        case rel => exact ⟨1 + 1, z + m, by omega, by go_num, by go_num, rfl, trivial⟩
        case measure => simp [intOf]
      · obtain rfl : k = 0 := by omega
        simp at hz
        subst hz
        go_wp2_with fail
        go_roundw
        case rel => exact ⟨0 + 1, n, by omega, by go_num, by go_num, rfl, trivial⟩
        case measure => simp [intOf]
end Go.Proofs.YtooinnhjeloocaaGreat.K
namespace Go.Proofs.YtooinnhjeloocaaGreat.K
open Go.RowKit

/-- a dot's number among all dots -/
def code (e : En) : Int := e.rep * 1000000000 + e.num
theorem code_lt {x y : En} (hx : ceE x = 0) (hy : ceE y = 0) (h : ahead x y = true) : code x < code y := by
  have bx : ∀ z : En, ceE z = 0 → (0 ≤ z.rep ∧ z.rep < 16) ∧ 1 ≤ z.num ∧ z.num ≤ 1000000000 := by
    intro z hz
    unfold ceE at hz
    by_cases h1 : isR z.rep = false
    · rw [if_pos h1] at hz; omega
    · rw [if_neg h1] at hz
      by_cases h2 : z.num < 1 ∨ 1000000000 < z.num
      · rw [if_pos h2] at hz; omega
      · have h1' : isR z.rep = true := by simpa using h1
        unfold isR at h1'
        simp at h1'
        exact ⟨h1', by omega, by omega⟩
  have b1 := bx x hx
  have b2 := bx y hy
  simp [ahead] at h
  unfold code
  omega
theorem code_bd {z : En} (hz : ceE z = 0) : 1 ≤ code z ∧ code z ≤ 16000000000 := by
  unfold ceE at hz
  by_cases h1 : isR z.rep = false
  · rw [if_pos h1] at hz; omega
  · rw [if_neg h1] at hz
    by_cases h2 : z.num < 1 ∨ 1000000000 < z.num
    · rw [if_pos h2] at hz; omega
    · have h1' : isR z.rep = true := by simpa using h1
      unfold isR at h1'
      simp at h1'
      unfold code
      omega
theorem okN_at (L : List En) (n : Nat) (h : okN L n = true) (k : Nat) (hk : k < n) : okAt L k = true := by
  unfold okN at h
  exact List.all_eq_true.1 h k (List.mem_range.2 hk)
theorem chk_zero {L : List En} (h : chk L = 0) : okN L L.length = true := by
  unfold chk at h
  by_cases e : okN L L.length = true
  · exact e
  · rw [if_neg e] at h; omega
theorem chk_len {L : List En} (h : chk L = 0) : L.length ≤ 16000000000 := by
  have ho := chk_zero h
  have key : ∀ k, k < L.length → ((k : Nat) : Int) + 1 ≤ code (L.getD k en0) := by
    intro k
    induction k with
    | zero =>
      intro hk
      have := okN_at L _ ho 0 hk
      simp [okAt] at this
      have := code_bd this
      simpa using this.1
    | succ k ih =>
      intro hk
      have h1 := okN_at L _ ho (k + 1) hk
      have h0 := okN_at L _ ho k (by omega)
      simp only [okAt, Bool.and_eq_true, beq_iff_eq, Bool.or_eq_true, decide_eq_true_eq, Nat.add_sub_cancel] at h0 h1
      have ha : ahead (L.getD k en0) (L.getD (k + 1) en0) = true := by
        rcases h1.2 with e | e
        · omega
        · exact e
      have := code_lt h0.1 h1.1 ha
      have := ih (by omega)
      omega
  rcases Nat.eq_zero_or_pos L.length with h0 | h0
  · omega
  · have h1 := key (L.length - 1) (by omega)
    have h2 := okN_at L _ ho (L.length - 1) (by omega)
    simp only [okAt, Bool.and_eq_true, beq_iff_eq] at h2
    have := (code_bd h2.1).2
    omega
end Go.Proofs.YtooinnhjeloocaaGreat.K
namespace Go.Proofs.YtooinnhjeloocaaGreat.K
open Go.RowKit Go.Lib
attribute [local go_sem ↓] ld28_eq st28_eq
attribute [local go_sem] zero_EC cells_EV EC_size fold_EC
/-- what Union answers -/
def UnionOf (A B R : List En) (er : Int) : Prop := (¬ (chk A = 0 ∧ chk B = 0) ∧ R = [] ∧ er = 1) ∨ ((chk A = 0 ∧ chk B = 0) ∧ Settled (A ++ B) R er)
theorem UnionOf.unique {A B R R' : List En} {e e' : Int} (h : UnionOf A B R e) (h' : UnionOf A B R' e') : R = R' ∧ e = e' := by
  rcases h with ⟨a, b, c⟩ | ⟨a, b⟩
  · rcases h' with ⟨_, b', c'⟩ | ⟨a', _⟩
    · exact ⟨b.trans b'.symm, c.trans c'.symm⟩
    · exact absurd a' a
  · rcases h' with ⟨a', _⟩ | ⟨_, b'⟩
    · exact absurd a a'
    · exact b.unique b'
def GivesU (w w' : World) (e : Ending) (A B : List En) : Prop := ∃ ao n c R er, e = .returned (.tuple #[.slice ao n c, .int .i64 er]) ∧ ESrc w' ao n c R ∧ Below w.heap.size w w' ∧ UnionOf A B R er
theorem unionBad {w w' : World} {A B : List En} (h : ¬ (chk A = 0 ∧ chk B = 0)) (hb : Below w.heap.size w w') : GivesU w w' (.returned (.tuple #[.slice none 0 0, .int .i64 1])) A B :=
  ⟨none, 0, 0, [], 1, rfl, ESrc.none _, hb, Or.inl ⟨h, rfl, rfl⟩⟩
set_option maxRecDepth 100000 in
set_option maxHeartbeats 4000000 in
theorem union_any (ao bo : Option Addr) (n cap m cap' : Nat) (A B : List En) (w : World) (hS : ESrc w ao n cap A) (hR : ESrc w bo m cap' B) :
    Calls Tryz.prog 9 #[.slice ao n cap, .slice bo m cap'] w fun e w' => GivesU w w' e A B := by
  have HS := hide hS
  have HR := hide hR
  clear hS hR
  obtain ⟨p, Hp⟩ : ∃ p, Hid (chk A = p) := ⟨_, rfl⟩
  obtain ⟨q, Hq⟩ : ∃ q, Hid (chk B = q) := ⟨_, rfl⟩
  by_cases h1 : p = 0
  · by_cases h2 : q = 0
    · have HA : Hid (chk A = 0 ∧ chk B = 0) := ⟨Hp.out.trans h1, Hq.out.trans h2⟩
      have d1 : (p != 0) = false := by simpa using h1
      have d2 : (q != 0) = false := by simpa using h2
      have hlen : n + m ≤ 3518437208883 := by
        have l1 := chk_len HA.out.1
        have l2 := chk_len HA.out.2
        rw [HS.out.1] at l1
        rw [HR.out.1] at l2
        omega
      clear h1 h2
      go_enter Tryz.func9, Tryz.ntmps9
      go_wp2_with fail
      refine (lcheck_any ao n cap A _ HS.out).mono ?_
      rintro e w1 ⟨rfl, b1⟩
      rw [Hp.out]
      have HB1 := hide b1
      clear b1
      go_wp2_with fail
      refine (lcheck_any bo m cap' B _ (HR.out.below HB1.out)).mono ?_
      rintro e w2 ⟨rfl, b2⟩
      rw [Hq.out]
      have HB2 := hide (HB1.out.trans (b2.mono HB1.out.size))
      clear b2
      go_wp2_with fail
      have B3 := below_new w2 (.cells #[.slice ao n cap, .slice bo m cap'] 22)
      have k0 : (w2.alloc (.cells #[.slice ao n cap, .slice bo m cap'] 22)).cell? ⟨w2.heap.size, 0, none⟩ = some (.slice ao n cap) := by simp
      have k1 : (w2.alloc (.cells #[.slice ao n cap, .slice bo m cap'] 22)).cell? ⟨w2.heap.size, 1, none⟩ = some (.slice bo m cap') := by simp
      have HB3 := hide (HB2.out.trans (B3.mono HB2.out.size))
      refine (concat_any w2.heap.size ao bo n cap m cap' A B _ (HS.out.below HB3.out) (HR.out.below HB3.out) k0 k1 hlen).mono ?_
      rintro e w4 ⟨a4, c4, rfl, O4⟩
      have HO4 := hide O4
      have HB4 := hide (HB3.out.trans (O4.below.mono HB3.out.size))
      have HZ : Hid (w.heap.size ≤ (w2.alloc (.cells #[.slice ao n cap, .slice bo m cap'] 22)).heap.size) := HB3.out.size
      have hsk : ∀ e ∈ A ++ B, e.sku.size ≤ maxLen := fun e he => by
        rcases List.mem_append.1 he with h | h
        · exact HS.out.2.2.2.1 e h
        · exact HR.out.2.2.2.1 e h
      have HSK := hide hsk
      have HLL : Hid ((A ++ B).length = n + m) := by show _ = _; rw [List.length_append, HS.out.1, HR.out.1]
      clear O4 B3 k0 k1 hsk
      cases a4 with
      | none =>
        obtain ⟨S4, _⟩ := HO4.out.src HSK.out (by rw [HLL.out]; exact hlen)
        obtain ⟨e1, rfl⟩ := S4.2.1 rfl
        have HE : Hid (A ++ B = []) := List.eq_nil_of_length_eq_zero e1
        have hnm : n + m = 0 := by rw [← HLL.out]; exact e1
        rw [hnm]
        clear S4 e1
        go_wp2_with fail
        refine (rising0 none 0 _).mono ?_
        rintro e w6 ⟨rfl, b6⟩
        have HN : Hid (GivesU w w6 (.returned (.tuple #[.slice none 0 0, .int .i64 0])) A B) := ⟨none, 0, 0, [], 0, rfl, ESrc.none _, HB4.out.trans (b6.mono HB4.out.size), Or.inr ⟨HA.out, by rw [HE.out]; exact settled_nil⟩⟩
        clear b6
        go_wp2_with fail
        go_ret2
        exact HN.out
      | some a4 =>
        obtain ⟨M4, hc1, hc2, hbb⟩ := HO4.out.mr
        have HM4 := hide M4
        have HC1 : Hid (n + m ≤ c4) := by show _ ≤ _; rw [← HLL.out]; exact hc1
        have HC2 := hide hc2
        have HBB : Hid (w.heap.size ≤ a4.block) := Nat.le_trans HZ.out hbb
        clear M4 hc1 hc2 hbb
        go_wp2_with fail
        refine (rising_any a4 c4 (n + m) (A ++ B).toArray _ HM4.out (by rw [List.size_toArray]; exact HLL.out) hlen HC1.out HC2.out (by simpa using HSK.out)).mono ?_
        rintro e w6 ⟨a6, n6, c6, R6, er, rfl, S6, b6, f6, t6⟩
        have HN : Hid (GivesU w w6 (.returned (.tuple #[.slice a6 n6 c6, .int .i64 er])) A B) :=
          ⟨a6, n6, c6, R6, er, rfl, S6, HB4.out.trans (b6.mono HBB.out), Or.inr ⟨HA.out, by simpa using t6⟩⟩
        clear S6 b6 f6 t6
        go_wp2_with fail
        go_ret2
        exact HN.out
    · have HX : Hid (¬ (chk A = 0 ∧ chk B = 0)) := fun h => h2 (Hq.out.symm.trans h.2)
      have d1 : (p != 0) = false := by simpa using h1
      have d2 : (q != 0) = true := by simpa using h2
      clear h1 h2
      go_enter Tryz.func9, Tryz.ntmps9
      go_wp2_with fail
      refine (lcheck_any ao n cap A _ HS.out).mono ?_
      rintro e w1 ⟨rfl, b1⟩
      rw [Hp.out]
      have HB1 := hide b1
      clear b1
      go_wp2_with fail
      refine (lcheck_any bo m cap' B _ (HR.out.below HB1.out)).mono ?_
      rintro e w2 ⟨rfl, b2⟩
      rw [Hq.out]
      have HB2 := hide (HB1.out.trans (b2.mono HB1.out.size))
      clear b2
      go_wp2_with fail
      go_ret2
      exact unionBad HX.out HB2.out
  · have HX : Hid (¬ (chk A = 0 ∧ chk B = 0)) := fun h => h1 (Hp.out.symm.trans h.1)
    have d1 : (p != 0) = true := by simpa using h1
    clear h1
    go_enter Tryz.func9, Tryz.ntmps9
    go_wp2_with fail
    refine (lcheck_any ao n cap A _ HS.out).mono ?_
    rintro e w1 ⟨rfl, b1⟩
    rw [Hp.out]
    have HB1 := hide b1
    clear b1
    go_wp2_with fail
    go_ret2
    exact unionBad HX.out HB1.out
end Go.Proofs.YtooinnhjeloocaaGreat.K
namespace Go.Proofs.YtooinnhjeloocaaGreat.K
open Go.RowKit

theorem first_iff (L : List En) : firstE L = 0 ↔ ∀ e ∈ L, ceE e = 0 := by
  induction L with
  | nil => simp [firstE]
  | cons a L ih =>
    by_cases h : ceE a = 0
    · rw [firstE, if_pos h, ih]; simp [h]
    · rw [firstE, if_neg h]; simp [h]
theorem Clash.sub {A B : List En} (h : Clash A) (hm : ∀ x, x ∈ A → x ∈ B) : Clash B := by
  obtain ⟨x, hx, y, hy, hs, hne⟩ := h
  exact ⟨x, hm x hx, y, hm y hy, hs, hne⟩
/-- what Sort answers, where it answers no error -/
theorem sorted_zero {L R : List En} {er : Int} (h : Sorted L R er) (he : er = 0) : (∀ e ∈ L, ceE e = 0) ∧ ¬ Clash L ∧ Asc R ∧ ∀ x, x ∈ R ↔ x ∈ L := by
  rcases h with ⟨a, b, c⟩ | ⟨a, b⟩
  · exact absurd (c.symm.trans he) a
  · rcases b with ⟨_, _, h10⟩ | ⟨h1, _, h3, h4⟩
    · omega
    · exact ⟨(first_iff L).1 a, h1, h3, h4⟩
theorem sorted_none {L R : List En} {er : Int} (h : Sorted L R er) (he : er ≠ 0) : R = [] := by
  rcases h with ⟨_, b, _⟩ | ⟨_, b⟩
  · exact b
  · rcases b with ⟨_, h2, _⟩ | ⟨_, h2, _⟩
    · exact h2
    · exact absurd h2 he
theorem sorted_mk {L R : List En} (hc : ∀ e ∈ L, ceE e = 0) (hn : ¬ Clash L) (ha : Asc R) (hm : ∀ x, x ∈ R ↔ x ∈ L) : Sorted L R 0 :=
  Or.inr ⟨(first_iff L).2 hc, Or.inr ⟨hn, rfl, ha, hm⟩⟩
theorem sorted_good {L R : List En} {er : Int} (hc : ∀ e ∈ L, ceE e = 0) (hn : ¬ Clash L) (h : Sorted L R er) : er = 0 ∧ Asc R ∧ ∀ x, x ∈ R ↔ x ∈ L := by
  rcases h with ⟨a, _⟩ | ⟨_, b⟩
  · exact absurd ((first_iff L).2 hc) a
  · rcases b with ⟨h1, _⟩ | ⟨_, h2, h3, h4⟩
    · exact absurd h1 hn
    · exact ⟨h2, h3, h4⟩
theorem chk_asc {R : List En} (ha : Asc R) (hc : ∀ e ∈ R, ceE e = 0) : chk R = 0 := by
  have key : okN R R.length = true := by
    unfold okN
    rw [List.all_eq_true]
    intro k hk
    have hk' := List.mem_range.1 hk
    unfold okAt
    rw [Bool.and_eq_true]
    refine ⟨?_, ?_⟩
    · rw [beq_iff_eq]; exact hc _ (getD_mem R k hk')
    · cases k with
      | zero => rfl
      | succ j =>
        have h := List.pairwise_iff_getElem.1 ha j (j + 1) (by omega) hk' (by omega)
        have e1 : R.getD j en0 = R[j] := by simp [List.getD, show j < R.length by omega]
        have e2 : R.getD (j + 1) en0 = R[j + 1] := by simp [List.getD, hk']
        simp only [Nat.add_sub_cancel, e1, e2, h, Bool.or_true]
  unfold chk; rw [if_pos key]
theorem chk_asc' {R : List En} (h : chk R = 0) : Asc R := by
  refine asc_of_adj R (fun i hi => ?_)
  have := okN_at R _ (chk_zero h) (i + 1) hi
  unfold okAt at this
  rw [Bool.and_eq_true] at this
  simpa using this.2
/-- the union of two sorted pieces -/
theorem union_of {A B R U : List En} {er : Int} (hA : Asc A) (hB : Asc B) (hc : ∀ e ∈ R, ceE e = 0) (hR : Asc R) (hm : ∀ x, x ∈ R ↔ x ∈ A ∨ x ∈ B) (h : UnionOf A B U er) : er = 0 ∧ U = R := by
  have ca : chk A = 0 := chk_asc hA (fun e he => hc e ((hm e).2 (Or.inl he)))
  have cb : chk B = 0 := chk_asc hB (fun e he => hc e ((hm e).2 (Or.inr he)))
  have hmm : ∀ x, x ∈ R ↔ x ∈ A ++ B := fun x => by rw [hm, List.mem_append]
  rcases h with ⟨h, _⟩ | ⟨_, h⟩
  · exact absurd ⟨ca, cb⟩ h
  · rcases h with ⟨h1, _⟩ | ⟨_, h2, h3, h4⟩
    · exact absurd h1 (asc_noclash hR hmm)
    · exact ⟨h2, asc_unique h3 hR (fun x => (h4 x).trans (hmm x).symm)⟩
end Go.Proofs.YtooinnhjeloocaaGreat.K
namespace Go.Proofs.YtooinnhjeloocaaGreat
open Go.RowKit
variable {w w' w2 W W' : World} {g : Nat}

theorem chk_ce {L : List K.En} (h : K.chk L = 0) : ∀ e ∈ L, K.ceE e = 0 := fun e he => by
  obtain ⟨k, hk, rfl⟩ := List.getElem_of_mem he
  have h1 := K.okN_at L _ (K.chk_zero h) k hk
  unfold K.okAt at h1
  rw [Bool.and_eq_true] at h1
  have e1 : L.getD k K.en0 = L[k] := by simp [List.getD, List.getElem?_eq_getElem hk]
  rw [e1] at h1
  simpa using h1.1
theorem ce_dot {e : K.En} (h : K.ceE e = 0) : okD (dotOf e) = true := by
  unfold K.ceE at h
  by_cases h1 : K.isR e.rep = false
  · rw [if_pos h1] at h; cases h
  · rw [if_neg h1] at h
    by_cases h2 : e.num < 1 ∨ 1000000000 < e.num
    · rw [if_pos h2] at h; cases h
    · have h3 : K.isR e.rep = true := by simpa using h1
      unfold okD dotOf V.isR
      unfold K.isR at h3
      simp only [Bool.and_eq_true, decide_eq_true_eq] at h3 ⊢
      exact ⟨h3, by omega, by omega⟩
theorem filter_chk {L : List K.En} {p : K.En → Bool} (h : K.chk L = 0) : K.chk (L.filter p) = 0 :=
  K.chk_asc ((K.chk_asc' h).filter p) (fun e he => chk_ce h e (List.mem_filter.1 he).1)
theorem canon_inform {G : Nat → List Rn} {P : Pst} (h : CanonOf G P) : InForm P := canon_iff.1 h.canon
theorem inB_dots {L : List K.En} {P : Pst} (h : CanonOf (dotsG (L.map dotOf)) P) (e : K.En) : inB P e = true ↔ okD (dotOf e) = true ∧ ∃ x ∈ L, dotOf x = dotOf e := by
  rw [inB_iff]
  unfold dotIn
  constructor
  · rintro ⟨h1, h2⟩
    have h3 : 0 ≤ e.rep ∧ e.rep < 16 := by simpa [V.isR] using h1
    rw [canon_mem h _ (by show e.rep.toNat < 16; omega), dotsG_mem] at h2
    obtain ⟨d, hd, k1, k2, k3⟩ := h2
    obtain ⟨x, hx, rfl⟩ := List.mem_map.1 hd
    have ed : dotOf x = dotOf e := by
      unfold dotOf at k2 k3 ⊢
      simp only at k2 k3
      congr 1
      omega
    exact ⟨ed ▸ k1, x, hx, ed⟩
  · rintro ⟨h1, x, hx, h2⟩
    have h3 := h1
    unfold okD dotOf at h3
    simp only [Bool.and_eq_true, decide_eq_true_eq] at h3
    have h4 : 0 ≤ e.rep ∧ e.rep < 16 := by simpa [V.isR] using h3.1
    refine ⟨h3.1, ?_⟩
    rw [canon_mem h _ (by show e.rep.toNat < 16; omega), dotsG_mem]
    exact ⟨dotOf x, List.mem_map.2 ⟨x, hx, rfl⟩, h2 ▸ h1, by rw [h2]; unfold dotOf; simp only; omega, by rw [h2]; rfl⟩
theorem dot_one {L : List K.En} (h : K.chk L = 0) {x y : K.En} (hx : x ∈ L) (hy : y ∈ L) (e : dotOf x = dotOf y) : x = y := by
  apply Classical.byContradiction
  intro hn
  refine K.asc_noclash (K.chk_asc' h) (fun _ => Iff.rfl) ⟨x, hx, y, hy, ?_, hn⟩
  unfold dotOf at e
  simp only [Rn.mk.injEq] at e
  simp [K.sameDot, e.1, e.2]
/-- the entries whose dots are those of some of them -/
theorem parts_again {L : List K.En} (h : K.chk L = 0) {p : K.En → Bool} {P : Pst} (hP : CanonOf (dotsG ((L.filter p).map dotOf)) P) : L.filter (pkB P true) = L.filter p := by
  apply List.filter_congr
  intro e he
  unfold pkB
  have h1 := inB_dots hP e
  cases hp : p e
  · cases hb : inB P e
    · rfl
    · rw [hb] at h1
      obtain ⟨-, x, hx, hd⟩ := h1.1 rfl
      obtain ⟨hx1, hx2⟩ := List.mem_filter.1 hx
      rw [dot_one h hx1 he hd, hp] at hx2
      cases hx2
  · rw [h1.2 ⟨ce_dot (chk_ce h e he), e, List.mem_filter.2 ⟨he, hp⟩, rfl⟩]
    rfl
theorem pk_not (P : Pst) (e : K.En) : pkB P false e = !pkB P true e := by unfold pkB; cases inB P e <;> rfl
theorem parts_len (P : Pst) : ∀ L : List K.En, (L.filter (pkB P true)).length + (L.filter (pkB P false)).length = L.length
  | [] => rfl
  | e :: t => by
    have h := parts_len P t
    cases hb : pkB P true e
    · rw [List.filter_cons_of_neg (by rw [hb]; decide), List.filter_cons_of_pos (by rw [pk_not, hb]; rfl)]
      simp only [List.length_cons]
      omega
    · rw [List.filter_cons_of_pos hb, List.filter_cons_of_neg (by rw [pk_not, hb]; decide)]
      simp only [List.length_cons]
      omega
theorem parts_union {L U : List K.En} {P : Pst} {er : Int} (h : K.chk L = 0) (hu : K.UnionOf (L.filter (pkB P true)) (L.filter (pkB P false)) U er) : er = 0 ∧ U = L :=
  K.union_of ((K.chk_asc' h).filter _) ((K.chk_asc' h).filter _) (chk_ce h) (K.chk_asc' h) (fun x => by
    rw [List.mem_filter, List.mem_filter, pk_not]
    cases pkB P true x <;> simp) hu
theorem some_chk6 : K.chk K.someL = 0 := by decide +kernel
theorem form_three : InForm ⟨[3], []⟩ := ⟨by decide, trivial⟩
theorem some_in : K.someL.filter (pkB ⟨[3], []⟩ true) = [⟨0, 3, ⟨#[65]⟩, 5⟩] := by rfl
/-- a case -/
structure Ca where
  ao : Option Addr
  n : Nat
  cap : Nat
  bo : Option Addr
  m : Nat
  cap' : Nat
  p : Pv
  dr : Int
  dn : Int
  rp : Int
  sku : ByteArray
def CaC (m : Ca) : Array Value := #[.slice m.ao m.n m.cap, .slice m.bo m.m m.cap', .slice m.p.vo m.p.vn m.p.vc, .slice m.p.co m.p.cn m.p.cc, .int .i64 m.dr, .int .i64 m.dn, .int .i64 m.rp, .string m.sku]
abbrev CaV (m : Ca) : Value := .agg (CaC m)
theorem CaC_size (m : Ca) : (CaC m).size = 8 := rfl
theorem cells_CaV (m : Ca) : (CaV m).cells = CaC m := by simp [Value.cells]
def CaBox (w : World) (g : Nat) (m : Ca) : Prop := w.heap[g]? = some (.cells (CaC m) 30 (0, 0))
theorem CaBox.lt {m : Ca} (h : CaBox w g m) : g < w.heap.size := (Array.getElem?_eq_some_iff.1 h).1
theorem CaBox.below {m : Ca} (h : CaBox w g m) (hb : Below w.heap.size w w') : CaBox w' g m := (hb.block g h.lt).trans h
theorem CaBox_new (w : World) (m : Ca) : CaBox (w.alloc (.cells (CaC m) 30)) w.heap.size m := by unfold CaBox; rw [heap_alloc_new]
theorem CaBox.c0 {m : Ca} (h : CaBox w g m) : w.cell? ⟨g, 0, none⟩ = some (.slice m.ao m.n m.cap) := by unfold CaBox at h; simp [World.cell?, h, CaC]
theorem CaBox.past {m : Ca} (h : CaBox w g m) : PAt w ⟨g, 2, none⟩ m.p := by
  unfold CaBox at h
  refine ⟨?_, ?_⟩
  · simp [World.cell?, h, CaC]
  · rw [Addr.add_lit]; simp [World.cell?, h, CaC]
/-- what a case holds -/
structure CaS (w : World) (m : Ca) (A B : List K.En) : Prop where
  a : K.ESrc w m.ao m.n m.cap A
  b : K.ESrc w m.bo m.m m.cap' B
  p : PSrc w m.p
theorem CaS.below {m : Ca} {A B : List K.En} (h : CaS w m A B) (hb : Below w.heap.size w w') : CaS w' m A B := ⟨h.a.below hb, h.b.below hb, h.p.below hb⟩
theorem lit_three (w : World) : PSrc (w.alloc (.cells #[.int .i64 3] 3)) ⟨some ⟨w.heap.size, 0, none⟩, 1, 1, none, 0, 0, ⟨[3], []⟩⟩ := by
  refine ⟨⟨rfl, (fun h => by cases h), fun ad h t ht => ?_⟩, SSrc.empty _, (show (1 : Nat) ≤ 17592186044415 by decide)⟩
  obtain rfl := Option.some.inj h
  obtain rfl : t = 0 := by have : t < 1 := ht; omega
  rw [Addr.add_lit, World.cell?_alloc_new]
  rfl
end Go.Proofs.YtooinnhjeloocaaGreat
