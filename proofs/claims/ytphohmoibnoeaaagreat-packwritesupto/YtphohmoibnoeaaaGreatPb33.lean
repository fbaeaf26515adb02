/- IPe IPr -/
import Derived.Test.YtphohmoibnoeaaaGreatPb26
import Derived.Test.YtphohmoibnoeaaaGreatPb17
import Derived.Test.YtphohmoibnoeaaaGreatPb30
import Derived.Test.YtphohmoibnoeaaaGreatPb21
import Derived.Test.YtphohmoibnoeaaaGreatPb32
namespace Go.Proofs.YtphohmoibnoeaaaGreat
open Go.RowKit
variable {w w' w2 W W' : World} {g gv gr : Nat} {Z : List Int}

def PutE (w w' : World) (e : Ending) (L : List K.En) : Prop :=
 (¬ K.okN L L.length = true ∧ e = .returned (.tuple #[.slice none 0 0, .int .i64 1]) ∧ Below w.heap.size w w') ∨ (K.okN L L.length = true ∧ ∃ bo cc, e = .returned (.tuple #[.slice bo (entsB L).length cc, .int .i64 0]) ∧ U.BR w' bo (entsB L).length cc (entsB L) ∧ U.NewB w w' bo)
set_option maxRecDepth 100000 in
set_option maxHeartbeats 1600000 in
theorem packPutE_any (so : Option Addr) (sn sc : Nat) (L : List K.En) (w : World) (hS : K.ESrc w so sn sc L) : Calls Tryz.prog 33 #[.slice so sn sc, .func (.func 34) #[] #[], .func (.func 35) #[] #[]] w fun e w' => PutE w w' e L := by
 have HS := hide hS
 go_enter Tryz.func33, Tryz.ntmps33
 go_wp2_with fail
 refine (K.lcheck_any so sn sc L _ HS.out).mono ?_
 rintro e w2 ⟨rfl, b2⟩
 have HB2 := hide b2
 have HS2 := hide (HS.out.below b2)
 clear b2
 by_cases hok : K.okN L L.length = true
 ·have hck : K.chk L = 0 := by unfold K.chk; rw [if_pos hok]
  rw [hck]
  have HY := hide hok
  clear hok hS
  go_wp2_with fail
  refine (U.new_any _).mono ?_
  rintro e w3 ⟨rfl, rfl⟩
  have P3 := pw_new w2
  obtain ⟨gw, hgw⟩ : ∃ gw, w2.heap.size = gw := ⟨_, rfl⟩
  obtain ⟨w3, hw3⟩ : ∃ w3, w2.alloc (.cells #[.slice none 0 0, .bool false] 125) = w3 := ⟨_, rfl⟩
  rw [hw3, hgw] at P3
  have P4 := P3.add (.cells #[U.ptr gw] 68)
  obtain ⟨b8, hb8⟩ : ∃ b8, w3.heap.size = b8 := ⟨_, rfl⟩
  obtain ⟨w4, hw4⟩ : ∃ w4, w3.alloc (.cells #[U.ptr gw] 68) = w4 := ⟨_, rfl⟩
  rw [hw4, hb8] at P4
  have HP4 := hide P4
  have c4 := box_cell (P4.keep (b8, .cells #[U.ptr gw] 68) (by simp)).1
  rw [hgw, hw3]
  clear P3 P4
  go_wp2_with fail
  clear hw3 hw4 hgw hb8
  refine (wentries_any HP4.out so sn sc L HS2.out HY.out (by decide)).mono ?_
  rintro e w5 ⟨rfl, bo, m, cc, P5⟩
  rw [List.nil_append] at P5
  have hm := P5.wk.len
  have HP5 := hide P5
  have c5 := box_cell (P5.keep (b8, .cells #[U.ptr gw] 68) (by simp)).1
  have HM : Hid (m ≤ 2000000000000) := by
   show _ ≤ _
   have h1 := (ok_eok HY.out).1
   have h2 := entB_max L (fun _ => 0) 0 (Int.le_refl 0) h1 (fun k => Int.le_refl 0)
   have h3 := eOk_room L (fun _ => 0) 0 (Int.le_refl 0) (by decide) h1 (fun k => ⟨Int.le_refl 0, by decide⟩)
   have h4 := U.numB_len 9 L.length (by omega)
   rw [← hm]
   unfold entsB
   rw [List.length_append]
   omega
  have HML := hide hm
  clear P5 c4 hm
  go_wp2_with fail
  refine (U.done_ok bo m cc _ _ HP5.out.wk.w (by have := HM.out; omega)).mono ?_
  rintro e w6 ⟨bo2, cc2, rfl, hr6, hn6⟩
  have HF : Hid (PutE w w6 (.returned (.tuple #[.slice bo2 m cc2, .int .i64 0])) L) := by
   have hb := HB2.out.trans ((HP5.out.wk.bel.trans (hn6.1.mono HP5.out.wk.bel.size)).mono HB2.out.size)
   refine .inr ⟨HY.out, bo2, cc2, by rw [HML.out], by rw [HML.out]; exact hr6, hb, fun k e => ?_⟩
   have h1 := hn6.2 k e
   have h2 := HP5.out.wk.bel.size
   have h3 := HB2.out.size
   omega
  clear hr6 hn6 c5
  go_wp2_with fail
  go_ret2
  exact HF.out
 ·have hck : K.chk L = 1 := by unfold K.chk; rw [if_neg hok]
  rw [hck]
  have HN := hide hok
  clear hok hS
  go_wp2_with fail
  go_ret2
  exact .inl ⟨HN.out, rfl, HB2.out⟩
theorem putE_any (so : Option Addr) (sn sc : Nat) (L : List K.En) (w : World) (hS : K.ESrc w so sn sc L) : Calls Tryz.prog 12 #[.slice so sn sc] w fun e w' => PutE w w' e L := by
 have HC := hide (packPutE_any so sn sc L w hS)
 clear hS
 go_enter Tryz.func12, Tryz.ntmps12
 go_wp2_with fail
 refine HC.out.mono ?_
 rintro e w2 h
 have HF := hide h
 rcases h with ⟨h1, rfl, h3⟩ | ⟨h1, bo, cc, rfl, h3, h4⟩
 ·clear h1 h3
  go_wp2_with fail
  go_ret2
  exact HF.out
 ·clear h1 h3 h4
  go_wp2_with fail
  go_ret2
  exact HF.out
structure EN (n0 : Nat) (w : World) (bo : Option Addr) (cc : Nat) (L : List K.En) : Prop where
 v : E.BR w bo L.length cc L
 vb : ∀ k, U.blk bo = some k → n0 ≤ k
 ok : EOk (fun _ => 0) 0 L
theorem EN.keep {n0 : Nat} {bo : Option Addr} {cc : Nat} {L : List K.En} (h : EN n0 w bo cc L) (hk : ∀ k, n0 ≤ k → k < w.heap.size → w'.heap[k]? = w.heap[k]?) : EN n0 w' bo cc L := ⟨h.v.keep fun k e => hk k (h.vb k e) (h.v.lt k e), h.vb, h.ok⟩
theorem EN.below {n0 : Nat} {bo : Option Addr} {cc : Nat} {L : List K.En} (h : EN n0 w bo cc L) (hb : Below w.heap.size w w') : EN n0 w' bo cc L := h.keep fun k _ hk => hb.block k hk
theorem EN.mono {n0 n1 : Nat} {bo : Option Addr} {cc : Nat} {L : List K.En} (h : EN n0 w bo cc L) (hn : n1 ≤ n0) : EN n1 w bo cc L := ⟨h.v, fun k e => Nat.le_trans hn (h.vb k e), h.ok⟩
theorem eOk_sku : ∀ (L : List K.En) (T : Nat → Int) (r0 : Int), EOk T r0 L → ∀ e ∈ L, e.sku.size ≤ 24
 | [], _, _, _, e, he => by cases he
 | a :: t, T, r0, h, e, he => by
  rcases List.mem_cons.1 he with rfl | he
  ·exact h.2.2.1
  ·exact eOk_sku t _ _ h.2.2.2.2 e he
theorem EN.src {n0 : Nat} {bo : Option Addr} {cc : Nat} {L : List K.En} (h : EN n0 w bo cc L) : K.ESrc w bo L.length cc L :=
 h.v.src (by have := eOk_room L (fun _ => 0) 0 (Int.le_refl 0) (by decide) h.ok (fun k => ⟨Int.le_refl 0, by decide⟩); omega) (fun e he => by have := eOk_sku L _ _ h.ok e he; unfold maxLen; omega)
def GcE (w : World) (g gv : Nat) (Z : List Int) (r : Ending) (w' : World) : Prop :=
 (w'.os = w.os ∧ w'.tape = w.tape ∧ w'.output = w.output ∧ w.heap.size ≤ w'.heap.size ∧ ∀ k, k < w.heap.size → k ≠ g → k ≠ gv → w'.heap[k]? = w.heap[k]?) ∧
 ((∃ L R bo cc so sc, rdEnts Z = some (L, R) ∧ r = .returned (.tuple #[]) ∧ EN w.heap.size w' bo cc L ∧ w'.heap[gv]? = some (.cells #[.slice bo L.length cc] 26 (0, 0)) ∧ U.Rdr w' g so R.length sc 0 false) ∨
  (rdEnts Z = none ∧ r = .panicked (U.ups g) ∧ ∃ e, e ≠ 0 ∧ U.Rdr w' g none 0 0 e false))
abbrev rdEF : Value := .func (.func 50) #[] #[]
set_option maxRecDepth 100000 in
theorem getcE_any {B : Option Nat} (R : RB w g Z B) (hB : ∀ k, B = some k → k < w.heap.size) (hO : U.Oc Z) (hr : w.heap[gr]? = some (.cells #[rdEF] 89 (0, 0))) (M : w.heap[gv]? = some (.cells #[.slice none 0 0] 26 (0, 0))) (hn : gv ≠ g) : Calls Tryz.prog 80 #[U.ptr g, U.ptr gr, U.ptr gv] w fun r w' => GcE w g gv Z r w' := by
 have HC := hide (rentries_any R hB hO)
 have HM := hide M
 have HG : Hid (gv ≠ g ∧ g < w.heap.size) := ⟨hn, R.lt⟩
 have HO := hide hO
 have c0 := box_cell hr
 clear R hB M hn hr hO
 go_enter Tryz.func80, Tryz.ntmps80
 go_wp2_with fail
 refine HC.out.mono ?_
 rintro r w2 (⟨hp, rfl, e, he, RR, K⟩ | ⟨L, R, bo, cc, hp, rfl, RR, K, hv, nv⟩)
 ·have HE : Hid (GcE w g gv Z (.panicked (U.ups g)) w2) := ⟨⟨K.os, K.tape, K.output, K.size, fun k hk h1 _ => K.block k hk h1⟩, Or.inr ⟨hp, rfl, e, he, RR⟩⟩
  clear hp he RR K HC
  go_wp2_with fail
  exact ⟨rfl, HE.out⟩
 ·have M2 : w2.heap[gv]? = some (.cells #[.slice none 0 0] 26 (0, 0)) := (K.block gv (some_lt HM.out) HG.out.1).trans HM.out
  have hc2 := box_cell M2
  have hf2 : w2.frozen? ⟨gv, 0, none⟩ = false := by simp [World.frozen?, M2]
  have hlt := some_lt HM.out
  have HE : Hid (GcE w g gv Z (.returned (.tuple #[])) (w2.setCell ⟨gv, 0, none⟩ (.slice bo L.length cc))) := by
   obtain ⟨so, sn, sc, RL, -⟩ := RR
   have hN : EN w.heap.size w2 bo cc L := ⟨hv, nv, (rdEnts_of HO.out hp).2.2⟩
   refine ⟨⟨(U.setCell_os _ _ _).trans K.os, (U.setCell_tape _ _ _).trans K.tape, (U.setCell_output _ _ _).trans K.output, by rw [U.set_size]; exact K.size, fun k hk h1 h2 => (U.set_other _ _ _ _ _ h2).trans (K.block k hk h1)⟩, Or.inl ⟨L, R, bo, cc, so, sc, hp, rfl, hN.keep (fun k h1 h2 => U.set_other _ _ _ _ _ (by omega)), U.set_heap _ _ _ _ _ 0 _ M2, ?_⟩⟩
   have := RL.len
   rw [this]
   exact (U.set_other _ _ _ _ _ (Ne.symm HG.out.1)).trans RL.r
  clear hp hv nv RR K M2 hlt HC
  go_wp2_with fail
  go_end0
  exact HE.out
def GpE (w w' : World) (Z : List Int) (r : Ending) : Prop := Below w.heap.size w w' ∧
 ((∃ L bo cc, K.okN L L.length = true ∧ Z = entsB L ∧ r = .returned (.tuple #[.slice bo L.length cc, .int .i64 0]) ∧ EN w.heap.size w' bo cc L) ∨
  ((∀ L : List K.En, K.okN L L.length = true → Z ≠ entsB L) ∧ r = .returned (.tuple #[.slice none 0 0, .int .i64 8])))
def RpE (w1 w' : World) (gv : Nat) (Z : List Int) (err : Int) : Prop := U.Kg w1 w' gv ∧
 ((∃ L R bo cc, rdEnts Z = some (L, R) ∧ err = U.endA R.length ∧ EN w1.heap.size w' bo cc L ∧ w'.heap[gv]? = some (.cells #[.slice bo L.length cc] 26 (0, 0))) ∨ (rdEnts Z = none ∧ err ≠ 0))
set_option maxRecDepth 100000 in
theorem readE (ro : Option Addr) (rn rc : Nat) (Z : List Int) (gr gv : Nat) (w1 : World) (S : U.Src w1 ro rn rc Z) (hcap : rn ≤ rc) (hz : rn ≤ 140737488355328) (hr : w1.heap[gr]? = some (.cells #[rdEF] 89 (0, 0))) (M : w1.heap[gv]? = some (.cells #[.slice none 0 0] 26 (0, 0))) : Calls Tryz.prog 74 #[.slice ro rn rc, .func (.func 80) #[] #[U.ptr gr, U.ptr gv]] w1 fun r w' => ∃ err, r = .returned (.int .i64 err) ∧ RpE w1 w' gv Z err := by
 have hcf : ∀ (args : Array Value) (w : World), (callFunc 80 args).run Tryz.prog w = .ok (.enter 80 args) w := fun _ _ => rfl
 have G1 := U.beg w1 ro rn rc
 obtain ⟨W1, hW1⟩ : ∃ W1, U.W0 w1 ro rn rc = W1 := ⟨_, rfl⟩
 rw [hW1] at G1
 have hb := G1.b
 have hsz := G1.n.2
 have hlt : rn ≠ 0 → ∀ k, U.blk ro = some k → k < w1.heap.size := fun h0 k e => by
  obtain ⟨ad, ha, hc⟩ := U.cell_at S 0 (by omega)
  have := World.block_lt_of_cell? _ _ hc
  rw [U.block_of_add] at this
  rw [ha] at e
  have : ad.block = k := Option.some.inj e
  omega
 have hM1 := some_lt M
 have hr1 := some_lt hr
 have hf : Calls Tryz.prog 80 #[U.ptr (w1.heap.size + 1), U.ptr gr, U.ptr gv] W1 fun r w' => GcE W1 (w1.heap.size + 1) gv Z r w' := by
  have hRL : U.RL W1 (w1.heap.size + 1) ro rn rc Z := ⟨G1.r, S.below hb, hcap, by omega, fun h0 e => by have := hlt h0 _ e; omega⟩
  by_cases h0 : rn = 0
  ·have hZ : Z = [] := List.eq_nil_of_length_eq_zero (by rw [S.1]; exact h0)
   exact getcE_any (B := none) ⟨ro, rn, rc, hRL, fun h => absurd hZ h⟩ (fun k e => by cases e) S.2.2.2 ((G1.b.block gr hr1).trans hr) ((G1.b.block gv hM1).trans M) (by omega)
  ·exact getcE_any ⟨ro, rn, rc, hRL, fun _ => rfl⟩ (fun k e => by have := hlt h0 k e; omega) S.2.2.2 ((G1.b.block gr hr1).trans hr) ((G1.b.block gv hM1).trans M) (by omega)
 have hR := U.read_any ro rn rc 80 #[U.ptr gr, U.ptr gv] (GcE W1 (w1.heap.size + 1) gv Z) w1 hcf (by rw [hW1]; exact hf) (by
  rintro e w2 ⟨⟨-, -, -, -, K⟩, h⟩
  refine ⟨?_, (K _ (by omega) (by omega) (by omega)).trans G1.v, (K _ (by omega) (by omega) (by omega)).trans G1.e⟩
  rcases h with ⟨_, _, _, _, _, _, _, rfl, _, _, R⟩ | ⟨_, rfl, e, he, R⟩
  ·exact ⟨_, _, .calm R⟩
  ·exact ⟨_, _, .up R he⟩)
 refine hR.mono ?_
 rintro r w' ⟨e2, w2, gave, err, ⟨⟨k1, k2, k3, k4, K⟩, h⟩, hE, rfl, F⟩
 refine ⟨err, rfl, ⟨F.os.trans (k1.trans hb.os), F.tape.trans (k2.trans hb.tape), F.output.trans (k3.trans hb.output), Nat.le_trans hb.size (Nat.le_trans k4 F.size), fun k hk hne => (F.block k (by omega) (by omega) (by omega)).trans ((K k (by omega) (by omega) hne).trans (hb.block k hk))⟩, ?_⟩
 rcases h with ⟨L, R, bo, cc, so, sc, hp, rfl, hM, MB, RR⟩ | ⟨hp, rfl, e, he, RR⟩
 ·refine Or.inl ⟨L, R, bo, cc, hp, ?_, (hM.keep (fun k h1 h2 => F.block k h2 (by omega) (by omega))).mono (by omega), (F.block gv (some_lt MB) (by omega) (by omega)).trans MB⟩
  cases hE with
  | calm R' =>
   obtain ⟨h1, -⟩ := U.rdr_inj RR R'
   rw [h1]
 ·refine Or.inr ⟨hp, ?_⟩
  cases hE with
  | up R' he' => exact he'
theorem GpE.bad (b : Below w.heap.size w w') (h : ∀ L : List K.En, K.okN L L.length = true → rdEnts Z ≠ some (L, [])) : GpE w w' Z (.returned (.tuple #[.slice none 0 0, .int .i64 8])) :=
 ⟨b, .inr ⟨fun L hL e => h L hL (by rw [e, ← List.append_nil (entsB L)]; exact rdEnts_to (ok_eok hL).1 (ok_eok hL).2 (by have := eOk_room L (fun _ => 0) 0 (Int.le_refl 0) (by decide) (ok_eok hL).1 (fun k => ⟨Int.le_refl 0, by decide⟩); omega) []), rfl⟩⟩
set_option maxRecDepth 100000 in
set_option maxHeartbeats 4000000 in
theorem packGetE_any (ro : Option Addr) (rn rc : Nat) (Z : List Int) (w : World) (S : U.Src w ro rn rc Z) (hcap : rn ≤ rc) (hz : rn ≤ 140737488355328) : Calls Tryz.prog 49 #[.slice ro rn rc, rdEF, .func (.func 34) #[] #[]] w fun r w' => GpE w w' Z r := by
 have hmf : ∀ (fn : Fn) (first cap : Array Value) (w : World), (Instr.makeFunc fn first cap).run Tryz.prog w = .ok (.func fn first cap) w := fun _ _ _ _ => rfl
 obtain ⟨g1, hg1⟩ : ∃ g1, w.heap.size = g1 := ⟨_, rfl⟩
 have b1 := below_new w (.cells #[rdEF] 89)
 have x1 := heap_alloc_new w (.cells #[rdEF] 89)
 have s1 := World.size_alloc w (.cells #[rdEF] 89)
 obtain ⟨w1, hw1⟩ : ∃ w1, w.alloc (.cells #[rdEF] 89) = w1 := ⟨_, rfl⟩
 rw [hw1] at b1 x1 s1
 have b3 := below_new w1 (.cells #[.slice none 0 0] 26)
 have x3 := heap_alloc_new w1 (.cells #[.slice none 0 0] 26)
 have s3 := World.size_alloc w1 (.cells #[.slice none 0 0] 26)
 obtain ⟨w4, hw4⟩ : ∃ w4, w1.alloc (.cells #[.slice none 0 0] 26) = w4 := ⟨_, rfl⟩
 rw [hw4] at b3 x3 s3
 rw [s1] at x3 s3
 rw [hg1] at x1 x3 s1 s3
 have bt := b1.trans (b3.mono b1.size)
 have R4 : w4.heap[g1]? = some (.cells #[rdEF] 89 (0, 0)) := (b3.block g1 (by omega)).trans x1
 have HR := hide (readE ro rn rc Z g1 (g1 + 1) w4 (S.below bt) hcap hz R4 x3)
 have HM : Hid (Below w.heap.size w w4 ∧ w.heap.size = g1 ∧ U.Oc Z) := ⟨bt, hg1, S.2.2.2⟩
 clear S b1 b3 x1 x3 bt R4 hcap hz
 go_enter Tryz.func49, Tryz.ntmps49
 go_wp2_with fail
 clear hw1 hw4 s1 s3 hg1
 refine HR.out.mono ?_
 rintro r w5 ⟨err, rfl, K5, h⟩
 have b5 : Below w.heap.size w w5 := ⟨K5.os.trans HM.out.1.os, K5.tape.trans HM.out.1.tape, K5.output.trans HM.out.1.output, Nat.le_trans HM.out.1.size K5.size, fun k hk => (K5.block k (Nat.lt_of_lt_of_le hk HM.out.1.size) (by have := HM.out.2.1; omega)).trans (HM.out.1.block k hk)⟩
 have HB5 := hide b5
 clear HR b5 K5
 by_cases he : err = 0
 ·subst he
  obtain ⟨L, bo, cc, hp, hMl, MB⟩ : ∃ L bo cc, rdEnts Z = some (L, []) ∧ EN w4.heap.size w5 bo cc L ∧ w5.heap[g1 + 1]? = some (.cells #[.slice bo L.length cc] 26 (0, 0)) := by
   rcases h with ⟨L, R, bo, cc, hp, hR, hMl, MB⟩ | ⟨_, h0⟩
   ·cases R with
    | nil => exact ⟨L, bo, cc, hp, hMl, MB⟩
    | cons x R => simp [U.endA] at hR
   ·exact absurd rfl h0
  have l5 := box_cell MB
  have HP := hide hp
  have HMl := hide hMl
  have HMB := hide MB
  clear h hp hMl MB
  go_wp2_with fail
  refine (K.lcheck_any bo L.length cc L _ HMl.out.src).mono ?_
  rintro e w6 ⟨rfl, b6⟩
  have HB6 := hide (HB5.out.trans (b6.mono HB5.out.size))
  by_cases hok : K.okN L L.length = true
  ·have hck : K.chk L = 0 := by unfold K.chk; rw [if_pos hok]
   rw [hck]
   have l6 := box_cell ((b6.block (g1 + 1) (some_lt HMB.out)).trans HMB.out)
   have HE : Hid (GpE w w6 Z (.returned (.tuple #[.slice bo L.length cc, .int .i64 0]))) := by
    have e1 := (rdEnts_of HM.out.2.2 HP.out).1
    rw [List.append_nil] at e1
    exact ⟨HB6.out, .inl ⟨L, bo, cc, hok, e1, rfl, (HMl.out.below b6).mono HM.out.1.size⟩⟩
   clear hok b6 l5
   go_wp2_with fail
   go_ret2
   exact HE.out
  ·have hck : K.chk L = 1 := by unfold K.chk; rw [if_neg hok]
   rw [hck]
   have HE : Hid (GpE w w6 Z (.returned (.tuple #[.slice none 0 0, .int .i64 8]))) := GpE.bad HB6.out (fun q hq e => by
    rw [HP.out] at e
    simp only [Option.some.injEq, Prod.mk.injEq, and_true] at e
    rw [e] at hok
    exact hok hq)
   clear hok b6 l5
   go_wp2_with fail
   go_ret2
   exact HE.out
 ·have hne : (err != 0) = true := by simpa using he
  have HE : Hid (GpE w w5 Z (.returned (.tuple #[.slice none 0 0, .int .i64 8]))) := GpE.bad HB5.out (fun q hq e => by
   rcases h with ⟨L, R, bo, cc, hp, hR, hMl, MB⟩ | ⟨hp, h0⟩
   ·rw [hp] at e
    simp only [Option.some.injEq, Prod.mk.injEq] at e
    rw [e.2] at hR
    exact he hR
   ·rw [hp] at e; cases e)
  clear h he
  go_wp2_with fail
  go_ret2
  exact HE.out
set_option maxRecDepth 100000 in
theorem getE_any (ro : Option Addr) (rn rc : Nat) (Z : List Int) (w : World) (S : U.Src w ro rn rc Z) (hcap : rn ≤ rc) (hz : rn ≤ 140737488355328) : Calls Tryz.prog 21 #[.slice ro rn rc] w fun r w' => GpE w w' Z r := by
 have HC := hide (packGetE_any ro rn rc Z w S hcap hz)
 clear S hcap hz
 go_enter Tryz.func21, Tryz.ntmps21
 go_wp2_with fail
 refine HC.out.mono ?_
 rintro r w2 h
 have HF := hide h
 rcases h with ⟨-, ⟨L, bo, cc, -, -, rfl, -⟩ | ⟨-, rfl⟩⟩
 ·go_wp2_with fail
  go_ret2
  exact HF.out
 ·go_wp2_with fail
  go_ret2
  exact HF.out
end Go.Proofs.YtphohmoibnoeaaaGreat
namespace Go.Proofs.YtphohmoibnoeaaaGreat
open Go.RowKit
variable {w w' w2 W W' : World} {g gv gr : Nat} {Z : List Int}

def PutR (w w' : World) (e : Ending) (L : List Rc) : Prop :=
 (¬ OkR L L.length ∧ e = .returned (.tuple #[.slice none 0 0, .int .i64 1]) ∧ Below w.heap.size w w') ∨ (OkR L L.length ∧ ∃ bo cc, e = .returned (.tuple #[.slice bo (recsB (plR L)).length cc, .int .i64 0]) ∧ U.BR w' bo (recsB (plR L)).length cc (recsB (plR L)) ∧ U.NewB w w' bo)
set_option maxRecDepth 100000 in
set_option maxHeartbeats 1600000 in
theorem packPutR_any (so : Option Addr) (sn sc : Nat) (L : List Rc) (w : World) (hS : RcS w so sn sc L) (hlen : (recB (plR L)).length ≤ 40000000000000) : Calls Tryz.prog 38 #[.slice so sn sc, .func (.func 39) #[] #[], .func (.func 40) #[] #[]] w fun e w' => PutR w w' e L := by
 have HS := hide hS
 have HLn := hide hlen
 clear hlen
 go_enter Tryz.func38, Tryz.ntmps38
 go_wp2_with fail
 refine (keepCheck_any so sn sc L _ HS.out).mono ?_
 rintro e w2 ⟨x, rfl, hx, b2⟩
 have HB2 := hide b2
 have HS2 := hide (HS.out.below b2)
 clear b2
 by_cases hok : OkR L L.length
 ·obtain rfl : x = 0 := by
   rw [hS.len] at hok
   rcases hx with ⟨e, -⟩ | ⟨-, h⟩
   ·exact e
   ·exact absurd hok h
  clear hx
  have HY := hide hok
  clear hok hS
  go_wp2_with fail
  refine (U.new_any _).mono ?_
  rintro e w3 ⟨rfl, rfl⟩
  have P3 := pw_new w2
  obtain ⟨gw, hgw⟩ : ∃ gw, w2.heap.size = gw := ⟨_, rfl⟩
  obtain ⟨w3, hw3⟩ : ∃ w3, w2.alloc (.cells #[.slice none 0 0, .bool false] 125) = w3 := ⟨_, rfl⟩
  rw [hw3, hgw] at P3
  have P4 := P3.add (.cells #[U.ptr gw] 68)
  obtain ⟨b8, hb8⟩ : ∃ b8, w3.heap.size = b8 := ⟨_, rfl⟩
  obtain ⟨w4, hw4⟩ : ∃ w4, w3.alloc (.cells #[U.ptr gw] 68) = w4 := ⟨_, rfl⟩
  rw [hw4, hb8] at P4
  have HP4 := hide P4
  have c4 := box_cell (P4.keep (b8, .cells #[U.ptr gw] 68) (by simp)).1
  rw [hgw, hw3]
  clear P3 P4
  go_wp2_with fail
  clear hw3 hw4 hgw hb8
  refine (wrecords_any HP4.out so sn sc L HS2.out (by have h := HY.out; rw [HS2.out.len] at h; exact h) (by decide) HLn.out).mono ?_
  rintro e w5 ⟨rfl, bo, m, cc, P5⟩
  rw [List.nil_append] at P5
  have hm := P5.wk.len
  have HP5 := hide P5
  have c5 := box_cell (P5.keep (b8, .cells #[U.ptr gw] 68) (by simp)).1
  have HM : Hid (m ≤ 50000000000000) := by
   show _ ≤ _
   have h2 := HLn.out
   have h3 := HS2.out.big
   have h5 := HS2.out.len
   have h4 := U.numB_len 9 (plR L).length (by rw [plR_len]; omega)
   rw [← hm]
   unfold recsB
   rw [List.length_append]
   omega
  have HML := hide hm
  clear P5 c4 hm
  go_wp2_with fail
  refine (U.done_ok bo m cc _ _ HP5.out.wk.w (by have := HM.out; omega)).mono ?_
  rintro e w6 ⟨bo2, cc2, rfl, hr6, hn6⟩
  have HF : Hid (PutR w w6 (.returned (.tuple #[.slice bo2 m cc2, .int .i64 0])) L) := by
   have hb := HB2.out.trans ((HP5.out.wk.bel.trans (hn6.1.mono HP5.out.wk.bel.size)).mono HB2.out.size)
   refine .inr ⟨HY.out, bo2, cc2, by rw [HML.out], by rw [HML.out]; exact hr6, hb, fun k e => ?_⟩
   have h1 := hn6.2 k e
   have h2 := HP5.out.wk.bel.size
   have h3 := HB2.out.size
   omega
  clear hr6 hn6 c5
  go_wp2_with fail
  go_ret2
  exact HF.out
 ·obtain rfl : x = 1 := by
   rw [hS.len] at hok
   rcases hx with ⟨-, h⟩ | ⟨e, -⟩
   ·exact absurd h hok
   ·exact e
  clear hx
  have HN := hide hok
  clear hok hS
  go_wp2_with fail
  go_ret2
  exact .inl ⟨HN.out, rfl, HB2.out⟩
theorem putR_any (so : Option Addr) (sn sc : Nat) (L : List Rc) (w : World) (hS : RcS w so sn sc L) (hlen : (recB (plR L)).length ≤ 40000000000000) : Calls Tryz.prog 14 #[.slice so sn sc] w fun e w' => PutR w w' e L := by
 have HC := hide (packPutR_any so sn sc L w hS hlen)
 clear hS hlen
 go_enter Tryz.func14, Tryz.ntmps14
 go_wp2_with fail
 refine HC.out.mono ?_
 rintro e w2 h
 have HF := hide h
 rcases h with ⟨h1, rfl, h3⟩ | ⟨h1, bo, cc, rfl, h3, h4⟩
 ·clear h1 h3
  go_wp2_with fail
  go_ret2
  exact HF.out
 ·clear h1 h3 h4
  go_wp2_with fail
  go_ret2
  exact HF.out
theorem okR_pl {L L' : List Rc} (e : plR L = plR L') (h : OkR L L.length) : OkR L' L'.length := by
 have hl : L.length = L'.length := by rw [← plR_len L, e, plR_len]
 have hg : ∀ j, j < L.length → (L.getD j rc0).s = (L'.getD j rc0).s ∧ (L.getD j rc0).p.P = (L'.getD j rc0).p.P := fun j hj => by
  have h1 : (plR L)[j]? = (plR L')[j]? := by rw [e]
  unfold plR at h1
  rw [List.getElem?_map, List.getElem?_map, List.getElem?_eq_getElem hj, List.getElem?_eq_getElem (by omega)] at h1
  simp only [Option.map_some, Option.some.injEq, Prod.mk.injEq] at h1
  rw [List.getD_eq_getElem?_getD, List.getD_eq_getElem?_getD, List.getElem?_eq_getElem hj, List.getElem?_eq_getElem (by omega)]
  exact h1
 intro j hj
 have hj' : j < L.length := by omega
 obtain ⟨a1, a2⟩ := h j hj'
 obtain ⟨g1, g2⟩ := hg j hj'
 refine ⟨?_, fun h0 => ?_⟩
 ·unfold RecOk at a1 ⊢
  rw [← g1, ← g2]
  exact a1
 ·obtain ⟨z, hz, hz0⟩ := a2 h0
  obtain ⟨f1, f2⟩ := hg (j - 1) (by omega)
  refine ⟨z, ?_, hz0⟩
  unfold CmpR at hz ⊢
  rw [← g1, ← g2, ← f1, ← f2]
  exact hz
structure RN (n0 : Nat) (w : World) (bo : Option Addr) (cc : Nat) (L : List Rc) : Prop where
 v : M.BR w bo L.length cc L
 vb : ∀ k, U.blk bo = some k → n0 ≤ k
 big : L.length ≤ 2199023255552
 ps : ∀ x ∈ L, PN n0 w x.p ∧ x.s.size ≤ 24
theorem RN.keep {n0 : Nat} {bo : Option Addr} {cc : Nat} {L : List Rc} (h : RN n0 w bo cc L) (hk : ∀ k, n0 ≤ k → k < w.heap.size → w'.heap[k]? = w.heap[k]?) : RN n0 w' bo cc L := ⟨h.v.keep fun k e => hk k (h.vb k e) (h.v.lt k e), h.vb, h.big, fun x hx => ⟨(h.ps x hx).1.keep hk, (h.ps x hx).2⟩⟩
theorem RN.below {n0 : Nat} {bo : Option Addr} {cc : Nat} {L : List Rc} (h : RN n0 w bo cc L) (hb : Below w.heap.size w w') : RN n0 w' bo cc L := h.keep fun k _ hk => hb.block k hk
theorem RN.mono {n0 n1 : Nat} {bo : Option Addr} {cc : Nat} {L : List Rc} (h : RN n0 w bo cc L) (hn : n1 ≤ n0) : RN n1 w bo cc L := ⟨h.v, fun k e => Nat.le_trans hn (h.vb k e), h.big, fun x hx => ⟨(h.ps x hx).1.mono hn, (h.ps x hx).2⟩⟩
theorem RN.src {n0 : Nat} {bo : Option Addr} {cc : Nat} {L : List Rc} (h : RN n0 w bo cc L) : RcS w bo L.length cc L :=
 h.v.src h.big (fun r hr => ⟨(h.ps r hr).1.src, by have := (h.ps r hr).2; unfold maxLen; omega⟩)
def GcR (w : World) (g gv : Nat) (Z : List Int) (r : Ending) (w' : World) : Prop :=
 (w'.os = w.os ∧ w'.tape = w.tape ∧ w'.output = w.output ∧ w.heap.size ≤ w'.heap.size ∧ ∀ k, k < w.heap.size → k ≠ g → k ≠ gv → w'.heap[k]? = w.heap[k]?) ∧
 ((∃ L R bo cc so sc, rdRecs Z = some (plR L, R) ∧ r = .returned (.tuple #[]) ∧ RN w.heap.size w' bo cc L ∧ w'.heap[gv]? = some (.cells #[.slice bo L.length cc] 27 (0, 0)) ∧ U.Rdr w' g so R.length sc 0 false) ∨
  (rdRecs Z = none ∧ r = .panicked (U.ups g) ∧ ∃ e, e ≠ 0 ∧ U.Rdr w' g none 0 0 e false))
abbrev rdRF : Value := .func (.func 54) #[] #[]
set_option maxRecDepth 100000 in
theorem getcR_any {B : Option Nat} (R : RB w g Z B) (hB : ∀ k, B = some k → k < w.heap.size) (hO : U.Oc Z) (hL8 : Z.length ≤ 8000000000000) (hr : w.heap[gr]? = some (.cells #[rdRF] 94 (0, 0))) (M : w.heap[gv]? = some (.cells #[.slice none 0 0] 27 (0, 0))) (hn : gv ≠ g) : Calls Tryz.prog 84 #[U.ptr g, U.ptr gr, U.ptr gv] w fun r w' => GcR w g gv Z r w' := by
 have HC := hide (rrecords_any R hB hO hL8)
 have HM := hide M
 have HG : Hid (gv ≠ g ∧ g < w.heap.size) := ⟨hn, R.lt⟩
 have HO := hide hO
 have c0 := box_cell hr
 clear R hB M hn hr hO hL8
 go_enter Tryz.func84, Tryz.ntmps84
 go_wp2_with fail
 refine HC.out.mono ?_
 rintro r w2 (⟨hp, rfl, e, he, RR, K⟩ | ⟨L, R, bo, cc, hp, rfl, RR, K, hv, nv, hbg, hps⟩)
 ·have HE : Hid (GcR w g gv Z (.panicked (U.ups g)) w2) := ⟨⟨K.os, K.tape, K.output, K.size, fun k hk h1 _ => K.block k hk h1⟩, Or.inr ⟨hp, rfl, e, he, RR⟩⟩
  clear hp he RR K HC
  go_wp2_with fail
  exact ⟨rfl, HE.out⟩
 ·have M2 : w2.heap[gv]? = some (.cells #[.slice none 0 0] 27 (0, 0)) := (K.block gv (some_lt HM.out) HG.out.1).trans HM.out
  have hc2 := box_cell M2
  have hf2 : w2.frozen? ⟨gv, 0, none⟩ = false := by simp [World.frozen?, M2]
  have hlt := some_lt HM.out
  have HE : Hid (GcR w g gv Z (.returned (.tuple #[])) (w2.setCell ⟨gv, 0, none⟩ (.slice bo L.length cc))) := by
   obtain ⟨so, sn, sc, RL, -⟩ := RR
   have hN : RN w.heap.size w2 bo cc L := ⟨hv, nv, hbg, hps⟩
   refine ⟨⟨(U.setCell_os _ _ _).trans K.os, (U.setCell_tape _ _ _).trans K.tape, (U.setCell_output _ _ _).trans K.output, by rw [U.set_size]; exact K.size, fun k hk h1 h2 => (U.set_other _ _ _ _ _ h2).trans (K.block k hk h1)⟩, Or.inl ⟨L, R, bo, cc, so, sc, hp, rfl, hN.keep (fun k h1 h2 => U.set_other _ _ _ _ _ (by omega)), U.set_heap _ _ _ _ _ 0 _ M2, ?_⟩⟩
   have := RL.len
   rw [this]
   exact (U.set_other _ _ _ _ _ (Ne.symm HG.out.1)).trans RL.r
  clear hp hv nv RR K hbg hps M2 hlt HC
  go_wp2_with fail
  go_end0
  exact HE.out
def GpR (w w' : World) (Z : List Int) (r : Ending) : Prop := Below w.heap.size w w' ∧
 ((∃ L bo cc, OkR L L.length ∧ Z = recsB (plR L) ∧ r = .returned (.tuple #[.slice bo L.length cc, .int .i64 0]) ∧ RN w.heap.size w' bo cc L) ∨
  ((∀ L : List Rc, (OkR L L.length ∧ L.length ≤ 9223372036854775807) → Z ≠ recsB (plR L)) ∧ r = .returned (.tuple #[.slice none 0 0, .int .i64 8])))
def RpR (w1 w' : World) (gv : Nat) (Z : List Int) (err : Int) : Prop := U.Kg w1 w' gv ∧
 ((∃ L R bo cc, rdRecs Z = some (plR L, R) ∧ err = U.endA R.length ∧ RN w1.heap.size w' bo cc L ∧ w'.heap[gv]? = some (.cells #[.slice bo L.length cc] 27 (0, 0))) ∨ (rdRecs Z = none ∧ err ≠ 0))
set_option maxRecDepth 100000 in
theorem readR (ro : Option Addr) (rn rc : Nat) (Z : List Int) (gr gv : Nat) (w1 : World) (S : U.Src w1 ro rn rc Z) (hcap : rn ≤ rc) (hz : rn ≤ 140737488355328) (hz8 : rn ≤ 8000000000000) (hr : w1.heap[gr]? = some (.cells #[rdRF] 94 (0, 0))) (M : w1.heap[gv]? = some (.cells #[.slice none 0 0] 27 (0, 0))) : Calls Tryz.prog 74 #[.slice ro rn rc, .func (.func 84) #[] #[U.ptr gr, U.ptr gv]] w1 fun r w' => ∃ err, r = .returned (.int .i64 err) ∧ RpR w1 w' gv Z err := by
 have hcf : ∀ (args : Array Value) (w : World), (callFunc 84 args).run Tryz.prog w = .ok (.enter 84 args) w := fun _ _ => rfl
 have G1 := U.beg w1 ro rn rc
 obtain ⟨W1, hW1⟩ : ∃ W1, U.W0 w1 ro rn rc = W1 := ⟨_, rfl⟩
 rw [hW1] at G1
 have hb := G1.b
 have hsz := G1.n.2
 have hlt : rn ≠ 0 → ∀ k, U.blk ro = some k → k < w1.heap.size := fun h0 k e => by
  obtain ⟨ad, ha, hc⟩ := U.cell_at S 0 (by omega)
  have := World.block_lt_of_cell? _ _ hc
  rw [U.block_of_add] at this
  rw [ha] at e
  have : ad.block = k := Option.some.inj e
  omega
 have hM1 := some_lt M
 have hr1 := some_lt hr
 have hf : Calls Tryz.prog 84 #[U.ptr (w1.heap.size + 1), U.ptr gr, U.ptr gv] W1 fun r w' => GcR W1 (w1.heap.size + 1) gv Z r w' := by
  have hRL : U.RL W1 (w1.heap.size + 1) ro rn rc Z := ⟨G1.r, S.below hb, hcap, by omega, fun h0 e => by have := hlt h0 _ e; omega⟩
  by_cases h0 : rn = 0
  ·have hZ : Z = [] := List.eq_nil_of_length_eq_zero (by rw [S.1]; exact h0)
   exact getcR_any (B := none) ⟨ro, rn, rc, hRL, fun h => absurd hZ h⟩ (fun k e => by cases e) S.2.2.2 (by rw [S.1]; exact hz8) ((G1.b.block gr hr1).trans hr) ((G1.b.block gv hM1).trans M) (by omega)
  ·exact getcR_any ⟨ro, rn, rc, hRL, fun _ => rfl⟩ (fun k e => by have := hlt h0 k e; omega) S.2.2.2 (by rw [S.1]; exact hz8) ((G1.b.block gr hr1).trans hr) ((G1.b.block gv hM1).trans M) (by omega)
 have hR := U.read_any ro rn rc 84 #[U.ptr gr, U.ptr gv] (GcR W1 (w1.heap.size + 1) gv Z) w1 hcf (by rw [hW1]; exact hf) (by
  rintro e w2 ⟨⟨-, -, -, -, K⟩, h⟩
  refine ⟨?_, (K _ (by omega) (by omega) (by omega)).trans G1.v, (K _ (by omega) (by omega) (by omega)).trans G1.e⟩
  rcases h with ⟨_, _, _, _, _, _, _, rfl, _, _, R⟩ | ⟨_, rfl, e, he, R⟩
  ·exact ⟨_, _, .calm R⟩
  ·exact ⟨_, _, .up R he⟩)
 refine hR.mono ?_
 rintro r w' ⟨e2, w2, gave, err, ⟨⟨k1, k2, k3, k4, K⟩, h⟩, hE, rfl, F⟩
 refine ⟨err, rfl, ⟨F.os.trans (k1.trans hb.os), F.tape.trans (k2.trans hb.tape), F.output.trans (k3.trans hb.output), Nat.le_trans hb.size (Nat.le_trans k4 F.size), fun k hk hne => (F.block k (by omega) (by omega) (by omega)).trans ((K k (by omega) (by omega) hne).trans (hb.block k hk))⟩, ?_⟩
 rcases h with ⟨L, R, bo, cc, so, sc, hp, rfl, hM, MB, RR⟩ | ⟨hp, rfl, e, he, RR⟩
 ·refine Or.inl ⟨L, R, bo, cc, hp, ?_, (hM.keep (fun k h1 h2 => F.block k h2 (by omega) (by omega))).mono (by omega), (F.block gv (some_lt MB) (by omega) (by omega)).trans MB⟩
  cases hE with
  | calm R' =>
   obtain ⟨h1, -⟩ := U.rdr_inj RR R'
   rw [h1]
 ·refine Or.inr ⟨hp, ?_⟩
  cases hE with
  | up R' he' => exact he'
theorem GpR.bad (b : Below w.heap.size w w') (h : ∀ L : List Rc, (OkR L L.length ∧ L.length ≤ 9223372036854775807) → rdRecs Z ≠ some (plR L, [])) : GpR w w' Z (.returned (.tuple #[.slice none 0 0, .int .i64 8])) :=
 ⟨b, .inr ⟨fun L hL e => h L hL (by rw [e, ← List.append_nil (recsB (plR L))]; exact rdRecs_to hL.1 hL.2 []), rfl⟩⟩
set_option maxRecDepth 100000 in
set_option maxHeartbeats 4000000 in
theorem packGetR_any (ro : Option Addr) (rn rc : Nat) (Z : List Int) (w : World) (S : U.Src w ro rn rc Z) (hcap : rn ≤ rc) (hz : rn ≤ 140737488355328) (hz8 : rn ≤ 8000000000000) : Calls Tryz.prog 53 #[.slice ro rn rc, rdRF, .func (.func 39) #[] #[]] w fun r w' => GpR w w' Z r := by
 have hmf : ∀ (fn : Fn) (first cap : Array Value) (w : World), (Instr.makeFunc fn first cap).run Tryz.prog w = .ok (.func fn first cap) w := fun _ _ _ _ => rfl
 obtain ⟨g1, hg1⟩ : ∃ g1, w.heap.size = g1 := ⟨_, rfl⟩
 have b1 := below_new w (.cells #[rdRF] 94)
 have x1 := heap_alloc_new w (.cells #[rdRF] 94)
 have s1 := World.size_alloc w (.cells #[rdRF] 94)
 obtain ⟨w1, hw1⟩ : ∃ w1, w.alloc (.cells #[rdRF] 94) = w1 := ⟨_, rfl⟩
 rw [hw1] at b1 x1 s1
 have b3 := below_new w1 (.cells #[.slice none 0 0] 27)
 have x3 := heap_alloc_new w1 (.cells #[.slice none 0 0] 27)
 have s3 := World.size_alloc w1 (.cells #[.slice none 0 0] 27)
 obtain ⟨w4, hw4⟩ : ∃ w4, w1.alloc (.cells #[.slice none 0 0] 27) = w4 := ⟨_, rfl⟩
 rw [hw4] at b3 x3 s3
 rw [s1] at x3 s3
 rw [hg1] at x1 x3 s1 s3
 have bt := b1.trans (b3.mono b1.size)
 have R4 : w4.heap[g1]? = some (.cells #[rdRF] 94 (0, 0)) := (b3.block g1 (by omega)).trans x1
 have HR := hide (readR ro rn rc Z g1 (g1 + 1) w4 (S.below bt) hcap hz hz8 R4 x3)
 have HM : Hid (Below w.heap.size w w4 ∧ w.heap.size = g1 ∧ U.Oc Z) := ⟨bt, hg1, S.2.2.2⟩
 clear S b1 b3 x1 x3 bt R4 hcap hz
 go_enter Tryz.func53, Tryz.ntmps53
 go_wp2_with fail
 clear hw1 hw4 s1 s3 hg1
 refine HR.out.mono ?_
 rintro r w5 ⟨err, rfl, K5, h⟩
 have b5 : Below w.heap.size w w5 := ⟨K5.os.trans HM.out.1.os, K5.tape.trans HM.out.1.tape, K5.output.trans HM.out.1.output, Nat.le_trans HM.out.1.size K5.size, fun k hk => (K5.block k (Nat.lt_of_lt_of_le hk HM.out.1.size) (by have := HM.out.2.1; omega)).trans (HM.out.1.block k hk)⟩
 have HB5 := hide b5
 clear HR b5 K5
 by_cases he : err = 0
 ·subst he
  obtain ⟨L, bo, cc, hp, hMl, MB⟩ : ∃ L bo cc, rdRecs Z = some (plR L, []) ∧ RN w4.heap.size w5 bo cc L ∧ w5.heap[g1 + 1]? = some (.cells #[.slice bo L.length cc] 27 (0, 0)) := by
   rcases h with ⟨L, R, bo, cc, hp, hR, hMl, MB⟩ | ⟨_, h0⟩
   ·cases R with
    | nil => exact ⟨L, bo, cc, hp, hMl, MB⟩
    | cons x R => simp [U.endA] at hR
   ·exact absurd rfl h0
  have l5 := box_cell MB
  have HP := hide hp
  have HMl := hide hMl
  have HMB := hide MB
  clear h hp hMl MB
  go_wp2_with fail
  refine (keepCheck_any bo L.length cc L _ HMl.out.src).mono ?_
  rintro e w6 ⟨x, rfl, hx, b6⟩
  have HB6 := hide (HB5.out.trans (b6.mono HB5.out.size))
  by_cases hok : OkR L L.length
  ·obtain rfl : x = 0 := by
    rcases hx with ⟨e, -⟩ | ⟨-, h⟩
    ·exact e
    ·exact absurd hok h
   clear hx
   have l6 := box_cell ((b6.block (g1 + 1) (some_lt HMB.out)).trans HMB.out)
   have HE : Hid (GpR w w6 Z (.returned (.tuple #[.slice bo L.length cc, .int .i64 0]))) := by
    have e1 := (rdRecs_of HM.out.2.2 HP.out).1
    rw [List.append_nil] at e1
    exact ⟨HB6.out, .inl ⟨L, bo, cc, hok, e1, rfl, (HMl.out.below b6).mono HM.out.1.size⟩⟩
   clear hok b6 l5
   go_wp2_with fail
   go_ret2
   exact HE.out
  ·obtain rfl : x = 1 := by
    rcases hx with ⟨-, h⟩ | ⟨e, -⟩
    ·exact absurd h hok
    ·exact e
   clear hx
   have HE : Hid (GpR w w6 Z (.returned (.tuple #[.slice none 0 0, .int .i64 8]))) := GpR.bad HB6.out (fun q hq e => by
    rw [HP.out] at e
    simp only [Option.some.injEq, Prod.mk.injEq, and_true] at e
    exact hok (okR_pl e.symm hq.1))
   clear hok b6 l5
   go_wp2_with fail
   go_ret2
   exact HE.out
 ·have hne : (err != 0) = true := by simpa using he
  have HE : Hid (GpR w w5 Z (.returned (.tuple #[.slice none 0 0, .int .i64 8]))) := GpR.bad HB5.out (fun q hq e => by
   rcases h with ⟨L, R, bo, cc, hp, hR, hMl, MB⟩ | ⟨hp, h0⟩
   ·rw [hp] at e
    simp only [Option.some.injEq, Prod.mk.injEq] at e
    rw [e.2] at hR
    exact he hR
   ·rw [hp] at e; cases e)
  clear h he
  go_wp2_with fail
  go_ret2
  exact HE.out
set_option maxRecDepth 100000 in
theorem getR_any (ro : Option Addr) (rn rc : Nat) (Z : List Int) (w : World) (S : U.Src w ro rn rc Z) (hcap : rn ≤ rc) (hz : rn ≤ 140737488355328) (hz8 : rn ≤ 8000000000000) : Calls Tryz.prog 24 #[.slice ro rn rc] w fun r w' => GpR w w' Z r := by
 have HC := hide (packGetR_any ro rn rc Z w S hcap hz hz8)
 clear S hcap hz
 go_enter Tryz.func24, Tryz.ntmps24
 go_wp2_with fail
 refine HC.out.mono ?_
 rintro r w2 h
 have HF := hide h
 rcases h with ⟨-, ⟨L, bo, cc, -, -, rfl, -⟩ | ⟨-, rfl⟩⟩
 ·go_wp2_with fail
  go_ret2
  exact HF.out
 ·go_wp2_with fail
  go_ret2
  exact HF.out
end Go.Proofs.YtphohmoibnoeaaaGreat
