/- BPg Lit BKe PLp BFp RMt -/
import Derived.Test.YtmbkmpeongodbaaGreatAr24
import Derived.Test.YtmbkmpeongodbaaGreatAr18
import Derived.Shelf.SlIter.Nil
import Derived.Shelf.SortM.Plain
import Derived.Shelf.SortM.SortNone
import Derived.Test.YtmbkmpeongodbaaGreatProg
import Derived.Test.YtmbkmpeongodbaaGreatAr10
import Derived.Test.YtmbkmpeongodbaaGreatAr15
import Derived.Test.YtmbkmpeongodbaaGreatAr07
import Derived.Test.YtmbkmpeongodbaaGreatAr06
namespace Go.Proofs.YtmbkmpeongodbaaGreat
open Go.RowKit Go.Maps Go.Sort
theorem psrc_keep {W W' : World} {p : Pv} {g : Option Nat} (h : PSrc W p) (hf : ∀ k, g = some k → PFar p k) (hk : ∀ q, q < W.heap.size → some q ≠ g → W'.heap[q]? = W.heap[q]?) : PSrc W' p := by
 have ev : ∀ ad, p.vo = some ad → ∀ t, t < p.vn → W'.cell? (ad.add t) = W.cell? (ad.add t) := fun ad e t ht => by
  have hc := h.vec.2.2 ad e t ht
  have hl := World.block_lt_of_cell? _ _ hc
  rw [block_add] at hl
  unfold World.cell?
  rw [block_add, hk _ hl (fun eg => (hf _ eg.symm).1 (by omega) ad e rfl)]
 have ec : ∀ ad, p.co = some ad → ∀ t, t < p.cn → ∀ j, W'.cell? (ad.add j) = W.cell? (ad.add j) := fun ad e t ht j => by
  have hl := World.block_lt_of_cell? _ _ (h.cloud.cell ad e t ht).c0
  rw [block_add] at hl
  unfold World.cell?
  rw [block_add, hk _ hl (fun eg => (hf _ eg.symm).2 (by omega) ad e rfl)]
 refine ⟨⟨h.vec.1, h.vec.2.1, fun ad e t ht => by rw [ev ad e t ht]; exact h.vec.2.2 ad e t ht⟩, ⟨h.cloud.len, h.cloud.nil, fun ad e t ht => ?_, h.cloud.big, h.cloud.cap⟩, h.big⟩
 have A := h.cloud.cell ad e t ht
 have e' := ec ad e t ht
 exact ⟨by rw [e']; exact A.c0, by have := A.c1; rw [add_add] at this ⊢; rw [e']; exact this, by have := A.c2; rw [add_add] at this ⊢; rw [e']; exact this⟩
def FarH (h : Hs) (p : Pv) : Prop := ∀ k, (HsV h).ownBlock = some k → PFar p k
theorem OwnP.app {B : Nat} {w W : World} {h : Hs} {L : List Pv} (O : OwnP B w W h L) (hF : ∀ p ∈ L, FarH h p) (p : Pv) (hp : PSrc W p) (hf : FarH h p) (hn : h.n ≤ 2900000000000) :
  ∃ g c2 W2, (Builtin.append_ #[108, 108] 108 #[HsV h, .slice (some ⟨W.heap.size, 0, none⟩) 1 1]).run Tryz.prog (W.alloc (.cells (PC p) 26)) = .ok (.slice (some ⟨g, 0, none⟩) (h.n + 1) c2) W2 ∧ OwnP B w W2 ⟨some ⟨g, 0, none⟩, h.n + 1, c2⟩ (L ++ [p]) ∧ (∀ q ∈ L ++ [p], FarH ⟨some ⟨g, 0, none⟩, h.n + 1, c2⟩ q) ∧ (∀ q, q < W.heap.size → (HsV h).ownBlock ≠ some q → W2.heap[q]? = W.heap[q]?) := by
 obtain ⟨i0, hi, hz0, hz1, hz2⟩ := info_parts infoPast
 have b1 := below_new W (.cells (PC p) 26)
 have O1 := O.later b1
 obtain ⟨v', W2, hrun, hown, hgrow, _, hat⟩ := run_append_own_at (P := Tryz.prog) (W.alloc (.cells (PC p) 26)) B 108 108 26 i0 (.agg #[.slice none 0 0, .slice none 0 0]) 2 48 Tryz.underlying108 hi hz0 hz1 hz2 (by simp [Value.cells]) (by decide) (HsV h) h.n (pvs L) O1.own ⟨W.heap.size, 0, none⟩ 1 1 (PC p).toList rfl (fun j u hj => by
  rw [Addr.add_lit, Nat.zero_add, World.cell?_alloc_new]
  simpa using hj) (pvs_cell p) (by unfold maxLen; omega) (by omega) O1.hB.2
 rcases hown.2 with ⟨h0, h00⟩ | ⟨g, cap2, cur, hv, hbg, hgg, hnc, hcm, hcsz, htake⟩
 ·omega
 ·subst hv
  have hall : ∀ q ∈ L ++ [p], PSrc (W.alloc (.cells (PC p) 26)) q ∧ FarH h q := fun q hq => by
   rcases List.mem_append.1 hq with hq | hq
   ·exact ⟨O1.src q hq, hF q hq⟩
   ·obtain rfl : q = p := by simpa using hq
    exact ⟨hp.below b1, hf⟩
  have hrow : ∀ k, (HsV h).ownBlock = some k → B ≤ k := fun k hk => (O1.own.lt k hk).1
  refine ⟨g, cap2, W2, hrun, ⟨by rw [pvs_append, pvs_one]; exact hown, fun q hq => psrc_keep (hall q hq).1 (fun k hk => (hall q hq).2 k hk) (fun k hk hn => hgrow.block k hk hn), O1.below.grown hgrow O1.below.size (fun k hk => by have := hrow k hk; have := O.hB; omega), O.hB.1, Nat.le_trans O1.hB.2 hgrow.size⟩, fun q hq k hk => ?_, fun q hq hn => (hgrow.block q (by simp; omega) (fun e => hn e.symm)).trans (Below.heap_alloc W _ q hq)⟩
  rcases hat with e | e
  ·exact (hall q hq).2 k (by rw [← e]; exact hk)
  ·rw [e] at hk
   have := Option.some.inj hk
   exact PFar.old (hall q hq).1 (by omega)
/-! ### records -/
def rvs (L : List Rc) : List Value := (L.map (fun r => (ReC (mkR r)).toList)).flatten
theorem rvs_append (L R : List Rc) : rvs (L ++ R) = rvs L ++ rvs R := by simp [rvs]
theorem rvs_one (r : Rc) : rvs [r] = (ReC (mkR r)).toList := by simp [rvs]
theorem rvs_length (L : List Rc) : (rvs L).length = L.length * 3 := by
 induction L with
 | nil => rfl
 | cons a L ih => have : rvs (a :: L) = (ReC (mkR a)).toList ++ rvs L := rfl; rw [this, List.length_append, ih]; simp [ReC]; omega
theorem rvs_at (L : List Rc) (t j : Nat) (ht : t < L.length) (hj : j < 3) : (rvs L)[t * 3 + j]? = (ReC (mkR (L.getD t rc0))).toList[j]? := by
 induction L generalizing t with
 | nil => simp at ht
 | cons a L ih =>
  have e : rvs (a :: L) = (ReC (mkR a)).toList ++ rvs L := rfl
  cases t with
  | zero => rw [e, List.getElem?_append_left (by simp [ReC]; omega)]; simp [List.getD]
  | succ t =>
   rw [e, List.getElem?_append_right (by simp [ReC]; omega)]
   have h := ih t (by simpa using ht)
   have e4 : (t + 1) * 3 + j - (ReC (mkR a)).toList.length = t * 3 + j := by simp [ReC]; omega
   rw [e4, h]; simp [List.getD]
theorem rvs_cell (r : Rc) : ∀ v ∈ (ReC (mkR r)).toList, v.oneCell' = true := by
 intro v hv; simp [ReC] at hv; rcases hv with rfl | rfl | rfl <;> rfl
theorem infoRec : (Tryz.prog.info? 65).map (fun i => (i.zero, i.size, i.bytes)) = some (some (.agg #[.string ⟨#[]⟩, .slice none 0 0, .slice none 0 0]), 3, 64) := by kernel_rfl
structure OwnRc (B : Nat) (w W : World) (h : Hs) (L : List Rc) : Prop where
 own : W.ownsRow B 65 3 (HsV h) h.n (rvs L)
 ok : ∀ r ∈ L, RcOk W r ∧ FarH h r.p
 below : Below w.heap.size w W
 hB : w.heap.size ≤ B ∧ B ≤ W.heap.size
theorem OwnRc.nil (w : World) : OwnRc w.heap.size w w hs0 [] := ⟨World.ownsRow_nil _ _ _ _, fun p h => (by cases h), Below.refl _ _, Nat.le_refl _, Nat.le_refl _⟩
theorem OwnRc.later {B : Nat} {w W W2 : World} {h : Hs} {L : List Rc} (O : OwnRc B w W h L) (hb : Below W.heap.size W W2) : OwnRc B w W2 h L := by
 refine ⟨O.own.kept (grown_of_below hb) ?_, fun p hp => ⟨(O.ok p hp).1.below hb, (O.ok p hp).2⟩, O.below.trans (hb.mono O.below.size), O.hB.1, Nat.le_trans O.hB.2 hb.size⟩
 cases (HsV h).ownBlock with
 | none => exact .inl rfl
 | some g => exact .inr (by simp)
theorem OwnRc.app {B : Nat} {w W : World} {h : Hs} {L : List Rc} (O : OwnRc B w W h L) (r : Rc) (hp : RcOk W r) (hf : FarH h r.p) (hn : h.n ≤ 2199023255551) :
  ∃ g c2 W2, (Builtin.append_ #[34, 34] 34 #[HsV h, .slice (some ⟨W.heap.size, 0, none⟩) 1 1]).run Tryz.prog (W.alloc (.cells (ReC (mkR r)) 65)) = .ok (.slice (some ⟨g, 0, none⟩) (h.n + 1) c2) W2 ∧ OwnRc B w W2 ⟨some ⟨g, 0, none⟩, h.n + 1, c2⟩ (L ++ [r]) ∧ (∀ q, q < W.heap.size → (HsV h).ownBlock ≠ some q → W2.heap[q]? = W.heap[q]?) := by
 obtain ⟨i0, hi, hz0, hz1, hz2⟩ := info_parts infoRec
 have b1 := below_new W (.cells (ReC (mkR r)) 65)
 have O1 := O.later b1
 obtain ⟨v', W2, hrun, hown, hgrow, _, hat⟩ := run_append_own_at (P := Tryz.prog) (W.alloc (.cells (ReC (mkR r)) 65)) B 34 34 65 i0 (.agg #[.string ⟨#[]⟩, .slice none 0 0, .slice none 0 0]) 3 64 Tryz.underlying34 hi hz0 hz1 hz2 (by simp [Value.cells]) (by decide) (HsV h) h.n (rvs L) O1.own ⟨W.heap.size, 0, none⟩ 1 1 (ReC (mkR r)).toList rfl (fun j u hj => by
  rw [Addr.add_lit, Nat.zero_add, World.cell?_alloc_new]
  simpa using hj) (rvs_cell r) (by unfold maxLen; omega) (by omega) O1.hB.2
 rcases hown.2 with ⟨h0, h00⟩ | ⟨g, cap2, cur, hv, hbg, hgg, hnc, hcm, hcsz, htake⟩
 ·omega
 ·subst hv
  have hall : ∀ q ∈ L ++ [r], RcOk (W.alloc (.cells (ReC (mkR r)) 65)) q ∧ FarH h q.p := fun q hq => by
   rcases List.mem_append.1 hq with hq | hq
   ·exact O1.ok q hq
   ·obtain rfl : q = r := by simpa using hq
    exact ⟨hp.below b1, hf⟩
  have hrow : ∀ k, (HsV h).ownBlock = some k → B ≤ k := fun k hk => (O1.own.lt k hk).1
  refine ⟨g, cap2, W2, hrun, ⟨by rw [rvs_append, rvs_one]; exact hown, fun q hq => ⟨⟨psrc_keep (hall q hq).1.1 (fun k hk => (hall q hq).2 k hk) (fun k hk hn => hgrow.block k hk hn), (hall q hq).1.2⟩, fun k hk => ?_⟩, O1.below.grown hgrow O1.below.size (fun k hk => by have := hrow k hk; have := O.hB; omega), O.hB.1, Nat.le_trans O1.hB.2 hgrow.size⟩, fun q hq hn => (hgrow.block q (by simp; omega) (fun e => hn e.symm)).trans (Below.heap_alloc W _ q hq)⟩
  rcases hat with e | e
  ·exact (hall q hq).2 k (by rw [← e]; exact hk)
  ·rw [e] at hk
   have := Option.some.inj hk
   exact PFar.old (hall q hq).1.1 (by omega)
theorem OwnRc.src {B : Nat} {w W : World} {h : Hs} {L : List Rc} (O : OwnRc B w W h L) (hn : h.n ≤ 2199023255552) : RcS W h.o h.n h.c L := by
 have hl : L.length = h.n := by have := O.own.1; rw [rvs_length] at this; omega
 have hok : ∀ r ∈ L, RcOk W r := fun r hr => (O.ok r hr).1
 have hr := O.own
 obtain ⟨o, n, c⟩ := h
 rcases hr.2 with ⟨h0, h00⟩ | ⟨g, cap, cur, hv, hbg, hgg, hnc, hcm, hcsz, htake⟩
 ·refine ⟨hl, fun _ => h00, fun ad e t ht => ?_, hok, hn⟩
  omega
 ·simp only [Value.slice.injEq] at hv
  obtain ⟨rfl, -, rfl⟩ := hv
  refine ⟨hl, fun e => (by cases e), fun ad e t ht => ?_, hok, hn⟩
  obtain rfl : (⟨g, 0, none⟩ : Addr) = ad := Option.some.inj e
  have hc : ∀ j, j < 3 → W.cell? ⟨g, t * 3 + j, none⟩ = (ReC (mkR (L.getD t rc0))).toList[j]? := fun j hj => by
   have h1 := World.ownsRow.cellAt hr (t * 3 + j) (by dsimp only at ht ⊢; omega)
   rw [h1, rvs_at L t j (by omega) hj]
  refine ⟨?_, ?_, ?_⟩
  ·rw [Addr.add_lit, Nat.zero_add]
   exact hc 0 (by omega)
  ·rw [Addr.add_lit, Addr.add_lit, Nat.zero_add]
   exact hc 1 (by omega)
  ·rw [Addr.add_lit, Addr.add_lit, Nat.zero_add]
   exact hc 2 (by omega)
end Go.Proofs.YtmbkmpeongodbaaGreat
namespace Go.Proofs
open Go.Shelf
def Tryz.keysM_ren : Go.Shelf.Ren := ⟨fun | 7 => 122 | 10 => 159 | n => n, fun | 23 => 161 | 26 => 9 | 3 => 108 | 28 => 165 | 0 => 0 | 27 => 164 | 33 => 100 | 4 => 4 | n => n, fun | n => n⟩
theorem Tryz.keysM : Go.Proofs.SlLaysZ.n7 Tryz.prog Tryz.keysM_ren := {
 mixed := by kernel_rfl
 f7 := ⟨Tryz.f122.name, by decide, Tryz.func122.trans (congrArg some (by kernel_rfl))⟩
 f10 := ⟨Tryz.f159.name, by decide, Tryz.func159.trans (congrArg some (by kernel_rfl))⟩
 t0 := Tryz.underlying0
 a0 := Tryz.isAgg0
 z0 := Tryz.sizeOf0
 v0 := Tryz.zeroValue0
 t4 := Tryz.underlying4
 a4 := Tryz.isAgg4
 z4 := Tryz.sizeOf4
 v4 := Tryz.zeroValue4
 t23 := Tryz.underlying161
 a23 := Tryz.isAgg161
 z23 := Tryz.sizeOf161
 v23 := Tryz.zeroValue161
 t26 := Tryz.underlying9
 a26 := Tryz.isAgg9
 z26 := Tryz.sizeOf9
 v26 := Tryz.zeroValue9
 t27 := Tryz.underlying164
 a27 := Tryz.isAgg164
 z27 := Tryz.sizeOf164
 v27 := Tryz.zeroValue164
 t28 := Tryz.underlying165
 a28 := Tryz.isAgg165
 z28 := Tryz.sizeOf165
 v28 := Tryz.zeroValue165
 t33 := Tryz.underlying100
 a33 := Tryz.isAgg100
 z33 := Tryz.sizeOf100
 v33 := Tryz.zeroValue100 }
def Tryz.sortedM_ren : Go.Shelf.Ren := ⟨fun | 6 => 121 | 8 => 157 | 9 => 158 | 11 => 176 | 13 => 162 | 12 => 177 | 23 => 187 | 24 => 188 | 14 => 206 | 15 => 207 | 16 => 208 | 17 => 209 | 18 => 210 | 19 => 211 | 20 => 212 | 21 => 213 | 22 => 214 | 25 => 226 | 26 => 216 | 27 => 217 | 28 => 227 | 29 => 228 | 30 => 229 | 31 => 233 | n => n, fun | 26 => 9 | 28 => 165 | 24 => 162 | 0 => 0 | 3 => 3 | 37 => 198 | 48 => 214 | 50 => 62 | 4 => 4 | 40 => 208 | 39 => 207 | 45 => 183 | 5 => 5 | 9 => 9 | 51 => 232 | 55 => 236 | 57 => 244 | 58 => 74 | 33 => 100 | n => n, fun | n => n⟩
theorem Tryz.sortedM : Go.Proofs.SlLaysZ.n6 Tryz.prog Tryz.sortedM_ren := {
 mixed := by kernel_rfl
 f6 := ⟨Tryz.f121.name, by decide, Tryz.func121.trans (congrArg some (by kernel_rfl))⟩
 f8 := ⟨Tryz.f157.name, by decide, Tryz.func157.trans (congrArg some (by kernel_rfl))⟩
 f11 := ⟨Tryz.f176.name, by decide, Tryz.func176.trans (congrArg some (by kernel_rfl))⟩
 t0 := Tryz.underlying0
 a0 := Tryz.isAgg0
 z0 := Tryz.sizeOf0
 v0 := Tryz.zeroValue0
 t24 := Tryz.underlying162
 a24 := Tryz.isAgg162
 z24 := Tryz.sizeOf162
 v24 := Tryz.zeroValue162
 t26 := Tryz.underlying9
 a26 := Tryz.isAgg9
 z26 := Tryz.sizeOf9
 v26 := Tryz.zeroValue9
 t28 := Tryz.underlying165
 a28 := Tryz.isAgg165
 z28 := Tryz.sizeOf165
 v28 := Tryz.zeroValue165
 i26 := by kernel_rfl }
def Tryz.sortM_ren : Go.Shelf.Ren := ⟨fun | 6 => 158 | 8 => 162 | 9 => 177 | 19 => 187 | 20 => 188 | 21 => 206 | 22 => 207 | 23 => 208 | 24 => 209 | 25 => 210 | 26 => 211 | 27 => 212 | 28 => 213 | 29 => 214 | 36 => 226 | 31 => 216 | 32 => 217 | 37 => 227 | 38 => 228 | 39 => 229 | 41 => 233 | n => n, fun | 27 => 162 | 29 => 9 | 3 => 3 | 32 => 198 | 26 => 162 | 0 => 0 | 44 => 214 | 46 => 62 | 4 => 4 | 36 => 208 | 35 => 207 | 41 => 183 | 5 => 5 | 9 => 9 | 53 => 232 | 57 => 236 | 63 => 244 | 64 => 74 | n => n, fun | n => n⟩
theorem Tryz.sortM : Go.Proofs.SlLaysM.n6 Tryz.prog Tryz.sortM_ren := {
 mixed := by kernel_rfl
 f6 := ⟨Tryz.f158.name, by decide, Tryz.func158.trans (congrArg some (by kernel_rfl))⟩
 f8 := Tryz.func162.trans (congrArg some (by kernel_rfl))
 f9 := ⟨Tryz.f177.name, by decide, Tryz.func177.trans (congrArg some (by kernel_rfl))⟩
 f19 := Tryz.func187.trans (congrArg some (by kernel_rfl))
 f20 := Tryz.func188.trans (congrArg some (by kernel_rfl))
 f21 := ⟨Tryz.f206.name, by decide, Tryz.func206.trans (congrArg some (by kernel_rfl))⟩
 f22 := ⟨Tryz.f207.name, by decide, Tryz.func207.trans (congrArg some (by kernel_rfl))⟩
 f23 := ⟨Tryz.f208.name, by decide, Tryz.func208.trans (congrArg some (by kernel_rfl))⟩
 f24 := ⟨Tryz.f209.name, by decide, Tryz.func209.trans (congrArg some (by kernel_rfl))⟩
 f25 := ⟨Tryz.f210.name, by decide, Tryz.func210.trans (congrArg some (by kernel_rfl))⟩
 f26 := ⟨Tryz.f211.name, by decide, Tryz.func211.trans (congrArg some (by kernel_rfl))⟩
 f27 := ⟨Tryz.f212.name, by decide, Tryz.func212.trans (congrArg some (by kernel_rfl))⟩
 f28 := ⟨Tryz.f213.name, by decide, Tryz.func213.trans (congrArg some (by kernel_rfl))⟩
 f29 := ⟨Tryz.f214.name, by decide, Tryz.func214.trans (congrArg some (by kernel_rfl))⟩
 f31 := Tryz.func216.trans (congrArg some (by kernel_rfl))
 f32 := Tryz.func217.trans (congrArg some (by kernel_rfl))
 f36 := ⟨Tryz.f226.name, by decide, Tryz.func226.trans (congrArg some (by kernel_rfl))⟩
 f37 := ⟨Tryz.f227.name, by decide, Tryz.func227.trans (congrArg some (by kernel_rfl))⟩
 f38 := ⟨Tryz.f228.name, by decide, Tryz.func228.trans (congrArg some (by kernel_rfl))⟩
 f39 := ⟨Tryz.f229.name, by decide, Tryz.func229.trans (congrArg some (by kernel_rfl))⟩
 f41 := ⟨Tryz.f233.name, by decide, Tryz.func233.trans (congrArg some (by kernel_rfl))⟩
 t0 := Tryz.underlying0
 a0 := Tryz.isAgg0
 z0 := Tryz.sizeOf0
 v0 := Tryz.zeroValue0
 t3 := Tryz.underlying3
 a3 := Tryz.isAgg3
 z3 := Tryz.sizeOf3
 v3 := Tryz.zeroValue3
 t4 := Tryz.underlying4
 a4 := Tryz.isAgg4
 z4 := Tryz.sizeOf4
 v4 := Tryz.zeroValue4
 t5 := Tryz.underlying5
 a5 := Tryz.isAgg5
 z5 := Tryz.sizeOf5
 v5 := Tryz.zeroValue5
 t9 := Tryz.underlying9
 a9 := Tryz.isAgg9
 z9 := Tryz.sizeOf9
 v9 := Tryz.zeroValue9
 t26 := Tryz.underlying162
 a26 := Tryz.isAgg162
 z26 := Tryz.sizeOf162
 v26 := Tryz.zeroValue162
 t27 := Tryz.underlying162
 a27 := Tryz.isAgg162
 z27 := Tryz.sizeOf162
 v27 := Tryz.zeroValue162
 t29 := Tryz.underlying9
 a29 := Tryz.isAgg9
 z29 := Tryz.sizeOf9
 v29 := Tryz.zeroValue9
 t32 := Tryz.underlying198
 a32 := Tryz.isAgg198
 z32 := Tryz.sizeOf198
 v32 := Tryz.zeroValue198
 t35 := Tryz.underlying207
 a35 := Tryz.isAgg207
 z35 := Tryz.sizeOf207
 v35 := Tryz.zeroValue207
 t36 := Tryz.underlying208
 a36 := Tryz.isAgg208
 z36 := Tryz.sizeOf208
 v36 := Tryz.zeroValue208
 t41 := Tryz.underlying183
 a41 := Tryz.isAgg183
 z41 := Tryz.sizeOf183
 v41 := Tryz.zeroValue183
 t44 := Tryz.underlying214
 a44 := Tryz.isAgg214
 z44 := Tryz.sizeOf214
 v44 := Tryz.zeroValue214
 t46 := Tryz.underlying62
 a46 := Tryz.isAgg62
 z46 := Tryz.sizeOf62
 v46 := Tryz.zeroValue62
 t53 := Tryz.underlying232
 a53 := Tryz.isAgg232
 z53 := Tryz.sizeOf232
 v53 := Tryz.zeroValue232
 t57 := Tryz.underlying236
 a57 := Tryz.isAgg236
 z57 := Tryz.sizeOf236
 v57 := Tryz.zeroValue236
 t63 := Tryz.underlying244
 a63 := Tryz.isAgg244
 z63 := Tryz.sizeOf244
 v63 := Tryz.zeroValue244
 t64 := Tryz.underlying74
 a64 := Tryz.isAgg74
 z64 := Tryz.sizeOf74
 v64 := Tryz.zeroValue74 }
end Go.Proofs
namespace Go.Proofs.YtmbkmpeongodbaaGreat
open Go.RowKit Go.Maps Go.Sort Go.Shelf

theorem sorts_in (m : Nat) : AnyZ.SortsIn Tryz.prog Tryz.sortedM_ren Fence.wide m :=
 ⟨fun blk off cap ss W hH hblk hsz => callsIn_wide.2 (AnyM.slices_Sort_string Tryz.sortM blk off cap ss W hH hblk hsz),
 fun p cap W => callsIn_wide.2 (AnyM.slices_Sort_string_none Tryz.sortM p cap W)⟩
theorem keys_any (mb : Option Nat) (W : World) : Calls Tryz.prog 122 #[.map mb] W fun e w' => e = .returned (.func (.func 159) #[] #[.pointer (some ⟨W.heap.size, 0, none⟩)]) ∧ w' = W.alloc (.cells #[.map mb] 161) :=
 (callsIn_wide (n := 5)).1 (AnyZ.keys_in Tryz.keysM Fence.wide 5 trivial rfl mb W)
def GivesSs (w w' : World) (e : Ending) (T : List (List UInt8)) : Prop := ∃ v, e = .returned v ∧ w'.ownsRow w.heap.size 9 1 v T.length (T.map encStr) ∧ Below w.heap.size w w'
set_option maxHeartbeats 1000000 in
theorem sortedKeys_any {H : Type} (b nn : Nat) (D0 : DataW H) (R : Value → Option (DataW H × List MemPlace)) (w : World) (hown : w.ownsMap Tryz.prog 9 R b nn D0) (hmax : Maps.size D0 ≤ maxLen) (hbytes : Maps.size D0 * 16 ≤ 140737488355328) :
  Calls Tryz.prog 121 #[.func (.func 159) #[] #[.pointer (some ⟨w.heap.size, 0, none⟩)]] (w.alloc (.cells #[.map (some b)] 161)) fun e w' => ∃ ss : List (List UInt8), ss.Perm (strKeys D0) ∧ GivesSs (w.alloc (.cells #[.map (some b)] 161)) w' e (ss.mergeSort leB) := by
 have hbl := hown.lt
 have hseq : SeqGives Fence.wide 2 Tryz.prog 159 #[.pointer (some ⟨w.heap.size, 0, none⟩)] encStr (fun ss => ss.Perm (strKeys D0)) (Maps.size D0) (w.alloc (.cells #[.map (some b)] 161)) :=
  AnyZ.keys_gives (ρ := Tryz.keysM_ren) { Tryz.keysM with } Fence.wide _ trivial rfl (by omega) w.heap.size b nn D0 _ (by simp) (by simp) (by
   obtain ⟨es, clock, hb, Ft, hs, hD⟩ := hown
   exact ⟨es, clock, (Below.heap_alloc _ _ b hbl).trans hb, Ft, hs, hD⟩)
 have h := AnyZ.sorted_in Tryz.sortedM Fence.wide 5 trivial trivial trivial trivial rfl (by omega) (sorts_in _) (enters_of Tryz.func158 (by kernel_rfl) rfl) 159 #[.pointer (some ⟨w.heap.size, 0, none⟩)] trivial (enters_of Tryz.func159 (by kernel_rfl) rfl) _ _ hmax hbytes _ hseq
 refine ((callsIn_wide (n := 5)).1 h).mono ?_
 rintro e w' ⟨v, ss, rfl, hS, hrow, _, hb⟩
 refine ⟨ss, hS, v, rfl, ?_, hb⟩
 have e1 : (ss.mergeSort leB).length = ss.length := (List.mergeSort_perm ss leB).length_eq
 rw [e1]
 exact hrow
end Go.Proofs.YtmbkmpeongodbaaGreat
namespace Go.Proofs.YtmbkmpeongodbaaGreat
open Go.RowKit

def mP (P : Pst) : Nat → Int → Prop := fun r n => mem (runsAt P r) n
def mOr (M M' : Nat → Int → Prop) : Nat → Int → Prop := fun r n => M r n ∨ M' r n
def mAnd (M M' : Nat → Int → Prop) : Nat → Int → Prop := fun r n => M r n ∧ M' r n
def mNot (M M' : Nat → Int → Prop) : Nat → Int → Prop := fun r n => M r n ∧ ¬ M' r n
def IsP (M : Nat → Int → Prop) (P : Pst) : Prop := ∃ C, CanonOf C P ∧ ∀ r, r < 16 → ∀ n, mem (C r) n ↔ M r n
def Eqv (M M' : Nat → Int → Prop) : Prop := ∀ r, r < 16 → ∀ n, M r n ↔ M' r n
theorem IsP.len {M : Nat → Int → Prop} {P : Pst} (h : IsP M P) : P.cloud.length ≤ 8000000016 := by
 obtain ⟨C, hC, _⟩ := h
 exact (canon_len hC).1
theorem isP_minus {a b : Pst} {P : Pst} (h : ∃ C : Nat → List Rn, (∀ r, r < 16 → MinusOf (runsAt a r) (runsAt b r) (C r)) ∧ CanonOf C P) : IsP (mNot (mP a) (mP b)) P := by
 obtain ⟨C, hM, hC⟩ := h
 exact ⟨C, hC, fun r hr n => (hM r hr).2 n⟩
def SzP (M : Nat → Int → Prop) (z : Int) : Prop := ∃ N, (∀ r, r < 16 → form 1 (N r) ∧ ∀ n, Go.Proofs.YtmbkmpeongodbaaGreat.mem (N r) n ↔ M r n) ∧ z = sumZ N 16
theorem SzP.none : SzP (fun _ _ => False) 0 := ⟨fun _ => [], fun _ _ => ⟨trivial, fun n => ⟨fun h => mem_nil n h, fun h => h.elim⟩⟩, by decide⟩
end Go.Proofs.YtmbkmpeongodbaaGreat
namespace Go.Proofs.YtmbkmpeongodbaaGreat
open Go.RowKit Go.Maps Go.Sort
theorem OwnRc.setOther {B : Nat} {w W : World} {h : Hs} {L : List Rc} (O : OwnRc B w W h L) (g : Nat) (cs : Array Value) (hg : w.heap.size ≤ g) (hne : (HsV h).ownBlock ≠ some g) (hf : ∀ r ∈ L, PFar r.p g) : OwnRc B w (W.setRow g cs) h L := by
 have hs : (W.setRow g cs).heap.size = W.heap.size := by simp [World.setRow]
 have hk : ∀ q, q < W.heap.size → some q ≠ some g → (W.setRow g cs).heap[q]? = W.heap[q]? := fun q _ hq => setRow_other _ _ _ _ (fun e => hq (by rw [e]))
 have hG : W.grownBy (W.setRow g cs) (some g) := ⟨rfl, rfl, rfl, by omega, hk⟩
 exact ⟨O.own.kept hG (.inr hne), fun r hr => ⟨⟨psrc_keep (O.ok r hr).1.1 (fun k e => by obtain rfl := Option.some.inj e; exact hf r hr) hk, (O.ok r hr).1.2⟩, (O.ok r hr).2⟩, below_setRow O.below hg, O.hB.1, by have := O.hB.2; omega⟩
def ofS (R : List Rc) (s : ByteArray) : List Pv := (R.filter (fun r => decide (r.s = s))).map (fun r => r.p)
theorem ofS_len (R : List Rc) (s : ByteArray) : (ofS R s).length ≤ R.length := by unfold ofS; rw [List.length_map]; exact List.length_filter_le _ _
theorem ofS_snoc (R : List Rc) (r : Rc) (s : ByteArray) : pvs (ofS (R ++ [r]) s) = if s = r.s then pvs (ofS R s) ++ (PC r.p).toList else pvs (ofS R s) := by
 unfold ofS
 rw [List.filter_append, List.map_append, pvs_append]
 by_cases h : s = r.s
 ·subst h; simp [pvs_one]
 ·have h' : ¬ r.s = s := fun e => h e.symm
  simp [h, h', pvs]
theorem ofS_mem {R : List Rc} {s : ByteArray} {p : Pv} : p ∈ ofS R s ↔ ∃ r ∈ R, r.s = s ∧ r.p = p := by
 unfold ofS
 rw [List.mem_map]
 constructor
 ·rintro ⟨r, hr, rfl⟩
  have := List.mem_filter.1 hr
  exact ⟨r, this.1, by simpa using this.2, rfl⟩
 ·rintro ⟨r, hr, hs, rfl⟩
  exact ⟨r, List.mem_filter.2 ⟨hr, by simpa using hs⟩, rfl⟩
theorem runsOf_mem (X : List Pv) (r : Nat) (n : Int) : mem (runsOf X r) n ↔ ∃ p ∈ X, mem (runsAt p.P r) n := by
 induction X with
 | nil => simp [runsOf, mem]
 | cons p X ih =>
  have e : runsOf (p :: X) r = runsAt p.P r ++ runsOf X r := rfl
  rw [e, mem_append, ih]
  simp
def nilF : ByteArray := ⟨#[]⟩
def FoldM (R : List Rc) (s : ByteArray) (r : Nat) (n : Int) : Prop := (∃ x ∈ R, x.s = s ∧ mem (runsAt x.p.P r) n) ∧ (s ≠ nilF → ¬ ∃ x ∈ R, x.s = nilF ∧ mem (runsAt x.p.P r) n)
theorem join_all {R : List Rc} {s : ByteArray} {P : Pst} (h : CanonOf (runsOf (ofS R s)) P) (r : Nat) (hr : r < 16) (n : Int) : mem (runsAt P r) n ↔ ∃ x ∈ R, x.s = s ∧ mem (runsAt x.p.P r) n := by
 rw [canon_mem h r hr n, runsOf_mem]
 constructor
 ·rintro ⟨p, hp, hm⟩
  obtain ⟨x, hx, hs, rfl⟩ := ofS_mem.1 hp
  exact ⟨x, hx, hs, hm⟩
 ·rintro ⟨x, hx, hs, hm⟩
  exact ⟨x.p, ofS_mem.2 ⟨x, hx, hs, rfl⟩, hm⟩
theorem fold_nil {R : List Rc} {P : Pst} (h : CanonOf (runsOf (ofS R nilF)) P) : IsP (FoldM R nilF) P :=
 ⟨_, h, fun r hr n => by
  rw [← canon_mem h r hr n, join_all h r hr n]
  exact ⟨fun h => ⟨h, fun e => absurd rfl e⟩, fun h => h.1⟩⟩
theorem fold_sku {R : List Rc} {s : ByteArray} {P A M : Pst} (hs : s ≠ nilF) (h : CanonOf (runsOf (ofS R s)) P) (ha : CanonOf (runsOf (ofS R nilF)) A) (hm : ∃ C : Nat → List Rn, (∀ r, r < 16 → MinusOf (runsAt P r) (runsAt A r) (C r)) ∧ CanonOf C M) : IsP (FoldM R s) M := by
 obtain ⟨C, hC, hI⟩ := isP_minus hm
 refine ⟨C, hC, fun r hr n => (hI r hr n).trans ?_⟩
 show mem (runsAt P r) n ∧ ¬ mem (runsAt A r) n ↔ _
 rw [join_all h r hr n, join_all ha r hr n]
 exact ⟨fun h => ⟨h.1, fun _ => h.2⟩, fun h => ⟨h.1, h.2 hs⟩⟩
def FoldOf (R F : List Rc) : Prop := F.Pairwise (fun a b => cmpS a.s b.s < 0) ∧ (∀ x ∈ F, (∃ r ∈ R, r.s = x.s) ∧ IsP (FoldM R x.s) x.p.P ∧ ¬ EmptyP x.p.P) ∧ ∀ s, (∃ r ∈ R, r.s = s) → (∀ x ∈ F, x.s ≠ s) → ∀ r, r < 16 → ∀ n, ¬ FoldM R s r n
def FPre (R : List Rc) (T : List (List UInt8)) (F : List Rc) : Prop := (F.map (fun x => x.s.data.toList)).Sublist T ∧ (∀ x ∈ F, IsP (FoldM R x.s) x.p.P ∧ ¬ EmptyP x.p.P) ∧ ∀ t ∈ T, (∀ x ∈ F, x.s ≠ ⟨t.toArray⟩) → ∀ r, r < 16 → ∀ n, ¬ FoldM R ⟨t.toArray⟩ r n
theorem FPre.start (R : List Rc) : FPre R [] [] := ⟨List.Sublist.refl _, fun x h => (by cases h), fun t h => (by cases h)⟩
theorem FPre.skip {R F : List Rc} {T : List (List UInt8)} (h : FPre R T F) (t : List UInt8) (he : ∀ r, r < 16 → ∀ n, ¬ FoldM R ⟨t.toArray⟩ r n) : FPre R (T ++ [t]) F := by
 refine ⟨h.1.trans (List.sublist_append_left _ _), h.2.1, fun u hu hn => ?_⟩
 rcases List.mem_append.1 hu with hu | hu
 ·exact h.2.2 u hu hn
 ·obtain rfl : u = t := by simpa using hu
  exact he
theorem FPre.add {R F : List Rc} {T : List (List UInt8)} (h : FPre R T F) (t : List UInt8) (x : Rc) (hx : x.s = ⟨t.toArray⟩) (hI : IsP (FoldM R x.s) x.p.P) (hE : ¬ EmptyP x.p.P) : FPre R (T ++ [t]) (F ++ [x]) := by
 refine ⟨?_, fun y hy => ?_, fun u hu hn => ?_⟩
 ·rw [List.map_append]
  refine h.1.append ?_
  simp [hx]
 ·rcases List.mem_append.1 hy with hy | hy
  ·exact h.2.1 y hy
  ·obtain rfl : y = x := by simpa using hy
   exact ⟨hI, hE⟩
 ·rcases List.mem_append.1 hu with hu | hu
  ·exact h.2.2 u hu (fun y hy => hn y (List.mem_append_left _ hy))
  ·obtain rfl : u = t := by simpa using hu
   exact absurd hx (hn x (by simp))
theorem FPre.done {R F : List Rc} {T : List (List UInt8)} (h : FPre R T F) (hT : T.Pairwise (fun a b => Lib.compareBytes a b < 0)) (hK : ∀ t, t ∈ T ↔ ∃ r ∈ R, r.s = ⟨t.toArray⟩) : FoldOf R F := by
 refine ⟨List.pairwise_map.1 (hT.sublist h.1), fun x hx => ⟨?_, h.2.1 x hx⟩, fun s hs hn => ?_⟩
 ·have := (hK x.s.data.toList).1 (h.1.subset (List.mem_map.2 ⟨x, hx, rfl⟩))
  simpa using this
 ·have hm : s.data.toList ∈ T := (hK _).2 (by simpa using hs)
  have := h.2.2 _ hm (by simpa using hn)
  simpa using this
end Go.Proofs.YtmbkmpeongodbaaGreat
namespace Go.Proofs.YtmbkmpeongodbaaGreat
open Go.RowKit
attribute [local go_sem ↓] ldR_eq stR_eq
attribute [local go_sem] zero_RC cells_RV RC_size fold_RC
theorem build_RC (x y : Int) : ((RC rn0).setIfInBounds 0 (.int .i64 x)).setIfInBounds 1 (.int .i64 y) = RC ⟨x, y⟩ := rfl
attribute [local go_sem] build_RC
def lenOfS : Value → Nat
 | .slice _ n _ => n
 | _ => 0
set_option maxRecDepth 100000 in
set_option maxHeartbeats 8000000 in
theorem meet_new (ao bo : Option Addr) (n cap m cap' : Nat) (A B : List Rn) (w : World) (hS : RSrc w ao n cap A) (hR : RSrc w bo m cap' B) :
  Calls Tryz.prog 125 #[.slice ao n cap, .slice bo m cap'] w fun e w' => GivesRN w w' e (MeetOf A B) := by
 have HS := hide hS
 have HR := hide hR
 clear hS hR
 go_enter Tryz.func125, Tryz.ntmps125
 go_wp2_with fail
 refine (norm_any ao n cap A _ HS.out).mono ?_
 rintro e w1 ⟨a1, n1, c1, X, rfl, S1, b1, p1⟩
 have HS1 := hide S1
 have HP1 := hide p1
 have HB1 := hide b1
 clear S1 b1 p1
 go_wp2_with fail
 refine (norm_any bo m cap' B _ (HR.out.below HB1.out)).mono ?_
 rintro e w2 ⟨a2, n2, c2, Y, rfl, S2, b2, p2⟩
 have HS2 := hide S2
 have HP2 := hide p2
 have HS1' := hide (HS1.out.below b2)
 have HB2 := hide (HB1.out.trans (b2.mono HB1.out.size))
 clear S2 b2 p2 HS1 HB1
 go_wp2_with fail
 go_loopw [5, 6, 7, 8, 9] (fun u v o _ _ wr => ∃ (ax : Option Addr) (nx cx : Nat) (x' : List Rn) (ay : Option Addr) (ny cy : Nat) (y' : List Rn) (ap : Option Addr) (c : Nat) (acc : List Rn), u = .slice ax nx cx ∧ v = .slice ay ny cy ∧ o = .slice ap acc.length c ∧ RSrc w2 ax nx cx x' ∧ RSrc w2 ay ny cy y' ∧ OwnR w2.heap.size w2.heap.size w2 wr ap c acc ∧ MtInv X Y x' y' acc) (fun u v _ _ _ _ => lenOfS u + lenOfS v)
 case atStart => exact ⟨a1, n1, c1, X, a2, n2, c2, Y, none, 0, [], rfl, rfl, rfl, HS1'.out, HS2.out, OwnR.nil (Below.refl _ _) (Nat.le_refl _) (Nat.le_refl _), MtInv.start HP1.out.1 HP2.out.1⟩
 case round =>
  obtain ⟨ax, nx, cx, x', ay, ny, cy, y', ap, c, acc, rfl, rfl, rfl, SX, SY, O, I⟩ := hrel
  rename World => w4
  have H : Hid (OwnR w2.heap.size w2.heap.size w2 w4 ap c acc ∧ MtInv X Y x' y' acc) := ⟨O, I⟩
  have HSX := hide SX
  have HSY := hide SY
  have hal := form_small (Int.le_refl _) I.frm
  have hcx := SX.cap
  have hcy := SY.cap
  have hrx := SX.room
  have hry := SY.room
  unfold maxLen at hrx hry
  clear SX SY O I
  by_cases h1 : 0 < nx
  ·by_cases h2 : 0 < ny
   ·obtain ⟨adx, rfl, _⟩ := HSX.out.at 0 h1
    obtain ⟨ady, rfl, _⟩ := HSY.out.at 0 h2
    obtain ⟨bx, ox, rfl⟩ := HSX.out.spot h1
    obtain ⟨by_, oy, rfl⟩ := HSY.out.spot h2
    obtain ⟨a, xs, rfl⟩ : ∃ a xs, x' = a :: xs := by
     have := HSX.out.len
     cases x' with
     | nil => simp at this; omega
     | cons a xs => exact ⟨a, xs, rfl⟩
    obtain ⟨b, ys, rfl⟩ : ∃ b ys, y' = b :: ys := by
     have := HSY.out.len
     cases y' with
     | nil => simp at this; omega
     | cons b ys => exact ⟨b, ys, rfl⟩
    obtain ⟨q0, q1⟩ := HSX.out.nums 0 h1
    obtain ⟨q2, q3⟩ := HSY.out.nums 0 h2
    simp [List.getD] at q0 q1 q2 q3
    have HQ1 := hide q1
    have HQ3 := hide q3
    have k0 := cell_regrown ((H.out.1.below.cell (World.block_lt_of_cell? _ _ q0)).trans q0)
    have k1 := cell_regrown ((H.out.1.below.cell (World.block_lt_of_cell? _ _ q1)).trans q1)
    have k2 := cell_regrown ((H.out.1.below.cell (World.block_lt_of_cell? _ _ q2)).trans q2)
    have k3 := cell_regrown ((H.out.1.below.cell (World.block_lt_of_cell? _ _ q3)).trans q3)
    clear q0 q1 q2 q3
    by_cases hle : max a.lo b.lo ≤ min a.hi b.hi
    ·by_cases hlt : a.hi < b.hi
     ·go_wp2_with fail
      refine wp_region_quiet_below (by kernel_rfl) (by kernel_rfl) ?_
      repeat (with_reducible (refine wpQuiet_step ?_); intro K hK; go_simp; (try rw [if_neg (by unfold undef; simp)]); first | (with_reducible (refine hK _ ?_); clear hK K) | (apply Exists.intro; refine ⟨fun _ => ?_, hK _ ?_⟩; (fail); clear hK K))
      with_reducible (refine wpQuiet_nil ?_)
      intro w5 hw'
      obtain ⟨⟨dq, osq⟩, hw''⟩ := hw'
      have b5 : Below w4.heap.size w4 w5 := by rw [hw'']; exact below_regrown w4 dq osq
      clear hw'' dq osq
      have HO5 := hide (H.out.1.later b5)
      clear b5 k0 k1 k2 k3
      go_wp2_with (at_builtin; refine HO5.out.append ⟨max a.lo b.lo, min a.hi b.hi⟩ _ rfl (by omega) rfl (.tmp 43) (.tmp 47) rfl acc.length rfl rfl rfl ?_; intro g6 c6 w6 O6)
      have HO6 := hide O6
      clear O6
      have hl6 : (acc ++ [(⟨max a.lo b.lo, min a.hi b.hi⟩ : Rn)]).length = acc.length + 1 := by simp
      have k1 := cell_regrown ((HO6.out.below.cell (World.block_lt_of_cell? _ _ HQ1.out)).trans HQ1.out)
      have k3 := cell_regrown ((HO6.out.below.cell (World.block_lt_of_cell? _ _ HQ3.out)).trans HQ3.out)
      refine wp_region_quiet_below (by kernel_rfl) (by kernel_rfl) ?_
      repeat (with_reducible (refine wpQuiet_step ?_); intro K hK; go_simp; (try rw [if_neg (by unfold undef; simp)]); first | (with_reducible (refine hK _ ?_); clear hK K) | (apply Exists.intro; refine ⟨fun _ => ?_, hK _ ?_⟩; (fail); clear hK K))
      with_reducible (refine wpQuiet_nil ?_)
      intro w8 hw'
      obtain ⟨⟨dq, osq⟩, hw''⟩ := hw'
      have b8 : Below w6.heap.size w6 w8 := by rw [hw'']; exact below_regrown w6 dq osq
      clear hw'' dq osq
      have HO8 := hide (HO6.out.later b8)
      clear b8 k1 k3
      have HM : Hid (met acc a b = acc ++ [⟨max a.lo b.lo, min a.hi b.hi⟩]) := by show _ = _; unfold met; rw [if_pos (by omega)]
      have HN := hide (H.out.2.left (by omega))
      rw [HM.out] at HN
      go_wp2_with fail
      go_roundw
      case rel => exact ⟨if cx = 1 then some ⟨bx, ox, none⟩ else some ⟨bx, ox + 2, none⟩, nx - 1, cx - 1, xs, some ⟨by_, oy, none⟩, ny, cy, b :: ys, some ⟨g6, 0, none⟩, c6, acc ++ [⟨max a.lo b.lo, min a.hi b.hi⟩], rfl, rfl, by simp, HSX.out.tail', HSY.out, HO8.out, HN.out⟩
      case measure => simp [lenOfS]; omega
     ·go_wp2_with fail
      refine wp_region_quiet_below (by kernel_rfl) (by kernel_rfl) ?_
      repeat (with_reducible (refine wpQuiet_step ?_); intro K hK; go_simp; (try rw [if_neg (by unfold undef; simp)]); first | (with_reducible (refine hK _ ?_); clear hK K) | (apply Exists.intro; refine ⟨fun _ => ?_, hK _ ?_⟩; (fail); clear hK K))
      with_reducible (refine wpQuiet_nil ?_)
      intro w5 hw'
      obtain ⟨⟨dq, osq⟩, hw''⟩ := hw'
      have b5 : Below w4.heap.size w4 w5 := by rw [hw'']; exact below_regrown w4 dq osq
      clear hw'' dq osq
      have HO5 := hide (H.out.1.later b5)
      clear b5 k0 k1 k2 k3
      go_wp2_with (at_builtin; refine HO5.out.append ⟨max a.lo b.lo, min a.hi b.hi⟩ _ rfl (by omega) rfl (.tmp 43) (.tmp 47) rfl acc.length rfl rfl rfl ?_; intro g6 c6 w6 O6)
      have HO6 := hide O6
      clear O6
      have hl6 : (acc ++ [(⟨max a.lo b.lo, min a.hi b.hi⟩ : Rn)]).length = acc.length + 1 := by simp
      have k1 := cell_regrown ((HO6.out.below.cell (World.block_lt_of_cell? _ _ HQ1.out)).trans HQ1.out)
      have k3 := cell_regrown ((HO6.out.below.cell (World.block_lt_of_cell? _ _ HQ3.out)).trans HQ3.out)
      refine wp_region_quiet_below (by kernel_rfl) (by kernel_rfl) ?_
      repeat (with_reducible (refine wpQuiet_step ?_); intro K hK; go_simp; (try rw [if_neg (by unfold undef; simp)]); first | (with_reducible (refine hK _ ?_); clear hK K) | (apply Exists.intro; refine ⟨fun _ => ?_, hK _ ?_⟩; (fail); clear hK K))
      with_reducible (refine wpQuiet_nil ?_)
      intro w8 hw'
      obtain ⟨⟨dq, osq⟩, hw''⟩ := hw'
      have b8 : Below w6.heap.size w6 w8 := by rw [hw'']; exact below_regrown w6 dq osq
      clear hw'' dq osq
      have HO8 := hide (HO6.out.later b8)
      clear b8 k1 k3
      have HM : Hid (met acc a b = acc ++ [⟨max a.lo b.lo, min a.hi b.hi⟩]) := by show _ = _; unfold met; rw [if_pos (by omega)]
      have HN := hide (H.out.2.right (by omega))
      rw [HM.out] at HN
      go_wp2_with fail
      go_roundw
      case rel => exact ⟨some ⟨bx, ox, none⟩, nx, cx, a :: xs, if cy = 1 then some ⟨by_, oy, none⟩ else some ⟨by_, oy + 2, none⟩, ny - 1, cy - 1, ys, some ⟨g6, 0, none⟩, c6, acc ++ [⟨max a.lo b.lo, min a.hi b.hi⟩], rfl, rfl, by simp, HSX.out, HSY.out.tail', HO8.out, HN.out⟩
      case measure => simp [lenOfS]; omega
    ·by_cases hlt : a.hi < b.hi
     ·go_wp2_with fail
      refine wp_region_quiet_below (by kernel_rfl) (by kernel_rfl) ?_
      repeat (with_reducible (refine wpQuiet_step ?_); intro K hK; go_simp; (try rw [if_neg (by unfold undef; simp)]); first | (with_reducible (refine hK _ ?_); clear hK K) | (apply Exists.intro; refine ⟨fun _ => ?_, hK _ ?_⟩; (fail); clear hK K))
      with_reducible (refine wpQuiet_nil ?_)
      intro w5 hw'
      obtain ⟨⟨dq, osq⟩, hw''⟩ := hw'
      have b5 : Below w4.heap.size w4 w5 := by rw [hw'']; exact below_regrown w4 dq osq
      clear hw'' dq osq
      have HO5 := hide (H.out.1.later b5)
      clear b5 k0 k1 k2 k3
      go_wp2_with fail
      have k1 := cell_regrown ((HO5.out.below.cell (World.block_lt_of_cell? _ _ HQ1.out)).trans HQ1.out)
      have k3 := cell_regrown ((HO5.out.below.cell (World.block_lt_of_cell? _ _ HQ3.out)).trans HQ3.out)
      refine wp_region_quiet_below (by kernel_rfl) (by kernel_rfl) ?_
      repeat (with_reducible (refine wpQuiet_step ?_); intro K hK; go_simp; (try rw [if_neg (by unfold undef; simp)]); first | (with_reducible (refine hK _ ?_); clear hK K) | (apply Exists.intro; refine ⟨fun _ => ?_, hK _ ?_⟩; (fail); clear hK K))
      with_reducible (refine wpQuiet_nil ?_)
      intro w8 hw'
      obtain ⟨⟨dq, osq⟩, hw''⟩ := hw'
      have b8 : Below w5.heap.size w5 w8 := by rw [hw'']; exact below_regrown w5 dq osq
      clear hw'' dq osq
      have HO8 := hide (HO5.out.later b8)
      clear b8 k1 k3
      have HM : Hid (met acc a b = acc) := by show _ = _; unfold met; rw [if_neg (by omega)]
      have HN := hide (H.out.2.left (by omega))
      rw [HM.out] at HN
      go_wp2_with fail
      go_roundw
      case rel => exact ⟨if cx = 1 then some ⟨bx, ox, none⟩ else some ⟨bx, ox + 2, none⟩, nx - 1, cx - 1, xs, some ⟨by_, oy, none⟩, ny, cy, b :: ys, ap, c, acc, rfl, rfl, rfl, HSX.out.tail', HSY.out, HO8.out, HN.out⟩
      case measure => simp [lenOfS]; omega
     ·go_wp2_with fail
      refine wp_region_quiet_below (by kernel_rfl) (by kernel_rfl) ?_
      repeat (with_reducible (refine wpQuiet_step ?_); intro K hK; go_simp; (try rw [if_neg (by unfold undef; simp)]); first | (with_reducible (refine hK _ ?_); clear hK K) | (apply Exists.intro; refine ⟨fun _ => ?_, hK _ ?_⟩; (fail); clear hK K))
      with_reducible (refine wpQuiet_nil ?_)
      intro w5 hw'
      obtain ⟨⟨dq, osq⟩, hw''⟩ := hw'
      have b5 : Below w4.heap.size w4 w5 := by rw [hw'']; exact below_regrown w4 dq osq
      clear hw'' dq osq
      have HO5 := hide (H.out.1.later b5)
      clear b5 k0 k1 k2 k3
      go_wp2_with fail
      have k1 := cell_regrown ((HO5.out.below.cell (World.block_lt_of_cell? _ _ HQ1.out)).trans HQ1.out)
      have k3 := cell_regrown ((HO5.out.below.cell (World.block_lt_of_cell? _ _ HQ3.out)).trans HQ3.out)
      refine wp_region_quiet_below (by kernel_rfl) (by kernel_rfl) ?_
      repeat (with_reducible (refine wpQuiet_step ?_); intro K hK; go_simp; (try rw [if_neg (by unfold undef; simp)]); first | (with_reducible (refine hK _ ?_); clear hK K) | (apply Exists.intro; refine ⟨fun _ => ?_, hK _ ?_⟩; (fail); clear hK K))
      with_reducible (refine wpQuiet_nil ?_)
      intro w8 hw'
      obtain ⟨⟨dq, osq⟩, hw''⟩ := hw'
      have b8 : Below w5.heap.size w5 w8 := by rw [hw'']; exact below_regrown w5 dq osq
      clear hw'' dq osq
      have HO8 := hide (HO5.out.later b8)
      clear b8 k1 k3
      have HM : Hid (met acc a b = acc) := by show _ = _; unfold met; rw [if_neg (by omega)]
      have HN := hide (H.out.2.right (by omega))
      rw [HM.out] at HN
      go_wp2_with fail
      go_roundw
      case rel => exact ⟨some ⟨bx, ox, none⟩, nx, cx, a :: xs, if cy = 1 then some ⟨by_, oy, none⟩ else some ⟨by_, oy + 2, none⟩, ny - 1, cy - 1, ys, ap, c, acc, rfl, rfl, rfl, HSX.out, HSY.out.tail', HO8.out, HN.out⟩
      case measure => simp [lenOfS]; omega
   ·obtain rfl : ny = 0 := by omega
    have hy : y' = [] := List.eq_nil_of_length_eq_zero HSY.out.len
    have HD := hide (H.out.2.done (Or.inr hy) HP1.out HP2.out)
    obtain ⟨S4, F4⟩ := H.out.1.src (by omega)
    have HN : Hid (GivesRN w w4 (.returned (.slice ap acc.length c)) (MeetOf A B)) := ⟨ap, acc.length, c, acc, rfl, S4, HB2.out.trans (H.out.1.below.mono HB2.out.size), (fun ad h => Nat.le_trans HB2.out.size (F4 ad h)), HD.out⟩
    clear S4 F4
    go_wp2_with fail
    go_ret
    exact HN.out
  ·obtain rfl : nx = 0 := by omega
   have hx : x' = [] := List.eq_nil_of_length_eq_zero HSX.out.len
   have HD := hide (H.out.2.done (Or.inl hx) HP1.out HP2.out)
   obtain ⟨S4, F4⟩ := H.out.1.src (by omega)
   have HN : Hid (GivesRN w w4 (.returned (.slice ap acc.length c)) (MeetOf A B)) := ⟨ap, acc.length, c, acc, rfl, S4, HB2.out.trans (H.out.1.below.mono HB2.out.size), (fun ad h => Nat.le_trans HB2.out.size (F4 ad h)), HD.out⟩
   clear S4 F4
   go_wp2_with fail
   go_ret
   exact HN.out
end Go.Proofs.YtmbkmpeongodbaaGreat

