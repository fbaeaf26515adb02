/- Rows of lists that a call grows. -/
import Derived.Test.YtmmgbcmcjakdoaaWRa
import Derived.Laws.AppendOwnNone
import Derived.OwnWalk
import Derived.Maps.AppendAt
namespace Go.Proofs.Ytmmgbcmcjakdoaa
open Go.RowKit V

theorem infoL' : (Try.prog.info? 24).map (fun i => (i.zero, i.size, i.bytes)) = some (some (.slice none 0 0), 1, 24) := by kernel_rfl
/-- the row lies in memory from B on; its lists lie elsewhere; below B all is as it was -/
structure NR (B : Nat) (w0 W : World) (lo : Option Addr) (lc : Nat) (F : List Sv) : Prop where
  own : W.ownsRow B 24 1 (.slice lo F.length lc) F.length (F.map SvV)
  src : ∀ p, p ∈ F → Src W p.vo p.vn p.vc p.Z
  apart : ∀ p, p ∈ F → ∀ ad, p.vo = some ad → 0 < p.vn → (Value.slice lo F.length lc).ownBlock ≠ some ad.block
  below : Below B w0 W
  hB : B ≤ W.heap.size
variable {B : Nat} {w0 W W2 : World} {lo : Option Addr} {lc : Nat} {F : List Sv}
theorem NR.nil (w : World) : NR w.heap.size w w none 0 [] := ⟨World.ownsRow_nil _ _ _ _, (fun p h => by cases h), (fun p h => by cases h), Below.refl _ _, Nat.le_refl _⟩
theorem NR.on (R : NR B w0 W lo lc F) (hb : Below W.heap.size W W2) : NR B w0 W2 lo lc F := by
  refine ⟨⟨R.own.1, ?_⟩, fun p hp => (R.src p hp).below hb, R.apart, R.below.trans (hb.mono R.hB), Nat.le_trans R.hB hb.size⟩
  rcases R.own.2 with h | ⟨g0, cap0, cur, hv, hbg, hgg, r⟩
  · exact Or.inl h
  · exact Or.inr ⟨g0, cap0, cur, hv, hbg, (hb.block g0 (Array.getElem?_eq_some_iff.1 hgg).1).trans hgg, r⟩
theorem NR.lt (R : NR B w0 W lo lc F) (k : Nat) (hk : (Value.slice lo F.length lc).ownBlock = some k) : B ≤ k ∧ k < W.heap.size := R.own.lt k hk
theorem NR.row (R : NR B w0 W lo lc F) : VRow W lo F.length F := by
  rcases R.own.2 with ⟨h0, h00⟩ | ⟨g, cap2, cur, hv, hbg, hgg, hnc, hcm, hcsz, htake⟩
  · simp only [Value.slice.injEq] at h0
    obtain ⟨rfl, e0, rfl⟩ := h0
    exact ⟨rfl, fun _ => h00, (fun ad h => by cases h), R.src⟩
  · simp only [Value.slice.injEq, true_and] at hv
    obtain ⟨rfl, rfl⟩ := hv
    refine ⟨rfl, fun h => (by cases h), fun ad hh t p hp => ?_, R.src⟩
    obtain rfl := Option.some.inj hh
    have ht : t < F.length := (List.getElem?_eq_some_iff.1 hp).1
    rw [Addr.add_lit, Nat.zero_add, R.own.cellAt t (by omega)]
    simp [hp]
/-- a list is put behind the others -/
theorem NR.app {p : Sv} (R : NR B w0 W lo lc F) (S : Src W p.vo p.vn p.vc p.Z) (ap : ∀ ad, p.vo = some ad → 0 < p.vn → (Value.slice lo F.length lc).ownBlock ≠ some ad.block) (hk : F.length ≤ 5864062014800)
    {ops : Array Oper} {rest : List Oper} {o : Oper} {a : Act} {Q : Exit → Act → World → Prop} (hgd : o.guard = none) (s x : Operand) (ho : o.op = .call { callee := .builtin .append, args := #[s, x], argTypes := #[22, 22] })
    (n : Nat) (hn : F.length = n) (hs : a.eval s = .slice lo n lc) (g0 : Nat) (hg0 : W.heap.size = g0) (hx : a.eval x = .slice (some ⟨g0, 0, none⟩) 1 1)
    (hK : ∀ (g4 cap2 : Nat) (w4 : World), NR B w0 w4 (some ⟨g4, 0, none⟩) cap2 (F ++ [p]) → wpList Try.prog ops Q rest (a.put o.dst (.slice (some ⟨g4, 0, none⟩) (n + 1) cap2)) w4) :
    wpList Try.prog ops Q (o :: rest) a (W.alloc (.cells #[.slice p.vo p.vn p.vc] 24)) := by
  subst hn hg0
  obtain ⟨i0, hi, hz0, hz1, hz2⟩ := info_parts infoL'
  have hb3 : Below W.heap.size W (W.alloc (.cells #[.slice p.vo p.vn p.vc] 24)) := below_new W _
  have R3 := R.on hb3
  have S3 := S.below hb3
  have hB := R.hB
  refine wpList_append_own_at _ hgd s x 22 ho B 24 i0 (.slice none 0 0) 1 24 Try.underlying22 hi hz0 hz1 hz2 rfl (by decide) _ F.length _ hs R3.own ⟨W.heap.size, 0, none⟩ 1 1 [.slice p.vo p.vn p.vc] hx (by simp) ?_ ?_ (by unfold maxLen; omega) (by omega) (by simp; omega) ?_
  · intro j u hj
    rw [Addr.add_lit, Nat.zero_add, World.cell?_alloc_new]
    simpa using hj
  · intro u hu
    simp only [List.mem_singleton] at hu
    subst hu
    rfl
  · intro v' w4 hown hgrow _ hat
    rcases hown.2 with ⟨h0, h00⟩ | ⟨g4, cap2, cur, hv, hbg, hgg, hnc, hcm, hcsz, htake⟩
    · omega
    · subst hv
      have keepS : ∀ q : Sv, Src (W.alloc (.cells #[.slice p.vo p.vn p.vc] 24)) q.vo q.vn q.vc q.Z → (∀ ad, q.vo = some ad → 0 < q.vn → (Value.slice lo F.length lc).ownBlock ≠ some ad.block) → Src w4 q.vo q.vn q.vc q.Z := by
        intro q I hne
        refine ⟨I.1, I.2.1, fun ad h j hj => ?_⟩
        have h1 := I.2.2 ad h j hj
        have hne2 := hne ad h (by omega)
        rw [← block_add ad j] at hne2
        exact hgrow.cell h1 (fun e => hne2 e.symm)
      have hsz := hgrow.size
      refine hK g4 cap2 w4 ⟨?_, fun q hq => ?_, fun q hq ad ha hn => ?_, (R3.below).grown hgrow R3.hB (fun k hk => (R3.lt k hk).1), Nat.le_trans R3.hB hsz⟩
      · rw [List.length_append, List.map_append]; exact hown
      · rcases List.mem_append.1 hq with h | h
        · exact keepS q (R3.src q h) (R3.apart q h)
        · simp only [List.mem_singleton] at h
          subst h
          exact keepS q S3 ap
      · have I : Src (W.alloc (.cells #[.slice p.vo p.vn p.vc] 24)) q.vo q.vn q.vc q.Z ∧ (Value.slice lo F.length lc).ownBlock ≠ some ad.block := by
          rcases List.mem_append.1 hq with h | h
          · exact ⟨R3.src q h, R3.apart q h ad ha hn⟩
          · simp only [List.mem_singleton] at h
            subst h
            exact ⟨S3, ap ad ha hn⟩
        have c2 := World.block_lt_of_cell? _ _ (I.1.2.2 ad ha 0 hn)
        rw [block_add] at c2
        intro e
        have e' : g4 = ad.block := by simpa [Value.ownBlock] using e
        rcases hat with h | h
        · exact I.2 (by rw [← h, ← e']; rfl)
        · have : g4 = _ := Option.some.inj h
          omega
theorem NR.fresh (R : NR B w0 W lo lc F) {ao : Option Addr} (hf : ∀ ad, ao = some ad → W.heap.size ≤ ad.block) {n : Nat} : ∀ ad, ao = some ad → 0 < n → (Value.slice lo F.length lc).ownBlock ≠ some ad.block :=
  fun ad ha _ e => by have := (R.lt _ e).2; have := hf ad ha; omega
theorem NR.older (R : NR B w0 W lo lc F) {w1 : World} {p : Sv} (S : Src w1 p.vo p.vn p.vc p.Z) (hl : w1.heap.size ≤ B) : ∀ ad, p.vo = some ad → 0 < p.vn → (Value.slice lo F.length lc).ownBlock ≠ some ad.block :=
  fun ad ha hn e => by
    have := (R.lt _ e).1
    have c2 := World.block_lt_of_cell? _ _ (S.2.2 ad ha 0 hn)
    rw [block_add] at c2
    omega
end Go.Proofs.Ytmmgbcmcjakdoaa
