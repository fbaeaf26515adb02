/- The law's read. -/
import Derived.Test.YtflinfmhmokfhaaUCl
namespace Go.Proofs.Ytflinfmhmokfhaa
open Go.RowKit
variable {w w' w2 : World} {ro so lo : Option Addr} {rn rc sn sc ln lc : Nat} {Z : List Int} {P : List Stp} {wide : Int}

/-- Read's error -/
def rdE (wide : Int) (P : List Stp) (Z : List Int) : Int := if (rdS wide P Z).2.1 = 0 then endA (rdS wide P Z).2.2.length else (rdS wide P Z).2.1
/-- what read answers -/
def RwA (w w' : World) (wide : Int) (P : List Stp) (Z : List Int) (r : Ending) : Prop := ∃ lo ln lc, r = .returned (.tuple #[.slice lo ln lc, .int .i64 (rdE wide P Z)]) ∧ Below w.heap.size w w' ∧ ((rdS wide P Z).2.1 = 0 → GR w' lo ln lc (rdS wide P Z).1)
/-- steps that are read -/
structure SP (w : World) (so : Option Addr) (sn sc : Nat) (P : List Stp) : Prop where
  qs : QSrc w so sn sc P
  ok : ∀ s ∈ P, OkS s
  big : sn ≤ 2000000
theorem SP.below (h : SP w so sn sc P) (b : Below w.heap.size w w') : SP w' so sn sc P := ⟨h.qs.below b, h.ok, h.big⟩
theorem q_lt (h : QSrc w so sn sc P) (h0 : sn ≠ 0) (k : Nat) (e : blk so = some k) : k < w.heap.size := by
  obtain ⟨ad, ha, A⟩ := h.at 0 (by omega)
  have h1 := World.block_lt_of_cell? _ _ A.c0
  rw [block_of_add] at h1
  rw [ha] at e
  have : ad.block = k := Option.some.inj e
  omega
theorem s_lt (S : Src w ro rn rc Z) (h0 : rn ≠ 0) (k : Nat) (e : blk ro = some k) : k < w.heap.size := src_lt S h0 k e
set_option maxRecDepth 100000 in
set_option maxHeartbeats 2000000 in
theorem readS_any (ro : Option Addr) (rn rc : Nat) (Z : List Int) (so : Option Addr) (sn sc : Nat) (P : List Stp) (wide : Int) (w : World) (S : Src w ro rn rc Z) (hcap : rn ≤ rc) (hn : rn ≤ 140737488355328) (Q : SP w so sn sc P) :
    Calls Try.prog 17 #[.slice ro rn rc, .slice so sn sc, .int .i64 wide] w fun r w' => RwA w w' wide P Z r := by
  have hmf : ∀ (fn : Fn) (first cap : Array Value) (w : World), (Instr.makeFunc fn first cap).run Try.prog w = .ok (.func fn first cap) w := fun _ _ _ _ => rfl
  have hcf : ∀ (args : Array Value) (w : World), (callFunc 37 args).run Try.prog w = .ok (.enter 37 args) w := fun _ _ => rfl
  obtain ⟨w1, hw1⟩ : ∃ w1, w.alloc (.cells #[.slice so sn sc] 39) = w1 := ⟨_, rfl⟩
  obtain ⟨w2, hw2⟩ : ∃ w2, w1.alloc (.cells #[.int .i64 wide] 3) = w2 := ⟨_, rfl⟩
  obtain ⟨w3, hw3⟩ : ∃ w3, w2.alloc (.cells #[.slice none 0 0] 24) = w3 := ⟨_, rfl⟩
  obtain ⟨g1, hg1⟩ : ∃ g1, w.heap.size = g1 := ⟨_, rfl⟩
  have b1 := below_new w (.cells #[.slice so sn sc] 39)
  have V1 : Var (w.alloc (.cells #[.slice so sn sc] 39)) w.heap.size (.slice so sn sc) 39 := heap_alloc_new w _
  have s1 := World.size_alloc w (.cells #[.slice so sn sc] 39)
  rw [hw1] at b1 V1 s1
  have b2 := below_new w1 (.cells #[.int .i64 wide] 3)
  have V3 : Var (w1.alloc (.cells #[.int .i64 wide] 3)) w1.heap.size (.int .i64 wide) 3 := heap_alloc_new w1 _
  have s2 := World.size_alloc w1 (.cells #[.int .i64 wide] 3)
  rw [hw2] at b2 V3 s2
  have b3 := below_new w2 (.cells #[.slice none 0 0] 24)
  have V2 : Var (w2.alloc (.cells #[.slice none 0 0] 24)) w2.heap.size (.slice none 0 0) 24 := heap_alloc_new w2 _
  have s3 := World.size_alloc w2 (.cells #[.slice none 0 0] 24)
  rw [hw3] at b3 V2 s3
  have z1 : w1.heap.size = g1 + 1 := by omega
  have z2 : w2.heap.size = g1 + 2 := by omega
  have z3 : w3.heap.size = g1 + 3 := by omega
  rw [hg1] at V1
  rw [z1] at V3
  rw [z2] at V2
  have hb3 : Below w.heap.size w w3 := b1.trans ((b2.trans (b3.mono b2.size)).mono b1.size)
  have G1 := beg w3 ro rn rc
  obtain ⟨W1, hW1⟩ : ∃ W1, W0 w3 ro rn rc = W1 := ⟨_, rfl⟩
  rw [hW1] at G1
  have hsz := G1.n.2
  rw [z3] at G1 hsz
  have hb : Below w.heap.size w W1 := hb3.trans (G1.b.mono hb3.size)
  have hf : Calls Try.prog 37 #[ptr (w3.heap.size + 1), ptr g1, ptr (g1 + 2), ptr (g1 + 1)] W1 fun r w' => CP (g1 + 6) W1 (w3.heap.size + 1) (g1 + 2) wide P Z r w' := by
    have hSB : SB (g1 + 6) W1 (w3.heap.size + 1) g1 (g1 + 2) (g1 + 1) so sn sc P wide :=
      ⟨(G1.b.block _ (by omega)).trans ((b3.block _ (by omega)).trans ((b2.block _ (by omega)).trans V1)), (G1.b.block _ (by omega)).trans ((b3.block _ (by omega)).trans V3), Q.qs.below hb, ⟨by omega, by omega, by omega, by omega, by omega, by omega⟩, fun h0 k e => by have := q_lt Q.qs h0 k e; exact ⟨by omega, by omega, by omega⟩, Q.ok, Q.big⟩
    refine close_any (bz := blk ro) (ro := ro) (rn := rn) (rc := rc) hSB ⟨⟨by rw [z3]; exact z3 ▸ G1.r, S.below hb, hcap, hn, fun h0 e => by have := s_lt S h0 _ e; omega⟩, (G1.b.block _ (by omega)).trans V2, GR.nil _, (fun k e => by cases e), ⟨rfl, rfl, rfl, Nat.le_refl _, fun _ _ _ _ => rfl⟩, rfl, ⟨by omega, by omega, by omega, by omega⟩, fun h0 k e => by have := s_lt S h0 k e; exact ⟨by omega, by omega, by omega⟩⟩
  have hr := read_any ro rn rc 37 #[ptr g1, ptr (g1 + 2), ptr (g1 + 1)] (fun r w' => CP (g1 + 6) W1 (w3.heap.size + 1) (g1 + 2) wide P Z r w') w3 hcf (by rw [hW1]; exact hf) (by
    intro e w4 h
    obtain ⟨K, lo, ln, lc, hv, h⟩ := h
    refine ⟨?_, (K.block _ (by omega) (by omega) (by omega)).trans (z3 ▸ G1.v), (K.block _ (by omega) (by omega) (by omega)).trans (z3 ▸ G1.e)⟩
    rcases h with ⟨rfl, _, ⟨so, sc, hR⟩, _⟩ | ⟨rfl, he, hR⟩
    · exact ⟨0, _, EndR.calm hR⟩
    · exact ⟨_, _, EndR.up hR he⟩)
  have HR := hide hr
  have HP : Hid (∀ r wz, RdPost w3.heap.size (fun r w' => CP (g1 + 6) W1 (w3.heap.size + 1) (g1 + 2) wide P Z r w') r wz → ∃ lo ln lc, r = .returned (.int .i64 (rdE wide P Z)) ∧ Var wz (g1 + 2) (.slice lo ln lc) 24 ∧ Below w.heap.size w wz ∧ ((rdS wide P Z).2.1 = 0 → GR wz lo ln lc (rdS wide P Z).1)) := by
    rintro r wz ⟨e2, w4, gave, err, h, hE, rfl, hF⟩
    obtain ⟨K, lo, ln, lc, hv, h⟩ := h
    have hsz4 := K.size
    have hv' : Var wz (g1 + 2) (.slice lo ln lc) 24 := (hF.block _ hv.lt (by omega) (by omega)).trans hv
    have hbz : Below w.heap.size w wz := ⟨hF.os.trans (K.os.trans hb.os), hF.tape.trans (K.tape.trans hb.tape), hF.output.trans (K.output.trans hb.output), Nat.le_trans hb.size (Nat.le_trans K.size hF.size), fun k hk => (hF.block k (by omega) (by omega) (by omega)).trans ((K.block k (by omega) (by omega) (by omega)).trans (hb.block k hk))⟩
    refine ⟨lo, ln, lc, ?_, hv', hbz, ?_⟩
    · rcases h with ⟨rfl, h0, ⟨so, sc, hR⟩, _⟩ | ⟨rfl, he, hR⟩
      · cases hE with
        | calm hR2 =>
          have := (rdr_inj hR hR2).1
          unfold rdE
          rw [if_pos h0, this]
      · cases hE with
        | up hR2 _ =>
          have := (rdr_inj hR hR2).2
          unfold rdE
          rw [if_neg he, this]
    · intro h0
      rcases h with ⟨_, _, _, hG, hge⟩ | ⟨_, he, _⟩
      · exact hG.keep (fun k e => hF.block k (hG.lt k e) (by have := hge k e; omega) (by have := hge k e; omega))
      · exact absurd h0 he
  clear hr hf G1 V1 V2 V3 b1 b2 b3 s1 s2 s3 hb hb3 S hcap hn Q hsz hW1 hcf
  go_enter Try.func17, Try.ntmps17
  go_wp2_with fail
  refine HR.out.mono ?_
  intro r wz h
  obtain ⟨lo, ln, lc, rfl, hv, hbz, hG⟩ := HP.out r wz h
  have x0 := hv.c
  have HE : Hid (RwA w wz wide P Z (.returned (.tuple #[.slice lo ln lc, .int .i64 (rdE wide P Z)]))) := ⟨lo, ln, lc, rfl, hbz, hG⟩
  clear h hv hbz hG HP HR
  go_wp2_with fail
  go_ret2
  exact HE.out
end Go.Proofs.Ytflinfmhmokfhaa
