/- LSome LOwn LOwn2 -/
import Derived.Test.YtooinnhjeloocaaGreatLs31
import Derived.Lib.OthersKept
import Derived.Maps.AppendAt
namespace Go.Proofs.YtooinnhjeloocaaGreat.K
open Go.RowKit

theorem res28 {fn : Func} {p : Tmp} {w : World} {g : Nat} {T : TypeId} {e : En} (h : fn.results = #[.cell p 36]) {tmps : Array Value} (hp : tmps.getD p undef = .pointer (some ⟨g, 0, none⟩)) (A : Box w g T e) :
    (results fn tmps).run Tryz.prog w = .ok (EV e) w := by
  have hl := run_lv28 A.at
  simp only [results, h]
  rw [Array.getD_eq_getD_getElem?] at hp
  simp [hp, asAddr, hl]
theorem entry_any (r m : Int) (s : ByteArray) (q : Int) (w : World) : Calls Tryz.prog 18 #[.int .i64 r, .int .i64 m, .string s, .int .i64 q] w fun e w' => e = .returned (EV ⟨r, m, s, q⟩) ∧ Below w.heap.size w w' := by
  have HX := hide (box_new w 36 ⟨r, m, s, q⟩)
  have HB := hide (below_new w (.cells (EC ⟨r, m, s, q⟩) 36))
  go_enter Tryz.func18, Tryz.ntmps18
  go_wp2_with fail
  exact bodyPost_ret (res28 Tryz.results18 rfl HX.out) rfl ⟨rfl, HB.out⟩
theorem entry_lit (r m : Int) (s : ByteArray) (q : Int) (w : World) : Calls Tryz.prog 18 #[.int .i64 r, .int .i64 m, .string s, .int .i64 q] w fun e w' => e = .returned (.agg #[.int .i64 r, .int .i64 m, .string s, .int .i64 q]) ∧ Below w.heap.size w w' := entry_any r m s q w
abbrev bA : ByteArray := ⟨#[65]⟩
abbrev bB : ByteArray := ⟨#[66]⟩
def someL : List En := [⟨0, 3, bA, 5⟩, ⟨1, 1, bB, 2⟩, ⟨1, 4, bA, 1⟩]
/-- a list is handed back, new; old memory stands -/
def GivesE (w w' : World) (e : Ending) (L : List En) : Prop := ∃ ao n c, e = .returned (.slice ao n c) ∧ ESrc w' ao n c L ∧ Below w.heap.size w w' ∧ ∀ ad, ao = some ad → w.heap.size ≤ ad.block
/-- a literal -/
theorem lit_esrc (w : World) (L : List En) (C : Array Value) (hC : C = (L.map (fun e => (EC e).toList)).flatten.toArray) (T : TypeId) (n : Nat) (hn : L.length = n) (hs : ∀ e ∈ L, e.sku.size ≤ maxLen) (hm : n ≤ 3518437208883) :
    ESrc (w.alloc (.cells C T)) (some ⟨w.heap.size, 0, none⟩) n n L := by
  subst hC hn
  have key : ∀ (L : List En) (t j : Nat), t < L.length → j < 4 → ((L.map (fun e => (EC e).toList)).flatten)[t * 4 + j]? = (EC (L.getD t en0)).toList[j]? := by
    intro L
    induction L with
    | nil => intro t j ht; simp at ht
    | cons a L ih =>
      intro t j ht hj
      cases t with
      | zero => rw [List.map_cons, List.flatten_cons, List.getElem?_append_left (by simp [EC]; omega)]; simp [List.getD]
      | succ t =>
        rw [List.map_cons, List.flatten_cons, List.getElem?_append_right (by simp [EC]; omega)]
        have h := ih t j (by simpa using ht) hj
        have e4 : (t + 1) * 4 + j - (EC a).toList.length = t * 4 + j := by simp [EC]; omega
        rw [e4, h]; simp [List.getD]
  have cell : ∀ t j, t < L.length → j < 4 → (w.alloc (.cells (L.map (fun e => (EC e).toList)).flatten.toArray T)).cell? ⟨w.heap.size, t * 4 + j, none⟩ = (EC (L.getD t en0)).toList[j]? := by
    intro t j ht hj
    rw [World.cell?_alloc_new, List.getElem?_toArray, key L t j ht hj]
  refine ⟨rfl, fun h => (by cases h), fun ad h t ht => ?_, hs, hm⟩
  obtain rfl := Option.some.inj h
  refine ⟨?_, ?_, ?_, ?_⟩
  · rw [Addr.add_lit, Nat.zero_add]; exact cell t 0 ht (by omega)
  · rw [Addr.add_lit, Addr.add_lit, Nat.zero_add]; exact cell t 1 ht (by omega)
  · rw [Addr.add_lit, Addr.add_lit, Nat.zero_add]; exact cell t 2 ht (by omega)
  · rw [Addr.add_lit, Addr.add_lit, Nat.zero_add]; exact cell t 3 ht (by omega)
theorem someL_sku : ∀ e ∈ someL, e.sku.size ≤ maxLen := by
  have hA : bA.size ≤ maxLen := by unfold maxLen; have : bA.size = 1 := rfl; omega
  have hB : bB.size ≤ maxLen := by unfold maxLen; have : bB.size = 1 := rfl; omega
  intro e he; simp only [someL, List.mem_cons, List.not_mem_nil, or_false] at he; rcases he with rfl | rfl | rfl
  · exact hA
  · exact hB
  · exact hA
set_option maxHeartbeats 800000 in
theorem some_any (w : World) : Calls Tryz.prog 6 #[] w fun e w' => GivesE w w' e someL := by
  go_enter Tryz.func6, Tryz.ntmps6
  go_wp2_with fail
  refine (entry_lit 0 3 ⟨#[65]⟩ 5 _).mono ?_
  rintro x w1 ⟨rfl, b1⟩
  go_wp2_with fail
  refine (entry_lit 1 1 ⟨#[66]⟩ 2 _).mono ?_
  rintro x w2 ⟨rfl, b2⟩
  go_wp2_with fail
  refine (entry_lit 1 4 ⟨#[65]⟩ 1 _).mono ?_
  rintro x w3 ⟨rfl, b3⟩
  have HB := hide ((b1.trans (b2.mono b1.size)).trans (b3.mono (b1.trans (b2.mono b1.size)).size))
  have HS := hide (lit_esrc w3 someL #[.int .i64 0, .int .i64 3, .string ⟨#[65]⟩, .int .i64 5, .int .i64 1, .int .i64 1, .string ⟨#[66]⟩, .int .i64 2, .int .i64 1, .int .i64 4, .string ⟨#[65]⟩, .int .i64 1] rfl 36 3 rfl someL_sku (by omega))
  clear b1 b2 b3
  go_wp2_with fail
  go_ret
  exact ⟨_, _, _, rfl, HS.out, HB.out.trans ((below_new _ _).mono HB.out.size), fun ad h => by obtain rfl := Option.some.inj h; exact HB.out.size⟩
end Go.Proofs.YtooinnhjeloocaaGreat.K
namespace Go.Proofs.YtooinnhjeloocaaGreat.K
open Go.RowKit

def ecs (L : List En) : List Value := (L.map (fun e => (EC e).toList)).flatten
theorem ecs_append (L R : List En) : ecs (L ++ R) = ecs L ++ ecs R := by simp [ecs]
theorem ecs_one (e : En) : ecs [e] = (EC e).toList := by simp [ecs]
theorem ecs_length (L : List En) : (ecs L).length = L.length * 4 := by
  induction L with
  | nil => rfl
  | cons a L ih => have : ecs (a :: L) = (EC a).toList ++ ecs L := rfl; rw [this, List.length_append, ih]; simp [EC]; omega
theorem ecs_at (L : List En) (t j : Nat) (ht : t < L.length) (hj : j < 4) : (ecs L)[t * 4 + j]? = (EC (L.getD t en0)).toList[j]? := by
  induction L generalizing t with
  | nil => simp at ht
  | cons a L ih =>
    have e : ecs (a :: L) = (EC a).toList ++ ecs L := rfl
    cases t with
    | zero => rw [e, List.getElem?_append_left (by simp [EC]; omega)]; simp [List.getD]
    | succ t =>
      rw [e, List.getElem?_append_right (by simp [EC]; omega)]
      have h := ih t (by simpa using ht)
      have e4 : (t + 1) * 4 + j - (EC a).toList.length = t * 4 + j := by simp [EC]; omega
      rw [e4, h]; simp [List.getD]
theorem info28 : (Tryz.prog.info? 36).map (fun i => (i.zero, i.size, i.bytes)) = some (some (.agg #[.int .i64 0, .int .i64 0, .string ⟨#[]⟩, .int .i64 0]), 4, 40) := by kernel_rfl

/-- the slice owns just these entries, in blocks from B on; below B0 all is as it was -/
structure OwnE (B0 B : Nat) (w w' : World) (ao : Option Addr) (cap : Nat) (acc : List En) : Prop where
  own : w'.ownsRow B 36 4 (.slice ao acc.length cap) acc.length (ecs acc)
  below : Below B0 w w'
  hB : B ≤ w'.heap.size
  hB0 : B0 ≤ B
theorem OwnE.nil {B0 B : Nat} {w w' : World} (hb : Below B0 w w') (hB : B ≤ w'.heap.size) (h0 : B0 ≤ B) : OwnE B0 B w w' none 0 [] :=
  ⟨World.ownsRow_nil _ _ _ _, hb, hB, h0⟩
theorem OwnE.append {B0 B : Nat} {w w' : World} {ao : Option Addr} {cap : Nat} {acc : List En} (O : OwnE B0 B w w' ao cap acc) (e : En) (C : Array Value) (hC : C = EC e) (hlen : acc.length < 3518437208883)
    {ops : Array Oper} {rest : List Oper} {o : Oper} {a : Act} {Q : Exit → Act → World → Prop} (hgd : o.guard = none) (s x : Operand) (ho : o.op = .call { callee := .builtin .append, args := #[s, x], argTypes := #[22, 22] })
    (n : Nat) (hn : acc.length = n) (hs : a.eval s = .slice ao n cap) (hx : a.eval x = .slice (some ⟨w'.heap.size, 0, none⟩) 1 1)
    (hK : ∀ (g cap2 : Nat) (w2 : World), OwnE B0 B w w2 (some ⟨g, 0, none⟩) cap2 (acc ++ [e]) → (∀ k, k < B → w2.heap[k]? = w'.heap[k]?) → wpList Tryz.prog ops Q rest (a.put o.dst (.slice (some ⟨g, 0, none⟩) (n + 1) cap2)) w2) :
    wpList Tryz.prog ops Q (o :: rest) a (w'.alloc (.cells C 36)) := by
  subst hn hC
  obtain ⟨i0, hi, hz0, hz1, hz2⟩ := info_parts info28
  have hB := O.hB
  have hB0 := O.hB0
  refine wpList_append_own _ hgd s x 22 ho B 36 i0 (.agg #[.int .i64 0, .int .i64 0, .string ⟨#[]⟩, .int .i64 0]) 4 40 Tryz.underlying22 hi hz0 hz1 hz2 rfl (by decide) _ acc.length (ecs acc) hs (O.own.alloc _) ⟨w'.heap.size, 0, none⟩ 1 1 (EC e).toList hx (by simp [EC]) ?_ ?_ (by unfold maxLen; omega) (by omega) (by simp; omega) ?_
  · intro j u hj
    rw [Addr.add_lit, Nat.zero_add, World.cell?_alloc_new]
    simpa using hj
  · intro u hu
    exact EC_one e u hu
  · intro v' w2 hown hgrow _
    rcases hown.2 with ⟨h0, h00⟩ | ⟨g, cap2, cur, hv, hbg, hgg, hnc, hcm, hcsz, htake⟩
    · omega
    · subst hv
      have hrow : ∀ k, (Value.slice ao acc.length cap).ownBlock = some k → B ≤ k := fun k hk => (O.own.lt k hk).1
      have hsz := hgrow.size
      rw [World.size_alloc] at hsz
      refine hK g cap2 w2 ⟨?_, (O.below.alloc (by omega) _).grown hgrow (by simp; omega) (fun k hk => by have := hrow k hk; omega), by omega, hB0⟩ (fun k hk => ?_)
      · rw [List.length_append, ecs_append, ecs_one]; exact hown
      · rw [hgrow.block k (by simp; omega) (fun e => by have := hrow k e.symm; omega)]
        exact Below.heap_alloc _ _ _ (by omega)
theorem OwnE.later {B0 B : Nat} {w w' w2 : World} {ao : Option Addr} {cap : Nat} {acc : List En} (O : OwnE B0 B w w' ao cap acc) (hb : Below w'.heap.size w' w2) : OwnE B0 B w w2 ao cap acc := by
  refine ⟨⟨O.own.1, ?_⟩, O.below.trans (hb.mono (Nat.le_trans O.hB0 O.hB)), Nat.le_trans O.hB hb.size, O.hB0⟩
  rcases O.own.2 with h | ⟨g, cap2, cur, hv, hbg, hgg, r⟩
  · exact Or.inl h
  · exact Or.inr ⟨g, cap2, cur, hv, hbg, (hb.block g (Array.getElem?_eq_some_iff.1 hgg).1).trans hgg, r⟩
theorem OwnE.src {B0 B : Nat} {w w' : World} {ao : Option Addr} {cap : Nat} {acc : List En} (O : OwnE B0 B w w' ao cap acc) (hs : ∀ e ∈ acc, e.sku.size ≤ maxLen) (hl : acc.length ≤ 3518437208883) : ESrc w' ao acc.length cap acc ∧ ∀ ad, ao = some ad → B ≤ ad.block := by
  rcases O.own.2 with ⟨h0, h00⟩ | ⟨g, cap2, cur, hv, hbg, hgg, hnc, hcm, hcsz, htake⟩
  · simp only [Value.slice.injEq] at h0
    obtain ⟨rfl, e0, rfl⟩ := h0
    exact ⟨⟨rfl, fun _ => ⟨h00, rfl⟩, fun ad h => (by cases h), hs, hl⟩, fun ad h => (by cases h)⟩
  · simp only [Value.slice.injEq, true_and] at hv
    obtain ⟨rfl, rfl⟩ := hv
    have cell : ∀ t j, t < acc.length → j < 4 → w'.cell? ⟨g, t * 4 + j, none⟩ = (EC (acc.getD t en0)).toList[j]? := fun t j ht hj => by
      rw [O.own.cellAt (t * 4 + j) (by omega), ecs_at _ t j ht hj]
    refine ⟨⟨rfl, fun h => (by cases h), fun ad h t ht => ?_, hs, hl⟩, fun ad h => by obtain rfl := Option.some.inj h; exact hbg⟩
    obtain rfl := Option.some.inj h
    refine ⟨?_, ?_, ?_, ?_⟩
    · rw [Addr.add_lit, Nat.zero_add]; exact cell t 0 ht (by omega)
    · rw [Addr.add_lit, Addr.add_lit, Nat.zero_add]; exact cell t 1 ht (by omega)
    · rw [Addr.add_lit, Addr.add_lit, Nat.zero_add]; exact cell t 2 ht (by omega)
    · rw [Addr.add_lit, Addr.add_lit, Nat.zero_add]; exact cell t 3 ht (by omega)
end Go.Proofs.YtooinnhjeloocaaGreat.K
namespace Go.Proofs.YtooinnhjeloocaaGreat.K
open Go.RowKit

theorem fold_EC (e : En) : Array.foldl (fun cs x => cs.setIfInBounds x.snd x.fst) (EC en0) (EC e).zipIdx 0 4 = EC e := rfl
theorem take_snoc (L : List En) (k : Nat) (h : k < L.length) : L.take (k + 1) = L.take k ++ [L.getD k en0] := by
  rw [List.take_succ_eq_append_getElem h]; simp [List.getD, h]
theorem OwnE.append2 {B0 B : Nat} {w w' : World} {ao : Option Addr} {cap : Nat} {acc : List En} (O : OwnE B0 B w w' ao cap acc) (e : En) (C : Array Value) (hC : C = EC e) (hlen : acc.length < 3518437208883)
    {ops : Array Oper} {rest : List Oper} {o : Oper} {a : Act} {Q : Exit → Act → World → Prop} (hgd : o.guard = none) (s x : Operand) (ho : o.op = .call { callee := .builtin .append, args := #[s, x], argTypes := #[22, 22] })
    (n : Nat) (hn : acc.length = n) (hs : a.eval s = .slice ao n cap) (hx : a.eval x = .slice (some ⟨w'.heap.size, 0, none⟩) 1 1)
    (hK : ∀ (g cap2 : Nat) (w2 : World), OwnE B0 B w w2 (some ⟨g, 0, none⟩) cap2 (acc ++ [e]) → (∀ k, k < w'.heap.size → (∀ ad, ao = some ad → ad.block ≠ k) → w2.heap[k]? = w'.heap[k]?) → ((∃ ad, ao = some ad ∧ ad.block = g) ∨ w'.heap.size < g) → wpList Tryz.prog ops Q rest (a.put o.dst (.slice (some ⟨g, 0, none⟩) (n + 1) cap2)) w2) :
    wpList Tryz.prog ops Q (o :: rest) a (w'.alloc (.cells C 36)) := by
  subst hn hC
  obtain ⟨i0, hi, hz0, hz1, hz2⟩ := info_parts info28
  have hB := O.hB
  have hB0 := O.hB0
  refine wpList_append_own_at _ hgd s x 22 ho B 36 i0 (.agg #[.int .i64 0, .int .i64 0, .string ⟨#[]⟩, .int .i64 0]) 4 40 Tryz.underlying22 hi hz0 hz1 hz2 rfl (by decide) _ acc.length (ecs acc) hs (O.own.alloc _) ⟨w'.heap.size, 0, none⟩ 1 1 (EC e).toList hx (by simp [EC]) ?_ ?_ (by unfold maxLen; omega) (by omega) (by simp; omega) ?_
  · intro j u hj
    rw [Addr.add_lit, Nat.zero_add, World.cell?_alloc_new]
    simpa using hj
  · intro u hu
    exact EC_one e u hu
  · intro v' w2 hown hgrow _ hblk
    rcases hown.2 with ⟨h0, h00⟩ | ⟨g, cap2, cur, hv, hbg, hgg, hnc, hcm, hcsz, htake⟩
    · omega
    · subst hv
      have hrow : ∀ k, (Value.slice ao acc.length cap).ownBlock = some k → B ≤ k := fun k hk => (O.own.lt k hk).1
      have hsz := hgrow.size
      rw [World.size_alloc] at hsz
      refine hK g cap2 w2 ⟨?_, (O.below.alloc (by omega) _).grown hgrow (by simp; omega) (fun k hk => by have := hrow k hk; omega), by omega, hB0⟩ (fun k hk hne => ?_) ?_
      · rw [List.length_append, ecs_append, ecs_one]; exact hown
      · rw [hgrow.block k (by simp; omega) (fun e => by
          cases ao with
          | none => simp [Value.ownBlock] at e
          | some ad => simp [Value.ownBlock] at e; exact hne ad rfl e.symm)]
        exact Below.heap_alloc _ _ _ (by omega)
      · rcases hblk with h | h
        · cases ao with
          | none => simp [Value.ownBlock] at h
          | some ad => simp [Value.ownBlock] at h; exact Or.inl ⟨ad, rfl, h.symm⟩
        · simp [Value.ownBlock] at h; exact Or.inr (by omega)
theorem cell_kept {w w2 : World} {a : Addr} (h : w2.heap[a.block]? = w.heap[a.block]?) : w2.cell? a = w.cell? a := by
  unfold World.cell?; rw [h]
theorem ESrc.kept {w w2 : World} {ao : Option Addr} {m c : Nat} {L : List En} (h : ESrc w ao m c L) (hk : ∀ ad, ao = some ad → w2.heap[ad.block]? = w.heap[ad.block]?) : ESrc w2 ao m c L := by
  refine ⟨h.1, h.2.1, fun ad ha t ht => ?_, h.2.2.2⟩
  have A := h.2.2.1 ad ha t ht
  have hb : ∀ j, w2.cell? ((ad.add (t * 4)).add j) = w.cell? ((ad.add (t * 4)).add j) := fun j => cell_kept (by rw [block_add, block_add]; exact hk ad ha)
  have hb0 : w2.cell? (ad.add (t * 4)) = w.cell? (ad.add (t * 4)) := cell_kept (by rw [block_add]; exact hk ad ha)
  exact ⟨hb0.trans A.c0, (hb 1).trans A.c1, (hb 2).trans A.c2, (hb 3).trans A.c3⟩
theorem OwnE.lt {B0 B : Nat} {w w' : World} {ao : Option Addr} {cap : Nat} {acc : List En} (O : OwnE B0 B w w' ao cap acc) (ad : Addr) (h : ao = some ad) : ad.block < w'.heap.size := by
  subst h
  exact (O.own.lt ad.block (by simp [Value.ownBlock])).2
end Go.Proofs.YtooinnhjeloocaaGreat.K
