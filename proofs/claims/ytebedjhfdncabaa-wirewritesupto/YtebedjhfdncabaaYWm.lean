/- WireWrites: what a round leaves. -/
import Derived.Test.YtebedjhfdncabaaYWk
namespace Go.Proofs.Ytebedjhfdncabaa
open Go.RowKit
variable {w w' w2 w0 : World} {g : Nat} {col : Nat → Nat} {s : Ws} {lim : Nat}

theorem below_drew1 (w : World) : Below w.heap.size w w.drew := ⟨rfl, rfl, rfl, Nat.le_refl _, fun _ _ => rfl⟩
theorem below_drewN (w : World) (n : Nat) : Below w.heap.size w (w.drewN n) := ⟨rfl, rfl, rfl, Nat.le_refl _, fun _ _ => rfl⟩
theorem RK.form {k : Nat} {T : TypeId} {v : Value} {L : List Value} (h : RK w col k T v L) : ∃ ao cap, v = .slice ao L.length cap ∧ ∀ j, j < L.length → ∃ b, ao = some ⟨b, 0, none⟩ ∧ w.cell? ⟨b, j, none⟩ = L[j]? := by
  rcases h.1.2 with ⟨h0, h00⟩ | ⟨q, cap2, cur, hv, r⟩
  · subst h0
    rw [h00]
    exact ⟨none, 0, rfl, fun j hj => absurd hj (Nat.not_lt_zero j)⟩
  · subst hv
    refine ⟨_, _, rfl, fun j hj => ⟨q, rfl, ?_⟩⟩
    have := h.1.cellAt j (by omega)
    exact this
theorem putB_len {k n : Int} {b : Bool} {t : ByteArray} (hn : n ≤ 9223372036854775807) (ht : t.size ≤ 1048576) : (putB k n b t).length ≤ 10 + t.size := by
  unfold putB
  by_cases h1 : k = 1
  · rw [if_pos h1]
    by_cases h0 : n < 0
    · rw [if_pos h0]; simp
    · rw [if_neg h0]
      have := numB_nine (n := n.toNat) (by omega)
      omega
  · rw [if_neg h1]
    by_cases h2 : k = 2
    · rw [if_pos h2]; simp; omega
    · rw [if_neg h2]
      by_cases h3 : k = 3 ∨ k = 4
      · rw [if_pos h3, List.length_append, strB_length]
        have := numB_nine (n := t.size) (by omega)
        omega
      · rw [if_neg h3]; simp
theorem Rel.step (R : Rel s) (k : Nat) (ok : Bool) (Y Y2 : List Int) (hY : ok = true → Y2 = Y) (v : Value) :
    Rel { s with sp := upd s.sp k (s.sp k || !ok), Z := upd s.Z k (if (s.sp k || !ok) = true then [] else s.Z k ++ Y), bad := upd s.bad k (s.bad k || !ok), uv := upd s.uv k v, U := upd s.U k (s.U k ++ Y2) } := by
  refine ⟨fun j hj => ?_, R.zl⟩
  show upd s.bad k (s.bad k || !ok) j = upd s.sp k (s.sp k || !ok) j ∧ (upd s.sp k (s.sp k || !ok) j = false → upd s.Z k (if (s.sp k || !ok) = true then [] else s.Z k ++ Y) j = upd s.U k (s.U k ++ Y2) j)
  by_cases e : j = k
  · subst e
    rw [upd_same, upd_same, upd_same, upd_same, (R.eq j hj).1]
    refine ⟨rfl, fun h => ?_⟩
    rw [if_neg (by rw [h]; decide)]
    rw [Bool.or_eq_false_iff] at h
    rw [(R.eq j hj).2 h.1, hY (by simpa using h.2)]
  · rw [upd_other _ _ e, upd_other _ _ e, upd_other _ _ e, upd_other _ _ e]
    exact R.eq j hj
/-- at the head of the loop -/
def LI (w0 w : World) (gw gn gb i : Nat) (v9 v10 : Value) : Prop := ∃ col s, WI w0 w col s (2 + i * 1048600) ∧ Rel s ∧ s.gw = gw ∧ s.gn = gn ∧ s.gb = gb ∧ s.av = v9 ∧ s.cv = v10 ∧ s.As.length ≤ i
/-- behind the put of a step -/
def LP (w0 w : World) (gw gn gb i k : Nat) (v9 v10 : Value) (ok : Bool) (Y : List Int) (bk : Bool) (uo : Option Addr) (um uc : Nat) (UU : List Int) : Prop :=
  ∃ col s, WI w0 w col { s with sp := upd s.sp k (s.sp k || !ok), Z := upd s.Z k (if (s.sp k || !ok) = true then [] else s.Z k ++ Y) } (2 + (i + 1) * 1048600) ∧ Rel s ∧ s.gw = gw ∧ s.gn = gn ∧ s.gb = gb ∧ s.av = v9 ∧ s.cv = v10 ∧ s.As.length ≤ i ∧ s.bad k = bk ∧ s.uv k = .slice uo um uc ∧ s.U k = UU ∧ UU.length ≤ 2 + i * 1048600
theorem LP.below {gw gn gb i k : Nat} {v9 v10 : Value} {ok : Bool} {Y : List Int} {bk : Bool} {uo : Option Addr} {um uc : Nat} {UU : List Int} (h : LP w0 w gw gn gb i k v9 v10 ok Y bk uo um uc UU) (hb : Below w.heap.size w w') : LP w0 w' gw gn gb i k v9 v10 ok Y bk uo um uc UU := by
  obtain ⟨col, s, I, r⟩ := h
  exact ⟨_, s, I.below' hb 15, r⟩
theorem LP.of_put {gw gn gb i k : Nat} {v9 v10 : Value} (I : WI w0 w col s (2 + i * 1048600)) (R : Rel s) (h1 : s.gw = gw) (h2 : s.gn = gn) (h3 : s.gb = gb) (h4 : s.av = v9) (h5 : s.cv = v10) (hA : s.As.length ≤ i) (hk : k < 4) {ao uo : Option Addr} {um uc : Nat} {kd n : Int} {b : Bool} {t : ByteArray} (hu : s.uv k = .slice uo um uc)
    (hao : ∀ b, blk ao = some b → col b = k) (P : PutW w w' (s.g k) ao (s.Z k) kd n b t (s.sp k)) (hn : n ≤ 9223372036854775807) (ht : t.size ≤ 1048576) :
    LP w0 w' gw gn gb i k v9 v10 (putOK kd n) (putB kd n b t) (s.bad k) uo um uc (s.U k) := by
  obtain ⟨bo, m, cc, W, hbo, K⟩ := P
  refine ⟨nc w col k, s, (I.mono (l2 := 2 + (i + 1) * 1048600) (by omega)).put k hk hao W hbo K ?_, R, h1, h2, h3, h4, h5, hA, rfl, hu, rfl, (I.un k hk).2⟩
  have h1 := (I.wr k hk).len
  have h2 := putB_len (k := kd) (b := b) hn ht
  split
  · simp
  · rw [List.length_append]; omega
theorem WI.other (I : WI w0 w col s lim) {k : Nat} (hk : k < 4) {ao : Option Addr} {Z : List Int} {kd n : Int} {b sp : Bool} {t : ByteArray} (hao : ∀ b, blk ao = some b → col b = k) (P : PutW w w' (s.g k) ao Z kd n b t sp) (x : Nat) (hx : x < w.heap.size) (hc : col x ≠ k) : w'.heap[x]? = w.heap[x]? := by
  obtain ⟨_, _, _, _, _, K⟩ := P
  exact K.block x hx (fun e => hc (by rw [e]; exact (I.wr k hk).own)) (fun e => hc (hao x e.symm))
theorem PBox.pat {m : Put} (h : PBox w g m) : PAt w ⟨g, 0, none⟩ m := ⟨h.c0, by rw [Addr.add_lit]; exact h.c1, by rw [Addr.add_lit]; exact h.c2, by rw [Addr.add_lit]; exact h.c3⟩
theorem fold_PC (m : Put) : Array.foldl (fun cs x => cs.setIfInBounds x.snd x.fst) #[Value.int IntKind.i64 0, Value.int IntKind.i64 0, Value.bool false, Value.string { data := #[] }] (PC m).zipIdx 0 4 = PC m := by
  simp [PC]
theorem LP.cells {gw gn gb i k : Nat} {v9 v10 : Value} {ok : Bool} {Y : List Int} {bk : Bool} {uo : Option Addr} {um uc : Nat} {UU : List Int} (h : LP w0 w gw gn gb i k v9 v10 ok Y bk uo um uc UU) (hk : k < 4) : w.cell? ⟨gb, k, none⟩ = some (.bool bk) ∧ w.frozen? ⟨gb, k, none⟩ = false := by
  obtain ⟨col, s, I, R, rfl, rfl, rfl, rfl, rfl, hA, rfl, hu, rfl, -⟩ := h
  exact ⟨I.pb.at k hk, I.pb.fz k⟩
/-- bad[k] is written; want[k] then -/
theorem LP.gb_lt {gw gn gb i k : Nat} {v9 v10 : Value} {ok : Bool} {Y : List Int} {bk : Bool} {uo : Option Addr} {um uc : Nat} {UU : List Int} (h : LP w0 w gw gn gb i k v9 v10 ok Y bk uo um uc UU) : gb < w.heap.size := by
  obtain ⟨col, s, I, R, rfl, rfl, rfl, r⟩ := h
  exact I.pb.lt
theorem bytes_out {kd n : Int} {b : Bool} {t : ByteArray} {r : Ending} (hn : n ≤ 9223372036854775807) (ht : t.size ≤ 1048576)
    (h : (putOK kd n = true → ∃ bo m cc, r = .returned (.tuple #[.slice bo m cc, .bool true]) ∧ BR w' bo m cc (putB kd n b t) ∧ NewB w w' bo) ∧ (putOK kd n = false → r = .returned (.tuple #[.slice none 0 0, .bool false]) ∧ Below w.heap.size w w')) :
    ∃ bo m cc Y, r = .returned (.tuple #[.slice bo m cc, .bool (putOK kd n)]) ∧ BR w' bo m cc Y ∧ (putOK kd n = true → Y = putB kd n b t) ∧ NewB w w' bo ∧ Y.length ≤ 1048590 := by
  cases ho : putOK kd n with
  | true =>
    obtain ⟨bo, m, cc, e, B, N⟩ := h.1 ho
    exact ⟨bo, m, cc, _, e, B, fun _ => rfl, N, by have := putB_len (k := kd) (b := b) hn ht; omega⟩
  | false =>
    obtain ⟨e, B⟩ := h.2 ho
    exact ⟨none, 0, 0, [], e, BR.nil _, (fun h => by cases h), ⟨B, fun k hk => by cases hk⟩, by simp⟩
theorem LP.row {gw gn gb i k : Nat} {v9 v10 : Value} {ok : Bool} {Y : List Int} {bk : Bool} {uo : Option Addr} {um uc : Nat} {UU : List Int} (h : LP w0 w gw gn gb i k v9 v10 ok Y bk uo um uc UU) (hk : k < 4) (b2 : Bool) (hb2 : b2 = (bk || !ok)) (w6 : World) (h6 : w.setCell ⟨gb, k, none⟩ (.bool b2) = w6) :
    w6.cell? ⟨gn, k, none⟩ = some (.slice uo um uc) ∧ BQ w6 uo um uc UU ∧ um ≤ 2 + i * 1048600 ∧
    (∀ (bo : Option Addr) (m cc : Nat) (Y2 : List Int) (w7 : World), (ok = true → Y2 = Y) → BQ w7 bo m cc (UU ++ Y2) → Ap w6 w7 uo bo → Y2.length ≤ 1048590 → w7.frozen? ⟨gn, k, none⟩ = false ∧ (∃ x, w7.cell? ⟨gn, k, none⟩ = some x) ∧ LI w0 (w7.setCell ⟨gn, k, none⟩ (.slice bo m cc)) gw gn gb (i + 1) v9 v10) := by
  subst hb2 h6
  obtain ⟨col, s, I, R, rfl, rfl, rfl, rfl, rfl, hA, rfl, hu, rfl, hl⟩ := h
  have I6 := I.setBad k hk (s.bad k || !ok)
  obtain ⟨uo', um', uc', hv, B, hb⟩ := (I6.un k hk).1
  have hv' : s.uv k = .slice uo' um' uc' := hv
  rw [hu] at hv'
  simp only [Value.slice.injEq] at hv'
  obtain ⟨rfl, rfl, rfl⟩ := hv'
  refine ⟨by rw [← hu]; exact I6.pn.at k hk, B, by rw [← B.len]; exact hl, fun bo m cc Y2 w7 hY B7 A7 hYl => ?_⟩
  have hgn : blk uo ≠ some s.gn := fun e => by
    have h1 := hb _ e
    have h2 := I6.cn
    have h3 : nc w col 10 s.gn = 9 := h2
    omega
  have e7 : w7.heap[s.gn]? = (w.setCell ⟨s.gb, k, none⟩ (.bool (s.bad k || !ok))).heap[s.gn]? := A7.grown.block s.gn I6.pn.lt (fun e => hgn e.symm)
  refine ⟨?_, ⟨s.uv k, ?_⟩, ?_⟩
  · rw [World.frozen?_of_block (w := w.setCell ⟨s.gb, k, none⟩ (.bool (s.bad k || !ok))) (w' := w7) (a := ⟨s.gn, k, none⟩) e7]; exact I6.pn.fz k
  · rw [World.cell?_of_block (w := w.setCell ⟨s.gb, k, none⟩ (.bool (s.bad k || !ok))) (w' := w7) (a := ⟨s.gn, k, none⟩) e7]; exact I6.pn.at k hk
  · have I7 := I6.setWant k hk (uo := uo) (n2 := um) (c2 := uc) hu B7 A7 (by rw [List.length_append]; omega)
    exact ⟨_, _, I7, R.step k ok Y Y2 hY _, rfl, rfl, rfl, rfl, rfl, Nat.le_trans hA (Nat.le_succ i)⟩
/-- behind Done -/
theorem LI.grown {i : Nat} (I : WI w0 w col s (2 + i * 1048600)) (R : Rel s) (hA : s.As.length ≤ i) {x : Value} {Z : List Int} (U : UK w col 14 x Z) {v2 : Value} {w2 : World} (O : w2.ownsRow 0 27 1 v2 (s.As.length + 1) (s.As ++ [x])) (G : G1 w w2 s.av v2) :
    (convert 27 9 x).run Try.prog w2 = .ok (.string (strOfNums Z)) w2 ∧ w2.ownsRow 0 9 1 s.cv s.Zs.length (strs s.Zs) ∧ s.Zs.length ≤ i ∧
    (∀ (v3 : Value) (w3 : World), w3.ownsRow 0 9 1 v3 (s.Zs.length + 1) (strs s.Zs ++ [.string (strOfNums Z)]) → G1 w2 w3 s.cv v3 → LI w0 w3 s.gw s.gn s.gb (i + 1) v2 v3) := by
  obtain ⟨I2, U2⟩ := I.addAns R.zl U O G
  have O3 := I2.cps.1
  refine ⟨U2.str, by simpa using O3, by rw [R.zl]; exact hA, fun v3 w3 O3 G3 => ?_⟩
  have hx : (s.As ++ [x])[s.Zs.length]? = some x := by rw [R.zl]; exact List.getElem?_concat_length
  have I3 := I2.addCpy (x := x) (Z := Z) hx U2 O3 G3
  refine ⟨_, _, I3.mono (by omega), ⟨fun k hk => R.eq k hk, ?_⟩, rfl, rfl, rfl, rfl, rfl, ?_⟩
  · show (s.Zs ++ [Z]).length = (s.As ++ [x]).length
    rw [List.length_append, List.length_append, R.zl]; rfl
  · show (s.As ++ [x]).length ≤ i + 1
    rw [List.length_append]
    exact Nat.succ_le_succ hA
end Go.Proofs.Ytebedjhfdncabaa
