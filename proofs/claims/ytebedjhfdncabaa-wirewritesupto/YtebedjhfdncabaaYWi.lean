/- WireWrites: four writers, what is wanted of them, the answers: all in memory, apart by owners. -/
import Derived.Test.YtebedjhfdncabaaYCv
import Derived.ArgAppend
namespace Go.Proofs.Ytebedjhfdncabaa
open Go.RowKit
variable {w w' w2 : World} {g : Nat}

/-! ### arrays of four -/
def A4 (f : Nat → Value) : Array Value := #[f 0, f 1, f 2, f 3]
theorem A4_size (f : Nat → Value) : (A4 f).size = 4 := rfl
theorem A4_at (f : Nat → Value) (k : Nat) (hk : k < 4) : (A4 f)[k]? = some (f k) := by
  match k, hk with
  | 0, _ | 1, _ | 2, _ | 3, _ => rfl
def upd {α : Type} (f : Nat → α) (k : Nat) (v : α) : Nat → α := fun j => if j = k then v else f j
theorem upd_same {α : Type} (f : Nat → α) (k : Nat) (v : α) : upd f k v k = v := if_pos rfl
theorem upd_other {α : Type} (f : Nat → α) {k j : Nat} (v : α) (h : j ≠ k) : upd f k v j = f j := if_neg h
theorem A4_set (f : Nat → Value) (k : Nat) (hk : k < 4) (v : Value) : (A4 f).setIfInBounds k v = A4 (upd f k v) := by
  match k, hk with
  | 0, _ | 1, _ | 2, _ | 3, _ => rfl
def Bx4 (w : World) (g : Nat) (T : TypeId) (f : Nat → Value) : Prop := w.heap[g]? = some (.cells (A4 f) T (0, 0))
theorem Bx4.lt {T : TypeId} {f : Nat → Value} (h : Bx4 w g T f) : g < w.heap.size := (Array.getElem?_eq_some_iff.1 h).1
theorem Bx4.at {T : TypeId} {f : Nat → Value} (h : Bx4 w g T f) (k : Nat) (hk : k < 4) : w.cell? ⟨g, k, none⟩ = some (f k) := by
  rw [cell_of_box h]; exact A4_at f k hk
theorem Bx4.fz {T : TypeId} {f : Nat → Value} (h : Bx4 w g T f) (k : Nat) : w.frozen? ⟨g, k, none⟩ = false := frozen_of_box h k
theorem Bx4.set {T : TypeId} {f : Nat → Value} (h : Bx4 w g T f) (k : Nat) (hk : k < 4) (v : Value) : Bx4 (w.setCell ⟨g, k, none⟩ v) g T (upd f k v) := by
  unfold Bx4 at h ⊢
  rw [← A4_set f k hk v]
  simp [World.setCell, h, Array.getElem?_modify, Array.setIfInBounds]
/-! ### rows of one cell each -/
theorem own_keep {T : TypeId} {v : Value} {n : Nat} {L : List Value} (h : w.ownsRow 0 T 1 v n L) (hk : ∀ k, v.ownBlock = some k → w'.heap[k]? = w.heap[k]?) : w'.ownsRow 0 T 1 v n L := by
  refine ⟨h.1, ?_⟩
  rcases h.2 with h0 | ⟨q, cap2, cur, hv, hq, hh, r⟩
  · exact Or.inl h0
  · subst hv
    exact Or.inr ⟨q, cap2, cur, rfl, hq, (hk q rfl).trans hh, r⟩
theorem own_lt {T : TypeId} {v : Value} {n : Nat} {L : List Value} (h : w.ownsRow 0 T 1 v n L) (k : Nat) (hk : v.ownBlock = some k) : k < w.heap.size := by
  rcases h.2 with ⟨h0, _⟩ | ⟨q, cap2, cur, hv, hq, hh, r⟩
  · subst h0; cases hk
  · subst hv
    have : q = k := Option.some.inj hk
    subst this
    exact (Array.getElem?_eq_some_iff.1 hh).1
/-! ### a row of bytes that grows, or one that is full and was laid for a constant -/
def BQ (w : World) (ao : Option Addr) (n cap : Nat) (Z : List Int) : Prop := BR w ao n cap Z ∨ (cap = n ∧ ∃ b, ao = some ⟨b, 0, none⟩ ∧ BS w ao n cap Z ∧ b < w.heap.size)
theorem BQ.bs {ao : Option Addr} {n cap : Nat} {Z : List Int} (h : BQ w ao n cap Z) : BS w ao n cap Z := by
  rcases h with B | ⟨-, b, -, S, -⟩
  · exact B.bs
  · exact S
theorem BQ.len {ao : Option Addr} {n cap : Nat} {Z : List Int} (h : BQ w ao n cap Z) : Z.length = n := h.bs.len
theorem BQ.lt {ao : Option Addr} {n cap : Nat} {Z : List Int} (h : BQ w ao n cap Z) (k : Nat) (hk : blk ao = some k) : k < w.heap.size := by
  rcases h with B | ⟨-, b, rfl, -, hb⟩
  · exact B.lt k hk
  · have : b = k := Option.some.inj hk
    omega
theorem BQ.keep {ao : Option Addr} {n cap : Nat} {Z : List Int} (h : BQ w ao n cap Z) (hs : w.heap.size ≤ w'.heap.size) (hk : ∀ k, blk ao = some k → w'.heap[k]? = w.heap[k]?) : BQ w' ao n cap Z := by
  rcases h with B | ⟨hc, b, rfl, S, hb⟩
  · exact Or.inl (B.keep hk)
  · refine Or.inr ⟨hc, b, rfl, ⟨S.len, S.nil, fun ad ha t ht => ?_⟩, by omega⟩
    obtain rfl := Option.some.inj ha
    rw [World.cell?_of_block (w := w) (w' := w') (by rw [block_of_add]; exact hk b rfl)]
    exact S.cell _ rfl t ht
theorem BQ.str {ao : Option Addr} {n cap : Nat} {Z : List Int} (h : BQ w ao n cap Z) : (convert 27 9 (.slice ao n cap)).run Try.prog w = .ok (.string (strOfNums Z)) w := by
  rcases h with B | ⟨-, q, rfl, S, -⟩
  · exact B.str
  · refine run_convert_bytes_arg w 27 5 Try.underlying27 Try.underlying5 q 0 n cap Z S.len (fun i hi => ?_) 9 Try.underlying9
    have := S.cell _ rfl i hi
    rw [Addr.add_lit] at this
    exact this
theorem BQ.appB {ao so : Option Addr} {n cap m c : Nat} {Z Y : List Int} (h : BQ w ao n cap Z) (S : BS w so m c Y) (hb : n + m ≤ 140737488355328)
    {ops : Array Oper} {rest : List Oper} {o : Oper} {a : Act} {Q : Exit → Act → World → Prop} (hgd : o.guard = none) (s y : Operand) (ho : o.op = .call { callee := .builtin .append, args := #[s, y], argTypes := #[27, 27] })
    (hs : a.eval s = .slice ao n cap) (hy : a.eval y = .slice so m c)
    (hK : ∀ (bo : Option Addr) (cap2 : Nat) (w2 : World), BQ w2 bo (n + m) cap2 (Z ++ Y) → Ap w w2 ao bo → wpList Try.prog ops Q rest (a.put o.dst (.slice bo (n + m) cap2)) w2) :
    wpList Try.prog ops Q (o :: rest) a w := by
  rcases h with B | ⟨rfl, q, rfl, Sn, hq⟩
  · exact B.appB S hb hgd s y ho hs hy fun bo c2 w2 B2 A2 => hK bo c2 w2 (Or.inl B2) A2
  · obtain ⟨i0, hi, hz0, hz1, hz2⟩ := info_parts infoB
    by_cases hm : m = 0
    · subst hm
      have e := List.eq_nil_of_length_eq_zero S.len
      subst e
      have hrun : ∀ ty, (Builtin.append_ #[27, 27] ty #[.slice (some ⟨q, 0, none⟩) cap cap, .slice so 0 c]).run Try.prog w = .ok (.slice (some ⟨q, 0, none⟩) cap cap) w := fun ty => by
        cases so with
        | none =>
          obtain ⟨-, rfl⟩ := S.nil rfl
          simp [Builtin.append_, run_underlying Try.underlying27, sizeOf, typeInfo, hi, Builtin.lenOf, Builtin.firstCells, storeCells]
        | some ad =>
          have := run_append_room_cells (P := Try.prog) w 27 ty 5 i0 Try.underlying27 hi q 0 cap cap ad 0 c [] (by simp) (by simp) (by simp) (Nat.le_refl _) (by simp) (by simp)
          exact this
      refine wpList_plain hgd fun K hK' => ?_
      unfold Oper.wp
      simp [execOp, ho, resolve, invoke, builtin, hs, hy, hrun, Result.andThen]
      refine hK' _ _ ?_
      have := hK (some ⟨q, 0, none⟩) cap w (by rw [List.append_nil]; exact Or.inr ⟨rfl, q, rfl, Sn, hq⟩) (Ap.refl _ _)
      exact this
    · cases so with
      | none => exact absurd (S.nil rfl).1 hm
      | some ad =>
        refine wpList_append_grows w hgd s y 27 ho 5 i0 (.int .u8 0) 1 1 Try.underlying27 hi hz0 hz1 hz2 rfl (by decide) (some ⟨q, 0, none⟩) cap cap (bcs Z) hs (fun h => by cases h) (by rw [bcs_length, Sn.len, Nat.mul_one]) (fun b hb j u hj => ?_) ad m c (bcs Y) hy (by rw [bcs_length, S.len, Nat.mul_one]) (fun j u hj => ?_) (bcs_one Y) (by omega) (by unfold maxLen; omega) (by omega) ?_
        · obtain rfl := Option.some.inj hb
          have hl : j < Z.length := by rw [← bcs_length]; exact (List.getElem?_eq_some_iff.1 hj).1
          rw [bcs_at Z j hl] at hj
          rw [Sn.cell _ rfl j (by rw [← Sn.len]; exact hl)]
          exact hj
        · have hl : j < Y.length := by rw [← bcs_length]; exact (List.getElem?_eq_some_iff.1 hj).1
          rw [bcs_at Y j hl] at hj
          rw [S.cell _ rfl j (by rw [← S.len]; exact hl)]
          exact hj
        · intro v' w2 hown hgrow
          rw [← bcs_append] at hown
          have hown0 : w2.ownsRow 0 5 1 v' (cap + m) (bcs (Z ++ Y)) := ⟨hown.1, by
            rcases hown.2 with h0 | ⟨g, c2, cur, hv, hg, r⟩
            · exact Or.inl h0
            · exact Or.inr ⟨g, c2, cur, hv, Nat.zero_le _, r⟩⟩
          have hlt := hown.lt
          obtain ⟨bo, c2, rfl, hB⟩ := BR.out hown0
          refine hK bo c2 w2 (Or.inl hB) ⟨⟨hgrow.os, hgrow.tape, hgrow.output, hgrow.size, fun k hk _ => hgrow.block k hk (fun e => by cases e)⟩, ?_⟩
          have hl2 : bo ≠ none := fun e => by
            subst e
            rcases hB.2 with ⟨h0, h00⟩ | ⟨g, c3, cur, hv, _⟩
            · omega
            · cases hv
          cases bo with
          | none => exact absurd rfl hl2
          | some x => exact Or.inr ⟨x.block, rfl, (hlt x.block (by rw [ownBlock_blk]; rfl)).1⟩
/-! ### owners -/
/-- blocks of the owners C alone may have been written -/
structure St (col : Nat → Nat) (C : Nat → Prop) (w w' : World) : Prop where
  os : w'.os = w.os
  tape : w'.tape = w.tape
  output : w'.output = w.output
  size : w.heap.size ≤ w'.heap.size
  block : ∀ b, b < w.heap.size → ¬ C (col b) → w'.heap[b]? = w.heap[b]?
variable {col : Nat → Nat} {C : Nat → Prop}
def nc (w : World) (col : Nat → Nat) (n : Nat) : Nat → Nat := fun b => if b < w.heap.size then col b else n
theorem nc_old (n : Nat) {b : Nat} (h : b < w.heap.size) : nc w col n b = col b := if_pos h
theorem nc_new (n : Nat) {b : Nat} (h : w.heap.size ≤ b) : nc w col n b = n := if_neg (by omega)
theorem St.of_below (h : Below w.heap.size w w') : St col C w w' := ⟨h.os, h.tape, h.output, h.size, fun b hb _ => h.block b hb⟩
theorem St.below {w0 : World} (S : St col C w w') (h : Below w0.heap.size w0 w) (hc : ∀ b, b < w0.heap.size → ¬ C (col b)) : Below w0.heap.size w0 w' :=
  ⟨S.os.trans h.os, S.tape.trans h.tape, S.output.trans h.output, Nat.le_trans h.size S.size, fun k hk => (S.block k (Nat.lt_of_lt_of_le hk h.size) (hc k hk)).trans (h.block k hk)⟩
theorem Bx4.keep {T : TypeId} {f : Nat → Value} (h : Bx4 w g T f) (S : St col C w w') (hc : ¬ C (col g)) : Bx4 w' g T f := (S.block g h.lt hc).trans h
/-- a writer, its row; their owner -/
structure WK (w : World) (col : Nat → Nat) (k g : Nat) (sp : Bool) (Z : List Int) (lim : Nat) : Prop where
  ex : ∃ ao n cap, Wr w g ao n cap Z sp ∧ (sp = true → ao = none) ∧ ∀ b, blk ao = some b → col b = k
  own : col g = k
  len : Z.length ≤ lim
theorem WK.keep {k : Nat} {sp : Bool} {Z : List Int} {lim : Nat} (h : WK w col k g sp Z lim) (S : St col C w w') (hc : ¬ C k) (n : Nat) : WK w' (nc w col n) k g sp Z lim := by
  obtain ⟨ao, m, cap, W, hn, hb⟩ := h.ex
  have hg : g < w.heap.size := W.lt
  refine ⟨⟨ao, m, cap, ⟨(S.block g hg (by rw [h.own]; exact hc)).trans W.box, W.row.keep fun b e => S.block b (W.row.lt b e) (by rw [hb b e]; exact hc), W.ne, W.nil⟩, hn, fun b e => ?_⟩, ?_, h.len⟩
  · rw [nc_old n (W.row.lt b e)]; exact hb b e
  · rw [nc_old n hg]; exact h.own
/-- a row of bytes; its owner -/
def UK (w : World) (col : Nat → Nat) (k : Nat) (v : Value) (U : List Int) : Prop := ∃ uo m c, v = .slice uo m c ∧ BQ w uo m c U ∧ ∀ b, blk uo = some b → col b = k
theorem UK.keep {k : Nat} {v : Value} {U : List Int} (h : UK w col k v U) (S : St col C w w') (hc : ¬ C k) (n : Nat) : UK w' (nc w col n) k v U := by
  obtain ⟨uo, m, c, hv, B, hb⟩ := h
  exact ⟨uo, m, c, hv, B.keep S.size fun b e => S.block b (B.lt b e) (by rw [hb b e]; exact hc), fun b e => by rw [nc_old n (B.lt b e)]; exact hb b e⟩
/-- a row of values; its owner -/
def RK (w : World) (col : Nat → Nat) (k : Nat) (T : TypeId) (v : Value) (L : List Value) : Prop := w.ownsRow 0 T 1 v L.length L ∧ ∀ b, v.ownBlock = some b → col b = k
theorem RK.keep {k : Nat} {T : TypeId} {v : Value} {L : List Value} (h : RK w col k T v L) (S : St col C w w') (hc : ¬ C k) (n : Nat) : RK w' (nc w col n) k T v L :=
  ⟨own_keep h.1 fun b e => S.block b (own_lt h.1 b e) (by rw [h.2 b e]; exact hc), fun b e => by rw [nc_old n (own_lt h.1 b e)]; exact h.2 b e⟩
structure Ws where
  gw : Nat
  gn : Nat
  gb : Nat
  g : Nat → Nat
  sp : Nat → Bool
  Z : Nat → List Int
  bad : Nat → Bool
  uv : Nat → Value
  U : Nat → List Int
  av : Value
  As : List Value
  cv : Value
  Zs : List (List Int)
abbrev strs (Zs : List (List Int)) : List Value := Zs.map fun Z => .string (strOfNums Z)
structure WI (w0 w : World) (col : Nat → Nat) (s : Ws) (lim : Nat) : Prop where
  pw : Bx4 w s.gw 25 (fun k => ptr (s.g k))
  pn : Bx4 w s.gn 31 s.uv
  pb : Bx4 w s.gb 32 (fun k => .bool (s.bad k))
  wr : ∀ k, k < 4 → WK w col k (s.g k) (s.sp k) (s.Z k) lim
  un : ∀ k, k < 4 → UK w col (4 + k) (s.uv k) (s.U k) ∧ (s.U k).length ≤ lim
  ans : RK w col 11 27 s.av s.As
  cps : RK w col 12 9 s.cv (strs s.Zs)
  rd : ∀ (j : Nat) v Z, s.As[j]? = some v → s.Zs[j]? = some Z → UK w col 14 v Z
  cw : col s.gw = 8
  cn : col s.gn = 9
  cb : col s.gb = 10
  base : ∀ b, b < w0.heap.size → col b = 13
  below : Below w0.heap.size w0 w
variable {w0 : World} {s : Ws} {lim : Nat}
/-- all but what C owns is as it was -/
theorem WI.frame (h : WI w0 w col s lim) (S : St col C w w') (n : Nat) (h13 : ¬ C 13) (h8 : ¬ C 8) (h14 : ¬ C 14) :
    Bx4 w' s.gw 25 (fun k => ptr (s.g k)) ∧ (∀ (j : Nat) v Z, s.As[j]? = some v → s.Zs[j]? = some Z → UK w' (nc w col n) 14 v Z) ∧ nc w col n s.gw = 8 ∧ nc w col n s.gn = 9 ∧ nc w col n s.gb = 10 ∧
    (∀ b, b < w0.heap.size → nc w col n b = 13) ∧ Below w0.heap.size w0 w' := by
  refine ⟨h.pw.keep S (by rw [h.cw]; exact h8), fun j v Z h1 h2 => (h.rd j v Z h1 h2).keep S h14 n, ?_, ?_, ?_, fun b hb => ?_, S.below h.below fun b hb => by rw [h.base b hb]; exact h13⟩
  · rw [nc_old n h.pw.lt]; exact h.cw
  · rw [nc_old n h.pn.lt]; exact h.cn
  · rw [nc_old n h.pb.lt]; exact h.cb
  · rw [nc_old n (Nat.lt_of_lt_of_le hb h.below.size)]; exact h.base b hb
theorem WI.below' (h : WI w0 w col s lim) (hb : Below w.heap.size w w') (n : Nat) : WI w0 w' (nc w col n) s lim := by
  have S : St col (fun _ => False) w w' := St.of_below hb
  obtain ⟨f1, f2, f3, f4, f5, f6, f7⟩ := h.frame S n id id id
  exact ⟨f1, h.pn.keep S id, h.pb.keep S id, fun k hk => (h.wr k hk).keep S id n, fun k hk => ⟨(h.un k hk).1.keep S id n, (h.un k hk).2⟩, h.ans.keep S id n, h.cps.keep S id n, f2, f3, f4, f5, f6, f7⟩
theorem WI.mono (h : WI w0 w col s lim) {l2 : Nat} (hl : lim ≤ l2) : WI w0 w col s l2 :=
  ⟨h.pw, h.pn, h.pb, fun k hk => ⟨(h.wr k hk).ex, (h.wr k hk).own, Nat.le_trans (h.wr k hk).len hl⟩, fun k hk => ⟨(h.un k hk).1, Nat.le_trans (h.un k hk).2 hl⟩, h.ans, h.cps, h.rd, h.cw, h.cn, h.cb, h.base, h.below⟩
/-- a put on writer k -/
theorem WI.put (h : WI w0 w col s lim) (k : Nat) (hk : k < 4) {ao bo : Option Addr} {m cc : Nat} {Z2 : List Int} {sp2 : Bool} (hao : ∀ b, blk ao = some b → col b = k) (W : Wr w' (s.g k) bo m cc Z2 sp2) (hbo : sp2 = true → bo = none) (K : Kp w w' (s.g k) ao bo) (hl : Z2.length ≤ lim) :
    WI w0 w' (nc w col k) { s with sp := upd s.sp k sp2, Z := upd s.Z k Z2 } lim := by
  have hg := (h.wr k hk).own
  have S : St col (fun c => c = k) w w' := ⟨K.os, K.tape, K.output, K.size, fun b hb hc => K.block b hb (fun e => hc (by rw [e]; exact hg)) (fun e => hc (hao b e.symm))⟩
  obtain ⟨f1, f2, f3, f4, f5, f6, f7⟩ := h.frame S k (by omega) (by omega) (by omega)
  have hgl : s.g k < w.heap.size := by obtain ⟨a, n, c, W0, -⟩ := (h.wr k hk).ex; exact W0.lt
  refine ⟨f1, h.pn.keep S (by rw [h.cn]; omega), h.pb.keep S (by rw [h.cb]; omega), fun j hj => ?_, fun j hj => ⟨(h.un j hj).1.keep S (by omega) k, (h.un j hj).2⟩, h.ans.keep S (by omega) k, h.cps.keep S (by omega) k, f2, f3, f4, f5, f6, f7⟩
  show WK w' (nc w col k) j (s.g j) (upd s.sp k sp2 j) (upd s.Z k Z2 j) lim
  by_cases e : j = k
  · subst e
    rw [upd_same, upd_same]
    refine ⟨⟨bo, m, cc, W, hbo, fun b eb => ?_⟩, by rw [nc_old j hgl]; exact hg, hl⟩
    rcases K.lies with x | x | ⟨q, x, hq⟩
    · rw [x] at eb; cases eb
    · rw [x] at eb
      by_cases hb : b < w.heap.size
      · rw [nc_old j hb]; exact hao b eb
      · exact nc_new j (by omega)
    · rw [x] at eb
      have := Option.some.inj eb
      exact nc_new j (by omega)
  · rw [upd_other _ _ e, upd_other _ _ e]
    exact (h.wr j hj).keep S e k
/-- bad[k] is written -/
theorem WI.setBad (h : WI w0 w col s lim) (k : Nat) (hk : k < 4) (b : Bool) : WI w0 (w.setCell ⟨s.gb, k, none⟩ (.bool b)) (nc w col 10) { s with bad := upd s.bad k b } lim := by
  have S : St col (fun c => c = 10) w (w.setCell ⟨s.gb, k, none⟩ (.bool b)) := ⟨rfl, rfl, rfl, by rw [set_size]; exact Nat.le_refl _, fun j _ hc => set_other w s.gb k j _ (fun e => hc (by rw [e]; exact h.cb))⟩
  obtain ⟨f1, f2, f3, f4, f5, f6, f7⟩ := h.frame S 10 (by omega) (by omega) (by omega)
  refine ⟨f1, h.pn.keep S (by rw [h.cn]; omega), ?_, fun j hj => (h.wr j hj).keep S (by omega) 10, fun j hj => ⟨(h.un j hj).1.keep S (by omega) 10, (h.un j hj).2⟩, h.ans.keep S (by omega) 10, h.cps.keep S (by omega) 10, f2, f3, f4, f5, f6, f7⟩
  have := h.pb.set k hk (.bool b)
  have e : upd (fun k => Value.bool (s.bad k)) k (.bool b) = fun j => .bool (upd s.bad k b j) := by
    funext j; unfold upd; split <;> rfl
  rw [e] at this
  exact this
/-- want[k] has grown and is held -/
theorem WI.setWant (h : WI w0 w col s lim) (k : Nat) (hk : k < 4) {uo bo : Option Addr} {m cc n2 c2 : Nat} {Y : List Int} (hu : s.uv k = .slice uo n2 c2) (B : BQ w' bo m cc Y) (A : Ap w w' uo bo) (hl : Y.length ≤ lim) :
    WI w0 (w'.setCell ⟨s.gn, k, none⟩ (.slice bo m cc)) (nc w col (4 + k)) { s with uv := upd s.uv k (.slice bo m cc), U := upd s.U k Y } lim := by
  obtain ⟨uo', n', c', hv, B0, hb0⟩ := (h.un k hk).1
  rw [hu] at hv
  simp only [Value.slice.injEq] at hv
  obtain ⟨rfl, rfl, rfl⟩ := hv
  have hgn : s.gn < w.heap.size := h.pn.lt
  have S1 : St col (fun c => c = 4 + k) w w' := ⟨A.grown.os, A.grown.tape, A.grown.output, A.grown.size, fun j hj hc => A.grown.block j hj (fun e => hc (hb0 j e.symm))⟩
  have S : St col (fun c => c = 4 + k ∨ c = 9) w (w'.setCell ⟨s.gn, k, none⟩ (.slice bo m cc)) := ⟨S1.os, S1.tape, S1.output, by rw [set_size]; exact S1.size, fun j hj hc => (set_other w' s.gn k j _ (fun e => hc (Or.inr (by rw [e]; exact h.cn)))).trans (S1.block j hj (fun e => hc (Or.inl e)))⟩
  obtain ⟨f1, f2, f3, f4, f5, f6, f7⟩ := h.frame S (4 + k) (by omega) (by omega) (by omega)
  have hne : ∀ b, blk bo = some b → b ≠ s.gn := fun b eb e => by
    subst e
    rcases A.lies with x | ⟨q, x, hq⟩
    · rw [x] at eb; have := hb0 _ eb; have := h.cn; omega
    · rw [x] at eb; have := Option.some.inj eb; omega
  refine ⟨f1, (h.pn.keep S1 (by rw [h.cn]; omega)).set k hk _, h.pb.keep S (by rw [h.cb]; omega), fun j hj => (h.wr j hj).keep S (by omega) (4 + k), fun j hj => ?_, h.ans.keep S (by omega) (4 + k), h.cps.keep S (by omega) (4 + k), f2, f3, f4, f5, f6, f7⟩
  show UK _ _ (4 + j) (upd s.uv k (.slice bo m cc) j) (upd s.U k Y j) ∧ (upd s.U k Y j).length ≤ lim
  by_cases e : j = k
  · subst e
    rw [upd_same, upd_same]
    refine ⟨⟨bo, m, cc, rfl, B.keep (by rw [set_size]; exact Nat.le_refl _) fun b eb => set_other w' s.gn j b _ (hne b eb), fun b eb => ?_⟩, hl⟩
    rcases A.lies with x | ⟨q, x, hq⟩
    · rw [x] at eb
      rw [nc_old _ (B0.lt b eb)]; exact hb0 b eb
    · rw [x] at eb
      have := Option.some.inj eb
      exact nc_new _ (by omega)
  · rw [upd_other _ _ e, upd_other _ _ e]
    exact ⟨(h.un j hj).1.keep S (by omega) (4 + k), (h.un j hj).2⟩
end Go.Proofs.Ytebedjhfdncabaa
