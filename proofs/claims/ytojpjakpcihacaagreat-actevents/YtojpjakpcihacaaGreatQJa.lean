/- Arrays of sixteen rows of numbers, as values and as variables; rows that the call itself grows. -/
import Derived.Test.YtojpjakpcihacaaGreatQIn
import Derived.Test.YtojpjakpcihacaaGreatPKa
namespace Go.Proofs.YtojpjakpcihacaaGreat
open Go.RowKit

/-- a row of numbers as a value, with what it holds -/
structure Si where
  ao : Option Addr
  n : Nat
  cap : Nat
  L : List Int
def siv (s : Si) : Value := .slice s.ao s.n s.cap
def si0 : Si := ⟨none, 0, 0, []⟩
theorem ics_single (e : Int) : ics [e] = [.int .i64 e] := rfl
def JA (F : Nat → Si) : Array Value := ((List.range 16).map fun r => siv (F r)).toArray
abbrev JAv (F : Nat → Si) : Value := .agg (JA F)
theorem JA_size (F : Nat → Si) : (JA F).size = 16 := by simp [JA]
theorem JA_at (F : Nat → Si) (t : Nat) (h : t < 16) : (JA F)[t]? = some (siv (F t)) := by simp [JA, h]
theorem JA_congr {F G : Nat → Si} (h : ∀ r, r < 16 → F r = G r) : JA F = JA G := by
  unfold JA; congr 1; apply List.map_congr_left; intro r hr; rw [h r (by simpa using hr)]
theorem JA_one (F : Nat → Si) : ∀ v ∈ (JA F).toList, v.oneCell' = true := by
  intro v hv; simp only [JA, List.mem_map] at hv; obtain ⟨r, _, rfl⟩ := hv; rfl
theorem cells_JAv (F : Nat → Si) : (JAv F).cells = JA F := by simp [Value.cells]
theorem zeros_JA : (#[.slice none 0 0, .slice none 0 0, .slice none 0 0, .slice none 0 0, .slice none 0 0, .slice none 0 0, .slice none 0 0, .slice none 0 0, .slice none 0 0, .slice none 0 0, .slice none 0 0, .slice none 0 0, .slice none 0 0, .slice none 0 0, .slice none 0 0, .slice none 0 0] : Array Value) = JA (fun _ => si0) := rfl
def Jset (F : Nat → Si) (k : Nat) (s : Si) : Nat → Si := fun r => if r = k then s else F r
theorem Jset_same (F : Nat → Si) (k : Nat) (s : Si) : Jset F k s k = s := by simp [Jset]
theorem Jset_other (F : Nat → Si) (k r : Nat) (s : Si) (h : r ≠ k) : Jset F k s r = F r := by simp [Jset, h]
/-- the block g is a variable (of type T) that holds the sixteen rows -/
def ISets (w : World) (g : Nat) (T : TypeId) (F : Nat → Si) : Prop := w.heap[g]? = some (.cells (JA F) T (0, 0))
section
variable {w w' : World} {g : Nat} {T : TypeId} {F : Nat → Si}
theorem ISets.lt (h : ISets w g T F) : g < w.heap.size := (Array.getElem?_eq_some_iff.1 h).1
theorem ISets.cell (h : ISets w g T F) (t : Nat) (ht : t < 16) : w.cell? ⟨g, t, none⟩ = some (.slice (F t).ao (F t).n (F t).cap) := by
  unfold ISets at h; simp [World.cell?, h, JA_at F t ht, siv]
theorem ISets.frozen (h : ISets w g T F) (t : Nat) : w.frozen? ⟨g, t, none⟩ = false := by unfold ISets at h; simp [World.frozen?, h]
theorem JA_set (F : Nat → Si) (t : Nat) (s : Si) : (JA F).setIfInBounds t (siv s) = JA (Jset F t s) := by
  apply Array.ext
  · simp [JA]
  · intro i h1 h2
    simp [JA] at h2
    by_cases h : t = i
    · subst h; simp [JA, Jset]
    · have : ¬ i = t := fun e => h e.symm
      simp [JA, Jset, h, this]
theorem ISets.set (h : ISets w g T F) (t : Nat) (s : Si) (v : Value) (hv : v = siv s) : ISets (w.setCell ⟨g, t, none⟩ v) g T (Jset F t s) := by
  subst hv
  unfold ISets at h ⊢
  simp [World.setCell, h, Array.getElem?_modify, ← JA_set]
theorem ISets.congr {G : Nat → Si} (h : ISets w g T F) (e : ∀ r, r < 16 → F r = G r) : ISets w g T G := by
  unfold ISets at h ⊢; rw [← JA_congr e]; exact h
theorem ISets.below (h : ISets w g T F) (hb : Below w.heap.size w w') : ISets w' g T F := (hb.block g h.lt).trans h
theorem ISets.off {q : Nat} {v : Value} {t : Nat} (h : ISets w g T F) (hne : q ≠ g) : ISets (w.setCell ⟨q, t, none⟩ v) g T F := by
  unfold ISets at h ⊢
  simp [World.setCell, Array.getElem?_modify, hne, h]
theorem isets_new (w : World) (T : TypeId) (F : Nat → Si) : ISets (w.alloc (.cells (JA F) T)) w.heap.size T F := by unfold ISets; rw [heap_alloc_new]
end
def ldJ (v : Value) : Sem Value := Instr.loadAt 65 v
theorem ldJ_eq (v : Value) : Instr.loadAt 65 v = ldJ v := rfl
def stJ (p v : Value) : Sem Unit := Instr.storeAt 65 p v
theorem stJ_eq (p v : Value) : Instr.storeAt 65 p v = stJ p v := rfl
theorem sizeJ : (Tryz.prog.info? 65).map (·.size) = some 16 := by kernel_rfl
theorem run_lvJ {w : World} {g : Nat} {T : TypeId} {F : Nat → Si} (A : ISets w g T F) : (loadVar 65 ⟨g, 0, none⟩).run Tryz.prog w = .ok (JAv F) w := by
  have hl := run_loadCells_list (P := Tryz.prog) (w := w) ⟨g, 0, none⟩ (JA F).toList (fun j v hv => by
    rw [Addr.add_lit, Nat.zero_add]
    have hj : j < 16 := by have := (List.getElem?_eq_some_iff.1 hv).1; simpa [JA] using this
    rw [A.cell j hj]
    have := JA_at F j hj
    simp only [Array.getElem?_toList] at hv
    rw [this] at hv; exact hv)
  cases hq : Tryz.prog.info? 65 with
  | none => have := sizeJ; simp [hq] at this
  | some x =>
    have hs : x.size = 16 := by have := sizeJ; simpa [hq] using this
    have hagg : (isAgg 65).run Tryz.prog w = .ok true w := by
      unfold isAgg
      rw [Sem.run_bind, run_underlying Tryz.underlying65 w]
      rfl
    have e : (JA F).toList.length = 16 := by simp [JA]
    rw [e] at hl
    simp [loadVar, Sem.run_bind, hagg, sizeOf, typeInfo, hq, hs, hl, JAv]
theorem run_ldJ {w : World} {g : Nat} {T : TypeId} {F : Nat → Si} (A : ISets w g T F) : (ldJ (.pointer (some ⟨g, 0, none⟩))).run Tryz.prog w = .ok (JAv F) w := by
  unfold ldJ
  simp only [Instr.loadAt, Instr.sureAddr, Sem.run_bind, Sem.run_pure, Result.andThen]
  exact run_lvJ A
theorem run_stJ {w : World} {g : Nat} {T : TypeId} {F F' : Nat → Si} (A : ISets w g T F) : (stJ (.pointer (some ⟨g, 0, none⟩)) (JAv F')).run Tryz.prog w = .ok () (w.setRow g (JA F')) := by
  unfold stJ
  have h := run_storeCells_from (P := Tryz.prog) g T (JA F').toList 0 (JA F) w A (by simp [JA]) (JA_one F')
  cases hq : Tryz.prog.info? 65 with
  | none => have := sizeJ; simp [hq] at this
  | some x =>
    have hs : x.size = 16 := by have := sizeJ; simpa [hq] using this
    simp only [Instr.storeAt, Instr.sureAddr, Sem.run_bind, Sem.run_pure, Result.andThen, storeVar, sizeOf, typeInfo, cells_JAv, JA_size]
    simp at h
    simp [h, hq, hs]
theorem ISets.setRow {w : World} {g : Nat} {T : TypeId} {F F' : Nat → Si} (A : ISets w g T F) : ISets (w.setRow g (JA F')) g T F' := setRow_heap w g _ _ _ _ A
theorem resJ {fn : Func} {p : Tmp} {w : World} {g : Nat} {T : TypeId} {F : Nat → Si} (h : fn.results = #[.cell p 65]) {tmps : Array Value} (hp : tmps.getD p undef = .pointer (some ⟨g, 0, none⟩)) (A : ISets w g T F) :
    (results fn tmps).run Tryz.prog w = .ok (JAv F) w := by
  have hl := run_lvJ A
  simp only [results, h]
  rw [Array.getD_eq_getD_getElem?] at hp
  simp [hp, asAddr, hl]

/-- a row's block -/
def jblk (s : Si) : Option Nat := s.ao.map (·.block)
theorem ownBlock_siv (s : Si) : (Value.slice s.ao s.n s.cap).ownBlock = jblk s := by
  cases s with | mk ao n c L => cases ao <;> rfl
/-- the call's own rows, each in a block of its own, from B on -/
structure OwnJ (B : Nat) (W : World) (F : Nat → Si) : Prop where
  own : ∀ r, r < 32 → W.ownsRow B 3 1 (.slice (F r).ao (F r).n (F r).cap) (F r).n (ics (F r).L)
  apart : ∀ r s, r < 32 → s < 32 → r ≠ s → ∀ k, jblk (F r) = some k → jblk (F s) ≠ some k
/-- the block q is none of them -/
def JOff (F : Nat → Si) (q : Nat) : Prop := ∀ r, r < 32 → jblk (F r) ≠ some q
theorem OwnJ.nil (B : Nat) (W : World) : OwnJ B W (fun _ => si0) := ⟨fun _ _ => World.ownsRow_nil _ _ _ _, fun _ _ _ _ _ k h => by cases h⟩
theorem OwnJ.lt {B : Nat} {W : World} {F : Nat → Si} (O : OwnJ B W F) {r k : Nat} (hr : r < 32) (h : jblk (F r) = some k) : B ≤ k ∧ k < W.heap.size := (O.own r hr).lt k (by rw [ownBlock_siv]; exact h)
theorem OwnJ.off {B : Nat} {W : World} {F : Nat → Si} (O : OwnJ B W F) (q : Nat) (h : q < B ∨ W.heap.size ≤ q) : JOff F q := fun r hr e => by have := O.lt hr e; omega
theorem OwnJ.kept {B : Nat} {W W' : World} {F : Nat → Si} (O : OwnJ B W F) (h : ∀ q, q < W.heap.size → ¬ JOff F q → W'.heap[q]? = W.heap[q]?) : OwnJ B W' F := by
  refine ⟨fun r hr => ⟨(O.own r hr).1, ?_⟩, O.apart⟩
  rcases (O.own r hr).2 with h0 | ⟨g, cap2, cur, hv, hbg, hgg, rr⟩
  · exact Or.inl h0
  · refine Or.inr ⟨g, cap2, cur, hv, hbg, (h g (Array.getElem?_eq_some_iff.1 hgg).1 (fun ho => ho r hr ?_)).trans hgg, rr⟩
    rw [← ownBlock_siv, hv]; rfl
theorem OwnJ.below {B : Nat} {W W' : World} {F : Nat → Si} (O : OwnJ B W F) (hb : Below W.heap.size W W') : OwnJ B W' F := O.kept fun q hq _ => hb.block q hq
theorem OwnJ.len {B : Nat} {W : World} {F : Nat → Si} (O : OwnJ B W F) {r : Nat} (hr : r < 32) : (F r).L.length = (F r).n := by
  have := (O.own r hr).1
  rw [ics_length] at this
  omega
/-- a run is appended to one of the rows -/
theorem OwnJ.grow {B : Nat} {W : World} {F : Nat → Si} (O : OwnJ B W F) (hB : B ≤ W.heap.size) (k : Nat) (hk : k < 32) (e : Int) (ad : Addr) (h0 : W.cell? (ad.add 0) = some (.int .i64 e)) (ty : TypeId) (hlen : (F k).n < 17592186044414) :
    ∃ g cap2 w2, (Builtin.append_ #[22, 22] ty #[.slice (F k).ao (F k).n (F k).cap, .slice (some ad) 1 1]).run Tryz.prog W = .ok (.slice (some ⟨g, 0, none⟩) ((F k).n + 1) cap2) w2 ∧
      OwnJ B w2 (Jset F k ⟨some ⟨g, 0, none⟩, (F k).n + 1, cap2, (F k).L ++ [e]⟩) ∧
      (∀ q, q < W.heap.size → JOff F q → w2.heap[q]? = W.heap[q]? ∧ JOff (Jset F k ⟨some ⟨g, 0, none⟩, (F k).n + 1, cap2, (F k).L ++ [e]⟩) q) ∧ W.heap.size ≤ w2.heap.size ∧ (∀ n0 w, n0 ≤ B → Below n0 w W → Below n0 w w2) := by
  obtain ⟨i0, hi0, hz0, hz1, hz2⟩ := info_parts infoI
  obtain ⟨v', w2, hrun, hown, hgrow, _, hat⟩ := run_append_own_at (P := Tryz.prog) W B 22 ty 3 i0 (.int .i64 0) 1 8 Tryz.underlying22 hi0 hz0 hz1 hz2 rfl (by decide) (.slice (F k).ao (F k).n (F k).cap) (F k).n (ics (F k).L) (O.own k hk) ad 1 1 [.int .i64 e] rfl
    (fun j u hj => by
      match j, hj with
      | 0, hj => cases hj; exact h0
      | j + 1, hj => simp at hj)
    (fun u hu => (by simp at hu; subst hu; rfl)) (by unfold maxLen; omega) (by omega) hB
  rcases hown.2 with ⟨h0, h00⟩ | ⟨g, cap2, cur, hv, hbg, hgg, hnc, hcm, hcsz, htake⟩
  · omega
  · subst hv
    rw [ownBlock_siv] at hgrow hat
    have hat' : jblk (F k) = some g ∨ g = W.heap.size := by
      rcases hat with h | h
      · left; rw [← h]; rfl
      · right; simp [Value.ownBlock] at h; exact h
    have hoff : ∀ q, q < W.heap.size → JOff F q → JOff (Jset F k ⟨some ⟨g, 0, none⟩, (F k).n + 1, cap2, (F k).L ++ [e]⟩) q := by
      intro q hq ho r hr
      by_cases hrk : r = k
      · subst hrk
        rw [Jset_same]
        intro h
        have hg : g = q := Option.some.inj h
        rcases hat' with h2 | h2
        · exact ho r hr (by rw [h2, hg])
        · omega
      · rw [Jset_other _ _ _ _ hrk]; exact ho r hr
    refine ⟨g, cap2, w2, hrun, ⟨fun r hr => ?_, fun r s hr hs hrs q hq => ?_⟩, fun q hq ho => ⟨hgrow.block q hq (fun e => ho k hk e.symm), hoff q hq ho⟩, hgrow.size, fun n0 w hn hb => hb.grown hgrow (by omega) (fun q hq => by have := (O.lt hk hq).1; omega)⟩
    · by_cases hrk : r = k
      · subst hrk
        rw [Jset_same]
        show w2.ownsRow B _ 1 (.slice (some ⟨g, 0, none⟩) ((F r).n + 1) cap2) ((F r).n + 1) (ics ((F r).L ++ [e]))
        rw [ics_append, ics_single]
        exact hown
      · rw [Jset_other _ _ _ _ hrk]
        refine ⟨(O.own r hr).1, ?_⟩
        rcases (O.own r hr).2 with h0 | ⟨g2, cap3, cur2, hv, hbg2, hgg2, rr⟩
        · exact Or.inl h0
        · have hb2 : jblk (F r) = some g2 := by rw [← ownBlock_siv, hv]; rfl
          exact Or.inr ⟨g2, cap3, cur2, hv, hbg2, (hgrow.block g2 (O.lt hr hb2).2 (fun e => O.apart r k hr hk hrk g2 hb2 e.symm)).trans hgg2, rr⟩
    · have key : ∀ x, x < 32 → x ≠ k → jblk (F x) ≠ some g := by
        intro x hx hxk h
        rcases hat' with h2 | h2
        · exact O.apart x k hx hk hxk g h h2
        · have := (O.lt hx h).2; omega
      by_cases hrk : r = k
      · subst hrk
        rw [Jset_same] at hq
        rw [Jset_other _ _ _ _ (fun h => hrs h.symm)]
        have hg : g = q := Option.some.inj hq
        rw [← hg]
        exact key s hs (fun h => hrs h.symm)
      · rw [Jset_other _ _ _ _ hrk] at hq
        by_cases hsk : s = k
        · subst hsk
          rw [Jset_same]
          intro h
          have hg : g = q := Option.some.inj h
          rw [← hg] at hq
          exact key r hr hrk hq
        · rw [Jset_other _ _ _ _ hsk]
          exact O.apart r s hr hs hrs q hq
/-- .. as an operation -/
theorem OwnJ.append {B : Nat} {W : World} {F : Nat → Si} (O : OwnJ B W F) (hB : B ≤ W.heap.size) (k : Nat) (hk : k < 32) (e : Int) (C : Array Value) (hC : C = #[.int .i64 e]) (hlen : (F k).n < 17592186044414)
    {ops : Array Oper} {rest : List Oper} {o : Oper} {a : Act} {Q : Exit → Act → World → Prop} (hgd : o.guard = none) (s x : Operand) (ho : o.op = .call { callee := .builtin .append, args := #[s, x], argTypes := #[22, 22] })
    (ao : Option Addr) (n cap : Nat) (hf : (F k).ao = ao ∧ (F k).n = n ∧ (F k).cap = cap) (hs : a.eval s = .slice ao n cap) (hx : a.eval x = .slice (some ⟨W.heap.size, 0, none⟩) 1 1)
    (hK : ∀ (g cap2 : Nat) (w2 : World), OwnJ B w2 (Jset F k ⟨some ⟨g, 0, none⟩, n + 1, cap2, (F k).L ++ [e]⟩) → (∀ q, q < W.heap.size → JOff F q → w2.heap[q]? = W.heap[q]? ∧ JOff (Jset F k ⟨some ⟨g, 0, none⟩, n + 1, cap2, (F k).L ++ [e]⟩) q) → W.heap.size < w2.heap.size → (∀ n0 w, n0 ≤ B → Below n0 w W → Below n0 w w2) → wpList Tryz.prog ops Q rest (a.put o.dst (.slice (some ⟨g, 0, none⟩) (n + 1) cap2)) w2) :
    wpList Tryz.prog ops Q (o :: rest) a (W.alloc (.cells C 3)) := by
  subst hC
  obtain ⟨rfl, rfl, rfl⟩ := hf
  have hO : OwnJ B (W.alloc (.cells (#[.int .i64 e]) 3)) F := O.below (below_new W _)
  have c : ∀ t, (W.alloc (.cells (#[.int .i64 e]) 3)).cell? ((⟨W.heap.size, 0, none⟩ : Addr).add t) = (#[.int .i64 e] : Array Value)[t]? := fun t => by rw [Addr.add_lit, Nat.zero_add, World.cell?_alloc_new]
  obtain ⟨g, cap2, w2, hrun, h1, h2, h3, h4⟩ := hO.grow (by simp; omega) k hk e ⟨W.heap.size, 0, none⟩ ((c 0).trans rfl) o.type hlen
  refine wpList_plain hgd fun K hK' => ?_
  unfold Oper.wp execOp
  simp only [ho, resolve, invoke, builtin, Sem.run_bind, Sem.run_pure, Result.andThen_ok, List.map_toArray, List.map_cons, List.map_nil, hs, hx, hrun]
  simp only [World.size_alloc] at h2 h3
  refine hK' _ _ (hK g cap2 w2 h1 (fun q hq ho => ?_) (by omega) (fun n0 w hn hb => h4 n0 w hn (hb.alloc (by omega) _)))
  have := h2 q (by omega) ho
  exact ⟨this.1.trans (Below.heap_alloc _ _ _ hq), this.2⟩
/-- .. in a region that draws its order -/
theorem OwnJ.step {B : Nat} {W : World} {F : Nat → Si} (O : OwnJ B W F) (hB : B ≤ W.heap.size) (k : Nat) (hk : k < 32) (e : Int) (C : Array Value) (hC : C = #[.int .i64 e]) (hlen : (F k).n < 17592186044414)
    {ops : Array Oper} {o : Oper} {a : Act} {K : Act → World → Prop} {Q : Exit → Act → World → Prop} {E : Prop} (hgd : o.guard = none) (s x : Operand) (ho : o.op = .call { callee := .builtin .append, args := #[s, x], argTypes := #[22, 22] })
    (ao : Option Addr) (n cap : Nat) (hf : (F k).ao = ao ∧ (F k).n = n ∧ (F k).cap = cap) (hs : a.eval s = .slice ao n cap) (g0 : Nat) (hg0 : W.heap.size = g0) (hx : a.eval x = .slice (some ⟨g0, 0, none⟩) 1 1)
    (hK : ∀ (g cap2 : Nat) (w2 : World), OwnJ B w2 (Jset F k ⟨some ⟨g, 0, none⟩, n + 1, cap2, (F k).L ++ [e]⟩) → (∀ q, q < W.heap.size → JOff F q → w2.heap[q]? = W.heap[q]? ∧ JOff (Jset F k ⟨some ⟨g, 0, none⟩, n + 1, cap2, (F k).L ++ [e]⟩) q) → W.heap.size < w2.heap.size → (∀ n0 w, n0 ≤ B → Below n0 w W → Below n0 w w2) → K (a.put o.dst (.slice (some ⟨g, 0, none⟩) (n + 1) cap2)) w2) :
    if Region.wanted o (yielded ops a.tmps) = true then Oper.wp Tryz.prog o a (W.alloc (.cells C 3)).drew K Q else E := by
  have hw : Region.wanted o (yielded ops a.tmps) = true := by simp [Region.wanted, hgd]
  rw [if_pos hw]
  subst hC hg0
  obtain ⟨rfl, rfl, rfl⟩ := hf
  have hO : OwnJ B (W.alloc (.cells (#[.int .i64 e]) 3)).drew F := (O.below (below_new W _)).below (below_drew1 _)
  have c : ∀ t, (W.alloc (.cells (#[.int .i64 e]) 3)).drew.cell? ((⟨W.heap.size, 0, none⟩ : Addr).add t) = (#[.int .i64 e] : Array Value)[t]? := fun t => by
    rw [Addr.add_lit, Nat.zero_add]
    show (W.alloc _).cell? _ = _
    rw [World.cell?_alloc_new]
  have hz : (W.alloc (.cells (#[.int .i64 e]) 3)).drew.heap.size = W.heap.size + 1 := by show (W.alloc _).heap.size = _; simp
  obtain ⟨g, cap2, w2, hrun, h1, h2, h3, h4⟩ := hO.grow (by omega) k hk e ⟨W.heap.size, 0, none⟩ ((c 0).trans rfl) o.type hlen
  unfold Oper.wp
  simp [execOp, ho, resolve, invoke, builtin, hs, hx, hrun, Result.andThen]
  rw [hz] at h2 h3
  refine hK g cap2 w2 h1 (fun q hq ho => ?_) (by omega) (fun n0 w hn hb => h4 n0 w hn ((hb.alloc (by omega) _).trans ((below_drew1 _).mono (by simp; omega))))
  have := h2 q (by omega) ho
  exact ⟨this.1.trans (Below.heap_alloc _ _ _ hq), this.2⟩
end Go.Proofs.YtojpjakpcihacaaGreat
