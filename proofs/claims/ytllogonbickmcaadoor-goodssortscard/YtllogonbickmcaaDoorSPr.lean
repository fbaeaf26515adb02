/- goods.Sort: its contract. -/
import Derived.Test.YtllogonbickmcaaDoorSRo
import Derived.Lib.SliceRun
namespace Go.Proofs.YtllogonbickmcaaDoor
open Go.RowKit Go.Sort Go.Lib

theorem add_add (p : Addr) (i j : Nat) : (p.add i).add j = p.add (i + j) := by
  unfold Addr.add; split <;> split <;> simp_all [Nat.add_assoc]
theorem below_new (w : World) (o : Obj) : Below w.heap.size w (w.alloc o) := (Below.refl _ _).alloc (Nat.le_refl _) _
theorem SSrc.cells {w : World} {ad : Addr} {n cap : Nat} {L : List TS} (hS : SSrc w (some ad) n cap L) (j : Nat) (u : Value) (hj : (scs L)[j]? = some u) : w.cell? (ad.add j) = some u := by
  have hjl : j < L.length := by have := (List.getElem?_eq_some_iff.1 hj).1; simpa [scs] using this
  rw [scs_at L j hjl] at hj
  rw [hS.cell ad rfl j (by rw [← hS.len]; exact hjl)]
  exact hj
theorem clone_any (ad : Addr) (n cap : Nat) (L : List TS) (w : World) (hS : SSrc w (some ad) n cap L) :
    Calls Tryd.prog 6 #[.slice (some ad) n cap] w fun e w' => ∃ ao c, e = .returned (.slice ao n c) ∧ OwnS w.heap.size w.heap.size w w' ao c L := by
  obtain ⟨i0, hi, hz0, hz1, hz2⟩ := info_parts info9
  have q22 : ∀ w, (binOp .eql 22 (.slice (some ad) n cap) (.slice none 0 0)).run Tryd.prog w = .ok (.bool false) w := fun w => Lib.run_eql_slice_nil w _ _ (some ad) n cap 0 0 Tryd.underlying22
  have HS := hide hS
  clear hS
  go_enter Tryd.func6, Tryd.ntmps6
  go_wp2_with (at_builtin; refine wpList_append_own _ rfl _ _ 22 rfl w.heap.size 9 i0 (.string ⟨#[]⟩) 1 16 Tryd.underlying22 hi hz0 hz1 hz2 rfl (by decide) _ _ _ rfl (World.ownsRow_made w #[] 0 (Nat.le_refl _) (Nat.zero_le _) (by simp)) ad n cap (scs L) rfl ?qc1 ?qc2 ?qc3 ?qc4 ?qc5 ?qc6 ?_)
  case qc1 => simp [scs, HS.out.len]
  case qc2 =>
    intro j u hj
    have := HS.out.cells j u hj
    rw [(below_new w _).cell (World.block_lt_of_cell? _ _ this)]
    exact this
  case qc3 => exact scs_one L
  case qc4 => rw [Nat.zero_add]; unfold maxLen; have := HS.out.big; omega
  case qc5 => rw [Nat.zero_add]; have := HS.out.big; omega
  case qc6 => simp
  intro v' w1 hown hgrow hnil
  have hown' : w1.ownsRow w.heap.size 9 1 v' n (scs L) := by simpa using hown
  have hb : Below w.heap.size w w1 := ((Below.refl _ w).alloc (Nat.le_refl _) _).grown hgrow (by simp) (by intro k hk; simp [Value.ownBlock] at hk; omega)
  have HF : Hid (∃ ao c, v' = .slice ao n c ∧ OwnS w.heap.size w.heap.size w w1 ao c L) := by
    rcases hown'.2 with ⟨h0, _⟩ | ⟨g, c, cur, rfl, r⟩
    · exact absurd h0 hnil
    · exact ⟨some ⟨g, 0, none⟩, c, rfl, by rw [HS.out.len]; exact hown', hb, hb.size, Nat.le_refl _⟩
  clear hown hown' hgrow hnil hb
  go_wp2_with fail
  go_ret
  obtain ⟨ao, c, rfl, h⟩ := HF.out
  exact ⟨ao, c, rfl, h⟩
theorem clone_nil (w : World) : Calls Tryd.prog 6 #[.slice none 0 0] w fun e w' => e = .returned (.slice none 0 0) ∧ w' = w := by
  have q22 : ∀ w, (binOp .eql 22 (.slice none 0 0) (.slice none 0 0)).run Tryd.prog w = .ok (.bool true) w := fun w => Lib.run_eql_slice_nil w _ _ none 0 0 0 0 Tryd.underlying22
  go_enter Tryd.func6, Tryd.ntmps6
  go_wp2_with fail
  go_ret
  exact ⟨rfl, rfl⟩
theorem cS_swo : SWO (ltOf cS) where
  irrefl x := by unfold ltOf; have := (cS_zero x x).2 rfl; simp; omega
  trans x y z h1 h2 := by
    unfold ltOf at *
    simp at *
    exact lt_le h1 (by omega)
  ntrans x y z h1 h2 := by
    unfold ltOf at *
    simp at *
    have := cS_trans z y x (by rw [cS_anti]; omega) (by rw [cS_anti]; omega)
    rw [cS_anti x z] at this
    omega
theorem cmpLays (blk size : Nat) (w : World) : CmpLays1 Tryd.prog 8 #[] encS cS blk 0 size w := fun m os dk _ x y => by
  refine (compare_dr x.1 y.1 _ x.2 y.2).mono ?_
  rintro e w' ⟨h, q, rfl⟩
  exact ⟨h, q, #[], by rw [grow_empty]⟩
theorem sort0 (ao : Option Addr) (cap : Nat) (w : World) : Calls Tryd.prog 7 #[.slice ao 0 cap, .func (.func 8) #[] #[]] w fun e w' => e = .returned (.tuple #[]) ∧ w' = w := AnyF.slices_SortFunc_none Tryd.sortN ao cap _ w
theorem compact0 (ao : Option Addr) (cap : Nat) (w : World) : Calls Tryd.prog 9 #[.slice ao 0 cap] w fun e w' => e = .returned (.slice ao 0 cap) ∧ w' = w := by
  go_enter Tryd.func9, Tryd.ntmps9
  go_wp2_with fail
  go_ret
  exact ⟨rfl, rfl⟩
theorem eqS (x y : TS) : (x.1.toList == y.1.toList) = decide (x = y) := by
  rw [ByteArray.toList_eq, ByteArray.toList_eq]
  by_cases h : x = y
  · subst h; simp
  · have : ¬ x.1.data.toList = y.1.data.toList := fun e => h ((cS_zero x y).1 (by unfold cS; rw [cmpF_zero]; exact e))
    rw [decide_eq_false h]
    simpa using this
theorem eqlS : EqlAt Tryd.prog 9 encS (fun x y => decide (x = y)) := ⟨fun x y w => by have := (EqlAt.string Tryd.prog 9).1 x.1 y.1 w; simp only [eqS] at this; exact this, fun op a b x y w => (EqlAt.string Tryd.prog 9).2 op a b x.1 y.1 w⟩
theorem neqS : NeqAt Tryd.prog 9 encS (fun x y => decide (x = y)) := ⟨fun x y w => by have := (NeqAt.string Tryd.prog 9).1 x.1 y.1 w; simp only [eqS] at this; exact this, fun op a b x y w => (EqlAt.string Tryd.prog 9).2 op a b x.1 y.1 w⟩
/- the compacted list -/
theorem cmp_sub (d : Array TS) : (compactUpTo d d.size).Sublist d.toList := by
  have h : (compactUpTo d d.size).Sublist ((List.range d.size).map (d[·]!)) := List.filter_sublist.map _
  rwa [range_map_get] at h
theorem cmp_mem (d : Array TS) (m : Nat) : m ≤ d.size → ∀ j, j < m → d[j]! ∈ compactUpTo d m := by
  induction m with
  | zero => intro _ j hj; omega
  | succ m ih =>
    intro hm j hj
    rw [compactUpTo_succ]
    by_cases e : j = m
    · subst e
      by_cases hk : keeps d j = true
      · rw [if_pos hk]; simp
      · rw [if_neg hk, List.append_nil]
        have hk' : ¬ (j = 0 ∨ d[j]! ≠ d[j - 1]!) := by simpa [keeps] using hk
        have h0 : ¬ j = 0 := fun h => hk' (Or.inl h)
        have h1 : d[j]! = d[j - 1]! := Classical.byContradiction fun h => hk' (Or.inr h)
        rw [h1]
        exact ih (by omega) (j - 1) (by omega)
    · exact List.mem_append_left _ (ih (by omega) j (by omega))
theorem cmp_iff (d : Array TS) (x : TS) : x ∈ compactUpTo d d.size ↔ x ∈ d.toList := by
  constructor
  · exact fun h => (cmp_sub d).mem h
  · intro h
    obtain ⟨i, hi, rfl⟩ := List.mem_iff_getElem.1 h
    have hi' : i < d.size := by simpa using hi
    have := cmp_mem d d.size (Nat.le_refl _) i hi'
    rw [getElem!_pos d i hi'] at this
    simpa using this
theorem cmp_asc (d : Array TS) (hs : ∀ i j, i < j → j < d.size → cS d[i]! d[j]! ≤ 0) (m : Nat) : m ≤ d.size → AscS (compactUpTo d m) ∧ ∀ x ∈ compactUpTo d m, ∃ i, i < m ∧ d[i]! = x := by
  induction m with
  | zero => intro _; exact ⟨List.Pairwise.nil, fun x hx => by simp [compactUpTo] at hx⟩
  | succ m ih =>
    intro hm
    obtain ⟨h1, h2⟩ := ih (by omega)
    rw [compactUpTo_succ]
    by_cases hk : keeps d m = true
    · rw [if_pos hk]
      refine ⟨List.pairwise_append.2 ⟨h1, List.pairwise_singleton _ _, fun x hx y hy => ?_⟩, fun x hx => ?_⟩
      · obtain rfl := List.mem_singleton.1 hy
        obtain ⟨i, hi, rfl⟩ := h2 x hx
        have hk' : m = 0 ∨ d[m]! ≠ d[m - 1]! := by simpa [keeps] using hk
        have hne : d[m]! ≠ d[m - 1]! := by
          rcases hk' with h | h
          · omega
          · exact h
        have hlt : cS d[m - 1]! d[m]! < 0 := by
          have := hs (m - 1) m (by omega) (by omega)
          rcases Int.lt_or_eq_of_le this with h | h
          · exact h
          · exact absurd ((cS_zero _ _).1 h).symm hne
        by_cases e : i = m - 1
        · rw [e]; exact hlt
        · exact le_lt (hs i (m - 1) (by omega) (by omega)) hlt
      · rcases List.mem_append.1 hx with h | h
        · obtain ⟨i, hi, e⟩ := h2 x h; exact ⟨i, by omega, e⟩
        · obtain rfl := List.mem_singleton.1 h; exact ⟨m, by omega, rfl⟩
    · rw [if_neg hk, List.append_nil]
      exact ⟨h1, fun x hx => by obtain ⟨i, hi, e⟩ := h2 x hx; exact ⟨i, by omega, e⟩⟩
/-- a list is handed back: the members in order -/
def GivesL (w w' : World) (e : Ending) (L : List TS) : Prop := ∃ ao n c R, e = .returned (.slice ao n c) ∧ SSrc w' ao n c R ∧ Below w.heap.size w w' ∧ (∀ ad, ao = some ad → w.heap.size ≤ ad.block) ∧ SortS L R ∧ R.length ≤ L.length
theorem sortS_nil : SortS [] [] := ⟨List.Pairwise.nil, fun _ => Iff.rfl⟩
theorem below_sort (w : World) (g m : Nat) (d : Array TS) (os : Array Obj) (hg : g < w.heap.size) : Below g w (sortWorld encS w g 0 m d os) := by
  have h1 : Below g w (putRow encS (Sort.ahead w m) g 0 d) := Lib.below_putRow (Below.refl _ _) (Nat.le_refl _)
  have hsz : g ≤ (putRow encS (Sort.ahead w m) g 0 d).heap.size := by rw [size_putRow]; exact Nat.le_of_lt hg
  refine h1.trans ?_
  show Below g _ (grow (putRow encS (Sort.ahead w m) g 0 d) os)
  generalize putRow encS (Sort.ahead w m) g 0 d = V at hsz
  exact ⟨rfl, rfl, rfl, by show _ ≤ (V.heap ++ os).size; rw [Array.size_append]; omega, fun k hk => by show (V.heap ++ os)[k]? = _; rw [Array.getElem?_append_left (by omega)]⟩
theorem lt_sort (w : World) (g m : Nat) (d : Array TS) (os : Array Obj) (hg : g < w.heap.size) : g < (sortWorld encS w g 0 m d os).heap.size := by
  show g < ((putRow encS (Sort.ahead w m) g 0 d).heap ++ os).size
  rw [Array.size_append, size_putRow]
  show g < w.heap.size + os.size
  omega
/-- the row g holds the texts d -/
structure MS (w : World) (g : Nat) (d : Array TS) : Prop where
  holds : Holds encS w g 0 d
  lt : g < w.heap.size
theorem sortFunc_any (g cap n : Nat) (d : Array TS) (w : World) (M : MS w g d) (hn : d.size = n) (hb : n ≤ 8796093022207) :
    Calls Tryd.prog 7 #[.slice (some ⟨g, 0, none⟩) n cap, .func (.func 8) #[] #[]] w fun e w' => e = .returned (.tuple #[]) ∧ ∃ d', d'.toList.Perm d.toList ∧ (∀ i j, i < j → j < d'.size → cS d'[i]! d'[j]! ≤ 0) ∧ MS w' g d' ∧ Below g w w' := by
  subst hn
  have eg : ∀ args w, (callFunc 8 args).run Tryd.prog w = .ok (.enter 8 args) w := enters_of Tryd.func8 (by kernel_rfl) rfl
  have h := Any.slices_SortFunc Tryd.sortS encS (fun _ => rfl) cS cS_swo 8 #[] g 0 cap d w eg (cmpLays g d.size w) M.holds M.lt (by omega)
  refine Calls.mono h ?_
  rintro e w' ⟨rfl, d', m, os, ⟨hs, _, hp⟩, hsr, rfl⟩
  refine ⟨rfl, d', ?_, fun i j hij hj => ?_, ⟨?_, lt_sort w g m d' os M.lt⟩, below_sort w g m d' os M.lt⟩
  · have e1 : d'.extract 0 d.size = d' := by rw [← hs]; simp
    have e2 : d.extract 0 d.size = d := by simp
    rwa [e1, e2] at hp
  · have := hsr i j (Nat.zero_le _) hij (by omega)
    unfold ltOf at this
    simp at this
    rw [cS_anti]; omega
  · have h1 : Holds encS (putRow encS (Sort.ahead w m) g 0 d') g 0 d' := holds_putRow encS _ g 0 d d' (holds_ahead encS w m g 0 d M.holds) hs
    exact holds_grow encS _ os g 0 d' (by rw [size_putRow]; exact M.lt) h1
theorem compact_any (g cap n : Nat) (d : Array TS) (w : World) (M : MS w g d) (hn : d.size = n) (hb : n ≤ 8796093022207) (hc : n ≤ cap) (hcm : cap ≤ maxLen) :
    Calls Tryd.prog 9 #[.slice (some ⟨g, 0, none⟩) n cap] w fun e w' => ∃ k, e = .returned (.slice (some ⟨g, 0, none⟩) k cap) ∧ SSrc w' (some ⟨g, 0, none⟩) k cap (compactUpTo d d.size) ∧ Below g w w' := by
  subst hn
  have h := AnyE.slices_Compact Tryd.compS encS (fun _ => rfl) eqlS neqS dS (fun w => Tryd.zeroValue9 w) g 0 cap d w M.holds (by omega) hc
  refine Calls.mono h ?_
  rintro e w' ⟨rfl, q, rfl⟩
  have hl : (compactUpTo d d.size).length ≤ d.size := by have := (cmp_sub d).length_le; simpa using this
  refine ⟨_, rfl, ⟨rfl, fun e => (by cases e), fun ad ha t ht => ?_, by omega, hcm, by omega⟩, Lib.below_putRow (Below.refl _ _) (Nat.le_refl _)⟩
  obtain rfl := Option.some.inj ha
  have hh : Holds encS (putRow encS (Sort.ahead w q) g 0 (compactUpTo d d.size ++ List.replicate (d.size - (compactUpTo d d.size).length) dS).toArray) g 0 _ := holds_putRow encS _ g 0 d _ (holds_ahead encS w q g 0 d M.holds) (by simp; omega)
  have := (hh t (by simp; omega)).1
  rw [Nat.zero_add] at this
  rw [Addr.add_lit, Nat.zero_add, this]
  have e2 : (compactUpTo d d.size ++ List.replicate (d.size - (compactUpTo d d.size).length) dS).toArray[t]! = (compactUpTo d d.size).getD t dS := by
    rw [getElem!_pos _ t (by simp; omega)]
    simp [List.getD, List.getElem_append_left, ht]
  rw [e2]
  rfl
theorem OwnS.ms {B0 B : Nat} {w w' : World} {ad : Addr} {cap : Nat} {acc : List TS} (O : OwnS B0 B w w' (some ad) cap acc) : ∃ g, ad = ⟨g, 0, none⟩ ∧ MS w' g acc.toArray ∧ acc.length ≤ cap ∧ cap ≤ maxLen ∧ B ≤ g := by
  obtain ⟨g, c, hv, hbg, hlt, hnc, hcm, _, hh⟩ := Lib.holds_of_ownsRow (enc := encS) (zs := acc) O.own (by intro h; cases h)
  simp only [Value.slice.injEq, Option.some.injEq, true_and] at hv
  obtain ⟨rfl, rfl⟩ := hv
  exact ⟨g, rfl, ⟨hh, hlt⟩, hnc, hcm, hbg⟩
set_option maxRecDepth 100000 in
set_option maxHeartbeats 4000000 in
theorem sortP_any (ao : Option Addr) (n cap : Nat) (L : List TS) (w : World) (hS : SSrc w ao n cap L) :
    Calls Tryd.prog 4 #[.slice ao n cap] w fun x w' => GivesL w w' x L := by
  have HS := hide hS
  have hn := hS.big
  have HL : Hid (L.length = n) := hS.len
  clear hS
  cases ao with
  | none =>
    obtain ⟨rfl, rfl⟩ := HS.out.nil rfl
    obtain rfl : L = [] := List.eq_nil_of_length_eq_zero HL.out
    go_enter Tryd.func4, Tryd.ntmps4
    go_wp2_with fail
    refine (clone_nil _).mono ?_
    rintro e w1 ⟨rfl, rfl⟩
    go_wp2_with fail
    refine (sort0 none 0 _).mono ?_
    rintro e w2 ⟨rfl, rfl⟩
    go_wp2_with fail
    refine (compact0 none 0 _).mono ?_
    rintro e w3 ⟨rfl, rfl⟩
    have HF : Hid (GivesL w3 w3 (.returned (.slice none 0 0)) []) := ⟨none, 0, 0, [], rfl, SSrc.empty _, Below.refl _ _, fun ad h => (by cases h), sortS_nil, Nat.le_refl _⟩
    go_wp2_with fail
    go_ret
    exact HF.out
  | some ad =>
    go_enter Tryd.func4, Tryd.ntmps4
    go_wp2_with fail
    refine (clone_any ad n cap L _ HS.out).mono ?_
    rintro e w1 ⟨a1, c1, rfl, O1⟩
    have HO1 := hide O1
    have HB1 := hide O1.below
    clear O1
    cases a1 with
    | none =>
      obtain ⟨S1, _⟩ := HO1.out.src (by rw [HL.out]; exact hn)
      obtain ⟨e1, rfl⟩ := S1.nil rfl
      obtain rfl : L = [] := List.eq_nil_of_length_eq_zero e1
      obtain rfl : 0 = n := HL.out
      clear S1 e1
      go_wp2_with fail
      refine (sort0 none 0 _).mono ?_
      rintro e w2 ⟨rfl, rfl⟩
      go_wp2_with fail
      refine (compact0 none 0 _).mono ?_
      rintro e w3 ⟨rfl, rfl⟩
      have HF : Hid (GivesL w w3 (.returned (.slice none 0 0)) []) := ⟨none, 0, 0, [], rfl, SSrc.empty _, HB1.out, fun ad h => (by cases h), sortS_nil, Nat.le_refl _⟩
      go_wp2_with fail
      go_ret
      exact HF.out
    | some a1 =>
      obtain ⟨g, rfl, M1, hc1, hc2, hbg⟩ := HO1.out.ms
      have HM1 := hide M1
      have HC1 : Hid (n ≤ c1) := by show _ ≤ _; rw [← HL.out]; exact hc1
      have HC2 := hide hc2
      have HBG := hide hbg
      clear M1 hc1 hc2 hbg
      go_wp2_with fail
      refine (sortFunc_any g c1 n L.toArray _ HM1.out (by rw [List.size_toArray]; exact HL.out) hn).mono ?_
      rintro e w2 ⟨rfl, d2, hp, hs, M2, b2⟩
      have HP := hide hp
      have HSR := hide hs
      have HM2 := hide M2
      have HB2 : Hid (Below w.heap.size w w2) := HB1.out.trans (b2.mono HBG.out)
      have HN2 : Hid (d2.size = n) := by have := hp.length_eq; simp at this; exact this.trans HL.out
      clear hp hs M2 b2
      go_wp2_with fail
      refine (compact_any g c1 n d2 _ HM2.out HN2.out hn HC1.out HC2.out).mono ?_
      rintro e w3 ⟨k, rfl, S3, b3⟩
      have HF : Hid (GivesL w w3 (.returned (.slice (some ⟨g, 0, none⟩) k c1)) L) :=
        ⟨_, k, c1, compactUpTo d2 d2.size, rfl, S3, HB2.out.trans (b3.mono HBG.out), fun ad h => by obtain rfl := Option.some.inj h; exact HBG.out,
          ⟨(cmp_asc d2 HSR.out d2.size (Nat.le_refl _)).1, fun x => by rw [cmp_iff, HP.out.mem_iff]⟩, by have h1 := (cmp_sub d2).length_le; have h2 : d2.toList.length = d2.size := Array.length_toList; have h3 := HN2.out; have h4 := HL.out; omega⟩
      clear S3 b3
      go_wp2_with fail
      go_ret
      exact HF.out
end Go.Proofs.YtllogonbickmcaaDoor
