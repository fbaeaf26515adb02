/- script.step. -/
import Derived.Test.YtpnnlfhknnnfhaaGreatDoorKKd
import Derived.OrdersHeld
namespace Go.Proofs.YtpnnlfhknnnfhaaGreatDoor
open Go.RowKit T Y V
variable {w w' w2 : World} {g : Nat}
attribute [local go_sem ↓] ldSh_eq stSh_eq ldO_eq stO_eq

theorem res2O {fn : Func} {p q : Tmp} {m : Sp} {v : Value} (h : fn.results = #[.cell p 24, .tmp q]) {tmps : Array Value} (hp : tmps.getD p undef = .pointer (some ⟨g, 0, none⟩)) (hq : tmps.getD q undef = v) (A : OBox w g m) :
    (results fn tmps).run Tryz.prog w = .ok (.tuple #[.agg (OC m), v]) w := by
  have hl := run_lvO A
  simp only [results, h]
  rw [Array.getD_eq_getD_getElem?] at hp hq
  simp [hp, hq, asAddr, hl]
theorem run_fdSh (a b : ByteArray) (w : World) : (Instr.field 36 (.agg #[.string a, .string b]) 0).run Tryz.prog w = .ok (.string a) w := by kernel_rfl
theorem SR_at {bo : Option Addr} {n c : Nat} {Z : List ByteArray} (h : SR w bo n c Z) (h0 : 0 < n) : ∃ b, bo = some ⟨b, 0, none⟩ ∧ (∀ j x, Z[j]? = some x → w.cell? ⟨b, j, none⟩ = some (.string x)) ∧ n ≤ c := by
  rcases h.2 with ⟨hx, h00⟩ | ⟨q, cap2, cur, hv, hq, hh, hnc, r⟩
  · omega
  · have hv' := hv
    simp only [Value.slice.injEq, true_and] at hv'
    obtain ⟨rfl, rfl⟩ := hv'
    exact ⟨q, rfl, fun j x hj => by have := SR_cell h j x hj; rwa [Nat.zero_add] at this, hnc⟩
theorem fds_one : ∀ k, k < 17 → 1 ≤ (fdsK k).length := by decide
/-- step's answer -/
def StA (ws : List (List UInt8)) (e : Ending) : Prop := e = .returned (.tuple #[.agg (OC ((stepP ws).getD sp0)), .bool (stepP ws).isSome])
theorem StA.no {ws : List (List UInt8)} (h : stepP ws = none) : StA ws (.returned (.tuple #[.agg (OC sp0), .bool false])) := by unfold StA; rw [h]; rfl
theorem StA.yes {ws : List (List UInt8)} {o : Sp} (h : stepP ws = some o) : StA ws (.returned (.tuple #[.agg (OC o), .bool true])) := by unfold StA; rw [h]; rfl
theorem putAll_step {o p : Sp} {F : List UInt8} {r : List (List UInt8)} {i : Nat} (hF : i < F.length) (hr : i < r.length) (h : putAll o F r = putAll p (F.drop i) (r.drop i)) : putAll o F r = (putF p (F.getD i 0) (r.getD i [])).bind fun q => putAll q (F.drop (i + 1)) (r.drop (i + 1)) := by
  rw [h, List.drop_eq_getElem_cons hF, List.drop_eq_getElem_cons hr, putAll]
  simp [List.getD, hF, hr]
theorem putAll_end {o p : Sp} {F : List UInt8} {r : List (List UInt8)} {i : Nat} (hr : r.length ≤ i) (h : putAll o F r = putAll p (F.drop i) (r.drop i)) : putAll o F r = some p := by
  rw [h, List.drop_eq_nil_of_le hr]
  cases F.drop i <;> rfl
theorem kindIx_lt {l : List UInt8} {k : Nat} (h : kindIx l = some k) : k < 17 := by
  unfold kindIx at h
  have := (List.findIdx?_eq_some_iff_findIdx_eq.1 h).1
  simpa [shp] using this
theorem zero_made (w : World) : ∃ w1, w.alloc (.cells #[.int .i64 0, .int .i64 0, .int .i64 0, .int .i64 0, .string ⟨#[]⟩, .int .i64 0, .int .i64 0] 24) = w1 ∧ OBox w1 w.heap.size sp0 ∧ Below w.heap.size w w1 ∧ w1.heap.size = w.heap.size + 1 := ⟨_, rfl, OBox_new w sp0, below_new w _, by simp⟩
/-- the zero step put into the result -/
theorem zero_put {m : Sp} (h : OBox w g m) : ∃ w1, (stO (.pointer (some ⟨g, 0, none⟩)) (.agg #[.int .i64 0, .int .i64 0, .int .i64 0, .int .i64 0, .string ⟨#[]⟩, .int .i64 0, .int .i64 0])).run Tryz.prog w = .ok () w1 ∧ OBox w1 g sp0 ∧ KG w w1 g := by
  refine ⟨_, run_stO (m' := sp0) h, h.setRow, ⟨⟨rfl, rfl, rfl, by simp [World.setRow], fun k hk hne => setRow_other _ _ _ _ (by intro e; apply hne; rw [e])⟩⟩⟩
theorem op_put {m o : Sp} (h : OBox w g m) : ∃ w1, (stO (.pointer (some ⟨g, 0, none⟩)) (.agg (OC o))).run Tryz.prog w = .ok () w1 ∧ OBox w1 g o ∧ KG w w1 g := by
  refine ⟨_, run_stO (m' := o) h, h.setRow, ⟨⟨rfl, rfl, rfl, by simp [World.setRow], fun k hk hne => setRow_other _ _ _ _ (by intro e; apply hne; rw [e])⟩⟩⟩
/-- while a step's fields are put in -/
structure Sq (w v : World) (g2 g6 n3 rb : Nat) (ws : List (List UInt8)) (p : Sp) : Prop where
  x : OBox v g6 p
  z : OBox v g2 sp0
  c : ∀ j l, ws[j]? = some l → v.cell? ⟨rb, j, none⟩ = some (.string (bs l))
  b : Below w.heap.size w v
  hb : rb < w.heap.size
  h2 : w.heap.size ≤ g2
  h26 : g2 < g6
theorem Sq.on {g2 g6 n3 b : Nat} {ws : List (List UInt8)} {p q : Sp} {v : World} (h : Sq w v g2 g6 n3 b ws p) (k : KG v w2 g6) (hx : OBox w2 g6 q) : Sq w w2 g2 g6 n3 b ws q := by
  have hv := h.b.size
  have := h.h2
  have := h.h26
  have := h.hb
  have hk : Below w.heap.size v w2 := k.below (by omega) hv
  exact ⟨hx, (k.gr.block g2 h.z.lt (by intro e; have := Option.some.inj e; omega)).trans h.z, fun j l hj => (hk.cell (by show b < _; omega)).trans (h.c j l hj), h.b.trans hk, h.hb, h.h2, h.h26⟩
theorem Sq.below {g2 g6 n3 b : Nat} {ws : List (List UInt8)} {p : Sp} {v : World} (h : Sq w v g2 g6 n3 b ws p) (k : Below v.heap.size v w2) : Sq w w2 g2 g6 n3 b ws p := h.on (KG.of k g6) (h.x.below k)
set_option maxRecDepth 100000 in
set_option maxHeartbeats 6400000 in
theorem step_any (bo : Option Addr) (n c : Nat) (ws : List (List UInt8)) (w : World) (hR : SR w bo n c (ws.map bs)) (hn : n ≤ 1000000000000) (hw : ∀ l ∈ ws, l.length ≤ 1000000000000) (ht : Tab w) (hs : Sht w) (he : Evs w) : Calls Tryz.prog 9 #[.slice bo n c] w fun e w' => StA ws e ∧ Below w.heap.size w w' := by
  have hlen := hR.len
  rw [List.length_map] at hlen
  obtain ⟨w1, hw1, hz1, hb1, hs1⟩ := zero_made w
  cases ws with
  | nil =>
    obtain rfl : n = 0 := by simpa using hlen.symm
    obtain ⟨w2, hst, hx2, hk2⟩ := zero_put hz1
    have HB : Hid (Below w.heap.size w w2) := hb1.trans (hk2.below (Nat.le_refl _) hb1.size)
    have HX := hide hx2
    clear hR ht hs he hz1 hb1 hs1 hk2 hx2 hw hlen
    go_enter Tryz.func9, Tryz.ntmps9
    go_wp2_with fail
    exact bodyPost_ret (res2O Tryz.results9 rfl rfl HX.out) rfl ⟨StA.no rfl, HB.out⟩
  | cons w0 r =>
    have hnl : n = r.length + 1 := by simpa using hlen.symm
    obtain ⟨b, rfl, hc, hnc⟩ := SR_at hR (by omega)
    have hbl : b < w.heap.size := hR.lt b rfl
    have hcell : ∀ j l, (w0 :: r)[j]? = some l → w.cell? ⟨b, j, none⟩ = some (.string (bs l)) := fun j l hj => hc j (bs l) (by rw [List.getElem?_map, hj]; rfl)
    have hc1 : ∀ j l, (w0 :: r)[j]? = some l → w1.cell? ⟨b, j, none⟩ = some (.string (bs l)) := fun j l hj => (hb1.cell hbl).trans (hcell j l hj)
    have d0 := hc1 0 w0 rfl
    have hnz : ((n : Int) == 0) = false := by rw [beq_eq_false_iff_ne]; omega
    have h0I : (0 : Int) < n := by omega
    have HK := hide (kindOf_any w0 w1 (hs.on hb1))
    have HC1 := hide hc1
    have HZ1 := hide hz1
    have HB1 := hide hb1
    have HT := hide ht
    have HS := hide hs
    have HE := hide he
    have HW := hide hw
    have HBl := hide hbl
    have HS1 := hide hs1
    cases hk : kindIx w0 with
    | none =>
      have HN : Hid (stepP (w0 :: r) = none) := by show _ = _; unfold stepP; simp only; rw [hk]; rfl
      rw [hk] at HK
      clear hR ht hs he hz1 hb1 hs1 hw hlen hc hcell hc1 hk hnl
      go_enter Tryz.func9, Tryz.ntmps9
      go_wp2_with (go_at_call 19; refine HK.out.mono ?_; rintro e w2 ⟨rfl, b2⟩; obtain ⟨w3, hst, hx3, hk3⟩ := zero_put (HZ1.out.below b2); have HX3 := hide hx3; have bw2 := HB1.out.trans (b2.mono HB1.out.size); have HB3 : Hid (Below w.heap.size w w3) := bw2.trans (hk3.below (Nat.le_refl _) bw2.size); clear hx3 hk3 bw2)
      exact bodyPost_ret (res2O Tryz.results9 rfl rfl HX3.out) rfl ⟨StA.no HN.out, HB3.out⟩
    | some k =>
      have hk17 := kindIx_lt hk
      rw [hk] at HK
      have hF : fdsK k = (shp.getD k ([], [])).2 := rfl
      obtain ⟨F, hFe⟩ : ∃ F, fdsK k = F := ⟨_, rfl⟩
      have hF4 : F.length ≤ 4 := by rw [← hFe]; exact (fds_small k hk17).1
      have HF1 : Hid (1 ≤ F.length) := by show _ ≤ _; rw [← hFe]; exact fds_one k hk17
      have HFt : Hid (∀ v, Sht v → v.cell? ⟨0, k * 2 + 1, none⟩ = some (.string (bs F))) := fun v hv => by
        have := (hv.at k hk17).c1
        rw [Addr.add_lit] at this
        rw [← hFe]
        exact this
      have hkI : (k : Int) < 17 := by omega
      have hFs : (bs F).size = F.length := bs_size F
      have HSP : Hid (stepP (w0 :: r) = if r.length = F.length then (putAll { sp0 with kind := (k : Int) } F r).bind fun o => if wrdL o.kind = w0 then some o else none else none) := by show _ = _; unfold stepP; simp only; rw [hk, Option.bind_some, hFe]
      clear hF hFe hk
      by_cases hlf : r.length = F.length
      · rw [if_pos hlf] at HSP
        have hF1 : 1 ≤ F.length := HF1.out
        obtain ⟨m, hm⟩ : ∃ m, r.length = m := ⟨_, rfl⟩
        have hm4 : m ≤ 4 := by omega
        have hFm : (bs F).size = m := by omega
        have hnF : ((n : Int) == 1 + (m : Int)) = true := by rw [beq_iff_eq]; omega
        have hnG : ((n : Int) != 1 + (m : Int)) = false := by rw [bne, hnF]; rfl
        have hn1 : n - 1 = m := by omega
        have hnI : (n : Int) - 1 = (m : Int) := by omega
        have h1n : 1 ≤ n := by omega
        have h1nI : (1 : Int) ≤ n := by omega
        have hncI : (n : Int) ≤ c := by omega
        have hcc : ¬ c = 1 := by omega
        have HM := hide hm
        have HLF := hide hlf
        have HFg : Hid (∀ i (h : i < (bs F).size), (bs F)[i] = F.getD i 0) := bs_get F
        clear hR ht hs he hz1 hb1 hs1 hw hlen hc hcell hc1 hFs hlf hm hnl hF1 HF1
        go_enter Tryz.func9, Tryz.ntmps9
        go_wp2_with (go_at_call 19; refine HK.out.mono ?_; rintro e w2 ⟨rfl, b2⟩; have bw2 := HB1.out.trans (b2.mono HB1.out.size); have ft := HFt.out w2 (HS.out.on bw2); obtain ⟨w3, hst, hx3, hb3, -⟩ := madeO w2 { sp0 with kind := (k : Int) } w2.heap.size rfl; have hst' : (stO (.pointer (some ⟨w2.heap.size, 0, none⟩)) (.agg #[.int .i64 (k : Int), .int .i64 0, .int .i64 0, .int .i64 0, .string ⟨#[]⟩, .int .i64 0, .int .i64 0])).run Tryz.prog (w2.alloc (.cells #[.int .i64 0, .int .i64 0, .int .i64 0, .int .i64 0, .string ⟨#[]⟩, .int .i64 0, .int .i64 0] 24)) = .ok () w3 := hst; have HQ : Hid (Sq w w3 w.heap.size w2.heap.size 0 b (w0 :: r) { sp0 with kind := (k : Int) }) := ⟨hx3, (HZ1.out.below b2).below hb3, (fun j l hj => (hb3.cell (by have := bw2.size; have := HBl.out; show b < _; omega)).trans ((b2.cell (by have := HBl.out; have := HS1.out; show b < _; omega)).trans (HC1.out j l hj))), bw2.trans (hb3.mono bw2.size), HBl.out, Nat.le_refl _, by have := b2.size; have := HS1.out; omega⟩; clear hst hx3 hb3 bw2)
        clear ft hst' HK d0 b2
        go_loopw [39] (fun v wr => ∃ (i : Nat) (p : Sp), i ≤ m ∧ v = .int .i64 (i : Int) ∧ Hid (Sq w wr w.heap.size w2.heap.size 0 b (w0 :: r) p) ∧ Hid (putAll { sp0 with kind := (k : Int) } F r = putAll p (F.drop i) (r.drop i))) (fun v _ => m - (intOf v).toNat)
        case atStart => exact ⟨0, _, by omega, rfl, HQ, (by show _ = _; rfl)⟩
        case round =>
          clear HQ
          obtain ⟨i, p, hi, rfl, HP, HA⟩ := hrel
          by_cases hlt : i < m
          · have hiI : (i : Int) < m := by omega
            obtain ⟨l, hl⟩ : ∃ l, r.getD i [] = l := ⟨_, rfl⟩
            have hir : i < r.length := by have := HM.out; omega
            have hrl : r[i]? = some l := by rw [← hl]; simp [List.getD, hir]
            have hll : l.length ≤ 1000000000000 := HW.out l (List.mem_cons_of_mem _ (List.mem_of_getElem? hrl))
            have d1 : wr.cell? ⟨b, 1 + i, none⟩ = some (.string (bs l)) := HP.out.c (1 + i) l (by rw [Nat.add_comm]; exact hrl)
            have hiF : i < (bs F).size := by omega
            obtain ⟨f, hf⟩ : ∃ f, (bs F)[i] = f := ⟨_, rfl⟩
            have hA := putAll_step (i := i) (by have := HLF.out; have := HM.out; omega) hir HA.out
            rw [hl, ← HFg.out i hiF, hf] at hA
            have HAs := hide hA
            have ft := HFt.out wr (HS.out.on HP.out.b)
            have HPu := hide (put_any p f l hll w2.heap.size wr HP.out.x (HT.out.on HP.out.b) (HE.out.on HP.out.b))
            have hiF' : i < m := hlt
            clear hA hl hrl hll hir HA
            cases hpf : putF p f l with
            | none =>
              have HN : Hid (stepP (w0 :: r) = none) := by show _ = _; rw [HSP.out, HAs.out, hpf]; rfl
              rw [hpf] at HPu
              clear HAs hpf
              go_wp2_with (go_at_call 20; refine HPu.out.mono ?_; rintro e w5 ⟨rfl, ⟨q, hx5, -⟩, k5⟩; have HP5 := hide (HP.out.on k5 hx5); obtain ⟨w6, hst, hx6, k6⟩ := zero_put HP5.out.z; have HX6 := hide hx6; have HB6 : Hid (Below w.heap.size w w6) := HP5.out.b.trans (k6.below (Nat.le_refl _) HP5.out.b.size); clear hx5 k5 hx6 k6)
              exact bodyPost_ret (res2O Tryz.results9 rfl rfl HX6.out) rfl ⟨StA.no HN.out, HB6.out⟩
            | some q =>
              have HA2 : Hid (putAll { sp0 with kind := (k : Int) } F r = putAll q (F.drop (i + 1)) (r.drop (i + 1))) := by show _ = _; rw [HAs.out, hpf]; rfl
              rw [hpf] at HPu
              clear HAs hpf
              go_wp2_with (go_at_call 20; refine HPu.out.mono ?_; rintro e w5 ⟨rfl, ⟨q', hx5, hq5⟩, k5⟩; obtain rfl := hq5 q rfl; have HP5 := hide (HP.out.on k5 hx5); clear hx5 k5 hq5)
              go_roundw
              case rel => exact ⟨i + 1, q', by omega, by go_num, HP5, HA2⟩
              case measure => simp [intOf]; omega
          · obtain rfl : i = m := by omega
            have HF : Hid (putAll { sp0 with kind := (k : Int) } F r = some p) := putAll_end (by have := HM.out; omega) HA.out
            have HPd := hide (HP.out.below (below_drew1 wr))
            have h0n : 0 < n := by omega
            clear HA
            by_cases hw : wrdL p.kind = w0
            · have hq := bs_eqB _ _ hw
              have HY : Hid (stepP (w0 :: r) = some p) := by show _ = _; rw [HSP.out, HF.out, Option.bind_some, if_pos hw]
              clear hw
              go_wp2_with fail
              refine wp_region_held_drew (S := fun v => v.cell? ⟨w2.heap.size, 0, none⟩ = some (.int .i64 p.kind) ∧ v.cell? ⟨b, 0, none⟩ = some (.string (bs w0))) (by kernel_rfl) (⟨HP.out.x.c0, HP.out.c 0 w0 rfl⟩) (fun hHeld => ?_)
              refine wpAnyH_take (i := 0) (oi := { dst := some 55, op := Op.fieldAddr 24 (Operand.tmp 6) 0, type := 0, pos := "parse.go:62", after := #[], guard := none }) (v := ?_) rfl (by kernel_rfl) (by kernel_rfl) (by kernel_rfl) (fun _ _ _ h => h) (Or.inl ⟨by rfl, ?_⟩) (by assumption) ?_
              rotate_left
              · (intro w hSw; (try dsimp only at hSw); go_simp); first | done | with_reducible rfl
              simp only [Act.put, List.setIfInBounds_toArray, List.set_cons_zero, List.set_cons_succ]
              refine wpAnyH_take (i := 1) (oi := { dst := some 56, op := Op.load 3 (Operand.tmp 55), type := 3, pos := "parse.go:62", after := #[{ on := 0, ground := Ground.data }], guard := none }) (v := ?_) rfl (by kernel_rfl) (by kernel_rfl) (by kernel_rfl) (fun _ _ _ h => h) (Or.inl ⟨by rfl, ?_⟩) (by assumption) ?_
              rotate_left
              · (intro w hSw; (try dsimp only at hSw); have hl := hSw.1; go_simp); first | done | with_reducible rfl
              simp only [Act.put, List.setIfInBounds_toArray, List.set_cons_zero, List.set_cons_succ]
              refine wpAnyH_take (i := 4) (oi := { dst := some 59, op := Op.move (Operand.tmp 0), type := 30, pos := "parse.go:62", after := #[], guard := none }) (v := ?_) rfl (by kernel_rfl) (by kernel_rfl) (by kernel_rfl) (fun _ _ _ h => h) (Or.inl ⟨by rfl, ?_⟩) (by assumption) ?_
              rotate_left
              · (intro w hSw; (try dsimp only at hSw); go_simp); first | done | with_reducible rfl
              simp only [Act.put, List.setIfInBounds_toArray, List.set_cons_zero, List.set_cons_succ]
              refine wpAnyH_take (i := 5) (oi := { dst := some 60, op := Op.indexAddr 30 (Operand.tmp 59) (Operand.const (Value.int IntKind.i64 0)), type := 0, pos := "parse.go:62", after := #[{ on := 4, ground := Ground.data }], guard := none }) (v := ?_) rfl (by kernel_rfl) (by kernel_rfl) (by kernel_rfl) (fun _ _ _ h => h) (Or.inl ⟨by rfl, ?_⟩) (by assumption) ?_
              rotate_left
              · (intro w hSw; (try dsimp only at hSw); go_simp); first | done | with_reducible rfl
              simp only [Act.put, List.setIfInBounds_toArray, List.set_cons_zero, List.set_cons_succ]
              refine wpAnyH_take (i := 6) (oi := { dst := some 61, op := Op.load 9 (Operand.tmp 60), type := 9, pos := "parse.go:62", after := #[{ on := 5, ground := Ground.data }], guard := none }) (v := ?_) rfl (by kernel_rfl) (by kernel_rfl) (by kernel_rfl) (fun _ _ _ h => h) (Or.inl ⟨by rfl, ?_⟩) (by assumption) ?_
              rotate_left
              · (intro w hSw; (try dsimp only at hSw); have hl := hSw.2; go_simp); first | done | with_reducible rfl
              simp only [Act.put, List.setIfInBounds_toArray, List.set_cons_zero, List.set_cons_succ]
              refine wpAnyH_ready (rs := [2]) (by kernel_rfl) (by simp) ?_
              refine AllReadyH.cons rfl (fun K hK => ?_) ?_
              rotate_left
              · exact AllReadyH.nil
              go_simp
              go_wp2_with fail
              refine (shapeOf_any p.kind wr.drew (HS.out.on HPd.out.b)).mono ?_
              rintro e w5 ⟨rfl, b5⟩
              have HP5 := hide (HPd.out.below b5)
              refine hK.out _ _ ⟨HP5.out.x.c0, HP5.out.c 0 w0 rfl⟩ (fun hHeld => ?_)
              clear hK K
              refine wpAnyH_take (i := 3) (oi := { dst := some 58, op := Op.field 36 (Operand.tmp 57) 0, type := 9, pos := "parse.go:62", after := #[{ on := 2, ground := Ground.data }], guard := none }) (v := ?_) rfl (by kernel_rfl) (by kernel_rfl) (by kernel_rfl) (fun _ _ _ h => h) (Or.inl ⟨by rfl, ?_⟩) (by assumption) ?_
              rotate_left
              · (intro w hSw; (try dsimp only at hSw); have hl := run_fdSh (bs (wrdL p.kind)) (bs (fdsL p.kind)) w; go_simp); first | done | with_reducible rfl
              simp only [Act.put, List.setIfInBounds_toArray, List.set_cons_zero, List.set_cons_succ]
              refine wpAnyH_take (i := 7) (oi := { dst := some 62, op := Op.binOp BinOp.neq 9 (Operand.tmp 58) (Operand.tmp 61) 9, type := 4, pos := "parse.go:62", after := #[{ on := 3, ground := Ground.data }, { on := 6, ground := Ground.data }], guard := none }) (v := ?_) rfl (by kernel_rfl) (by kernel_rfl) (by kernel_rfl) (fun _ _ _ h => h) (Or.inl ⟨by rfl, ?_⟩) (by assumption) ?_
              rotate_left
              · (intro w hSw; (try dsimp only at hSw); go_simp; (try simp only [hq]); go_simp); first | done | with_reducible rfl
              simp only [Act.put, List.setIfInBounds_toArray, List.set_cons_zero, List.set_cons_succ]
              refine wpAnyH_done (by kernel_rfl) ?_ _
              clear hHeld
              have hld := run_ldO HP5.out.x
              obtain ⟨w6, hst, hx6, k6⟩ := op_put (o := p) HP5.out.z
              have HX6 := hide hx6
              have HB6 : Hid (Below w.heap.size w w6) := HP5.out.b.trans (k6.below (Nat.le_refl _) HP5.out.b.size)
              clear hx6 k6
              go_wp2_with fail
              exact bodyPost_ret (res2O Tryz.results9 rfl rfl HX6.out) rfl ⟨StA.yes HY.out, HB6.out⟩
            · have hq := bs_neB _ _ hw
              have HN : Hid (stepP (w0 :: r) = none) := by show _ = _; rw [HSP.out, HF.out, Option.bind_some, if_neg hw]
              clear hw
              go_wp2_with fail
              refine wp_region_held_drew (S := fun v => v.cell? ⟨w2.heap.size, 0, none⟩ = some (.int .i64 p.kind) ∧ v.cell? ⟨b, 0, none⟩ = some (.string (bs w0))) (by kernel_rfl) (⟨HP.out.x.c0, HP.out.c 0 w0 rfl⟩) (fun hHeld => ?_)
              refine wpAnyH_take (i := 0) (oi := { dst := some 55, op := Op.fieldAddr 24 (Operand.tmp 6) 0, type := 0, pos := "parse.go:62", after := #[], guard := none }) (v := ?_) rfl (by kernel_rfl) (by kernel_rfl) (by kernel_rfl) (fun _ _ _ h => h) (Or.inl ⟨by rfl, ?_⟩) (by assumption) ?_
              rotate_left
              · (intro w hSw; (try dsimp only at hSw); go_simp); first | done | with_reducible rfl
              simp only [Act.put, List.setIfInBounds_toArray, List.set_cons_zero, List.set_cons_succ]
              refine wpAnyH_take (i := 1) (oi := { dst := some 56, op := Op.load 3 (Operand.tmp 55), type := 3, pos := "parse.go:62", after := #[{ on := 0, ground := Ground.data }], guard := none }) (v := ?_) rfl (by kernel_rfl) (by kernel_rfl) (by kernel_rfl) (fun _ _ _ h => h) (Or.inl ⟨by rfl, ?_⟩) (by assumption) ?_
              rotate_left
              · (intro w hSw; (try dsimp only at hSw); have hl := hSw.1; go_simp); first | done | with_reducible rfl
              simp only [Act.put, List.setIfInBounds_toArray, List.set_cons_zero, List.set_cons_succ]
              refine wpAnyH_take (i := 4) (oi := { dst := some 59, op := Op.move (Operand.tmp 0), type := 30, pos := "parse.go:62", after := #[], guard := none }) (v := ?_) rfl (by kernel_rfl) (by kernel_rfl) (by kernel_rfl) (fun _ _ _ h => h) (Or.inl ⟨by rfl, ?_⟩) (by assumption) ?_
              rotate_left
              · (intro w hSw; (try dsimp only at hSw); go_simp); first | done | with_reducible rfl
              simp only [Act.put, List.setIfInBounds_toArray, List.set_cons_zero, List.set_cons_succ]
              refine wpAnyH_take (i := 5) (oi := { dst := some 60, op := Op.indexAddr 30 (Operand.tmp 59) (Operand.const (Value.int IntKind.i64 0)), type := 0, pos := "parse.go:62", after := #[{ on := 4, ground := Ground.data }], guard := none }) (v := ?_) rfl (by kernel_rfl) (by kernel_rfl) (by kernel_rfl) (fun _ _ _ h => h) (Or.inl ⟨by rfl, ?_⟩) (by assumption) ?_
              rotate_left
              · (intro w hSw; (try dsimp only at hSw); go_simp); first | done | with_reducible rfl
              simp only [Act.put, List.setIfInBounds_toArray, List.set_cons_zero, List.set_cons_succ]
              refine wpAnyH_take (i := 6) (oi := { dst := some 61, op := Op.load 9 (Operand.tmp 60), type := 9, pos := "parse.go:62", after := #[{ on := 5, ground := Ground.data }], guard := none }) (v := ?_) rfl (by kernel_rfl) (by kernel_rfl) (by kernel_rfl) (fun _ _ _ h => h) (Or.inl ⟨by rfl, ?_⟩) (by assumption) ?_
              rotate_left
              · (intro w hSw; (try dsimp only at hSw); have hl := hSw.2; go_simp); first | done | with_reducible rfl
              simp only [Act.put, List.setIfInBounds_toArray, List.set_cons_zero, List.set_cons_succ]
              refine wpAnyH_ready (rs := [2]) (by kernel_rfl) (by simp) ?_
              refine AllReadyH.cons rfl (fun K hK => ?_) ?_
              rotate_left
              · exact AllReadyH.nil
              go_simp
              go_wp2_with fail
              refine (shapeOf_any p.kind wr.drew (HS.out.on HPd.out.b)).mono ?_
              rintro e w5 ⟨rfl, b5⟩
              have HP5 := hide (HPd.out.below b5)
              refine hK.out _ _ ⟨HP5.out.x.c0, HP5.out.c 0 w0 rfl⟩ (fun hHeld => ?_)
              clear hK K
              refine wpAnyH_take (i := 3) (oi := { dst := some 58, op := Op.field 36 (Operand.tmp 57) 0, type := 9, pos := "parse.go:62", after := #[{ on := 2, ground := Ground.data }], guard := none }) (v := ?_) rfl (by kernel_rfl) (by kernel_rfl) (by kernel_rfl) (fun _ _ _ h => h) (Or.inl ⟨by rfl, ?_⟩) (by assumption) ?_
              rotate_left
              · (intro w hSw; (try dsimp only at hSw); have hl := run_fdSh (bs (wrdL p.kind)) (bs (fdsL p.kind)) w; go_simp); first | done | with_reducible rfl
              simp only [Act.put, List.setIfInBounds_toArray, List.set_cons_zero, List.set_cons_succ]
              refine wpAnyH_take (i := 7) (oi := { dst := some 62, op := Op.binOp BinOp.neq 9 (Operand.tmp 58) (Operand.tmp 61) 9, type := 4, pos := "parse.go:62", after := #[{ on := 3, ground := Ground.data }, { on := 6, ground := Ground.data }], guard := none }) (v := ?_) rfl (by kernel_rfl) (by kernel_rfl) (by kernel_rfl) (fun _ _ _ h => h) (Or.inl ⟨by rfl, ?_⟩) (by assumption) ?_
              rotate_left
              · (intro w hSw; (try dsimp only at hSw); go_simp; (try simp only [hq]); go_simp); first | done | with_reducible rfl
              simp only [Act.put, List.setIfInBounds_toArray, List.set_cons_zero, List.set_cons_succ]
              refine wpAnyH_done (by kernel_rfl) ?_ _
              clear hHeld
              obtain ⟨w6, hst, hx6, k6⟩ := zero_put HP5.out.z
              have HX6 := hide hx6
              have HB6 : Hid (Below w.heap.size w w6) := HP5.out.b.trans (k6.below (Nat.le_refl _) HP5.out.b.size)
              clear hx6 k6
              go_wp2_with fail
              exact bodyPost_ret (res2O Tryz.results9 rfl rfl HX6.out) rfl ⟨StA.no HN.out, HB6.out⟩
      · rw [if_neg hlf] at HSP
        obtain ⟨q, hq⟩ : ∃ q, F.length = q := ⟨_, rfl⟩
        have hFq : (bs F).size = q := by omega
        have hq4 : q ≤ 4 := by omega
        have hnF : ((n : Int) == 1 + (q : Int)) = false := by rw [beq_eq_false_iff_ne]; omega
        have hnG : ((n : Int) != 1 + (q : Int)) = true := by rw [bne, hnF]; rfl
        clear hR ht hs he hz1 hb1 hs1 hw hlen hc hcell hc1 hFs hlf hnl hq HF1
        go_enter Tryz.func9, Tryz.ntmps9
        go_wp2_with (go_at_call 19; refine HK.out.mono ?_; rintro e w2 ⟨rfl, b2⟩; have bw2 := HB1.out.trans (b2.mono HB1.out.size); have ft := HFt.out w2 (HS.out.on bw2); obtain ⟨w3, hst, hx3, hk3⟩ := zero_put (HZ1.out.below b2); have HX3 := hide hx3; have HB3 : Hid (Below w.heap.size w w3) := bw2.trans (hk3.below (Nat.le_refl _) bw2.size); clear hx3 hk3 bw2)
        exact bodyPost_ret (res2O Tryz.results9 rfl rfl HX3.out) rfl ⟨StA.no HSP.out, HB3.out⟩
end Go.Proofs.YtpnnlfhknnnfhaaGreatDoor
