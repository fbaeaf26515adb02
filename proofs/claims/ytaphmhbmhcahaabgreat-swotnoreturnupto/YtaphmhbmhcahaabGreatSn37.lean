/- SYn -/
import Derived.Test.YtaphmhbmhcahaabGreatTk
import Derived.Test.YtaphmhbmhcahaabGreatSn36
import Derived.Test.YtaphmhbmhcahaabGreatSn13
set_option maxRecDepth 100000
set_option maxHeartbeats 12800000
namespace Go.Proofs.YtaphmhbmhcahaabGreat
open Go.RowKit
theorem madeDx (w:World) (r:Rn) (g:Nat) (hg:w.heap.size=g):∃ w':World,(stD (.pointer (some ⟨g,0,none⟩)) (RV r)).run Tryz.prog (w.alloc (.cells (RC rn0) 37)) = .ok () w'/\Box w' g 37 r/\Below w.heap.size w w':=by
 subst hg;exact ⟨_,run_stD (r':=r) (box_new w 37 rn0),(box_new w 37 rn0).setRow,below_setRow (below_new w _) (Nat.le_refl _)⟩
theorem nr_known {a b j:Fc} {e:K.En} {x y:Int} (fa:FormS a) (fb:FormS b) (ga:FmA (ab a)) (gb:FmA (ab b)) (hc:NoC (ab a) (ab b)) (h:JnA (ab a) (ab b) (ab j)) (he:e∈j.es) (hx:KnOf a (dotOf e) x) (hy:KnOf b (dotOf e) y):(x=1/\y=1)∨(x=1/\y=0)∨(x=0/\y=1):=by
 obtain ⟨⟨k1,k2,k3⟩,-⟩:=(h.live hc e).1 he;have ia:inB a.p.P (eD (dotOf e))=inB a.p.P e:=(inB_eD rfl).symm;have ib:inB b.p.P (eD (dotOf e))=inB b.p.P e:=(inB_eD rfl).symm;rcases hx.cases fa with ⟨h1,rfl⟩ | ⟨h1,h2,rfl⟩ | ⟨h1,h2,rfl⟩ <;> rcases hy.cases fb with ⟨q1,rfl⟩ | ⟨q1,q2,rfl⟩ | ⟨q1,q2,rfl⟩
 all_goals first
  | exact .inl ⟨rfl,rfl⟩
  | exact .inr (.inl ⟨rfl,rfl⟩)
  | exact .inr (.inr ⟨rfl,rfl⟩)
  | exact absurd ⟨e,k2 (by rw [ia] at h1;exact h1),rfl⟩ h2
  | exact absurd ⟨e,k3 (by rw [ib] at q1;exact q1),rfl⟩ q2
  | exact (k1.elim (fun k=>h1 (by rw [ia];exact ga.h e k)) (fun k=>q1 (by rw [ib];exact gb.h e k))).elim
theorem fat_at {L:List K.En} {e:K.En} (h:e∈L):∃ u,u < L.length/\L.getD u K.en0=e:=by
 obtain ⟨u,hu,rfl⟩:=List.getElem_of_mem h;exact ⟨u,hu,by simp [List.getD,hu]⟩
theorem asc_ltS {L:List K.En} (h:K.Asc L) {i j:Nat} (hij:i < j) (hj:j < L.length):K.ahead (L.getD i K.en0) (L.getD j K.en0)=true:=by
 have h1:=(List.pairwise_iff_getElem.1 h) i j (by omega) hj hij;simpa [List.getD,hj,show i < L.length by omega] using h1
def NrI (A B J:List K.En) (i u:Nat):Prop:=∀ t,i <= t -> t < A.length -> A.getD t K.en0∈B -> ∃ k,u <= k/\k < J.length/\J.getD k K.en0=A.getD t K.en0
theorem nr_start {A B J:List K.En} (h:∀ e,e∈A -> e∈B -> e∈J):NrI A B J 0 0:=fun t _ ht hb=>by
 obtain ⟨k,hk,e⟩:=fat_at (h (A.getD t K.en0) (getE_in ht) hb);exact ⟨k,Nat.zero_le _,hk,e⟩
theorem nr_skip {A B J:List K.En} {i u:Nat} (h:NrI A B J i u):NrI A B J (i+1) u:=fun t ht=>h t (by omega)
theorem nr_next {A B J:List K.En} {i u k:Nat} (hA:K.Asc A) (hJ:K.Asc J) (h:NrI A B J i u) (hk:k < J.length) (_:i < A.length) (he:J.getD k K.en0=A.getD i K.en0):NrI A B J (i+1) k:=fun t ht hl hb=>by
 obtain ⟨q,h1,h2,h3⟩:=h t (by omega) hl hb;refine ⟨q,?_,h2,h3⟩;have hlt:K.ahead (A.getD i K.en0) (A.getD t K.en0)=true:=asc_ltS hA (by omega) hl;refine Classical.byContradiction fun hn=>?_;have h4:K.ahead (J.getD q K.en0) (J.getD k K.en0)=true:=asc_ltS hJ (by omega) hk;rw [h3,he] at h4;have h5:=K.ahead_trans hlt h4;rw [K.ahead_irr] at h5
 cases h5
theorem fm_in {b:Fc} {e:K.En} (fb:FormS b) (k:e∈b.es):inB b.p.P e=true:=fb.2.1 e k
theorem live_in {a b:Fc} {e:K.En} {x:Int} (fb:FormS b) (_:FmA (ab a)) (hc:NoC (ab a) (ab b)) (he:e∈a.es) (hx:KnOf b (dotOf e) x):(x=1/\e∈b.es)∨(x≠1/\e ∉ b.es):=by
 rcases hx.cases fb with ⟨h1,rfl⟩ | ⟨h1,⟨y,hy,hd⟩,rfl⟩ | ⟨h1,h2,rfl⟩
 ·exact .inr ⟨by decide,fun k=>h1 (by rw [<- inB_eD rfl];exact (fm_in fb k))⟩
 ·have:=hc.at he hy (same_dot hd.symm);subst this;exact .inl ⟨rfl,hy⟩
 ·exact .inr ⟨by decide,fun k=>h2 ⟨e,k,rfl⟩⟩
theorem box2K (w:World) (f g:Fc):∃ wk,(w.alloc (.cells (FaC (mkF f)) 29)).alloc (.cells (FaC (mkF g)) 29)=wk/\Hid (SwBox wk w.heap.size (mkF f))/\Hid (SwBox wk (w.heap.size+1) (mkF g))/\Hid (Below w.heap.size w wk):=by
 obtain ⟨wk,h1,h2,h3,h4,-⟩:=box2J w f g;exact ⟨wk,h1,h2,h3,h4⟩
attribute [local go_sem ↓] ldSw_eq stSw_eq ldD_eq stD_eq K.ld28_eq K.st28_eq
attribute [local go_sem] cells_FaV FaC_size zero_FaZ cells_RV RC_size zero_RC K.cells_EV K.EC_size K.zero_EC
theorem swotNoReturn_law (a b:Fc) (w:World) (hA:FcU w a) (hB:FcU w b):Calls Tryz.prog 3 #[FaV (mkF a),FaV (mkF b)] w fun e w'=>e = .returned (.bool true)/\Below w.heap.size w w':=by
 obtain ⟨wk,hwk,HX,HY,HBK⟩:=box2K w a b;obtain ⟨G,hG0⟩:∃ G,w.heap.size=G:=⟨_,rfl⟩;rw [hG0] at HX HY;have HA:=hide (hA.b.below HBK.out);have HB:=hide (hB.b.below HBK.out);clear hA hB;go_enter Tryz.func3,Tryz.ntmps3;go_wp2_with fail;clear hwk hG0;refine (known_any _).mono ?_;rintro e w2 ⟨rfl,b2⟩;have HB2:=hide b2;have l1:=run_ldSw (HX.out.below b2);have l2:=run_ldSw (HY.out.below b2);clear b2;go_wp2_with fail;clear l1 l2;refine (swJoin_any 1 1 (by decide) a b _ (HA.out.below HB2.out) (HB.out.below HB2.out)).mono ?_;rintro e w3 ⟨s,er,rfl,BS,b3,DS⟩;obtain ⟨gj,hgj⟩:∃ g,w3.heap.size=g:=⟨_,rfl⟩;obtain ⟨w4,hst,X4,B4,-⟩:=madeSx w3 s gj hgj;have HB4:=hide (HB2.out.trans ((b3.trans (B4.mono b3.size)).mono HB2.out.size));have HJ:=hide X4;have HS:=hide (BS.below B4);have HD:=hide DS;have l1:=run_ldSw (HX.out.below HB4.out)
 clear BS b3 DS X4 B4;go_wp2_with fail;clear hst hgj l1;refine (refInForm_any a _ (HA.out.ok.below HB4.out)).mono ?_;rintro e w5 ⟨v,rfl,hv,b5⟩;have HB5:=wTr HB4 b5;have HJ5:=hide (HJ.out.below b5);have HS5:=hide (HS.out.below b5);clear b5
 cases v with
 | false =>
  obtain ⟨her,rfl⟩:(er=1∨er=10)/\s=fz0:=by
   obtain ⟨h1,h2⟩:=sj_bad HA.out.ok HB.out.ok HD.out (fun h=>by have:=hv.2 h.1;cases this);exact ⟨.inl h1,h2⟩
  have c0:=HJ5.out.c0;replace c0:w5.cell? ⟨gj,0,none⟩=some (.slice none 0 0):=c0;have HE:=wTr HBK HB5.out;rcases her with rfl | rfl
  ·go_wp2_with fail;clear c0;go_ret;exact ⟨rfl,HE.out⟩
  ·go_wp2_with fail;clear c0;go_ret;exact ⟨rfl,HE.out⟩
 | true =>
 have HFa:=hide (hv.1 rfl);have l1:=run_ldSw (HY.out.below HB5.out);clear hv;go_wp2_with fail;clear l1;refine (refInForm_any b _ (HB.out.ok.below HB5.out)).mono ?_;rintro e w6 ⟨v,rfl,hv,b6⟩;have HB6:=wTr HB5 b6;have HJ6:=hide (HJ5.out.below b6);have HS6:=hide (HS5.out.below b6);clear b6
 cases v with
 | false =>
  obtain ⟨her,rfl⟩:(er=1∨er=10)/\s=fz0:=by
   obtain ⟨h1,h2⟩:=sj_bad HA.out.ok HB.out.ok HD.out (fun h=>by have:=hv.2 h.2;cases this);exact ⟨.inl h1,h2⟩
  have c0:=HJ6.out.c0;replace c0:w6.cell? ⟨gj,0,none⟩=some (.slice none 0 0):=c0;have HE:=wTr HBK HB6.out;rcases her with rfl | rfl
  ·go_wp2_with fail;clear c0;go_ret;exact ⟨rfl,HE.out⟩
  ·go_wp2_with fail;clear c0;go_ret;exact ⟨rfl,HE.out⟩
 | true =>
 have HFb:=hide (hv.1 rfl);have l1:=run_ldSw (HX.out.below HB6.out);have l2:=run_ldSw (HY.out.below HB6.out);clear hv;go_wp2_with fail;clear l1 l2;refine (clash_any a b _ (HA.out.below HB6.out).ok (HB.out.below HB6.out).ok (chk_of HA.out.ok HFa.out) (chk_of HB.out.ok HFb.out)).mono ?_;rintro e w7 ⟨v,rfl,hv,b7⟩;have HB7:=wTr HB6 b7;have HJ7:=hide (HJ6.out.below b7);have HS7:=hide (HS6.out.below b7);clear b7
 cases v with
 | true =>
  obtain ⟨her,rfl⟩:(er=1∨er=10)/\s=fz0:=by
   obtain ⟨h1,h2⟩:=sj_clash HA.out.ok HB.out.ok HD.out HFa.out HFb.out (hv.1 rfl);exact ⟨.inr h1,h2⟩
  have c0:=HJ7.out.c0;replace c0:w7.cell? ⟨gj,0,none⟩=some (.slice none 0 0):=c0;have HE:=wTr HBK HB7.out;rcases her with rfl | rfl
  ·go_wp2_with fail;clear c0;go_ret;exact ⟨rfl,HE.out⟩
  ·go_wp2_with fail;clear c0;go_ret;exact ⟨rfl,HE.out⟩
 | false =>
 have HC:Hid (NoC (ab a) (ab b)):=fun h=>by have:=hv.2 h;cases this
 clear hv;obtain ⟨rfl,jn⟩:=sj_ok HA.out.ok HB.out.ok HD.out HFa.out HFb.out HC.out;have HJn:=hide jn;have HGa:=hide ((fm_iff HA.out.ok).1 HFa.out);have HGb:=hide ((fm_iff HB.out.ok).1 HFb.out);clear jn HD;have HA7:=hide (HA.out.below HB7.out);have HB7':=hide (HB.out.below HB7.out);have HX7:=hide (HX.out.below HB7.out);have HY7:=hide (HY.out.below HB7.out);have HE7:=wTr HBK HB7.out;have HLs:Hid (s.es.length=s.an):=HS7.out.ok.es.1;have HLa:Hid (a.es.length=a.an):=HA7.out.ok.es.1;have hbs:=HS7.out.ok.es.2.2.2.2;have hba:=HA7.out.ok.es.2.2.2.2;obtain ⟨n,hn⟩:∃ n,s.an=n:=⟨_,rfl⟩;obtain ⟨m,hm⟩:∃ m,a.an=m:=⟨_,rfl⟩;obtain ⟨so,hso⟩:∃ x,s.ao=x:=⟨_,rfl⟩;obtain ⟨ao,hao⟩:∃ x,a.ao=x:=⟨_,rfl⟩
 have HCs:Hid (∀ W,Below w7.heap.size w7 W -> W.cell? ⟨gj,0,none⟩=some (.slice so n s.ac)):=fun W h=>by rw [<- hn,<- hso];exact (HJ7.out.below h).cs.1
 have HCa:Hid (∀ W,Below w7.heap.size w7 W -> W.cell? ⟨G,0,none⟩=some (.slice ao m a.ac)):=fun W h=>by rw [<- hm,<- hao];exact (HX7.out.below h).cs.1
 have HEs:Hid (K.ESrc w7 so n s.ac s.es):=by rw [<- hn,<- hso];exact HS7.out.ok.es
 have HEa:Hid (K.ESrc w7 ao m a.ac a.es):=by rw [<- hm,<- hao];exact HA7.out.ok.es
 rw [hn] at HLs hbs;rw [hm] at HLa hba;clear hn hm hso hao;have c0:=HCs.out _ (Below.refl _ _);go_wp2_with fail;clear c0;go_loopw [7] (fun i wr=>∃ k:Nat,k <= n/\i = .int .i64 (k:Int)/\Hid (Below w7.heap.size w7 wr)) (fun i _=>n - (intOf i).toNat)
 case atStart=>exact ⟨0,Nat.zero_le _,rfl,Below.refl _ _⟩
 case round =>
  obtain ⟨k,hk,rfl,HK⟩:=hrel
  rename World=>wr
  have c0:=HCs.out _ HK.out;by_cases hlt:k < n
  ·have hlti:(k:Int) < (n:Int):=by omega
   obtain ⟨ad,rfl,A0⟩:=(HEs.out.below HK.out).at k hlt;obtain ⟨e,He⟩:∃ e,Hid (s.es.getD k K.en0=e):=⟨_,rfl⟩
   have Hin:Hid (e∈s.es):=by rw [<- He.out];exact getE_in (by rw [HLs.out];exact hlt)
   rw [He.out] at A0;have Hlt:=hide hlt;have ld:=run_ldD (r:=dotOf e) ⟨A0.c0,A0.c1⟩;obtain ⟨gd,hgd⟩:∃ g,wr.heap.size=g:=⟨_,rfl⟩;obtain ⟨w8,hst,X8,B8⟩:=madeDx wr (dotOf e) gd hgd;have HD8:=hide X8;have HB8:=wTr HK B8
   have HSt:Hid (∀ W,Below w8.heap.size w8 W -> (ldSw (.pointer (some ⟨G,0,none⟩))).run Tryz.prog W = .ok (.agg (FaC (mkF a))) W/\(ldSw (.pointer (some ⟨G+1,0,none⟩))).run Tryz.prog W = .ok (.agg (FaC (mkF b))) W/\(ldD (.pointer (some ⟨gd,0,none⟩))).run Tryz.prog W = .ok (RV (dotOf e)) W):=fun W hW =>
    ⟨run_ldSw ((HX7.out.below HB8.out).below hW),run_ldSw ((HY7.out.below HB8.out).below hW),run_ldD (HD8.out.below hW).at⟩
   clear A0 X8 B8 hlt hk;go_upto_region 12 with fail;clear c0 ld hgd hst;refine wp_region_held_drew (S:=fun W=>(ldSw (.pointer (some ⟨G,0,none⟩))).run Tryz.prog W = .ok (.agg (FaC (mkF a))) W/\(ldSw (.pointer (some ⟨G+1,0,none⟩))).run Tryz.prog W = .ok (.agg (FaC (mkF b))) W/\(ldD (.pointer (some ⟨gd,0,none⟩))).run Tryz.prog W = .ok (RV (dotOf e)) W) (by kernel_rfl) (HSt.out _ (below_drew1 w8)) (fun hHeld=>?_);refine wU 0 ?_;refine wU 1 ?_;refine wU 3 ?_;refine wU 4 ?_;refine wpAnyH_ready (rs:=[2]) (by kernel_rfl) (by simp) (.cons rfl (fun K hK=>?_) .nil);go_simp;go_wp2_with fail;refine (swKnows_any a (dotOf e) _ (((HA7.out.below HB8.out).below (below_drew1 w8)).u (by decide))).mono ?_;rintro x w9 ⟨p,rfl,hp,b0⟩;have HB9:Hid (Below w8.heap.size w8 w9):=(below_drew1 w8).trans b0;have Hp:=hide hp;have HS0:=hide (HSt.out _ HB9.out);refine hK.out _ _ HS0.out (fun hHeld=>?_)
   clear hK K b0 HS0 hp;refine wpAnyH_ready (rs:=[5]) (by kernel_rfl) (by simp) (.cons rfl (fun K hK=>?_) .nil);go_simp;go_wp2_with fail;refine (swKnows_any b (dotOf e) _ (((HB7'.out.below HB8.out).below HB9.out).u (by decide))).mono ?_;rintro x wa ⟨q,rfl,hq,b0⟩;have HBa:Hid (Below w8.heap.size w8 wa):=HB9.out.trans (b0.mono HB9.out.size);have Hq:=hide hq;have HS0:=hide (HSt.out _ HBa.out);refine hK.out _ _ HS0.out (fun hHeld=>?_);clear hK K b0 HS0 hq;refine wU 6 ?_;refine wU 7 ?_;refine wpAnyH_done (by kernel_rfl) ?_ _;clear hHeld;have HN:=wTr HB8 HBa.out;have key:=nr_known HFa.out HFb.out HGa.out HGb.out HC.out HJn.out Hin.out Hp.out Hq.out;clear Hp Hq HSt;rcases key with ⟨rfl,rfl⟩ | ⟨rfl,rfl⟩ | ⟨rfl,rfl⟩
   ·go_wp2_with fail;go_roundw
    case rel=>exact ⟨k+1,Hlt.out,by simp,HN.out⟩
    case measure=>simp [intOf];have:=Hlt.out;omega
   ·go_wp2_with fail;go_roundw
    case rel=>exact ⟨k+1,Hlt.out,by simp,HN.out⟩
    case measure=>simp [intOf];have:=Hlt.out;omega
   ·go_wp2_with fail;go_roundw
    case rel=>exact ⟨k+1,Hlt.out,by simp,HN.out⟩
    case measure=>simp [intOf];have:=Hlt.out;omega
  ·have hlti:¬ (k:Int) < (n:Int):=by omega
   have HKr:=hide HK.out;have HI0:Hid (NrI a.es b.es s.es 0 0):=nr_start fun e h1 h2=>(HJn.out.live HC.out e).2 ⟨⟨.inl h1,fun _=>h1,fun _=>h2⟩,HGa.out.f e h1,HGb.out.f e h2⟩;clear hlt hk;go_wp2_with fail;clear c0 hlti;go_loopw [11,12] (fun u i wq=>∃ (l q:Nat),l <= m/\q <= n/\u = .int .i64 (q:Int)/\i = .int .i64 (l:Int)/\Hid (NrI a.es b.es s.es l q)/\Hid (Below w7.heap.size w7 wq)) (fun _ i _=>m - (intOf i).toNat)
   case atStart=>exact ⟨0,0,Nat.zero_le _,Nat.zero_le _,rfl,rfl,HI0,HKr.out⟩
   case round =>
    obtain ⟨l,q,hl,hq,rfl,rfl,HI,HL⟩:=hrel
    rename World=>wq
    have c0:=HCa.out _ HL.out;by_cases hlt:l < m
    ·have hlti:(l:Int) < (m:Int):=by omega
     obtain ⟨ad,rfl,-⟩:=(HEa.out.below HL.out).at l hlt;obtain ⟨e,He⟩:∃ e,Hid (a.es.getD l K.en0=e):=⟨_,rfl⟩
     have Hin:Hid (e∈a.es):=by rw [<- He.out];exact getE_in (by rw [HLa.out];exact hlt)
     have Hlt:=hide hlt;have Hqn:=hide hq
     have HF:Hid (∀ W,Below w7.heap.size w7 W -> K.EnAt W (ad.add (l * 4)) e):=fun W hW=>by
      obtain ⟨ad',ea,A⟩:=(HEa.out.below hW).at l Hlt.out;obtain rfl:=Option.some.inj ea;rw [He.out] at A;exact A
     have HBd:=hide (HL.out.trans ((below_drew1 wq).mono HL.out.size))
     have HSt:Hid (∀ W,Below w7.heap.size w7 W -> W.cell? ⟨G,0,none⟩=some (.slice (some ad) m a.ac)/\(ldD (.pointer (some (ad.add (l * 4))))).run Tryz.prog W = .ok (RV (dotOf e)) W/\(ldSw (.pointer (some ⟨G+1,0,none⟩))).run Tryz.prog W = .ok (.agg (FaC (mkF b))) W):=fun W hW =>
      ⟨HCa.out W hW,run_ldD (r:=dotOf e) ⟨(HF.out W hW).c0,(HF.out W hW).c1⟩,run_ldSw (HY7.out.below hW)⟩
     clear hlt hl hq;go_upto_region 19 with fail;clear c0;refine wp_region_held_drew (S:=fun W=>W.cell? ⟨G,0,none⟩=some (.slice (some ad) m a.ac)/\(ldD (.pointer (some (ad.add (l * 4))))).run Tryz.prog W = .ok (RV (dotOf e)) W/\(ldSw (.pointer (some ⟨G+1,0,none⟩))).run Tryz.prog W = .ok (.agg (FaC (mkF b))) W) (by kernel_rfl) (HSt.out _ HBd.out) (fun hHeld=>?_);refine wU 0 ?_;refine wU 1 ?_;refine wU 2 ?_;refine wU 3 ?_;refine wU 4 ?_;refine wU 5 ?_;refine wU 6 ?_;refine wpAnyH_ready (rs:=[7]) (by kernel_rfl) (by simp) (.cons rfl (fun K hK=>?_) .nil);go_simp;go_wp2_with fail;refine (swKnows_any b (dotOf e) _ ((HB7'.out.below HBd.out).u (by decide))).mono ?_;rintro x w9 ⟨p,rfl,hp,b0⟩;have HB9:Hid (Below w7.heap.size w7 w9):=HBd.out.trans (b0.mono HBd.out.size);have Hp:=hide hp;have HS0:=hide (HSt.out _ HB9.out);refine hK.out _ _ HS0.out (fun hHeld=>?_)
     clear hK K b0 HS0 hp;have key:=live_in HFb.out HGa.out HC.out Hin.out Hp.out;rcases key with ⟨rfl,hbe⟩ | ⟨hp1,hbe⟩;rotate_left
     ·have HNn:Hid (NrI a.es b.es s.es (l+1) q):=nr_skip HI.out
      have d1:(p != 1)=true:=by simp [hp1]
      clear hp1 hbe;refine wU 8 ?_;refine wpAnyH_done (by kernel_rfl) ?_ _;clear hHeld d1;go_wp2_with fail;go_roundw
      case rel=>exact ⟨l+1,q,Hlt.out,Hqn.out,rfl,by simp,HNn,HB9⟩
      case measure=>simp [intOf];have:=Hlt.out;omega
     have HBe:=hide hbe;clear hbe;refine wU 8 ?_;refine wpAnyH_done (by kernel_rfl) ?_ _;clear hHeld
     obtain ⟨u,hu1,hu2,hu3⟩:∃ k,q <= k/\k < s.es.length/\s.es.getD k K.en0=e:=by
      obtain ⟨k,h1,h2,h3⟩:=HI.out l (Nat.le_refl _) (by rw [HLa.out];exact Hlt.out) (by rw [He.out];exact HBe.out);exact ⟨k,h1,h2,h3.trans He.out⟩
     have HU:Hid (q <= u/\u < n/\s.es.getD u K.en0=e):=⟨hu1,by rw [<- HLs.out];exact hu2,hu3⟩;have HNu:Hid (NrI a.es b.es s.es (l+1) u):=nr_next HGa.out.asc (HJn.out.a) HI.out hu2 (by rw [HLa.out];exact Hlt.out) (hu3.trans He.out.symm);clear hu1 hu2 hu3;go_wp2_with fail;go_loopw [11] (fun v wz=>∃ r:Nat,r <= u/\v = .int .i64 (r:Int)/\Hid (Below w7.heap.size w7 wz)) (fun v _=>u - (intOf v).toNat)
     case atStart=>exact ⟨q,HU.out.1,rfl,HB9⟩
     case round =>
      obtain ⟨r,hr,rfl,HR⟩:=hrel
      rename World=>wz
      have c1:=HCs.out _ HR.out
      have hrn:r < n:=by have:=HU.out;omega
      have hrni:(r:Int) < (n:Int):=by omega
      have hlmi:(l:Int) < (m:Int):=by have:=Hlt.out;omega
      obtain ⟨sd,hsd,-⟩:=(HEs.out.below HR.out).at r hrn;have Hsd:=hide hsd;obtain ⟨y,Hy⟩:∃ e,Hid (s.es.getD r K.en0=e):=⟨_,rfl⟩;have Hrn:=hide hrn;have Hru:=hide hr;have HBz:=hide (HR.out.trans ((below_drew1 wz).mono HR.out.size))
      have HSz:Hid (∀ W,Below w7.heap.size w7 W -> W.cell? ⟨gj,0,none⟩=some (.slice (some sd) n s.ac)/\W.cell? ⟨G,0,none⟩=some (.slice (some ad) m a.ac)/\(K.ld28 (.pointer (some (sd.add (r * 4))))).run Tryz.prog W = .ok (K.EV y) W/\(K.ld28 (.pointer (some (ad.add (l * 4))))).run Tryz.prog W = .ok (K.EV e) W):=fun W hW=>by
       obtain ⟨sd',ea,A⟩:=(HEs.out.below hW).at r Hrn.out;rw [Hsd.out] at ea;obtain rfl:=Option.some.inj ea;rw [Hy.out] at A;have h1:=HCs.out W hW;rw [Hsd.out] at h1;exact ⟨h1,HCa.out W hW,K.run_ld28 A,K.run_ld28 (HF.out W hW)⟩
      rw [hsd] at c1;clear hsd hrn hr;by_cases hye:y=e
      ·have leq:∀ W:World,(Op.equalIn 10000 39 (K.EV y) (K.EV e)).run Tryz.prog W = .ok true W:=fun W=>(K.run_eq28 y e W).trans (congrArg (fun b=>Result.ok b W) ((K.eqE_iffK y e).2 hye));have HNr:Hid (NrI a.es b.es s.es (l+1) r):=nr_next HGa.out.asc (HJn.out.a) HI.out (by rw [HLs.out];exact Hrn.out) (by rw [HLa.out];exact Hlt.out) (by rw [Hy.out,He.out];exact hye)
       have hne:((r:Int) == (n:Int))=false:=by simp;omega
       clear hye;go_upto_region 20 with fail;clear c1;refine wp_region_held_drew (S:=fun W=>W.cell? ⟨gj,0,none⟩=some (.slice (some sd) n s.ac)/\W.cell? ⟨G,0,none⟩=some (.slice (some ad) m a.ac)/\(K.ld28 (.pointer (some (sd.add (r * 4))))).run Tryz.prog W = .ok (K.EV y) W/\(K.ld28 (.pointer (some (ad.add (l * 4))))).run Tryz.prog W = .ok (K.EV e) W) (by kernel_rfl) (HSz.out _ HBz.out) (fun hHeld=>?_);refine wU 0 ?_;refine wU 1 ?_;refine wU 2 ?_;refine wU 3 ?_;refine wU 4 ?_;refine wU 5 ?_;refine wU 6 ?_;refine wU 7 ?_;refine wU 8 ?_;refine wU 9 ?_;refine wU 10 ?_;refine wU 11 ?_;refine wU 12 ?_;refine wU 13 ?_;refine wU 14 ?_;refine wU 15 ?_;refine wU 16 ?_;refine wU 17 ?_;refine wpAnyH_done (by kernel_rfl) ?_ _;clear hHeld leq;have c2:=(HSz.out _ HBz.out).1;go_wp2_with fail;clear c2;go_roundw
       case rel=>exact ⟨l+1,r,Hlt.out,Nat.le_of_lt Hrn.out,rfl,by simp,HNr,HBz⟩
       case measure=>simp [intOf];have:=Hlt.out;omega
      ·have leq:∀ W:World,(Op.equalIn 10000 39 (K.EV y) (K.EV e)).run Tryz.prog W = .ok false W:=fun W=>(K.run_eq28 y e W).trans (congrArg (fun b=>Result.ok b W) (Bool.eq_false_iff.2 fun h=>hye ((K.eqE_iffK y e).1 h)))
       have HRu:Hid (r+1 <= u):=by
        show r+1 <= u
        refine Nat.lt_of_le_of_ne Hru.out fun k=>hye ?_;rw [<- Hy.out,k];exact HU.out.2.2
       clear hye;go_upto_region 20 with fail;clear c1;refine wp_region_held_drew (S:=fun W=>W.cell? ⟨gj,0,none⟩=some (.slice (some sd) n s.ac)/\W.cell? ⟨G,0,none⟩=some (.slice (some ad) m a.ac)/\(K.ld28 (.pointer (some (sd.add (r * 4))))).run Tryz.prog W = .ok (K.EV y) W/\(K.ld28 (.pointer (some (ad.add (l * 4))))).run Tryz.prog W = .ok (K.EV e) W) (by kernel_rfl) (HSz.out _ HBz.out) (fun hHeld=>?_);refine wU 0 ?_;refine wU 1 ?_;refine wU 2 ?_;refine wU 3 ?_;refine wU 4 ?_;refine wU 5 ?_;refine wU 6 ?_;refine wU 7 ?_;refine wU 8 ?_;refine wU 9 ?_;refine wU 10 ?_;refine wU 11 ?_;refine wU 12 ?_;refine wU 13 ?_;refine wU 14 ?_;refine wU 15 ?_;refine wU 16 ?_;refine wU 17 ?_;refine wpAnyH_done (by kernel_rfl) ?_ _;clear hHeld leq;go_wp2_with fail;go_roundw
       case rel=>exact ⟨r+1,HRu.out,by simp,HBz.out⟩
       case measure=>simp [intOf];have:=HRu.out;omega
    ·have hlti:¬ (l:Int) < (m:Int):=by omega
     have HE:=wTr HE7 HL.out;clear hlt hl hq;go_wp2_with fail;clear c0;go_ret;exact ⟨rfl,HE.out⟩
theorem swotNoReturn_u (a b:Fc) (w:World) (hA:FcU w a) (hB:FcU w b) :
  Calls Tryz.prog 3 #[FaV (mkF a),FaV (mkF b)] w fun e w'=>e = .returned (.bool true)/\Below w.heap.size w w':=swotNoReturn_law a b w hA hB
end Go.Proofs.YtaphmhbmhcahaabGreat
