import Derived.Test.YthlbpeoiocdjlaaGreatTk
import Derived.Test.YthlbpeoiocdjlaaGreatCb34
import Derived.Test.YthlbpeoiocdjlaaGreatCb28
import Derived.Deep.CutRange
import Derived.Test.YthlbpeoiocdjlaaGreatCb31
import Derived.Test.YthlbpeoiocdjlaaGreatCb19
import Derived.Test.YthlbpeoiocdjlaaGreatCb20
import Derived.Test.YthlbpeoiocdjlaaGreatCb09
import Derived.Test.YthlbpeoiocdjlaaGreatCb21
import Derived.Test.YthlbpeoiocdjlaaGreatCb10
import Derived.Sort.KeysCollected
import Derived.Maps.Ext
import Derived.Test.YthlbpeoiocdjlaaGreatCb18
import Derived.Test.YthlbpeoiocdjlaaGreatCb15
import Derived.Test.YthlbpeoiocdjlaaGreatCb00
import Derived.Test.YthlbpeoiocdjlaaGreatCb16
import Derived.Test.YthlbpeoiocdjlaaGreatCb25
set_option maxRecDepth 100000
set_option maxHeartbeats 6400000
namespace Go.Proofs.YthlbpeoiocdjlaaGreat
section
open Go.RowKit Go.Maps Go.Sort
attribute [local go_sem ↓] ldP_eq stP_eq ldRe_eq stRe_eq
attribute [local go_sem] cells_ReV ReC_size zero_ReC
theorem nodup_len {α : Type} [DecidableEq α]:∀ (l m:List α),l.Nodup -> (∀ x∈l,x∈m) -> l.length <= m.length
 | [],_,_,_=>Nat.zero_le _
 | x :: l,m,hn,hs=>by
  have h1:=List.nodup_cons.1 hn;have hx:=hs x List.mem_cons_self;have h2:=nodup_len l (m.erase x) h1.2 (fun y hy=>(List.mem_erase_of_ne (fun e=>h1.1 (by rw [<- e];exact hy))).2 (hs y (List.mem_cons_of_mem _ hy)));rw [List.length_erase_of_mem hx] at h2;have:=List.length_pos_of_mem hx;simp only [List.length_cons];omega
theorem cb_self:∀ a:List UInt8,Lib.compareBytes a a=0
 | []=>by simp [Lib.compareBytes]
 | a :: x=>by
  have h0:¬ a < a:=UInt8.lt_irrefl a;simpa [Lib.compareBytes,h0] using cb_self x
theorem fold_len {R F:List Rc} (h:FoldOf R F):F.length <= R.length:=by
 have h1:=nodup_len (F.map (fun x=>x.s.data.toList)) (R.map (fun x=>x.s.data.toList)) (by
  refine List.pairwise_map.2 (h.1.imp fun {a b} hab e=>?_)
  have e2:a.s=b.s:=by cases ha:a.s;cases hb:b.s;rw [ha,hb] at e;simpa using e
  rw [e2] at hab
  exact absurd hab (by unfold cmpS;rw [cb_self];decide)) (fun x hx=>by
  obtain ⟨f,hf,rfl⟩:=List.mem_map.1 hx;obtain ⟨r,hr,e⟩:=(h.2.1 f hf).1
  exact List.mem_map.2 ⟨r,hr,by rw [e]⟩)
 simpa using h1
theorem clone_gives {w w':World} {L:List K.En} {n:Nat} {ao:Option Addr} {c:Nat} (hn:L.length=n) (hs:∀ e∈L,e.sku.size <= maxLen) (hb:n <= 3518437208883) (O:K.OwnE w.heap.size w.heap.size w w' ao c L):K.ESrc w' ao n c L/\∀ ad,ao=some ad -> w.heap.size <= ad.block:=by
 have h:=O.src hs (by omega);rw [hn] at h;exact h
theorem apply_any (ao bo:Option Addr) (n cap m cap':Nat) (L:List K.En) (R:List Rc) (w:World) (hS:K.ESrc w ao n cap L) (hR:RcS w bo m cap' R) (hwt:∀ s,wt (ofS R s) <= 8796093022207) (hnm:m * (n+1) <= 8796093022207) :
  Calls Tryz.prog 32 #[.slice ao n cap,.slice bo m cap'] w fun x w'=>ApA w w' x L R m:=by
 have HS:=hide hS;have HR:=hide hR;have HW:=hide hwt;have HNM:=hide hnm;have HL:Hid (L.length=n/\n <= 3518437208883):=⟨hS.1,hS.2.2.2.2⟩;have hnb:=HL.out.2;have HM:Hid (R.length=m):=hR.len;clear hS hR hwt hnm;go_enter Tryz.func32,Tryz.ntmps32;go_wp2_with fail;refine (K.lcheck_any ao n cap L _ HS.out).mono ?_;rintro x w1 ⟨rfl,b1⟩;have HB1:=hide b1;have HS1:=hide (HS.out.below b1);have HR1:=hide (HR.out.below b1);clear b1 HS HR;rcases K.chk_cases L with hc | hc;rotate_left
 ·have HE:Hid (ApA w w1 (.returned (.tuple #[.slice none 0 0,.int .i64 1])) L R m):=.inr ⟨fun h=>(by rw [hc] at h;cases h.1),_,_,_,rfl,K.ESrc.none _,HB1.out,fun ad h=>by cases h⟩;rw [hc];clear hc;go_wp2_with fail;go_ret2;exact HE.out
 ·rw [hc];have HC:=hide hc;clear hc;go_wp2_with fail;refine (fold_any bo m cap' R _ HR1.out HW.out).mono ?_;rintro x w2 (⟨hO,⟨qo,qn,qc⟩,F,rfl,S2,b2,-,hF⟩ | ⟨hO,rfl,b2⟩);rotate_left
  ·have HE:Hid (ApA w w2 (.returned (.tuple #[.slice none 0 0,.int .i64 1])) L R m):=.inr ⟨fun h=>hO h.2,_,_,_,rfl,K.ESrc.none _,HB1.out.trans (b2.mono HB1.out.size),fun ad h=>by cases h⟩;clear hO b2;go_wp2_with fail;go_ret2;exact HE.out
  ·rw [show HsV ⟨qo,qn,qc⟩=Value.slice qo qn qc from rfl];replace S2:RcS w2 qo qn qc F:=S2;have HO:=hide hO;have HB2:=wTr HB1 b2;have HS2:=hide (HS1.out.below b2);have HF:=hide hF;have HFS:=hide S2;have HFl:Hid (F.length=qn):=S2.len;have hqb:=S2.big
   have HFm:Hid (qn <= m):=by show _ <= _;rw [<- HFl.out,<- HM.out];exact fold_len hF
   clear hO b2 HS1 HB1 HR1 hF S2;by_cases hq0:qn=0
   ·have hqi:((qn:Int) == 0)=true:=by simp [hq0]
    have hF0:F=[]:=List.eq_nil_of_length_eq_zero (HFl.out.trans hq0)
    have HFr:Hid (L.filter (freeB R)=L):=by show _=_;exact free_nil HC.out (hF0 ▸ HF.out)
    clear hF0
    cases ao with
    | none =>
     have h00:=HS2.out.2.1 rfl;obtain ⟨rfl,rfl⟩:=h00;go_wp2_with fail;refine (K.clone_nil _).mono ?_;rintro x w3 ⟨rfl,rfl⟩;have HE:Hid (ApA w w3 (.returned (.tuple #[.slice none 0 0,.int .i64 0])) L R m):=.inl ⟨HC.out,HO.out,none,0,0,rfl,by rw [HFr.out];exact HS2.out,HB2.out,fun ad h=>by cases h⟩;go_wp2_with fail;go_ret2;exact HE.out
    | some ad =>
     go_wp2_with fail;refine (K.clone_any ad n cap L _ HS2.out).mono ?_;rintro x w3 ⟨a3,c3,rfl,O3⟩;have h3:=clone_gives HL.out.1 HS2.out.2.2.2.1 HL.out.2 O3;have HE:Hid (ApA w w3 (.returned (.tuple #[.slice a3 n c3,.int .i64 0])) L R m):=.inl ⟨HC.out,HO.out,a3,n,c3,rfl,by rw [HFr.out];exact h3.1,HB2.out.trans (O3.below.mono HB2.out.size),fun ad h=>Nat.le_trans HB2.out.size (h3.2 ad h)⟩;clear O3 h3;go_wp2_with fail;go_ret2;exact HE.out
   ·have hqi:((qn:Int) == 0)=false:=by simp [hq0]
    have HSK:Hid (∀ e∈L,¬ e.sku.size=0):=fun e he=>ce_sku (chk_ce HC.out e he);go_wp2_with fail;refine (dotsBy_any ao n cap L _ HS2.out HSK.out).mono ?_;rintro x w3 ⟨kk,rfl,hM⟩;obtain ⟨K0,f,M3⟩:=hM;have HM3:=hide M3;have HB3:=wTr HB2 M3.below;have HS3:=hide (HS2.out.below M3.below);have HF3:=hide (HFS.out.below M3.below);obtain ⟨b,Hb⟩:∃ b,Hid (w2.heap.size=b):=⟨_,rfl⟩;rw [Hb.out];clear M3 HS2 HFS HB2;go_wp2_with fail;go_loopw [10,35] (fun v i wr=>∃ (k:Nat) (x:Hs),k <= qn/\v = .slice x.o x.n x.c/\i = .int .i64 (k:Int)/\Hid (∃ X:List Pv,OwnP w3.heap.size w3 wr x X/\(∀ p∈X,FarH x p)/\BX L (F.take k) X/\x.n=k)) (fun _ i _=>qn - (intOf i).toNat)
    case atStart=>exact ⟨0,hs0,Nat.zero_le _,rfl,rfl,⟨[],OwnP.nil w3,fun p h=>(by cases h),BX.nil L,rfl⟩⟩
    case round =>
     obtain ⟨k,x,hk,rfl,rfl,HX⟩:=hrel
     rename World=>wr
     by_cases hlt:k < qn
     ·have hlti:(k:Int) < (qn:Int):=by omega
      obtain ⟨X,O,hFar,hBX,hxn⟩:=HX.out;obtain ⟨ad,hao,A0⟩:=(HF3.out.below O.below).at k hlt;have hOk:=(HF3.out.below O.below).okAt k hlt;have HT:=hide (take_snocF F k (by rw [HFl.out];exact hlt));obtain ⟨r,Hr⟩:∃ r,Hid (F.getD k rc0=r):=⟨_,rfl⟩;rw [Hr.out] at A0 hOk HT;have hsk:=hOk.2;have hld:=run_laRe A0;obtain ⟨g7,hg7⟩:∃ g7,wr.heap.size=g7:=⟨_,rfl⟩;obtain ⟨w7,hst,X7,B7,S7⟩:=madeRe wr (mkR r) g7 hg7;have O7:=(O.later B7).later (below_drew1 w7);have M7:=((HM3.out.later O.below).later B7).later (below_drew1 w7)
      have l0:(Instr.lookup 111 (.map (some b)) (.string r.s) false).run Tryz.prog w7.drew = .ok (.slice (f r.s).o (f r.s).n (f r.s).c) w7.drew:=by
       have:=M7.look keyS Tryz.underlying9 Tryz.underlying111 (zeroDs _) r.s hsk;rwa [Hb.out] at this
      have hdl:=M7.len r.s;have hdb:=dotsS_len L r.s
      have HD7:Hid (RSrc w7.drew (f r.s).o (f r.s).n (f r.s).c (dotsS L r.s)):=by
       have h:=M7.rows r.s
       have e:(HsV (f r.s)) = .slice (f r.s).o (dotsS L r.s).length (f r.s).c:=by show Value.slice _ _ _=_;rw [hdl]
       rw [e,hdl] at h;have:=(OwnD.src (B0:=w2.heap.size) ⟨h,M7.below,M7.hb.2.2,by omega⟩ (by have:=HL.out;omega)).1
       show RSrc _ _ _ _ _
       rw [hdl];exact this
      have HSt:Hid (∀ W:World,W.heap[g7]? = w7.heap[g7]? -> W.cell? ⟨g7,0,none⟩=some (.string r.s)/\(ldP (.pointer (some ⟨g7,1,none⟩))).run Tryz.prog W = .ok (.agg #[.slice r.p.vo r.p.vn r.p.vc,.slice r.p.co r.p.cn r.p.cc]) W):=fun W h=>by
       have X:ReBox W g7 (mkR r):=h.trans X7;exact ⟨X.sk,run_ldP X.past⟩
      have Hg7:Hid (g7 < w7.heap.size):=by show _ < _;omega
      have Hlt:=hide hlt;have HO7:=hide O7;have HFa:=hide hFar;have HBX:=hide hBX;have Hxn:Hid (x.n=k/\k <= 2199023255552):=⟨hxn,by omega⟩;have HP7:Hid (PSrc w7.drew r.p):=((hOk.1.below B7).below (below_drew1 w7))
      have HGX:Hid (∀ j,(HsV x).ownBlock=some j -> j < g7):=fun j hj=>by have:=(O.own.lt j hj).2;omega
      subst hao;clear A0 X7 B7 S7 M7 O7 O hFar hBX hlt hk hOk hdl hdb hxn HX;go_upto_region 14 with fail;clear hst hld;refine wp_region_held_drew (S:=fun W=>W.cell? ⟨g7,0,none⟩=some (.string r.s)/\(ldP (.pointer (some ⟨g7,1,none⟩))).run Tryz.prog W = .ok (.agg #[.slice r.p.vo r.p.vn r.p.vc,.slice r.p.co r.p.cn r.p.cc]) W) (by kernel_rfl) (HSt.out _ rfl) (fun hHeld=>?_);refine wU 0 ?_;refine wU 1 ?_;refine wU 2 ?_;refine wU 3 ?_;refine wU 6 ?_;refine wU 7 ?_;refine wpAnyH_ready (rs:=[4]) (by kernel_rfl) (by simp) (.cons rfl (fun K hK=>?_) .nil);go_simp;refine hK.out _ _ (HSt.out _ rfl) (fun hHeld=>?_);clear hK K;refine wpAnyH_ready (rs:=[5]) (by kernel_rfl) (by simp) (.cons rfl (fun K hK=>?_) .nil);go_simp;go_wp2_with fail;refine (pastOfN_any (f r.s).o (f r.s).n (f r.s).c (dotsS L r.s) _ HD7.out).mono ?_;rintro e w8 ⟨pd,rfl,Sd,-,b8,Cd⟩;have HO8:=hide (HO7.out.later b8)
      have HP8:=hide (HP7.out.below b8);have z8:w8.heap[g7]? = w7.heap[g7]?:=b8.block g7 Hg7.out;have HZ8:=hide z8;have HG8:Hid (g7 < w8.heap.size):=Nat.lt_of_lt_of_le Hg7.out b8.size;have HSd:=hide Sd;have HCd:=hide Cd;refine hK.out _ _ (HSt.out _ z8) (fun hHeld=>?_);clear hK K;clear b8 z8 Sd Cd HO7 HP7 l0;refine wpAnyH_ready (rs:=[8]) (by kernel_rfl) (by simp) (.cons rfl (fun K hK=>?_) .nil);go_simp;go_wp2_with fail;refine (pastMeet_any pd r.p _ HSd.out HP8.out).mono ?_;rintro e w9 ⟨pm,rfl,Sm,Nm,b9,Cm⟩;have HO9:=hide (HO8.out.later b9);have z9:w9.heap[g7]? = w7.heap[g7]?:=(b9.block g7 HG8.out).trans HZ8.out;have HZ9:=hide z9;have HG9:Hid (g7 < w9.heap.size):=Nat.lt_of_lt_of_le HG8.out b9.size;have HSm:=hide Sm;have HFm2:Hid (FarH x pm):=fun j hj=>PFar.new Nm (by have:=HGX.out j hj;have:=HG8.out;omega)
      have HBm:Hid (BX L (F.take (k+1)) (X++[pm])):=by show BX _ _ _;rw [HT.out];exact HBX.out.snoc HCd.out Cm
      refine hK.out _ _ (HSt.out _ z9) (fun hHeld=>?_);clear hK K;clear b9 z9 Sm Nm Cm HO8 HP8;obtain ⟨ga,ca,wa,haa,Oa,Fa,ka⟩:=HO9.out.app HFa.out pm HSm.out HFm2.out (by have:=Hxn.out;omega);have HAA:Hid ((Builtin.append_ #[102,102] 102 #[.slice x.o x.n x.c,.slice (some ⟨w9.heap.size,0,none⟩) 1 1]).run Tryz.prog (w9.alloc (.cells #[.slice pm.vo pm.vn pm.vc,.slice pm.co pm.cn pm.cc] 26)) = .ok (.slice (some ⟨ga,0,none⟩) (x.n+1) ca) wa):=haa;have zA:(w9.alloc (.cells #[.slice pm.vo pm.vn pm.vc,.slice pm.co pm.cn pm.cc] 26)).heap[g7]? = w7.heap[g7]?:=(Below.heap_alloc w9 _ g7 HG9.out).trans HZ9.out;have za:wa.heap[g7]? = w7.heap[g7]?:=(ka g7 HG9.out (fun e=>by have:=HGX.out g7 e;omega)).trans HZ9.out;have HOa:Hid (∃ X:List Pv,OwnP w3.heap.size w3 wa ⟨some ⟨ga,0,none⟩,x.n+1,ca⟩ X/\(∀ p∈X,FarH ⟨some ⟨ga,0,none⟩,x.n+1,ca⟩ p)/\BX L (F.take (k+1)) X/\x.n+1=k+1):=⟨_,Oa,Fa,HBm.out,by rw [Hxn.out.1]⟩
      clear haa Oa Fa ka;refine wpAnyH_ready (rs:=[9]) (by kernel_rfl) (by simp) (.cons rfl (fun K hK=>?_) .nil);go_simp;refine hK.out _ _ (HSt.out _ zA) (fun hHeld=>?_);clear hK K;refine wpAnyH_ready (rs:=[10]) (by kernel_rfl) (by simp) (.cons rfl (fun K hK=>?_) .nil);refine step_appM (by rfl) (.tmp 39) (.tmp 48) (by rfl) (by rfl) (by rfl) HAA.out ?_;refine hK.out _ _ (HSt.out _ za) (fun hHeld=>?_);clear hK K;refine wU 11 ?_;refine wpAnyH_done (by kernel_rfl) ?_ _;clear hHeld;clear zA za;go_wp2_with fail;go_roundw
      case rel=>exact ⟨k+1,⟨some ⟨ga,0,none⟩,x.n+1,ca⟩,Hlt.out,rfl,by simp,HOa⟩
      case measure=>simp [intOf];have:=Hlt.out;omega
     ·have hlti:¬ (k:Int) < (qn:Int):=by omega
      obtain ⟨X,O,-,hBX,hxn⟩:=HX.out;have hT:F.take k=F:=List.take_of_length_le (by have:=HFl.out;omega);rw [hT] at hBX;have HBX:=hide hBX;have HP:Hid (PRow wr x.o x.n X):=O.row
      have HWX:Hid (wt X <= 8796093022207):=by
       show _ <= _
       have h1:=hBX.2;rw [HFl.out,HL.out.1] at h1;have h2:=Nat.mul_le_mul_right (n+1) HFm.out;have h3:=HNM.out;omega
      have hxq:x.n <= 8796093022207:=by omega
      have HBr:=wTr HB3 O.below;have HSr:=hide (HS3.out.below O.below);clear O hBX hT hxn HX hk hlt;go_wp2_with fail;refine (pastJoin_any x.o x.n x.c X _ HP.out HWX.out hxq).mono ?_;rintro e w8 ⟨pj,rfl,Sj,-,b8,Cj⟩;have HB8:=wTr HBr b8;have HS8:=hide (HSr.out.below b8);have HSj:=hide Sj;have HCj:=hide Cj;clear b8 Sj Cj HBr HSr;go_wp2_with fail;refine (outside_any ao n cap L pj _ HS8.out HSj.out).mono ?_;rintro e w9 (⟨-,-,a9,n9,c9,rfl,S9,b9,N9⟩ | ⟨hno,-⟩);rotate_left
      ·exact absurd ⟨HC.out,canon_iff.1 HCj.out.canon⟩ hno
      ·have HE:Hid (ApA w w9 (.returned (.tuple #[.slice a9 n9 c9,.int .i64 0])) L R m):=.inl ⟨HC.out,HO.out,a9,n9,c9,rfl,by rw [<- free_of HC.out HF.out HBX.out HCj.out];exact S9,HB8.out.trans (b9.mono HB8.out.size),fun ad h=>Nat.le_trans HB8.out.size (N9 ad h)⟩;clear S9 b9 N9;go_wp2_with fail;go_ret2;exact HE.out
end
section
open Go.RowKit
def FormS (s:Fc):Prop:=(K.okN s.es s.an=true/\InForm s.p.P/\OkR s.rs s.rn)/\(∀ e∈s.es,inB s.p.P e=true)/\(∀ r∈s.rs,¬ wiP r.p.P s.p.P)/\∀ e∈s.es,freeB s.rs e=true
def ChkS (s:Fc) (x:Int):Prop:=(FormS s/\x=0)∨(¬ FormS s/\x=1)
theorem pk_none {L:List K.En} {P:Pst}:(L.filter (pkB P false)).length=0↔∀ e∈L,inB P e=true:=by
 rw [List.length_eq_zero_iff,List.filter_eq_nil_iff];refine forall_congr' fun e=>forall_congr' fun _=>?_;unfold pkB
 cases inB P e <;> simp
theorem fr_all {L:List K.En} {R:List Rc}:(L.filter (freeB R)).length=L.length↔∀ e∈L,freeB R e=true:=by
 rw [List.length_filter_eq_length_iff]
theorem wt_all {L F:List Rc} {P:Pst} (h:WtOf L P F):F.length=L.length↔∀ r∈L,¬ wiP r.p.P P:=by
 have e1:F.length=((plR L).filter (waitB P)).length:=by rw [<- h.2,plR_len]
 have e2:L.length=(plR L).length:=(plR_len L).symm;rw [e1,e2,List.length_filter_eq_length_iff];constructor
 ·intro k r hr hw;have:=k (r.s,r.p.P) (List.mem_map.2 ⟨r,hr,rfl⟩);have h2:waitB P (r.s,r.p.P)=false:=waitB_no (y:=(r.s,r.p.P)) hw;rw [h2] at this
  cases this
 ·intro k y hy;obtain ⟨r,hr,rfl⟩:=List.mem_map.1 hy;have h2:waitB P (r.s,r.p.P)=true:=waitB_yes (y:=(r.s,r.p.P)) (k r hr);exact h2
theorem chk_okS {L:List K.En} {n:Nat} (hl:L.length=n):K.chk L=0↔K.okN L n=true:=by
 unfold K.chk;rw [hl]
 split <;> simp_all
attribute [local go_sem ↓] ldP_eq stP_eq ldSw_eq stSw_eq
attribute [local go_sem] cells_PV PC_size cells_FaV FaC_size
theorem swCheck_any (s:Fc) (w:World) (hF:FcOk w s) (hR:FcR s) (hwt:∀ t,wt (ofS s.rs t) <= 8796093022207) (hnm:s.rn * (s.an+1) <= 8796093022207) (hrn:s.rn <= 2199023255551) :
  Calls Tryz.prog 38 #[FaV (mkF s)] w fun e w'=>GivesK w w' e (ChkS s):=by
 have b1:=below_new w (.cells (FaC (mkF s)) 31);have X1:=SwBox_new w (mkF s);obtain ⟨wk,hwk⟩:∃ w1,w.alloc (.cells (FaC (mkF s)) 31)=w1:=⟨_,rfl⟩;rw [hwk] at b1 X1;obtain ⟨G,hG0⟩:∃ G,w.heap.size=G:=⟨_,rfl⟩;rw [hG0] at X1;have HX:=hide X1;have HBK:=hide b1;have HF:=hide (hF.below b1);have HR:=hide hR;have HWt:=hide hwt;have HNm:Hid (s.rn * (s.an+1) <= 8796093022207/\s.rn <= 2199023255551):=⟨hnm,hrn⟩;have HLn:Hid (s.es.length=s.an/\s.rs.length=s.rn):=⟨hF.es.1,hF.rs.len⟩;clear hF b1 X1 hR hwt hnm hrn;obtain ⟨c0,c3⟩:=HX.out.cs;have lp:=run_ldP HX.out.past;go_enter Tryz.func38,Tryz.ntmps38;go_wp2_with fail;clear hwk hG0 c0 c3 lp;refine (outside_any s.ao s.an s.ac s.es s.p _ HF.out.es HF.out.p).mono ?_;rintro e w3 (⟨hc,hI,a3,n3,d3,rfl,S3,b3,-⟩ | ⟨hno,a3,n3,d3,rfl,S3,b3,-⟩);rotate_left
 ·have HE:Hid (GivesK w w3 (.returned (.int .i64 1)) (ChkS s)):=⟨1,rfl,.inr ⟨fun h=>hno ⟨(chk_okS HLn.out.1).2 h.1.1,h.1.2.1⟩,rfl⟩,HBK.out.trans (b3.mono HBK.out.size)⟩;clear hno S3 b3;go_wp2_with fail;go_ret;exact HE.out
 have H1:Hid (K.okN s.es s.an=true/\InForm s.p.P/\(s.es.filter (pkB s.p.P false)).length=n3):=⟨(chk_okS HLn.out.1).1 hc,hI,S3.1⟩;have HB3:=hide b3;clear hc hI S3 b3;by_cases h3:n3=0;rotate_left
 ·have hp:(0:Int) < (n3:Int):=by omega
  have HE:Hid (GivesK w w3 (.returned (.int .i64 1)) (ChkS s)):=⟨1,rfl,.inr ⟨fun h=>h3 (by rw [<- H1.out.2.2];exact pk_none.2 h.2.1),rfl⟩,HBK.out.trans (HB3.out.mono HBK.out.size)⟩;go_wp2_with fail;go_ret;exact HE.out
 subst h3;have H2:Hid (∀ e∈s.es,inB s.p.P e=true):=pk_none.1 H1.out.2.2;obtain ⟨c0,c3⟩:=(HX.out.below HB3.out).cs;have lp:=run_ldP (HX.out.below HB3.out).past;go_wp2_with fail;clear c0 c3 lp;refine (keepWaits_any s.ro s.rn s.rc s.rs s.p _ ((HF.out.row HR.out).below HB3.out) (HF.out.p.below HB3.out) HNm.out.2).mono ?_;rintro e w4 (⟨hO,-,⟨fo,fn,fc⟩,F,rfl,G4,n4,W4⟩ | ⟨hno,rfl,b4⟩);rotate_left
 ·have HE:Hid (GivesK w w4 (.returned (.int .i64 1)) (ChkS s)):=⟨1,rfl,.inr ⟨fun h=>hno ⟨h.1.2.2,h.1.2.1⟩,rfl⟩,HBK.out.trans ((HB3.out.trans (b4.mono HB3.out.size)).mono HBK.out.size)⟩;clear hno b4;go_wp2_with fail;go_ret;exact HE.out
 have HB4:=wTr HB3 G4.below;have H3:Hid (OkR s.rs s.rn/\WtOf s.rs s.p.P F/\F.length=fn/\fn <= s.rn):=⟨hO,W4,G4.src.len,n4⟩;rw [show HsV ⟨fo,fn,fc⟩=Value.slice fo fn fc from rfl];clear hO G4 n4 W4;obtain ⟨c0,c3⟩:=(HX.out.below HB4.out).cs;by_cases h4:fn < s.rn
 ·have hp:(fn:Int) < (s.rn:Int):=by omega
  have HE:Hid (GivesK w w4 (.returned (.int .i64 1)) (ChkS s)):=⟨1,rfl,.inr ⟨fun h=>by
   have h5:=(wt_all H3.out.2.1).2 h.2.2.1;rw [H3.out.2.2.1,HLn.out.2] at h5
   omega,rfl⟩,HBK.out.trans (HB4.out.mono HBK.out.size)⟩
  go_wp2_with fail;clear c0 c3;go_ret;exact HE.out
 have hp:¬ (fn:Int) < (s.rn:Int):=by omega
 have H4:Hid (∀ r∈s.rs,¬ wiP r.p.P s.p.P):=(wt_all H3.out.2.1).1 (by rw [H3.out.2.2.1,HLn.out.2];have:=H3.out.2.2.2;omega);clear h4;go_wp2_with fail;clear c0 c3 hp;refine (apply_any s.ao s.ro s.an s.ac s.rn s.rc s.es s.rs _ (HF.out.es.below HB4.out) (HF.out.rs.below HB4.out) HWt.out HNm.out.1).mono ?_;rintro e w5 (⟨-,-,a5,n5,d5,rfl,S5,b5,-⟩ | ⟨hno,-⟩);rotate_left
 ·exact absurd ⟨(chk_okS HLn.out.1).2 H1.out.1,H3.out.1⟩ hno
 have HB5:=wTr HB4 b5;have H5:Hid ((s.es.filter (freeB s.rs)).length=n5):=S5.1;clear S5 b5;obtain ⟨c0,c3⟩:=(HX.out.below HB5.out).cs
 have hle:n5 <= s.an:=by
  have h:=List.length_filter_le (freeB s.rs) s.es;have h6:=H5.out;have h7:=HLn.out.1;omega
 by_cases h6:n5 < s.an
 ·have hp:(n5:Int) < (s.an:Int):=by omega
  have HE:Hid (GivesK w w5 (.returned (.int .i64 1)) (ChkS s)):=⟨1,rfl,.inr ⟨fun h=>by
   have h5:=fr_all.2 h.2.2.2;have h8:=H5.out;have h7:=HLn.out.1
   omega,rfl⟩,HBK.out.trans (HB5.out.mono HBK.out.size)⟩
  clear hle;go_wp2_with fail;clear c0 c3;go_ret;exact HE.out
 have hp:¬ (n5:Int) < (s.an:Int):=by omega
 have HE:Hid (GivesK w w5 (.returned (.int .i64 0)) (ChkS s)):=⟨0,rfl,.inl ⟨⟨⟨H1.out.1,H1.out.2.1,H3.out.1⟩,H2.out,H4.out,fr_all.1 (by
  have h8:=H5.out;have h7:=HLn.out.1
  omega)⟩,rfl⟩,HBK.out.trans (HB5.out.mono HBK.out.size)⟩
 clear hle h6;go_wp2_with fail;clear c0 c3;go_ret;exact HE.out
end
section
open Go.RowKit
attribute [local go_sem ↓] ldP_eq stP_eq ldFa_eq stFa_eq ldD_eq stD_eq K.ld28_eq K.st28_eq
attribute [local go_sem] cells_PV PC_size cells_FaV FaC_size zero_FaZ cells_RV RC_size zero_RC fold_RC K.zero_EC K.cells_EV K.EC_size K.fold_EC
theorem takeE3 (L:List K.En) (k:Nat) (h:k < L.length):L.take (k+1)=L.take k++[L.getD k K.en0]:=by
 rw [List.take_succ_eq_append_getElem h];simp [List.getD,h]
def LvS (w w':World) (x:Ending) (L:List K.En):Prop:=∃ ao n c,x = .returned (.slice ao n c)/\K.ESrc w' ao n c L/\Below w.heap.size w w'
end
section
open Go.RowKit Go.Maps
def WvA (w w':World) (x:Ending) (L:List Rc) (P:Pst):Prop:=∃ (h:Hs) (F:List Rc),x = .returned (.slice h.o h.n h.c)/\RcS w' h.o h.n h.c F/\Below w.heap.size w w'/\WtOf L P F/\h.n <= h.c/\(h.o=none -> h.c=0)
attribute [local go_sem ↓] ldP_eq stP_eq ldRe_eq stRe_eq
attribute [local go_sem] cells_PV PC_size cells_ReV ReC_size zero_ReC
end
section
open Go.RowKit
attribute [local go_sem ↓] ldP_eq stP_eq
attribute [local go_sem] cells_PV PC_size
variable {w w' w2 W W' : World} {g : Nat}

def spOf (d:Rn):Sn:=⟨d.lo,d.hi,d.hi⟩
structure RO (w2 W:World) (g3:Nat) (ao:Option Addr) (k cap:Nat) (acc:List Sn):Prop where
 own:OwnS g3 (g3+1) w2 W ao cap acc
 box:W.heap[g3]? = some (.cells #[.slice none 0 0,.slice ao k cap] 26 (0,0))
 len:acc.length=k
end
section
open Go.RowKit
end
end Go.Proofs.YthlbpeoiocdjlaaGreat
namespace Go.Proofs.YthlbpeoiocdjlaaGreat.K
open Go.RowKit Go.Maps Go.Sort

structure Ln where
 sku:ByteArray
 qty:Int
 parts:Int
def ln0:Ln:=⟨⟨#[]⟩,0,0⟩
def addL (l:Ln) (e:En):Ln:=⟨e.sku,l.qty+e.qty,l.parts+1⟩
def ofS (L:List En) (s:ByteArray):List En:=L.filter (fun e=>eqS e.sku s)
def lineOf (L:List En) (s:ByteArray):Ln:=(ofS L s).foldl addL ln0
def AllOk (L:List En):Prop:=∀ e∈L,1 <= e.qty/\e.qty <= 1000000
def LinesOf (L:List En) (R:List Ln) (er:Int):Prop:=
 (chk L≠0/\R=[]/\er=1)∨(chk L=0/\er=0/\R.Pairwise (fun a b=>a.sku.data.toList < b.sku.data.toList)/\∀ l,l∈R↔∃ e∈L,l=lineOf L e.sku)
def Mp (D:DataW Ln) (L:List En):Prop:=(∀ s:ByteArray,has D (.string s.data.toList)=true↔∃ e∈L,e.sku=s)/\∀ s:ByteArray,D.atKey (.string s.data.toList) (.held ln0) = .held (lineOf L s)
end Go.Proofs.YthlbpeoiocdjlaaGreat.K
namespace Go.Proofs.YthlbpeoiocdjlaaGreat
open Go.RowKit
attribute [local go_sem ↓] ldP_eq stP_eq ldD_eq stD_eq K.ld28_eq K.st28_eq K.run_eq28
attribute [local go_sem] cells_PV PC_size K.cells_EV K.EC_size K.zero_EC
def noS (L:List K.En) (s:ByteArray):List K.En:=L.filter (fun e => !K.eqS e.sku s)
def kpB (s:ByteArray) (P:Pst) (e:K.En):Bool:=(decide (s.size=0) || (e.sku.toList == s.toList)) && inB P e
def ktL (L:List K.En) (s:ByteArray) (P:Pst):List K.En:=L.filter (fun e => !kpB s P e)
end Go.Proofs.YthlbpeoiocdjlaaGreat
namespace Go.Proofs.YthlbpeoiocdjlaaGreat.K
section
open Go.RowKit

def LC (e:Ln):Array Value:=#[.string e.sku,.int .i64 e.qty,.int .i64 e.parts]
abbrev LV (e:Ln):Value:=.agg (LC e)
theorem LC_size (e:Ln):(LC e).size=3:=rfl
theorem cells_LV (e:Ln):(LV e).cells=LC e:=by simp [Value.cells]
theorem zero_LC:(#[.string ⟨#[]⟩,.int .i64 0,.int .i64 0]:Array Value)=LC ln0:=rfl
structure LnAt (w:World) (p:Addr) (e:Ln):Prop where
 c0:w.cell? p=some (.string e.sku)
 c1:w.cell? (p.add 1)=some (.int .i64 e.qty)
 c2:w.cell? (p.add 2)=some (.int .i64 e.parts)
def LBox (w:World) (g:Nat) (T:TypeId) (e:Ln):Prop:=w.heap[g]? = some (.cells (LC e) T (0,0))
theorem LBox.at {w:World} {g:Nat} {T:TypeId} {e:Ln} (h:LBox w g T e):LnAt w ⟨g,0,none⟩ e:=by
 unfold LBox at h;refine ⟨?_,?_,?_⟩ <;> simp [Addr.add,World.cell?,h,LC]
def LSrc (w:World) (ao:Option Addr) (m c:Nat) (L:List Ln):Prop:=
 L.length=m/\(ao=none -> m=0/\c=0)/\(∀ ad,ao=some ad -> ∀ t,t < m -> LnAt w (ad.add (t * 3)) (L.getD t ln0))/\(∀ e∈L,e.sku.size <= maxLen)/\m <= 3518437208883
theorem LSrc.at {w:World} {ao:Option Addr} {m c:Nat} {L:List Ln} (h:LSrc w ao m c L) (k:Nat) (hk:k < m):∃ ad,ao=some ad/\LnAt w (ad.add (k * 3)) (L.getD k ln0):=by
 cases ao with
 | none=>have:=h.2.1 rfl;omega
 | some ad=>exact ⟨ad,rfl,h.2.2.1 ad rfl k hk⟩
theorem LSrc.none (w:World):LSrc w none 0 0 []:=⟨rfl,fun _=>⟨rfl,rfl⟩,(fun ad h=>by cases h),(fun e he=>by cases he),by omega⟩
def lcs (L:List Ln):List Value:=(L.map (fun e=>(LC e).toList)).flatten
end
section
open Go.RowKit Go.Maps
attribute [local go_sem] zero_LC cells_LV LC_size
theorem set_LC (t:ByteArray) (a b:Int):((((LC ln0).setIfInBounds 0 (.string t)).setIfInBounds 1 (.int .i64 a)).setIfInBounds 2 (.int .i64 b))=LC ⟨t,a,b⟩:=rfl
def RL (v:Value):Option (DataW Ln × List MemPlace):=
 match v with
 | .agg cs=>(match cs.toList with
  | [.string s,.int .i64 q,.int .i64 p]=>some (.held ⟨s,q,p⟩,[])
  | _=>none)
 | _=>none
attribute [local go_sem] set_LC
end
section
open Go.RowKit
attribute [local go_sem ↓] ld28_eq st28_eq
attribute [local go_sem] zero_EC cells_EV EC_size zero_LC cells_LV LC_size
def ttl:List En -> Int
 | []=>0
 | e :: r=>e.qty+ttl r
def totV (L:List En):Int:=if chk L=0 then ttl L else 0
def lnV (L:List En) (s:ByteArray):Ln:=if ofE L s=0 then lineOf L s else ln0
end
end Go.Proofs.YthlbpeoiocdjlaaGreat.K
namespace Go.Proofs.YthlbpeoiocdjlaaGreat
open Go.RowKit
attribute [local go_sem ↓] ldP_eq stP_eq ldD_eq stD_eq K.ld28_eq K.st28_eq
attribute [local go_sem] cells_PV PC_size
def dsB (s:ByteArray) (r:Int) (e:K.En):Bool:=(decide (s.size=0) || (e.sku.toList == s.toList)) && (decide (r < 0) || (e.rep == r))
def smB (s:ByteArray) (r:Int) (e:K.En):Bool:=(e.sku.toList == s.toList) && (decide (r < 0) || (e.rep == r))
end Go.Proofs.YthlbpeoiocdjlaaGreat
namespace Go.Proofs.YthlbpeoiocdjlaaGreat.K
open Go.RowKit
attribute [local go_sem ↓] ld28_eq st28_eq ld26_eq
attribute [local go_sem] zero_EC cells_EV
def isD (x:En):Bool:=(isR x.rep && decide (1 <= x.num)) && decide (x.num <= 1000000000)
theorem ret_b {a b:Bool} (h:a=b):Ending.returned (.bool b) = .returned (.bool a):=by rw [h]
theorem refIsDot_any (x:En) (w:World):Calls Tryz.prog 49 #[.agg (DC x)] w fun e w'=>e = .returned (.bool (isD x))/\Below w.heap.size w w':=by
 have HB:=hide (below_new w (.cells #[.int .i64 x.rep,.int .i64 x.num] 55));unfold DC;obtain ⟨r,m,s,q⟩:=x;by_cases h1:0 <= r
 ·by_cases h2:r < 16
  ·by_cases h3:1 <= m
   ·have HF:Hid (isD ⟨r,m,s,q⟩=decide (m <= 1000000000)):=by show _=_;unfold isD isR;simp [h1,h2,h3]
    go_enter Tryz.func49,Tryz.ntmps49;go_wp2;go_ret;exact ⟨ret_b HF.out,HB.out⟩
   ·have HF:Hid (isD ⟨r,m,s,q⟩=false):=by show _=_;unfold isD isR;simp [h3]
    go_enter Tryz.func49,Tryz.ntmps49;go_wp2;go_ret;exact ⟨ret_b HF.out,HB.out⟩
  ·have HF:Hid (isD ⟨r,m,s,q⟩=false):=by show _=_;unfold isD isR;simp [h2]
   go_enter Tryz.func49,Tryz.ntmps49;go_wp2;go_ret;exact ⟨ret_b HF.out,HB.out⟩
 ·have HF:Hid (isD ⟨r,m,s,q⟩=false):=by show _=_;unfold isD isR;simp [h1]
  go_enter Tryz.func49,Tryz.ntmps49;go_wp2;go_ret;exact ⟨ret_b HF.out,HB.out⟩
theorem ceE_zero (e:En):(ceE e == 0)=(((isD e && good e.sku.data.toList) && decide (1 <= e.qty)) && decide (e.qty <= 1000000)):=by
 unfold ceE isD;by_cases h1:isR e.rep=false
 ·rw [if_pos h1,h1];simp
 ·have h1':isR e.rep=true:=by simpa using h1
  rw [if_neg h1,h1'];by_cases h2:e.num < 1∨1000000000 < e.num
  ·rw [if_pos h2];rcases h2 with h2 | h2
   ·simp [show ¬ 1 <= e.num by omega]
   ·simp [show ¬ e.num <= 1000000000 by omega]
  ·rw [if_neg h2];simp only [show decide (1 <= e.num)=true from decide_eq_true (by omega),show decide (e.num <= 1000000000)=true from decide_eq_true (by omega),Bool.and_true,Bool.true_and];by_cases h3:good e.sku.data.toList=false
   ·rw [if_pos h3,h3];simp
   ·have h3':good e.sku.data.toList=true:=by simpa using h3
    rw [if_neg h3,h3'];by_cases h4:e.qty < 1∨1000000 < e.qty
    ·rw [if_pos h4];rcases h4 with h4 | h4
     ·simp [show ¬ 1 <= e.qty by omega]
     ·simp [show ¬ e.qty <= 1000000 by omega]
    ·rw [if_neg h4];simp [show 1 <= e.qty by omega,show e.qty <= 1000000 by omega]
end Go.Proofs.YthlbpeoiocdjlaaGreat.K
namespace Go.Proofs.YthlbpeoiocdjlaaGreat
section
open Go.RowKit
attribute [local go_sem ↓] ldP_eq stP_eq ldFa_eq stFa_eq ldD_eq stD_eq
attribute [local go_sem] cells_PV PC_size cells_FaV FaC_size cells_RV RC_size zero_RC fold_RC
end
section
open Go.RowKit
attribute [local go_sem ↓] ldP_eq stP_eq ldFa_eq stFa_eq ldD_eq stD_eq
attribute [local go_sem] cells_PV PC_size cells_FaV FaC_size cells_RV RC_size zero_RC fold_RC
end
section
open Go.RowKit
attribute [local go_sem ↓] ldP_eq stP_eq ldFa_eq stFa_eq ldD_eq stD_eq
attribute [local go_sem] cells_PV PC_size cells_FaV FaC_size cells_RV RC_size zero_RC fold_RC
end
section
open Go.RowKit
attribute [local go_sem ↓] ldP_eq stP_eq ldJ_eq stJ_eq
attribute [local go_sem] zeros_JA cells_JAv zero_PC cells_PV fold_PC PC_size fold_PC1
end
section
open Go.RowKit
attribute [local go_sem ↓] ldP_eq stP_eq ldD_eq stD_eq
attribute [local go_sem] zero_PC cells_PV fold_PC PC_size cells_RV RC_size zero_RC fold_RC
theorem build_D (x y:Int):((RC rn0).setIfInBounds 0 (.int .i64 x)).setIfInBounds 1 (.int .i64 y)=RC ⟨x,y⟩:=rfl
attribute [local go_sem] build_D
def NxtOf (P:Pst) (r lim:Int) (d:Rn) (x:Int):Prop:=(V.isR r=false/\d=rn0/\x=3)∨(V.isR r=true/\∃ k,LastOf P r k/\((min lim 1000000000 <= k/\d=rn0/\x=9)∨(k < min lim 1000000000/\d=⟨r,k+1⟩/\x=0)))
def GivN (w w':World) (e:Ending) (P:Pst) (r lim:Int):Prop:=∃ d x,e = .returned (.tuple #[RV d,.int .i64 x])/\NxtOf P r lim d x/\Below w.heap.size w w'
end
section
open Go.RowKit
attribute [local go_sem ↓] ldP_eq stP_eq ldFa_eq stFa_eq ldD_eq stD_eq
attribute [local go_sem] cells_PV PC_size cells_FaV FaC_size cells_RV RC_size zero_RC fold_RC
end
section
open Go.RowKit
def HeardOf (f:Fc) (P:Pst):Prop:=InForm P/\∀ r,r < 16 -> ∀ n,mem (runsAt P r) n↔mem (dotsG (f.es.map dotOf) r) n∨mem (runsAt f.p.P r) n
theorem HeardOf.one {f:Fc} {P Q:Pst} (h:HeardOf f P) (k:HeardOf f Q):P=Q:=
 (canon_iff.2 h.1).unique (canon_iff.2 k.1) fun r hr n=>(h.2 r hr n).trans (k.2 r hr n).symm
def StOf (f s:Fc):Prop:=s.es=f.es/\HeardOf f s.p.P/\WtOf f.rs s.p.P s.rs
def EvS (f s:Fc) (er:Int):Prop:=(EvOf f er/\er≠0/\s=fz0)∨(EvOf f 0/\er=0/\StOf f s)
attribute [local go_sem ↓] ldP_eq stP_eq ldFa_eq stFa_eq ldSw_eq stSw_eq bldS_eq bsPs_eq
attribute [local go_sem] cells_PV PC_size cells_FaV FaC_size zero_FaZ run_bsPs run_bldS run_bldS0 zero_PC
end
end Go.Proofs.YthlbpeoiocdjlaaGreat
