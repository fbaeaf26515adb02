/- YDp YDg YDq YDr -/
import Derived.Test.YtjeilkenjdnafaaGreatTk
import Derived.Test.YtjeilkenjdnafaaGreatDr43
import Derived.Test.YtjeilkenjdnafaaGreatDr39
set_option maxRecDepth 100000
set_option maxHeartbeats 6400000
namespace Go.Proofs.YtjeilkenjdnafaaGreat
section
open Go.RowKit
theorem srt_of {f:Fc} (hr:f.rs.length=f.rn) (ff:FormF f):(∀ r∈f.rs,RecOk r)/\Srt ck (plR f.rs):=okR_iff.1 (by rw [hr];exact ff.2.2)
theorem st_b {N:Nat} {w w':World} {f s:Fc} (hB:SwB N w f) (hS:FcOk w' s) (hr:FcR s) (h:StD f s):SwB N w' s:=by
 refine ⟨hS,hr,?_,?_,wt_clF h.2.2 hB.cl⟩
 ·have h1:=congrArg List.length h.2.2.2;have h2:=List.length_filter_le (waitB s.p.P) (plR f.rs);rw [plR_len] at h1;rw [plR_len] at h2;have h3:=hS.rs.len;have h4:=hB.ok.rs.len;have h5:=hB.rn;omega
 ·have h1:s.es.length <= f.es.length:=by rw [h.1];exact List.length_filter_le _ _
  have h3:=hS.es.1;have h4:=hB.ok.es.1;have h5:=hB.an;omega
theorem lf_form {w:World} {f l:Fc} {d:Dg} (hL:FcOk w l) (hl:f.es.length=f.an) (hr:f.rs.length=f.rn) (ff:FormF f) (h:LfD f d l):FormF l:=by
 obtain ⟨h1,H,-,h3,-,h5⟩:=h;have hs:=srt_of hr ff;refine ⟨(chk_okS hL.es.1).1 ?_,h3,?_⟩
 ·rw [h1];unfold liveF;exact chk_filter (chk_filter ((chk_okS hl).2 ff.1) _) _
 ·rw [<- hL.rs.len];refine okR_iff.2 ⟨h5.1,?_⟩;rw [h5.2];exact List.Pairwise.filter _ hs.2
attribute [local go_sem ↓] ldFa_eq stFa_eq ldSw_eq stSw_eq ldDi_eq stDi_eq
attribute [local go_sem] cells_FaV FaC_size zero_FaZ cells_DiV DiC_size
end
section
open Go.RowKit
def CoR (f s:Fc) (er:Int):Prop:=(¬ FormF f/\er=1/\s=fz0)∨(FormF f/\er=0/\StD f s)
def CoE (N:Nat) (w w':World) (x:Ending) (f:Fc):Prop:=∃ s er,x = .returned (.tuple #[FaV (mkF s),.int .i64 er])/\SwB N w' s/\Below w.heap.size w w'/\CoR f s er
theorem boxFS (w:World) (f:Fc):∃ wk,(w.alloc (.cells (FaC (mkF f)) 29)).alloc (.cells (FaC (mkF fz0)) 31)=wk/\Hid (FaBox wk w.heap.size (mkF f))/\Hid (SwBox wk (w.heap.size+1) (mkF fz0))/\Hid (Below w.heap.size w wk):=by
 have b1:=below_new w (.cells (FaC (mkF f)) 29);have b2:=below_new (w.alloc (.cells (FaC (mkF f)) 29)) (.cells (FaC (mkF fz0)) 31);have X2:=SwBox_new (w.alloc (.cells (FaC (mkF f)) 29)) (mkF fz0);rw [World.size_alloc] at X2;exact ⟨_,rfl,(FaBox_new w (mkF f)).below b2,X2,b1.trans (b2.mono b1.size)⟩
attribute [local go_sem ↓] ldP_eq stP_eq ldFa_eq stFa_eq ldSw_eq stSw_eq bldS_eq
attribute [local go_sem] cells_PV PC_size zero_PC cells_FaV FaC_size zero_FaZ run_bldS0 run_bldS
theorem cmpct_any (N:Nat) (hN:N <= 4) (f:Fc) (w:World) (hS:SwB N w f):Calls Tryz.prog 33 #[FaV (mkF f)] w fun e w'=>CoE N w w' e f:=by
 obtain ⟨wk,hwk,HX,HZ,HBK⟩:=boxFS w f;obtain ⟨G,hG0⟩:∃ G,w.heap.size=G:=⟨_,rfl⟩;rw [hG0] at HX HZ;have HGs:Hid (w.heap.size=G):=hG0;have HS:=hide (hS.below HBK.out);have HU:=hide ((hS.below HBK.out).u hN);clear hS;have l0:=run_ldFa HX.out;go_enter Tryz.func33,Tryz.ntmps33;go_wp2_with fail;clear hwk hG0 l0;refine (tPast_any f _ HU.out.ok).mono ?_;rintro e v3 ⟨p,er,rfl,Sp,-,b3,hp⟩;obtain ⟨g4,hg4⟩:∃ g,v3.heap.size=g:=⟨_,rfl⟩;obtain ⟨w3,hst,X3,B3,-⟩:=madeP v3 p g4 hg4;have b33:=b3.trans (B3.mono b3.size);have HB3:=hide b33;have HXp:=hide X3;have HSp:=hide (Sp.below B3);have HP:=hide (ps_heard hp);have A3:=HZ.out.below b33;clear Sp b3 hp X3 B3 b33;rcases HP.out with ⟨h1,rfl,-⟩ | ⟨h1,rfl,h2⟩
 ·have st:=run_stSw (m':=mkF fz0) A3;have HE1:Hid (SwBox (w3.setRow (G+1) (FaC (mkF fz0))) (G+1) (mkF fz0)):=A3.setRow;have HE:Hid (CoE N w (w3.setRow (G+1) (FaC (mkF fz0))) (.returned (.tuple #[FaV (mkF fz0),.int .i64 1])) f):=⟨fz0,1,rfl,fz0_b N _,below_setRow (HBK.out.trans (HB3.out.mono HBK.out.size)) (by rw [HGs.out];omega),.inl ⟨h1,rfl,rfl⟩⟩;clear h1 A3 HP;go_wp2_with fail;clear st hst hg4;refine bodyPost_ret (res2Sw rfl rfl rfl HE1.out) rfl ?_;exact HE.out
 have HFs:=hide h1;have HH:=hide h2;have HZ3:=hide A3;have l0:=run_ldFa (HX.out.below HB3.out);clear h1 h2 A3 HP;go_wp2_with fail;clear l0 hst hg4;refine (tLive_any f _ (HU.out.ok.below HB3.out) HU.out.wt HU.out.nm).mono ?_;rintro e w5 hL;obtain ⟨lo,ln,lc,rfl,SL,b5,-⟩:K.GivesEE w3 w5 e (liveF f) 0:=hL.elim (fun h=>by have:=h.2;rwa [live_L] at this) fun h=>absurd HFs.out h.1;have HB5:=wTr HB3 b5;have HSL:=hide SL;have HXp5:=hide (HXp.out.below b5);have HSp5:=hide (HSp.out.below b5);have c3:=(HX.out.below HB5.out).cs.2
 have lp:=run_ldP HXp5.out.at
 clear hL SL b5 HXp HSp;go_wp2_with fail;clear c3 lp;refine (keepWaits_any f.ro f.rn f.rc f.rs p _ ((HS.out.ok.row HS.out.row).below HB5.out) HSp5.out (by have:=HU.out.rn;omega)).mono ?_;rintro e w7 (⟨-,-,⟨fo,fn,fc⟩,F,rfl,GF,nF,WF⟩ | ⟨hno,-,-⟩);rotate_left
 ·exact absurd ⟨HFs.out.2.2,HH.out.1⟩ hno
 rw [show HsV ⟨fo,fn,fc⟩=Value.slice fo fn fc from rfl];have HB7:=wTr HB5 GF.below;have HXp7:=hide (HXp5.out.below GF.below);have A9:=HZ.out.below HB7.out;have st:=run_stSw (m':=mkF ⟨lo,ln,lc,liveF f,p,fo,fn,fc,F⟩) A9;have HE1:Hid (SwBox (w7.setRow (G+1) (FaC (mkF ⟨lo,ln,lc,liveF f,p,fo,fn,fc,F⟩))) (G+1) (mkF ⟨lo,ln,lc,liveF f,p,fo,fn,fc,F⟩)):=A9.setRow;have hok:FcOk (w7.setRow (G+1) (FaC (mkF ⟨lo,ln,lc,liveF f,p,fo,fn,fc,F⟩))) ⟨lo,ln,lc,liveF f,p,fo,fn,fc,F⟩:=FcOk.offW (f:=⟨lo,ln,lc,liveF f,p,fo,fn,fc,F⟩) ⟨HSL.out.below GF.below,HSp5.out.below GF.below,GF.src⟩ A9 _;have hsd:StD f ⟨lo,ln,lc,liveF f,p,fo,fn,fc,F⟩:=⟨rfl,HH.out,WF⟩
 have HE:Hid (CoE N w (w7.setRow (G+1) (FaC (mkF ⟨lo,ln,lc,liveF f,p,fo,fn,fc,F⟩))) (.returned (.tuple #[FaV (mkF ⟨lo,ln,lc,liveF f,p,fo,fn,fc,F⟩),.int .i64 0])) f):=
  ⟨⟨lo,ln,lc,liveF f,p,fo,fn,fc,F⟩,0,rfl,st_b HS.out hok ⟨GF.room,GF.nil⟩ hsd,below_setRow (HBK.out.trans (HB7.out.mono HBK.out.size)) (by rw [HGs.out];omega),.inr ⟨HFs.out,rfl,hsd⟩⟩
 have st2:(stSw (.pointer (some ⟨G+1,0,none⟩)) (.agg (FaC (mkF ⟨lo,ln,lc,[],p,fo,fn,fc,[]⟩)))).run Tryz.prog w7 = .ok () (w7.setRow (G+1) (FaC (mkF ⟨lo,ln,lc,liveF f,p,fo,fn,fc,F⟩))):=st
 have lq:=run_ldP HXp7.out.at
 clear A9 st hok hsd GF nF WF;go_wp2_with fail;clear st2 lq;refine bodyPost_ret (res2Sw rfl rfl rfl HE1.out) rfl ?_;exact HE.out
end
section
open Go.RowKit
structure Fp where
 E:K.En -> Prop
 G:K.En -> Prop
 R:Rp -> Prop
def fp (f:Fc):Fp:=⟨fun e=>e∈f.es,fun e=>inB f.p.P e=true,fun q=>q∈plR f.rs⟩
def un (x y:Fp):Fp:=⟨fun e=>x.E e∨y.E e,fun e=>x.G e∨y.G e,fun q=>x.R q∨y.R q⟩
def hr (x:Fp) (e:K.En):Prop:=(okD (dotOf e)=true/\∃ z,x.E z/\dotOf z=dotOf e)∨x.G e
def lv (x:Fp) (e:K.En):Prop:=x.E e/\¬ x.G e/\∀ q,x.R q -> covA q e=false
def wts (x:Fp) (q:Rp):Prop:=x.R q/\¬ ∀ e,inB q.2 e=true -> hr x e
def lvd (x:Fp) (e:K.En):Prop:=∃ z,lv x z/\dotOf z=dotOf e
def lk (x y:Fp):Fp:=⟨fun e=>lv y e/\¬ hr x e,fun e=>(hr y e/\¬ lvd y e)/\¬ (hr x e/\¬ lvd x e),wts y⟩
structure Sm (x y:Fp):Prop where
 h:∀ e,hr x e↔hr y e
 l:∀ e,lv x e↔lv y e
 w:∀ q,wts x q↔wts y q
structure Ok (x:Fp):Prop where
 d:∀ e,x.E e -> okD (dotOf e)=true
 g:∀ a b,dotOf a=dotOf b -> x.G a -> x.G b
def Nc (x y:Fp):Prop:=∀ a b,(x.E a∨y.E a) -> (x.E b∨y.E b) -> dotOf a=dotOf b -> a=b
theorem hr_dot {x:Fp} (hx:Ok x) {a b:K.En} (h:dotOf a=dotOf b) (k:hr x a):hr x b:=by
 rcases k with ⟨k1,z,k2,k3⟩ | k
 ·exact .inl ⟨h ▸ k1,z,k2,k3.trans h⟩
 ·exact .inr (hx.g a b h k)
theorem lv_hr {x:Fp} (hx:Ok x) {e:K.En} (h:lv x e):hr x e:=.inl ⟨hx.d e h.1,e,h.1,rfl⟩
theorem hr_un {x y:Fp} (e:K.En):hr (un x y) e↔hr x e∨hr y e:=by
 constructor
 ·rintro (⟨h1,z,h2 | h2,h3⟩ | h | h)
  ·exact .inl (.inl ⟨h1,z,h2,h3⟩)
  ·exact .inr (.inl ⟨h1,z,h2,h3⟩)
  ·exact .inl (.inr h)
  ·exact .inr (.inr h)
 ·rintro ((⟨h1,z,h2,h3⟩ | h) | (⟨h1,z,h2,h3⟩ | h))
  ·exact .inl ⟨h1,z,.inl h2,h3⟩
  ·exact .inr (.inl h)
  ·exact .inl ⟨h1,z,.inr h2,h3⟩
  ·exact .inr (.inr h)
theorem lk_hr {x y:Fp} (hy:Ok y) {e:K.En} (h:hr (lk x y) e):hr y e:=by
 rcases h with ⟨-,z,h2,h3⟩ | h
 ·exact hr_dot hy h3 (lv_hr hy h2.1)
 ·exact h.1.1
theorem hr_lk {x y:Fp} (hx:Ok x) (hy:Ok y) {e:K.En} (h:hr y e):hr x e∨hr (lk x y) e:=by
 by_cases k:hr x e
 ·exact .inl k
 ·refine .inr ?_;by_cases q:lvd y e
  ·obtain ⟨z,hz,hd⟩:=q;exact .inl ⟨hd ▸ hy.d z hz.1,z,⟨hz,fun q=>k (hr_dot hx hd q)⟩,hd⟩
  ·exact .inr ⟨⟨h,q⟩,fun q=>k q.1⟩
theorem heard_heals {x y:Fp} (hx:Ok x) (hy:Ok y) (e:K.En):hr (un x (lk x y)) e↔hr (un x y) e:=by
 rw [hr_un,hr_un];exact ⟨fun h=>h.elim .inl fun k=>.inr (lk_hr hy k),fun h=>h.elim .inl fun k=>hr_lk hx hy k⟩
theorem lv_notgone {x y:Fp} (_:Ok x) (_:Ok y) (hn:Nc x y) {e:K.En} (h:lv (un x y) e):¬ (lk x y).G e:=by
 rintro ⟨⟨k1,k2⟩,k3⟩;obtain ⟨h1,h2,h3⟩:=h;have gx:¬ x.G e:=fun q=>h2 (.inl q);have gy:¬ y.G e:=fun q=>h2 (.inr q);have fx:∀ q,x.R q -> covA q e=false:=fun q hq=>h3 q (.inl hq);have fy:∀ q,y.R q -> covA q e=false:=fun q hq=>h3 q (.inr hq);have iny:¬ y.E e:=fun q=>k2 ⟨e,⟨q,gy,fy⟩,rfl⟩;rcases k1 with ⟨-,z,hz,hd⟩ | k1
 ·have:z=e:=hn z e (.inr hz) h1 hd;exact iny (this ▸ hz)
 ·exact gy k1
theorem live_heals {x y:Fp} (hx:Ok x) (hy:Ok y) (hn:Nc x y) (e:K.En):lv (un x (lk x y)) e↔lv (un x y) e:=by
 constructor
 ·rintro ⟨h1,h2,h3⟩;have gx:¬ x.G e:=fun q=>h2 (.inl q);have gl:¬ (lk x y).G e:=fun q=>h2 (.inr q);have fx:∀ q,x.R q -> covA q e=false:=fun q hq=>h3 q (.inl hq);rcases h1 with h1 | h1
  ·have lx:lv x e:=⟨h1,gx,fx⟩;have hlx:lvd x e:=⟨e,lx,rfl⟩;have nh:hr y e -> lvd y e:=fun q=>Classical.byContradiction fun k=>gl ⟨⟨q,k⟩,fun r=>r.2 hlx⟩
   have gy:¬ y.G e:=fun q=>by
    obtain ⟨z,hz,hd⟩:=nh (.inr q);exact hz.2.1 (hy.g e z hd.symm q)
   refine ⟨.inl h1,fun q=>q.elim gx gy,fun q hq=>hq.elim (fx q) fun hq=>?_⟩;rw [Bool.eq_false_iff];intro hc;by_cases hw:∀ a,inB q.2 a=true -> hr y a
   ·obtain ⟨z,hz,hd⟩:=nh (hw e (cov_in hc));obtain rfl:z=e:=hn z e (.inr hz.1) (.inl h1) hd;rw [hz.2.2 q hq] at hc;cases hc
   ·rw [h3 q (.inr ⟨hq,hw⟩)] at hc;cases hc
  ·obtain ⟨⟨k1,k2,k3⟩,k4⟩:=h1;exact ⟨.inr k1,fun q=>q.elim gx k2,fun q hq=>hq.elim (fx q) (k3 q)⟩
 ·intro h;have ng:=lv_notgone hx hy hn h;obtain ⟨h1,h2,h3⟩:=h;have gx:¬ x.G e:=fun q=>h2 (.inl q);have gy:¬ y.G e:=fun q=>h2 (.inr q);have fy:∀ q,y.R q -> covA q e=false:=fun q hq=>h3 q (.inr hq);refine ⟨?_,fun q=>q.elim gx ng,fun q hq=>hq.elim (fun k=>h3 q (.inl k)) fun k=>h3 q (.inr k.1)⟩;rcases h1 with h1 | h1
  ·exact .inl h1
  ·by_cases k:hr x e
   ·rcases k with ⟨-,z,hz,hd⟩ | k
    ·left;rw [<- hn z e (.inl hz) (.inr h1) hd];exact hz
    ·exact absurd k gx
   ·exact .inr ⟨⟨h1,gy,fy⟩,k⟩
theorem waits_heals {x y:Fp} (hx:Ok x) (hy:Ok y) (q:Rp):wts (un x (lk x y)) q↔wts (un x y) q:=by
 unfold wts;rw [show (∀ e,inB q.2 e=true -> hr (un x (lk x y)) e)↔(∀ e,inB q.2 e=true -> hr (un x y) e) from forall_congr' fun e=>imp_congr_right fun _=>heard_heals hx hy e];constructor
 ·rintro ⟨h1 | h1,h2⟩
  ·exact ⟨.inl h1,h2⟩
  ·exact ⟨.inr h1.1,h2⟩
 ·rintro ⟨h1 | h1,h2⟩
  ·exact ⟨.inl h1,h2⟩
  ·exact ⟨.inr ⟨h1,fun k=>h2 fun e he=>(hr_un e).2 (.inr (k e he))⟩,h2⟩
theorem heals {x y:Fp} (hx:Ok x) (hy:Ok y) (hn:Nc x y):Sm (un x (lk x y)) (un x y):=⟨heard_heals hx hy,live_heals hx hy hn,waits_heals hx hy⟩
theorem lk_ok {x y:Fp} (hx:Ok x) (hy:Ok y):Ok (lk x y):=by
 refine ⟨fun e h=>hy.d e h.1.1,fun a b hd h=>?_⟩;have sw:∀ {z:Fp},lvd z b -> lvd z a:=fun ⟨z,h1,h2⟩=>⟨z,h1,h2.trans hd.symm⟩;exact ⟨⟨hr_dot hy hd h.1.1,fun k=>h.1.2 (sw k)⟩,fun k=>h.2 ⟨hr_dot hx hd.symm k.1,fun q=>k.2 (let ⟨z,h1,h2⟩:=q;⟨z,h1,h2.trans hd⟩)⟩⟩
theorem un_ok {x y:Fp} (hx:Ok x) (hy:Ok y):Ok (un x y):=⟨fun e h=>h.elim (hx.d e) (hy.d e),fun a b hd h=>h.imp (hx.g a b hd) (hy.g a b hd)⟩
theorem again {x y:Fp} (hx:Ok x) (hy:Ok y) (hn:Nc x y):Sm (un y (un x (lk x y))) (un x y):=by
 have hh:∀ e,hr (un y (un x (lk x y))) e↔hr (un x y) e:=fun e=>by
  rw [hr_un,hr_un,hr_un];constructor
  ·rintro (k | k | k)
   ·exact .inr k
   ·exact .inl k
   ·exact .inr (lk_hr hy k)
  ·rintro (k | k)
   ·exact .inr (.inl k)
   ·exact .inl k
 refine ⟨hh,fun e=>⟨?_,fun h=>?_⟩,fun q=>?_⟩
 ·rintro ⟨h1,h2,h3⟩;refine ⟨?_,fun k=>h2 (k.elim (fun k=>.inr (.inl k)) .inl),fun q hq=>h3 q (hq.elim (fun k=>.inr (.inl k)) .inl)⟩;rcases h1 with h1 | h1 | h1
  ·exact .inr h1
  ·exact .inl h1
  ·exact .inr h1.1.1
 ·have ng:=lv_notgone hx hy hn h;obtain ⟨h1,h2,h3⟩:=h;refine ⟨h1.elim (fun k=>.inr (.inl k)) .inl,?_,?_⟩
  ·rintro (k | k | k)
   ·exact h2 (.inr k)
   ·exact h2 (.inl k)
   ·exact ng k
  ·rintro q (k | k | k)
   ·exact h3 q (.inr k)
   ·exact h3 q (.inl k)
   ·exact h3 q (.inr k.1)
 ·unfold wts;rw [show (∀ e,inB q.2 e=true -> hr (un y (un x (lk x y))) e)↔(∀ e,inB q.2 e=true -> hr (un x y) e) from forall_congr' fun e=>imp_congr_right fun _=>hh e];constructor
  ·rintro ⟨h1 | h1 | h1,h2⟩
   ·exact ⟨.inr h1,h2⟩
   ·exact ⟨.inl h1,h2⟩
   ·exact ⟨.inr h1.1,h2⟩
  ·rintro ⟨h1 | h1,h2⟩
   ·exact ⟨.inr (.inl h1),h2⟩
   ·exact ⟨.inl h1,h2⟩
theorem Sm.trans {x y z:Fp} (h:Sm x y) (k:Sm y z):Sm x z:=⟨fun e=>(h.h e).trans (k.h e),fun e=>(h.l e).trans (k.l e),fun q=>(h.w q).trans (k.w q)⟩
theorem st_same {f g s t:Fc} (hF:f.es.length=f.an) (hFr:f.rs.length=f.rn) (hG:g.es.length=g.an) (hGr:g.rs.length=g.rn) (ff:FormF f) (fg:FormF g) (hs:StD f s) (ht:StD g t) (h:Sm (fp f) (fp g)):EqS s t:=by
 have lve:∀ {f s:Fc},StD f s -> ∀ e,e∈s.es↔lv (fp f) e:=fun {f s} hs e=>by
  rw [hs.1,List.mem_filter];unfold lvB;rw [Bool.and_eq_true,Bool.not_eq_true',free_ab];exact and_congr_right fun _=>and_congr Bool.eq_false_iff Iff.rfl
 have hre:∀ {f s:Fc},StD f s -> ∀ e,inB s.p.P e=true↔hr (fp f) e:=fun {f s} hs e=>heard_inB hs.2.1 e
 have wte:∀ {f s:Fc},StD f s -> ∀ q,q∈plR s.rs↔wts (fp f) q:=fun {f s} hs q=>by
  rw [hs.2.2.2,List.mem_filter];refine and_congr_right fun _=>⟨fun k c=>?_,fun k=>waitB_yes fun c=>k fun e he=>(hre hs e).1 (wi_inB.1 c e he)⟩;rw [waitB_no (wi_inB.2 fun e he=>(hre hs e).2 (c e he))] at k
  cases k
 refine ⟨K.asc_unique ?_ ?_ fun e=>((lve hs e).trans (h.l e)).trans (lve ht e).symm,pst_ext hs.2.1.1 ht.2.1.1 fun e=>((hre hs e).trans (h.h e)).trans (hre ht e).symm,Srt.uniq ck_tot ?_ ?_ fun q=>((wte hs q).trans (h.w q)).trans (wte ht q).symm⟩
 ·rw [hs.1];exact List.Pairwise.filter _ (K.chk_asc' ((chk_okS hF).2 ff.1))
 ·rw [ht.1];exact List.Pairwise.filter _ (K.chk_asc' ((chk_okS hG).2 fg.1))
 ·rw [hs.2.2.2];exact List.Pairwise.filter _ (srt_of hFr ff).2
 ·rw [ht.2.2.2];exact List.Pairwise.filter _ (srt_of hGr fg).2
end
section
open Go.RowKit
theorem esrc_offDi {W:World} {g:Nat} {m:DigV} {ao:Option Addr} {n cap:Nat} {L:List K.En} (A:DiBox W g m) (h:K.ESrc W ao n cap L) (c:Array Value):K.ESrc (W.setRow g c) ao n cap L:=by
 refine ⟨h.1,h.2.1,fun ad e t ht=>?_,h.2.2.2⟩;have B:=h.2.2.1 ad e t ht;have hb:(ad.add (t * 4)).block≠g:=A.ne B.c0 (fun _ _ _ h=>by cases h);exact ⟨by rw [cell_off c hb];exact B.c0,by rw [cell_off c (by rw [block_add];exact hb)];exact B.c1,by rw [cell_off c (by rw [block_add];exact hb)];exact B.c2,by rw [cell_off c (by rw [block_add];exact hb)];exact B.c3⟩
theorem rcs_offDi {W:World} {g:Nat} {m:DigV} {ao:Option Addr} {n cap:Nat} {L:List Rc} (A:DiBox W g m) (h:RcS W ao n cap L) (c:Array Value):RcS (W.setRow g c) ao n cap L:=by
 refine ⟨h.len,h.nil,fun ad ha t ht=>?_,fun r hr=>⟨psrc_offD A (h.ok r hr).1 c,(h.ok r hr).2⟩,h.big⟩;have B:=h.at_ ad ha t ht;have hb:=A.ne B.c0 (fun _ _ _ h=>by cases h);exact ⟨by rw [cell_off c hb];exact B.c0,by rw [cell_off c (by rw [block_add];exact hb)];exact B.c1,by rw [cell_off c (by rw [block_add];exact hb)];exact B.c2⟩
theorem SwB.offDi {N:Nat} {W:World} {g:Nat} {m:DigV} {f:Fc} (h:SwB N W f) (A:DiBox W g m) (c:Array Value):SwB N (W.setRow g c) f:=⟨⟨esrc_offDi A h.ok.es c,psrc_offD A h.ok.p c,rcs_offDi A h.ok.rs c⟩,h.row,h.rn,h.an,h.cl⟩
theorem SwB.offFa {N:Nat} {W:World} {g:Nat} {m:FacV} {f:Fc} (h:SwB N W f) (A:FaBox W g m) (c:Array Value):SwB N (W.setRow g c) f:=⟨h.ok.offF A c,h.row,h.rn,h.an,h.cl⟩
theorem lenL {w:World} {f:Fc} (h:FcOk w f):f.es.length=f.an:=h.es.1
theorem chk_form {f:Fc} (hl:f.es.length=f.an) (h:FormF f):K.chk f.es=0:=(chk_okS hl).2 h.1
def JfD (f g h:Fc):Prop:=K.Asc h.es/\(∀ e,e∈h.es↔e∈f.es∨e∈g.es)/\CanonOf (runsOf [f.p,g.p]) h.p.P/\UnOf f.rs g.rs h.rs
def JfR (f g h:Fc) (er:Int):Prop:=(¬ (FormF f/\FormF g)/\er=1/\h=fz0)∨((FormF f/\FormF g)/\K.Clash (f.es++g.es)/\er=10/\h=fz0)∨((FormF f/\FormF g)/\¬ K.Clash (f.es++g.es)/\er=0/\JfD f g h)
def JfE (N:Nat) (w w':World) (x:Ending) (f g:Fc):Prop:=∃ h er,x = .returned (.tuple #[FaV (mkF h),.int .i64 er])/\SwB N w' h/\Below w.heap.size w w'/\JfR f g h er
theorem tjB_any (N M:Nat) (hNM:N+M <= 4) (f g:Fc) (w:World) (hF:SwB N w f) (hG:SwB M w g):Calls Tryz.prog 32 #[FaV (mkF f),FaV (mkF g)] w fun e w'=>JfE (N+M) w w' e f g:=by
 have hrn:f.rn+g.rn <= (N+M) * 209716:=by have h1:=hF.rn;have h2:=hG.rn;rw [Nat.add_mul];omega
 refine (tJoin_any f g w hF.ok hG.ok hF.row hG.row (by omega)).mono ?_;rintro e w' ⟨h,er,rfl,Fh,Rh,-,b,hj⟩;rcases hj with ⟨h1,rfl,rfl⟩ | ⟨h1,h2,R,e,hU,⟨h3,rfl,rfl⟩ | ⟨rfl,rfl,h4,h5,h6,h7⟩⟩
 ·exact ⟨fz0,1,rfl,fz0_b _ _,b,.inl ⟨h1,rfl,rfl⟩⟩
 ·refine ⟨fz0,_,rfl,fz0_b _ _,b,.inr (.inl ⟨⟨h1,h2⟩,?_⟩)⟩;rcases hU with ⟨k,-⟩ | ⟨-,⟨k,-,q⟩ | ⟨-,k,-⟩⟩
  ·exact absurd ⟨chk_form hF.ok.es.1 h1,chk_form hG.ok.es.1 h2⟩ k
  ·exact ⟨k,q,rfl⟩
  ·exact absurd k h3
 ·rcases hU with ⟨k,-⟩ | ⟨-,⟨-,-,q⟩ | ⟨k,-,q,r⟩⟩
  ·exact absurd ⟨chk_form hF.ok.es.1 h1,chk_form hG.ok.es.1 h2⟩ k
  ·cases q
  ·subst h4
   have hm:∀ e,e∈h.es↔e∈f.es∨e∈g.es:=fun e=>by rw [r e,List.mem_append]
   refine ⟨h,0,rfl,⟨Fh,Rh,Nat.le_trans h7 hrn,?_,un_cl h6 hF.cl hG.cl⟩,b,.inr (.inr ⟨⟨h1,h2⟩,k,rfl,q,hm,h5,h6⟩)⟩;have n1:h.es.Nodup:=q.imp (fun {a b} hab e=>by subst e;rw [K.ahead_irr] at hab;cases hab);have n2:=nodup_lenS (Y:=f.es++g.es) n1 (fun x hx=>List.mem_append.2 ((hm x).1 hx));rw [List.length_append,hF.ok.es.1,hG.ok.es.1,Fh.es.1] at n2;have n3:=hF.an;have n4:=hG.an;rw [Nat.add_mul];omega
theorem jf_form {w:World} {f g h:Fc} (hH:FcOk w h) (hf:f.es.length=f.an) (hg:g.es.length=g.an) (ff:FormF f) (fg:FormF g) (j:JfD f g h):FormF h:=by
 obtain ⟨u1,u2,u3,u4⟩:=j;refine ⟨(chk_okS hH.es.1).1 (K.chk_asc u1 fun e he=>?_),canon_iff.1 u3.canon,by rw [<- hH.rs.len];exact u4.ok⟩;rcases (u2 e).1 he with k | k
 ·exact chk_ce (chk_form hf ff) e k
 ·exact chk_ce (chk_form hg fg) e k
theorem fp_ext {x y:Fp} (h1:∀ e,x.E e↔y.E e) (h2:∀ e,x.G e↔y.G e) (h3:∀ q,x.R q↔y.R q):x=y:=by
 obtain ⟨a,b,c⟩:=x;obtain ⟨a',b',c'⟩:=y;obtain rfl:a=a':=funext fun e=>propext (h1 e);obtain rfl:b=b':=funext fun e=>propext (h2 e);obtain rfl:c=c':=funext fun e=>propext (h3 e);rfl
theorem fp_un {f g h:Fc} (j:JfD f g h):fp h=un (fp f) (fp g):=fp_ext j.2.1 (fun e=>canon_inB j.2.2.1 e) j.2.2.2.1.2
theorem lv_fp (f:Fc) (e:K.En):e∈liveF f↔lv (fp f) e:=by
 unfold liveF;rw [List.mem_filter];unfold lvB;rw [Bool.and_eq_true,Bool.not_eq_true',free_ab];exact and_congr_right fun _=>and_congr Bool.eq_false_iff Iff.rfl
theorem lvd_fp (f:Fc) (e:K.En):(∃ x∈liveF f,dotOf x=dotOf e)↔lvd (fp f) e:=exists_congr fun x=>and_congr_left fun _=>lv_fp f x
theorem fp_lk {o f l:Fc} {d:Dg} (hd:DoF o d) (hl:LfD f d l):fp l=lk (fp o) (fp f):=by
 obtain ⟨l1,H,l2,l3,l4,l5⟩:=hl;have hh:∀ e,inB d.h.P e=true↔hr (fp o) e:=fun e=>heard_inB hd.1 e;have hH:∀ e,inB H e=true↔hr (fp f) e:=fun e=>heard_inB l2 e;refine fp_ext (fun e=>?_) (fun e=>?_) fun q=>?_
 ·show e∈l.es↔lv (fp f) e/\¬ hr (fp o) e
  rw [l1,List.mem_filter,lv_fp];refine and_congr_right fun _=>?_;rw [<- hh e];unfold pkB
  cases inB d.h.P e <;> simp
 ·show inB l.p.P e=true↔(hr (fp f) e/\¬ lvd (fp f) e)/\¬ (hr (fp o) e/\¬ lvd (fp o) e)
  rw [l4 e];unfold goneE;rw [hH e,lvd_fp];refine and_congr_right fun _=>not_congr ?_;rw [<- hh e];refine and_congr_right fun k=>not_congr ?_;rw [ds_inB hd.2 e,lvd_fp];exact ⟨fun q=>q.2,fun q=>⟨inB_okDS k,q⟩⟩
 ·show q∈plR l.rs↔wts (fp f) q
  rw [l5.2,List.mem_filter];refine and_congr_right fun _=>⟨fun k c=>?_,fun k=>waitB_yes fun c=>k fun e he=>(hH e).1 (wi_inB.1 c e he)⟩;rw [waitB_no (wi_inB.2 fun e he=>(hH e).2 (c e he))] at k
  cases k
theorem fp_ok {f:Fc} (hc:K.chk f.es=0):Ok (fp f):=⟨fun e he=>ce_dot (chk_ce hc e he),fun a b hd h=>by
 show inB f.p.P b=true
 rw [<- dot_inB hd];exact h⟩
theorem fp_nc {o f:Fc} (hn:¬ K.Clash (o.es++f.es)):Nc (fp o) (fp f):=fun a b ha hb hd=>Classical.byContradiction fun hne=>hn ⟨a,List.mem_append.2 ha,b,List.mem_append.2 hb,dot_sd hd,hne⟩
theorem lf_sub {f l:Fc} {d:Dg} (h:LfD f d l) {e:K.En} (he:e∈l.es):e∈f.es:=by
 rw [h.1,List.mem_filter] at he;have:=he.1;unfold liveF at this;exact (List.mem_filter.1 this).1
theorem lf_noc {o f l:Fc} {d:Dg} (h:LfD f d l) (hc:¬ K.Clash (o.es++f.es)):¬ K.Clash (o.es++l.es):=by
 rintro ⟨x,hx,y,hy,hs,hne⟩;refine hc ⟨x,?_,y,?_,hs,hne⟩
 ·rw [List.mem_append] at hx ⊢;exact hx.imp id fun k=>lf_sub h k
 ·rw [List.mem_append] at hy ⊢;exact hy.imp id fun k=>lf_sub h k
theorem noc_again {o f l j l2:Fc} {d d2:Dg} (hc:¬ K.Clash (o.es++f.es)) (hj:JfD o l j) (hl:LfD f d l) (h2:LfD j d2 l2):¬ K.Clash (f.es++l2.es):=by
 have sub:∀ {e:K.En},e∈f.es++l2.es -> e∈o.es++f.es:=fun {e} he=>by
  rw [List.mem_append] at he ⊢;rcases he with k | k
  ·exact .inr k
  ·exact ((hj.2.1 e).1 (lf_sub h2 k)).imp id fun q=>lf_sub hl q
 rintro ⟨x,hx,y,hy,hs,hne⟩;exact hc ⟨x,sub hx,y,sub hy,hs,hne⟩
theorem nc_again {x y z:Fp} (h:Nc x y) (e:z=un x (lk x y)):Nc y z:=by
 subst e
 have sub:∀ {a:K.En},y.E a∨(un x (lk x y)).E a -> x.E a∨y.E a:=fun {a} k=>by
  rcases k with k | k | k
  ·exact .inr k
  ·exact .inl k
  ·exact .inr k.1.1
 exact fun a b ha hb hd=>h a b (sub ha) (sub hb) hd
theorem dof_form {o:Fc} {d:Dg} (hc:K.chk o.es=0) (h:DoF o d):FormD d.h.P d.l.P:=by
 refine ⟨h.1.1,canon_iff.1 h.2.canon,?_⟩
 have hcl:K.chk (liveF o)=0:=by unfold liveF;exact chk_filter hc _
 refine (within_sx hcl h.2).2 fun e he=>(heard_inB h.1 e).2 (.inl ?_);have h1:e∈o.es:=((lv_fp o e).1 he).1;exact ⟨ce_dot (chk_ce hc e h1),e,h1,rfl⟩
attribute [local go_sem ↓] ldFa_eq stFa_eq ldSw_eq stSw_eq ldDi_eq stDi_eq
attribute [local go_sem] cells_FaV FaC_size zero_FaZ cells_DiV DiC_size
theorem digestHealsFacts_law (o f:Fc) (w:World) (hA:FcU w o) (hB:FcU w f):Calls Tryz.prog 8 #[FaV (mkF o),FaV (mkF f)] w fun e w'=>e = .returned (.bool true)/\Below w.heap.size w w':=by
 obtain ⟨wk,hwk,HX,HY,HBK⟩:=box2F w o f;obtain ⟨G,hG0⟩:∃ G,w.heap.size=G:=⟨_,rfl⟩;rw [hG0] at HX HY;have HOo:=hide (hA.b.below HBK.out);have HOf:=hide (hB.b.below HBK.out);clear hA hB;go_enter Tryz.func8,Tryz.ntmps8;go_wp2_with fail;clear hwk hG0;refine (known14_any _).mono ?_;rintro e w2 ⟨rfl,b2⟩;have HB2:=hide b2;clear b2;have l0:=run_ldFa (HX.out.below HB2.out);have l1:=run_ldFa (HY.out.below HB2.out);go_wp2_with fail;clear l0 l1;refine (tjB_any 1 1 (by decide) o f _ (HOo.out.below HB2.out) (HOf.out.below HB2.out)).mono ?_;rintro e v1 ⟨W,eW,rfl,S1,b1,h1⟩;obtain ⟨gW,hg1⟩:∃ g,v1.heap.size=g:=⟨_,rfl⟩;obtain ⟨w21,hst1,X1,B1,-⟩:=madeFx v1 W gW hg1;have bb1:=b1.trans (B1.mono b1.size)
 have HGgW:Hid (wk.heap.size <= gW):=by rw [<- hg1];exact Nat.le_trans HB2.out.size b1.size
 have HB_1:=wTr HB2 bb1;have XgW:=hide X1;have SgW:=hide (S1.below B1);have HgW:=hide h1;clear b1 S1 h1 X1 B1 bb1;have l0:=run_ldFa (HX.out.below HB_1.out);go_wp2_with fail;clear l0 hst1 hg1;refine (ofFacts_any o _ ((HOo.out.below HB_1.out).u (by decide))).mono ?_;rintro e v2 ⟨d,e1,rfl,S2,b2,h2⟩;obtain ⟨gd,hg2⟩:∃ g,v2.heap.size=g:=⟨_,rfl⟩;obtain ⟨w22,hst2,X2,B2,-⟩:=madeDx14 v2 d gd hg2;have bb2:=b2.trans (B2.mono b2.size)
 have HGgd:Hid (wk.heap.size <= gd):=by rw [<- hg2];exact Nat.le_trans HB_1.out.size b2.size
 have HB_2:=wTr HB_1 bb2;have XgW_2:=hide (XgW.out.below bb2);have SgW_2:=hide (SgW.out.below bb2);have Xgd:=hide X2;have Sgd:=hide (S2.below B2);have Hgd:=hide h2;clear b2 S2 h2 X2 B2 bb2;have l0:=run_ldFa (HY.out.below HB_2.out);have l1:=run_ldDi Xgd.out;go_wp2_with fail;clear l0 l1 hst2 hg2;refine (lackFacts_any 1 (by decide) f d _ (HOf.out.below HB_2.out) Sgd.out).mono ?_;rintro e v3 ⟨l,e2,rfl,S3,b3,h3⟩;obtain ⟨gl,hg3⟩:∃ g,v3.heap.size=g:=⟨_,rfl⟩;obtain ⟨w23,hst3,X3,B3,-⟩:=madeFx v3 l gl hg3;have bb3:=b3.trans (B3.mono b3.size)
 have HGgl:Hid (wk.heap.size <= gl):=by rw [<- hg3];exact Nat.le_trans HB_2.out.size b3.size
 have HLgdgl:Hid (gd < gl):=by rw [<- hg3];exact Nat.lt_of_lt_of_le Xgd.out.lt b3.size
 have HB_3:=wTr HB_2 bb3;have XgW_3:=hide (XgW_2.out.below bb3);have SgW_3:=hide (SgW_2.out.below bb3);have Xgd_3:=hide (Xgd.out.below bb3);have Sgd_3:=hide (Sgd.out.below bb3);have Xgl:=hide X3;have Sgl:=hide (S3.below B3);have Hgl:=hide h3;clear b3 S3 h3 X3 B3 bb3;have l0:=run_ldFa (HX.out.below HB_3.out);go_wp2_with fail;clear l0 hst3 hg3;refine (refFacts_any o _ (HOo.out.ok.below HB_3.out)).mono ?_;rintro e w24 ⟨v,rfl,hv,b4⟩;have HB_4:=wTr HB_3 b4;have XgW_4:=hide (XgW_3.out.below b4);have SgW_4:=hide (SgW_3.out.below b4);have Xgd_4:=hide (Xgd_3.out.below b4);have Sgd_4:=hide (Sgd_3.out.below b4);have Xgl_4:=hide (Xgl.out.below b4);have Sgl_4:=hide (Sgl.out.below b4);clear b4
 cases v with
 | false =>
  have hn:¬ FormF o:=fun h=>by have:=hv.2 h;cases this
  obtain rfl:eW=1:=by
   rcases HgW.out with ⟨-,k,-⟩ | ⟨k,-⟩ | ⟨k,-⟩
   ·exact k
   ·exact absurd k.1 hn
   ·exact absurd k.1 hn
  clear hv hn;have HE:=wTr HBK HB_4.out;go_wp2_with fail;go_ret;exact ⟨rfl,HE.out⟩
 | true =>
 have HFo:=hide (hv.1 rfl);clear hv;have l0:=run_ldFa (HY.out.below HB_4.out);go_wp2_with fail;clear l0;refine (refFacts_any f _ (HOf.out.ok.below HB_4.out)).mono ?_;rintro e w25 ⟨v,rfl,hv,b5⟩;have HB_5:=wTr HB_4 b5;have XgW_5:=hide (XgW_4.out.below b5);have SgW_5:=hide (SgW_4.out.below b5);have Xgd_5:=hide (Xgd_4.out.below b5);have Sgd_5:=hide (Sgd_4.out.below b5);have Xgl_5:=hide (Xgl_4.out.below b5);have Sgl_5:=hide (Sgl_4.out.below b5);clear b5
 cases v with
 | false =>
  have hn:¬ FormF f:=fun h=>by have:=hv.2 h;cases this
  obtain rfl:eW=1:=by
   rcases HgW.out with ⟨-,k,-⟩ | ⟨k,-⟩ | ⟨k,-⟩
   ·exact k
   ·exact absurd k.2 hn
   ·exact absurd k.2 hn
  clear hv hn;have HE:=wTr HBK HB_5.out;go_wp2_with fail;go_ret;exact ⟨rfl,HE.out⟩
 | true =>
 have HFf:=hide (hv.1 rfl);clear hv
 obtain ⟨rfl,hD⟩:e1=0/\DoF o d:=by
  rcases Hgd.out with ⟨k,-⟩ | ⟨-,k,q⟩
  ·exact absurd HFo.out k
  ·exact ⟨k,q⟩
 obtain ⟨rfl,hL⟩:e2=0/\LfD f d l:=by
  rcases Hgl.out with ⟨k,-⟩ | ⟨-,k,q⟩
  ·exact absurd ⟨HFf.out,dof_form (chk_form HOo.out.ok.es.1 HFo.out) hD⟩ k
  ·exact ⟨k,q⟩
 have HD:=hide hD;have HLk:=hide hL;clear hD hL Hgd Hgl;rcases HgW.out with ⟨k,-⟩ | ⟨-,-,rfl,-⟩ | ⟨-,hnc,rfl,hJ⟩
 ·exact absurd ⟨HFo.out,HFf.out⟩ k
 ·have HE:=wTr HBK HB_5.out;go_wp2_with fail;go_ret;exact ⟨rfl,HE.out⟩
 have HNc:=hide hnc;have HJW:=hide hJ;have HFW:Hid (FormF W):=jf_form SgW_5.out.ok HOo.out.ok.es.1 HOf.out.ok.es.1 HFo.out HFf.out hJ;have HFl:Hid (FormF l):=lf_form Sgl_5.out.ok HOf.out.ok.es.1 HOf.out.ok.rs.len HFf.out HLk.out;clear hnc hJ HgW;have l0:=run_ldFa (HX.out.below HB_5.out);have l1:=run_ldFa Xgl_5.out;go_wp2_with fail;clear l0 l1;refine (tjB_any 1 1 (by decide) o l _ (HOo.out.below HB_5.out) Sgl_5.out).mono ?_;rintro e v6 ⟨j,e3,rfl,S6,b6,h6⟩;obtain ⟨gj,hg6⟩:∃ g,v6.heap.size=g:=⟨_,rfl⟩;obtain ⟨w26,hst6,X6,B6,-⟩:=madeFx v6 j gj hg6;have bb6:=b6.trans (B6.mono b6.size)
 have HGgj:Hid (wk.heap.size <= gj):=by rw [<- hg6];exact Nat.le_trans HB_5.out.size b6.size
 have HLgdgj:Hid (gd < gj):=by rw [<- hg6];exact Nat.lt_of_lt_of_le Xgd_5.out.lt b6.size
 have HB_6:=wTr HB_5 bb6;have XgW_6:=hide (XgW_5.out.below bb6);have SgW_6:=hide (SgW_5.out.below bb6);have Xgd_6:=hide (Xgd_5.out.below bb6);have Xgl_6:=hide (Xgl_5.out.below bb6);have Sgl_6:=hide (Sgl_5.out.below bb6);have Xgj:=hide X6;have Sgj:=hide (S6.below B6);have Hgj:=hide h6;clear b6 S6 h6 X6 B6 bb6
 obtain ⟨rfl,hJ⟩:e3=0/\JfD o l j:=by
  rcases Hgj.out with ⟨k,-⟩ | ⟨-,k,-⟩ | ⟨-,-,k,q⟩
  ·exact absurd ⟨HFo.out,HFl.out⟩ k
  ·exact absurd k (lf_noc HLk.out HNc.out)
  ·exact ⟨k,q⟩
 have HJj:=hide hJ;have HFj:Hid (FormF j):=jf_form Sgj.out.ok HOo.out.ok.es.1 (lenL Sgl_6.out.ok) HFo.out HFl.out hJ;clear hJ Hgj;have l0:=run_ldFa Xgj.out;go_wp2_with fail;clear l0 hst6 hg6;refine (cmpct_any 2 (by decide) j _ Sgj.out).mono ?_;rintro e v7 ⟨a,e4,rfl,S7,b7,h7⟩;obtain ⟨ga,hg7⟩:∃ g,v7.heap.size=g:=⟨_,rfl⟩;obtain ⟨w27,hst7,X7,B7,-⟩:=madeSx v7 a ga hg7;have bb7:=b7.trans (B7.mono b7.size)
 have HGga:Hid (wk.heap.size <= ga):=by rw [<- hg7];exact Nat.le_trans HB_6.out.size b7.size
 have HLgdga:Hid (gd < ga):=by rw [<- hg7];exact Nat.lt_of_lt_of_le Xgd_6.out.lt b7.size
 have HLglga:Hid (gl < ga):=by rw [<- hg7];exact Nat.lt_of_lt_of_le Xgl_6.out.lt b7.size
 have HB_7:=wTr HB_6 bb7;have XgW_7:=hide (XgW_6.out.below bb7);have SgW_7:=hide (SgW_6.out.below bb7);have Xgd_7:=hide (Xgd_6.out.below bb7);have Xgl_7:=hide (Xgl_6.out.below bb7);have Xgj_7:=hide (Xgj.out.below bb7);have Sgj_7:=hide (Sgj.out.below bb7);have Xga:=hide X7;have Sga:=hide (S7.below B7);have Hga:=hide h7;clear b7 S7 h7 X7 B7 bb7;have l0:=run_ldFa XgW_7.out;go_wp2_with fail;clear l0 hst7 hg7;refine (cmpct_any 2 (by decide) W _ SgW_7.out).mono ?_;rintro e v8 ⟨b,e5,rfl,S8,b8,h8⟩;obtain ⟨gb,hg8⟩:∃ g,v8.heap.size=g:=⟨_,rfl⟩;obtain ⟨w28,hst8,X8,B8,-⟩:=madeSx v8 b gb hg8;have bb8:=b8.trans (B8.mono b8.size)
 have HGgb:Hid (wk.heap.size <= gb):=by rw [<- hg8];exact Nat.le_trans HB_7.out.size b8.size
 have HLgdgb:Hid (gd < gb):=by rw [<- hg8];exact Nat.lt_of_lt_of_le Xgd_7.out.lt b8.size
 have HLglgb:Hid (gl < gb):=by rw [<- hg8];exact Nat.lt_of_lt_of_le Xgl_7.out.lt b8.size
 have HB_8:=wTr HB_7 bb8;have XgW_8:=hide (XgW_7.out.below bb8);have SgW_8:=hide (SgW_7.out.below bb8);have Xgd_8:=hide (Xgd_7.out.below bb8);have Xgl_8:=hide (Xgl_7.out.below bb8);have Xgj_8:=hide (Xgj_7.out.below bb8);have Sgj_8:=hide (Sgj_7.out.below bb8);have Xga_8:=hide (Xga.out.below bb8);have Sga_8:=hide (Sga.out.below bb8);have Xgb:=hide X8;have Sgb:=hide (S8.below B8);have Hgb:=hide h8;clear b8 S8 h8 X8 B8 bb8
 obtain ⟨rfl,hA⟩:e4=0/\StD j a:=by
  rcases Hga.out with ⟨k,-⟩ | ⟨-,k,q⟩
  ·exact absurd HFj.out k
  ·exact ⟨k,q⟩
 obtain ⟨rfl,hB⟩:e5=0/\StD W b:=by
  rcases Hgb.out with ⟨k,-⟩ | ⟨-,k,q⟩
  ·exact absurd HFW.out k
  ·exact ⟨k,q⟩
 have HOk:Hid (Ok (fp o)/\Ok (fp f)/\Nc (fp o) (fp f)):=⟨fp_ok (chk_form HOo.out.ok.es.1 HFo.out),fp_ok (chk_form HOf.out.ok.es.1 HFf.out),fp_nc HNc.out⟩
 have Efj:Hid (fp j=un (fp o) (lk (fp o) (fp f))):=by
  show _=_
  rw [fp_un HJj.out,fp_lk HD.out HLk.out]
 have EfW:Hid (fp W=un (fp o) (fp f)):=fp_un HJW.out;have HEq:Hid (EqS a b):=st_same (lenL Sgj_8.out.ok) Sgj_8.out.ok.rs.len (lenL SgW_8.out.ok) SgW_8.out.ok.rs.len HFj.out HFW.out hA hB (by rw [Efj.out,EfW.out];exact heals HOk.out.1 HOk.out.2.1 HOk.out.2.2);have HBs:=hide hB;clear hA hB Hga Hgb;have l0:=run_ldSw Xga_8.out;have l1:=run_ldSw Xgb.out;have HLW:Hid (W.es.length=W.an/\W.rs.length=W.rn):=⟨lenL SgW_8.out.ok,SgW_8.out.ok.rs.len⟩;have HLj:Hid (j.es.length=j.an/\j.rs.length=j.rn):=⟨lenL Sgj_8.out.ok,Sgj_8.out.ok.rs.len⟩;go_wp2_with fail;clear l0 l1;clear hst8 hg8;refine (equal11_true a b _ Sga_8.out.ok Sgb.out.ok HEq.out).mono ?_;rintro e w29 ⟨rfl,b9⟩;have HB_9:=wTr HB_8 b9;have Xgd_9:=hide (Xgd_8.out.below b9);have Xgl_9:=hide (Xgl_8.out.below b9);have Xgj_9:=hide (Xgj_8.out.below b9);have Sgj_9:=hide (Sgj_8.out.below b9)
 have Sga_9:=hide (Sga_8.out.below b9);have Xgb_9:=hide (Xgb.out.below b9);have Sgb_9:=hide (Sgb.out.below b9);clear b9;have l0:=run_ldFa (HY.out.below HB_9.out);go_wp2_with fail;clear l0;refine (ofFacts_any f _ ((HOf.out.below HB_9.out).u (by decide))).mono ?_;rintro e v10 ⟨d2,e1,rfl,Sd,bd,hd⟩;have A7:=Xgd_9.out.below bd;have st7:=run_stDi (m':=mkD d2) A7;obtain ⟨w70,hw70⟩:∃ w,v10.setRow gd (DiC (mkD d2))=w:=⟨_,rfl⟩
 have HB70:Hid (Below wk.heap.size wk w70):=by rw [<- hw70];exact below_setRow (HB_9.out.trans (bd.mono HB_9.out.size)) HGgd.out
 have Xgd70:Hid (DiBox w70 gd (mkD d2)):=by rw [<- hw70];exact A7.setRow
 have Sgd70:Hid (DgOk w70 d2):=by rw [<- hw70];exact Sd.offD A7 _
 have Xgl70:Hid (FaBox w70 gl (mkF l)):=by rw [<- hw70];exact (setRow_other _ _ _ _ (by have:=HLgdgl.out;omega)).trans (Xgl_9.out.below bd)
 have Xgj70:Hid (FaBox w70 gj (mkF j)):=by rw [<- hw70];exact (setRow_other _ _ _ _ (by have:=HLgdgj.out;omega)).trans (Xgj_9.out.below bd)
 have Xgb70:Hid (SwBox w70 gb (mkF b)):=by rw [<- hw70];exact (setRow_other _ _ _ _ (by have:=HLgdgb.out;omega)).trans (Xgb_9.out.below bd)
 have Sgj70:Hid (SwB 2 w70 j):=by rw [<- hw70];exact SwB.offDi (Sgj_9.out.below bd) A7 _
 have Sgb70:Hid (SwB 2 w70 b):=by rw [<- hw70];exact SwB.offDi (Sgb_9.out.below bd) A7 _
 obtain ⟨rfl,hD2⟩:e1=0/\DoF f d2:=by
  rcases hd with ⟨k,-⟩ | ⟨-,k,q⟩
  ·exact absurd HFf.out k
  ·exact ⟨k,q⟩
 have HD2:=hide hD2;rw [hw70] at st7;clear A7 Sd bd hd hD2 hw70;have l0:=run_ldFa Xgj70.out;have l1:=run_ldDi Xgd70.out;go_wp2_with fail;clear l0 l1 st7;refine (lackFacts_any 2 (by decide) j d2 _ Sgj70.out Sgd70.out).mono ?_;rintro e v80 ⟨l2,e2,rfl,Sl,bl,hl⟩;have A8:=Xgl70.out.below bl;have st8:=run_stFa (m':=mkF l2) A8;obtain ⟨w80,hw80⟩:∃ w,v80.setRow gl (FaC (mkF l2))=w:=⟨_,rfl⟩
 have HB80:Hid (Below wk.heap.size wk w80):=by rw [<- hw80];exact below_setRow (HB70.out.trans (bl.mono HB70.out.size)) HGgl.out
 have Xgl80:Hid (FaBox w80 gl (mkF l2)):=by rw [<- hw80];exact A8.setRow
 have Sgl80:Hid (SwB 2 w80 l2):=by rw [<- hw80];exact SwB.offFa Sl A8 _
 have Xgb80:Hid (SwBox w80 gb (mkF b)):=by rw [<- hw80];exact (setRow_other _ _ _ _ (by have:=HLglgb.out;omega)).trans (Xgb70.out.below bl)
 have Sgb80:Hid (SwB 2 w80 b):=by rw [<- hw80];exact SwB.offFa (Sgb70.out.below bl) A8 _
 obtain ⟨rfl,hL2⟩:e2=0/\LfD j d2 l2:=by
  rcases hl with ⟨k,-⟩ | ⟨-,k,q⟩
  ·exact absurd ⟨HFj.out,dof_form (chk_form HOf.out.ok.es.1 HFf.out) HD2.out⟩ k
  ·exact ⟨k,q⟩
 have HL2:=hide hL2;have HFl2:Hid (FormF l2):=lf_form Sl.ok HLj.out.1 HLj.out.2 HFj.out hL2;rw [hw80] at st8;clear A8 Sl bl hl hL2 hw80 Xgd70 Sgd70 Xgl70 Xgj70 Xgb70 Sgj70 Sgb70;have l0:=run_ldFa (HY.out.below HB80.out);have l1:=run_ldFa Xgl80.out;go_wp2_with fail;clear l0 l1 st8;refine (tjB_any 1 2 (by decide) f l2 _ (HOf.out.below HB80.out) Sgl80.out).mono ?_;rintro e v81 ⟨k,e3,rfl,Sk,bk,hk⟩;obtain ⟨gk,hgk⟩:∃ g,v81.heap.size=g:=⟨_,rfl⟩;obtain ⟨w81,hst,X81,B81,-⟩:=madeFx v81 k gk hgk;have bk2:=bk.trans (B81.mono bk.size);have HB81:=wTr HB80 bk2;have Xgk:=hide X81;have Sgk:Hid (SwB 3 w81 k):=Sk.below B81;have Xgb81:=hide (Xgb80.out.below bk2);have Sgb81:=hide (Sgb80.out.below bk2);have HLl2:Hid (l2.es.length=l2.an):=lenL Sgl80.out.ok
 obtain ⟨rfl,hK⟩:e3=0/\JfD f l2 k:=by
  rcases hk with ⟨q,-⟩ | ⟨-,q,-⟩ | ⟨-,-,q,r⟩
  ·exact absurd ⟨HFf.out,HFl2.out⟩ q
  ·exact absurd q (noc_again HNc.out HJj.out HLk.out HL2.out)
  ·exact ⟨q,r⟩
 have HJk:=hide hK;have HFk:Hid (FormF k):=jf_form Sgk.out.ok HOf.out.ok.es.1 HLl2.out HFf.out HFl2.out hK;clear Sk bk hk hK X81 B81 bk2 Xgb80 Sgb80 Xgl80 Sgl80;have l0:=run_ldFa Xgk.out;go_wp2_with fail;clear l0 hst hgk;refine (cmpct_any 3 (by decide) k _ Sgk.out).mono ?_;rintro e v82 ⟨c,e4,rfl,Sc,bc,hc⟩;obtain ⟨gc,hgc⟩:∃ g,v82.heap.size=g:=⟨_,rfl⟩;obtain ⟨w82,hst,X82,B82,-⟩:=madeSx v82 c gc hgc;have bc2:=bc.trans (B82.mono bc.size);have HB82:=wTr HB81 bc2;have Xgc:=hide X82;have Sgc:=hide (Sc.below B82);have Xgb82:=hide (Xgb81.out.below bc2);have Sgb82:=hide (Sgb81.out.below bc2)
 obtain ⟨rfl,hC⟩:e4=0/\StD k c:=by
  rcases hc with ⟨q,-⟩ | ⟨-,q,r⟩
  ·exact absurd HFk.out q
  ·exact ⟨q,r⟩
 have Efk:fp k=un (fp f) (lk (fp f) (fp j)):=by rw [fp_un HJk.out,fp_lk HD2.out HL2.out]
 have okj:Ok (fp j):=by rw [Efj.out];exact un_ok HOk.out.1 (lk_ok HOk.out.1 HOk.out.2.1)
 have HEq2:Hid (EqS c b):=st_same (lenL Sgk.out.ok) Sgk.out.ok.rs.len HLW.out.1 HLW.out.2 HFk.out HFW.out hC HBs.out (by
  rw [Efk,EfW.out];refine (heals HOk.out.2.1 okj (nc_again HOk.out.2.2 Efj.out)).trans ?_;rw [Efj.out]
  exact again HOk.out.1 HOk.out.2.1 HOk.out.2.2)
 clear Sc bc hc X82 B82 bc2 Xgb81 Sgb81 hC Efk okj;have l0:=run_ldSw Xgc.out;have l1:=run_ldSw Xgb82.out;go_wp2_with fail;clear l0 l1 hst hgc;refine (equal11_true c b _ Sgc.out.ok Sgb82.out.ok HEq2.out).mono ?_;rintro e w90 ⟨rfl,b90⟩;have HE:=hide (HBK.out.trans ((HB82.out.trans (b90.mono HB82.out.size)).mono HBK.out.size));clear b90;go_wp2_with fail;go_ret;exact ⟨rfl,HE.out⟩
theorem digestHealsFacts_u (o f:Fc) (w:World) (hA:FcU w o) (hB:FcU w f):Calls Tryz.prog 8 #[FaV (mkF o),FaV (mkF f)] w fun e w'=>e = .returned (.bool true)/\Below w.heap.size w w':=digestHealsFacts_law o f w hA hB
end
end Go.Proofs.YtjeilkenjdnafaaGreat
