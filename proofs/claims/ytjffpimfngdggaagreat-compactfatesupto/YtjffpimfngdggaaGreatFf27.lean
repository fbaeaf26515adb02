import Derived.Deep.CutRange
import Derived.Test.YtjffpimfngdggaaGreatFf21
import Derived.Test.YtjffpimfngdggaaGreatFf26
set_option maxRecDepth 100000
set_option maxHeartbeats 6400000
namespace Go.Proofs.YtjffpimfngdggaaGreat
section
open Go.RowKit
attribute [local go_sem ↓] zq zp zY zX K.zy K.zx
attribute [local go_sem] zi zk
variable {w w' w2 W W' : World} {g : Nat}

def ae (e:K.En):Rn:=⟨e.rep,e.num⟩
def DtA (w w':World) (x:Ending) (L:List K.En):Prop:=Below w.heap.size w w'/\((K.chk L=0/\∃ p:Pv,x = .returned (.tuple #[PV p,.int .i64 0])/\am w' p/\dA w.heap.size p/\af (cq (L.map ae)) p.P)∨(¬ K.chk L=0/\x = .returned (.tuple #[PV pv0,.int .i64 1])))
theorem mI {fn:Func} {p q:Tmp} {m:Pv} {v:Value} (h:fn.results=#[.cell p 26,.tmp q]) {tmps:Array Value} (hp:tmps.getD p undef = .pointer (some ⟨g,0,none⟩)) (hq:tmps.getD q undef=v) (A:av w g m) :
  (results fn tmps).run Tryz.prog w = .ok (.tuple #[PV m,v]) w:=by
 have hl:=zag A.at
 simp only [results,h];rw [Array.getD_eq_getD_getElem?] at hp hq;simp [hp,hq,asAddr,hl]
theorem zdt (ao:Option Addr) (n cap:Nat) (L:List K.En) (w:World) (hS:K.aD w ao n cap L):Calls Tryz.prog 55 #[.slice ao n cap] w fun x w'=>DtA w w' x L:=by
 have b1:=ze w (.cells #[.slice none 0 0,.slice none 0 0] 26);have x1:av (w.alloc (.cells #[.slice none 0 0,.slice none 0 0] 26)) w.heap.size pv0:=zm w pv0;obtain ⟨w1,cF⟩:∃ w1,w.alloc (.cells #[.slice none 0 0,.slice none 0 0] 26)=w1:=⟨_,rfl⟩;obtain ⟨g1,cP⟩:∃ g1,w.heap.size=g1:=⟨_,rfl⟩;rw [cF] at b1 x1;rw [cP] at x1;have HX:Hid (av w1 g1 pv0/\K.aD w1 ao n cap L/\Below w.heap.size w w1/\w.heap.size=g1):=⟨x1,hS.below b1,b1,cP⟩;have HL:Hid (L.length=n/\n <= 3518437208883):=⟨hS.1,hS.2.2.2.2⟩;have lL:=HL.2;clear b1 x1 hS;go_enter Tryz.func55,Tryz.ntmps55;go_wp2_with fail;clear cF cP;refine (K.qx ao n cap L _ HX.2.1).mono ?_;rintro x w2 ⟨rfl,b2⟩;have cu:=hide (HX.2.2.1.trans (b2.mono HX.2.2.1.size));have eS:Hid (av w2 g1 pv0/\K.aD w2 ao n cap L/\w.heap.size=g1):=⟨HX.1.below b2,HX.2.1.below b2,HX.2.2.2⟩
 clear b2 HX;rcases K.vt L with hc | hc;rotate_left
 ·have HE:Hid (DtA w (w2.setRow g1 (PC pv0)) (.returned (.tuple #[PV pv0,.int .i64 1])) L):=⟨zh cu.out (by have:=eS.2.2;omega),.inr ⟨by rw [hc];decide,rfl⟩⟩;have t6:(stP (.pointer (some ⟨g1,0,none⟩)) (.agg #[.slice none 0 0,.slice none 0 0])).run Tryz.prog w2 = .ok () (w2.setRow g1 (PC pv0)):=qM (p':=pv0) eS.1;have o8:Hid (av (w2.setRow g1 (PC pv0)) g1 pv0):=setRow_heap _ _ _ _ _ _ eS.1;rw [hc];clear hc;go_wp2_with fail;refine bodyPost_ret (mI rfl rfl rfl o8) rfl ?_;exact HE.out
 ·rw [hc];have HC:=hide hc;clear hc;go_wp2_with fail;go_loopw [5,16] (fun v i wr=>∃ (k:Nat) (ap:Option Addr) (c:Nat),k <= n/\v = .slice ap k c/\i = .int .i64 (k:Int)/\Hid (dX w2.heap.size w2.heap.size w2 wr ap c ((L.take k).map ae))) (fun _ i _=>n - (intOf i).toNat)
  case atStart=>exact ⟨0,none,0,Nat.zero_le _,rfl,rfl,World.ownsRow_nil _ _ _ _,Below.refl _ _,Nat.le_refl _,Nat.le_refl _⟩
  case round =>
   obtain ⟨k,ap,c,hk,rfl,rfl,HO⟩:=hrel
   rename World=>wr
   obtain ⟨acc,dG⟩:∃ acc,Hid ((L.take k).map ae=acc):=⟨_,rfl⟩
   have o3:Hid (acc.length=k):=by show _=_;rw [<- dG.out,List.length_map,List.length_take];have:=HL.1;omega
   rw [dG.out] at HO;by_cases ak:k < n
   ·have aX:(k:Int) < (n:Int):=by omega
    obtain ⟨ad,cU,A0⟩:=(eS.2.1.below HO.below).at k ak;subst cU;obtain ⟨e,He⟩:∃ e,Hid (L.getD k K.en0=e):=⟨_,rfl⟩;rw [He.out] at A0;have dF:=K.zB A0;have HT:=hide (K.xW L k (by rw [HL.1];exact ak));rw [He.out] at HT
    have HN:Hid ((L.take (k+1)).map ae=acc++[ae e]):=by show _=_;rw [HT.out,List.map_append,dG.out];rfl
    obtain ⟨g7,ia⟩:∃ g7,wr.heap.size=g7:=⟨_,rfl⟩;obtain ⟨w7,cd,X7,B7,-⟩:=K.made wr e g7 ia;replace cd:(K.nu (.pointer (some ⟨g7,0,none⟩)) (K.EV e)).run Tryz.prog (wr.alloc (.cells #[.int .i64 0,.int .i64 0,.string ⟨#[]⟩,.int .i64 0] 50)) = .ok () w7:=cd;have fj:=hide (HO.later B7);have l7:(ldD (.pointer (some ⟨g7,0,none⟩))).run Tryz.prog w7 = .ok (.agg #[.int .i64 e.rep,.int .i64 e.num]) w7:=zG (yB X7);have aK:=hide ak;clear A0 X7 B7 ak;go_wp2_with (at_builtin;go_loud (refine (fj.later (ze w7 _)).appendS [ae e] (some ⟨w7.heap.size,0,none⟩) 1 1 (zaB w7 [ae e] _ rfl 48 1 rfl (by omega)) (by have:=o3.out;have:=aK.out;omega) rfl (.tmp 20) (.tmp 23) rfl k o3.out rfl rfl ?_);intro ao8 c8 w8 O8;have eO:=hide O8;clear O8);clear cd ia dF;go_roundw
    case rel=>exact ⟨k+1,ao8,c8,aK.out,rfl,by simp,by show dX _ _ _ _ _ _ _;rw [HN.out];exact eO⟩
    case measure=>simp [intOf];have:=aK.out;omega
   ·have aX:¬ (k:Int) < (n:Int):=by omega
    obtain rfl:k=n:=by omega
    have IT:Hid (acc=L.map ae):=by show _=_;rw [<- dG.out,List.take_of_length_le (by have:=HL.1;omega)]
    obtain ⟨oa,DW⟩:=HO.src (by have:=o3.out;omega)
    have r5:aV wr ap k c acc:=by have:=o3.out;rw [this] at oa;exact oa
    have D5:=hide (yt ap k c acc wr r5);have fl:=wTr cu HO.below;have Ex:=hide (eS.1.below HO.below);have HG:Hid (w.heap.size=g1/\g1 < wr.heap.size):=⟨eS.2.2,Ex.lt⟩;clear oa DW r5;go_wp2_with fail;refine D5.mono ?_;rintro x w8 ⟨p,rfl,S8,n8,b8,c8⟩;have X8:=Ex.below b8;have t8:=qM (p':=p) X8;have gf:Hid (av (w8.setRow g1 (PC p)) g1 p):=setRow_heap _ _ _ _ _ _ X8
    have HE:Hid (DtA w (w8.setRow g1 (PC p)) (.returned (.tuple #[PV p,.int .i64 0])) L):=by
     have hb:=tmq fl b8;refine ⟨zh hb (by have:=HG.out;omega),.inl ⟨HC.out,p,rfl,ji S8 (fun ad h=>setRow_other _ _ _ _ (by have:=n8.1 ad h;have:=HG.out;omega)) (fun ad h=>setRow_other _ _ _ _ (by have:=n8.2 ad h;have:=HG.out;omega)),n8.mono (by have:=HG.out;omega),by rw [<- IT.out];exact c8⟩⟩
    clear S8 n8 b8 c8 X8 D5;go_wp2_with fail;refine bodyPost_ret (mI rfl rfl rfl gf) rfl ?_;exact HE.out
end
section
open Go.RowKit Go.Maps Go.Sort
attribute [local go_sem ↓] zY zX K.zy K.zx
attribute [local go_sem] K.zu K.zH
theorem sR:Keyed Tryz.prog 9:=string_keyed Tryz.underlying9
theorem o0 (w:World):(zeroValue 32).run Tryz.prog w = .ok (HsV hs0) w:=by kernel_rfl
def dB (L:List K.En) (s:ByteArray):List Rn:=(L.filter (fun e=>decide (s.size=0) || decide (e.sku=s))).map ae
theorem vm (L:List K.En) (s:ByteArray):(dB L s).length <= L.length:=by unfold dB;rw [List.length_map];exact List.length_filter_le _ _
def fe:ByteArray:=⟨#[]⟩
theorem ziy {s:ByteArray} (h:s.size=0):s=fe:=by
 obtain ⟨d⟩:=s;have:d=#[]:=Array.eq_empty_of_size_eq_zero h;rw [this];rfl
theorem zea {L:List K.En} {e:K.En} (_:¬ e.sku.size=0) (s:ByteArray) :
  rcs (dB (L++[e]) s)=if s=fe then rcs (dB L s)++(RC (ae e)).toList else if s=e.sku then rcs (dB L s)++(RC (ae e)).toList else rcs (dB L s):=by
 unfold dB;rw [List.filter_append,List.map_append,xx];by_cases h0:s=fe
 ·subst h0
  have h:List.filter (fun e=>decide (fe.size=0) || decide (e.sku=fe)) [e]=[e]:=by simp only [show decide (fe.size=0)=true from rfl,Bool.true_or,List.filter_cons,List.filter_nil,if_true]
  rw [if_pos rfl,h];simp [kv]
 ·have h1:¬ s.size=0:=fun h=>h0 (ziy h);rw [if_neg h0];by_cases h2:s=e.sku
  ·subst h2;simp [h1,kv]
  ·have h3:¬ e.sku=s:=fun h=>h2 h.symm;simp [h1,h2,h3,rcs]
def MD (w W:World) (kk:Nat) (L:List K.En):Prop:=∃ K f,MRo Tryz.prog 9 48 2 (w.heap.size+1) w W w.heap.size kk K f (fun s=>rcs (dB L s))
theorem zh6 {w W:World} {b B k:Nat} {K:ByteArray -> Prop} {f:ByteArray -> Hs} {X:ByteArray -> List Value} (M:MRo Tryz.prog 9 48 2 B w W b k K f X) (s:ByteArray) (d:Rn) (hn:(f s).n <= 8000000000000) :
  ∃ g c2 W2,(Builtin.append_ #[32,32] 32 #[HsV (f s),.slice (some ⟨W.heap.size,0,none⟩) 1 1]).run Tryz.prog (W.alloc (.cells (RC d) 48)) = .ok (.slice (some ⟨g,0,none⟩) ((f s).n+1) c2) W2/\MRm Tryz.prog 9 48 2 B w W2 b k K f X s ⟨some ⟨g,0,none⟩,(f s).n+1,c2⟩ (X s++(RC d).toList)/\∀ q,q < W.heap.size -> (HsV (f s)).ownBlock≠some q -> W2.heap[q]? = W.heap[q]?:=by
 obtain ⟨i0,hi,cY,dw,eI⟩:=info_parts sT
 obtain ⟨g,c2,W2,h1,h2,h3⟩:=(M.later (ze W (.cells (RC d) 48))).app s (ty:=32) Tryz.underlying32 hi cY dw eI (by simp [Value.cells]) (by decide) ⟨W.heap.size,0,none⟩ 1 (RC d).toList rfl (fun j u hj=>by
  rw [Addr.add_lit,Nat.zero_add,World.cell?_alloc_new]
  simpa using hj) (j7 d) (by unfold maxLen;omega) (by omega)
 exact ⟨g,c2,W2,h1,h2,fun q hq hn=>(h3 q (by simp;omega) hn).trans (Below.heap_alloc W _ q hq)⟩
theorem MRo.len {w W:World} {b B k:Nat} {K0:ByteArray -> Prop} {f:ByteArray -> Hs} {L:List K.En} (M:MRo Tryz.prog 9 48 2 B w W b k K0 f (fun s=>rcs (dB L s))) (s:ByteArray):(f s).n=(dB L s).length:=by
 have h:=(M.rows s).1;rw [qv] at h;omega
theorem zeb (ao:Option Addr) (n cap:Nat) (L:List K.En) (w:World) (hS:K.aD w ao n cap L) (cr:∀ e∈L,¬ e.sku.size=0) :
  Calls Tryz.prog 99 #[.slice ao n cap] w fun x w'=>∃ kk,x = .returned (.map (some w.heap.size))/\MD w w' kk L:=by
 have HS:=hide hS;have HL:Hid (L.length=n):=hS.1;have hn:=hS.2.2.2.2;have IO:=hide cr;have KQ:=@run_makeMap Tryz.prog;obtain ⟨w1,cF⟩:∃ w1,w.alloc (.map #[] 0)=w1:=⟨_,rfl⟩;obtain ⟨b,hb⟩:∃ b,w.heap.size=b:=⟨_,rfl⟩;have Ee:Hid (MD w w1 0 []):=⟨_,_,cF ▸ MRo.start w⟩;have Hb:=hide hb;clear hS cr;go_enter Tryz.func99,Tryz.ntmps99;go_wp2_with fail;clear cF hb;go_loopw [9] (fun i wr=>∃ k:Nat,k <= n/\i = .int .i64 (k:Int)/\Hid (MD w wr (2 * k) (L.take k))) (fun i _=>n - (intOf i).toNat)
 case atStart=>exact ⟨0,Nat.zero_le _,rfl,Ee⟩
 case round =>
  obtain ⟨k,hk,rfl,HM⟩:=hrel
  rename World=>wr
  clear Ee;by_cases ak:k < n
  ·have aX:(k:Int) < (n:Int):=by omega
   obtain ⟨K0,f,M⟩:=HM.out;obtain ⟨ad,cU,A0⟩:=(HS.below M.below).at k ak;subst cU;obtain ⟨e,He⟩:∃ e,Hid (L.getD k K.en0=e):=⟨_,rfl⟩;have ic:=HS.sku k ak;have HT:=hide (K.xW L k (by rw [HL.out];exact ak));have E6:¬ (L.getD k K.en0).sku.size=0:=IO.out _ (by rw [List.getD_eq_getElem?_getD,List.getElem?_eq_getElem (by rw [HL.out];exact ak)];exact List.getElem_mem _);rw [He.out] at A0 ic HT E6;have OB:=hide E6;have dF:=K.zB A0;obtain ⟨g7,ia⟩:∃ g7,wr.heap.size=g7:=⟨_,rfl⟩;obtain ⟨w7,cd,X7,B7,S7⟩:=K.made wr e g7 ia;replace cd:(K.nu (.pointer (some ⟨g7,0,none⟩)) (K.EV e)).run Tryz.prog (wr.alloc (.cells #[.int .i64 0,.int .i64 0,.string ⟨#[]⟩,.int .i64 0] 50)) = .ok () w7:=cd;have M7:=(M.later B7).later (zf w7)
   have IM:∀ s,(f s).n <= 8000000000000:=fun s=>by rw [M.len s];have h1:=vm (L.take k) s;have h2:=List.length_take_le k L;omega
   have nQ:∀ s,(HsV (f s)).ownBlock≠some g7:=fun s h=>by have:=((M.rows s).lt g7 h).2;omega
   have DX:Hid (∀ W,Below w7.drew.heap.size w7.drew W -> (Instr.lookup 149 (.map (some b)) (.string e.sku) false).run Tryz.prog W = .ok (HsV (f e.sku)) W):=fun W hW=>by
    have:=(M7.later hW).look sR Tryz.underlying9 Tryz.underlying149 (o0 W) e.sku ic;rwa [Hb.out] at this
   obtain ⟨g8,c8,w8,D3,M8,k8⟩:=zh6 M7 e.sku (ae e) (IM _);obtain ⟨w9,Bh,M9,k9⟩:=M8.put sR Tryz.underlying9 Tryz.underlying149 ic (by unfold maxLen;omega);rw [Hb.out] at Bh k9
   have p9:g7≠b:=by have:=M.hb;rw [Hb.out] at this;omega
   have z7:w7.drew.heap[g7]? = w7.heap[g7]?:=rfl;have z8:w8.heap[g7]? = w7.heap[g7]?:=k8 g7 (show g7 < w7.heap.size by omega) (nQ _);have z9:w9.heap[g7]? = w7.heap[g7]?:=(k9 g7 (Nat.lt_of_lt_of_le (show g7 < w7.heap.size by omega) (by have:=M8.hb.2.2;have:=(Array.getElem?_eq_some_iff.1 (z8.trans X7)).1;omega)) p9).trans z8
   have aB:Hid (∀ W:World,W.heap[g7]? = w7.heap[g7]? -> W.cell? ⟨g7,2,none⟩=some (.string e.sku)/\(ldD (.pointer (some ⟨g7,0,none⟩))).run Tryz.prog W = .ok (.agg #[.int .i64 e.rep,.int .i64 e.num]) W):=fun W h=>by
    have X:K.Box W g7 50 e:=h.trans X7;exact ⟨X.at.c2,zG (yB X)⟩
   have HZ:Hid (w8.heap[g7]? = w7.heap[g7]? /\ w9.heap[g7]? = w7.heap[g7]?):=⟨z8,z9⟩;have AY:Hid ((w7.drew.alloc (.cells #[.int .i64 e.rep,.int .i64 e.num] 48)).heap[g7]? = w7.heap[g7]?):=Below.heap_alloc w7.drew _ g7 (show g7 < w7.heap.size by omega);have l0:=DX.out w7.drew (Below.refl _ _);have l1:=DX.out _ (ze w7.drew (.cells #[.int .i64 e.rep,.int .i64 e.num] 48));have l2:(Instr.lookup 149 (.map (some b)) (.string e.sku) false).run Tryz.prog (w7.alloc (.cells #[.int .i64 e.rep,.int .i64 e.num] 48)).drew = .ok (HsV (f e.sku)) (w7.drew.alloc (.cells #[.int .i64 e.rep,.int .i64 e.num] 48)):=l1
   obtain ⟨K1,f1,X1,M9',rv⟩:∃ K1 f1 X1,MRo Tryz.prog 9 48 2 (w.heap.size+1) w w9 w.heap.size (2 * k+1) K1 f1 X1/\∀ s,X1 s=if s=e.sku then rcs (dB (L.take k) s)++(RC (ae e)).toList else rcs (dB (L.take k) s):=⟨_,_,_,M9,fun s=>by
    by_cases h:s=e.sku
    ·subst h;simp
    ·simp [h]⟩
   have uw:(f1 fe).n <= 8000000000000:=by
    have h:=(M9'.rows fe).1;have h1:=vm (L.take k) fe;have h2:=List.length_take_le k L;rw [rv] at h
    split at h
    ·rw [List.length_append,qv] at h;have:(RC (ae e)).toList.length=2:=rfl;omega
    ·rw [qv] at h;omega
   have l3:=M9'.look sR Tryz.underlying9 Tryz.underlying149 (o0 w9) fe (by decide);rw [Hb.out] at l3;obtain ⟨ga,ca,wa,Dv,Ma,ka⟩:=zh6 M9' fe (ae e) uw;obtain ⟨wb,GK,Mb,kb⟩:=Ma.put sR Tryz.underlying9 Tryz.underlying149 (by decide) (by unfold maxLen;omega);rw [Hb.out] at GK;have Lf:Hid ((Instr.lookup 149 (.map (some b)) (.string ⟨#[]⟩) false).run Tryz.prog w9 = .ok (.slice (f1 fe).o (f1 fe).n (f1 fe).c) w9):=l3;have LJ:Hid ((Instr.mapUpdate 149 (.map (some b)) (.string ⟨#[]⟩) (.slice (some ⟨ga,0,none⟩) ((f1 fe).n+1) ca)).run Tryz.prog wa = .ok () wb):=GK;have Br:Hid ((Builtin.append_ #[32,32] 32 #[.slice (f1 fe).o (f1 fe).n (f1 fe).c,.slice (some ⟨w9.heap.size,0,none⟩) 1 1]).run Tryz.prog (w9.alloc (.cells #[.int .i64 e.rep,.int .i64 e.num] 48)) = .ok (.slice (some ⟨ga,0,none⟩) ((f1 fe).n+1) ca) wa):=Dv
   have DI:Hid (MD w wb (2 * (k+1)) (L.take (k+1))):=by
    have hX:(fun s=>rcs (dB (L.take (k+1)) s))=fun u=>if u=fe then X1 fe++(RC (ae e)).toList else X1 u:=by
     funext s
     rw [HT.out,zea E6 s,rv s,rv fe];have h0:¬ fe=e.sku:=fun h=>E6 (by rw [<- h];rfl);by_cases h1:s=fe
     ·subst h1;simp [h0]
     ·simp [h1]
    have h:=Mb;rw [<- hX] at h;exact ⟨_,_,h⟩
   have aK:=hide ak;have tx:Hid ((Builtin.append_ #[32,32] 32 #[.slice (f e.sku).o (f e.sku).n (f e.sku).c,.slice (some ⟨w7.heap.size,0,none⟩) 1 1]).run Tryz.prog (w7.drew.alloc (.cells #[.int .i64 e.rep,.int .i64 e.num] 48)) = .ok (.slice (some ⟨g8,0,none⟩) ((f e.sku).n+1) c8) w8):=D3;clear A0 X7 B7 S7 M M7 M8 M9 M9' rv uw l3 Dv Ma ka GK Mb kb k8 k9 z7 z8 z9 D3 ak hk;go_upto_region 5 with fail;clear cd dF;refine wp_region_held_drew (S:=fun W=>W.cell? ⟨g7,2,none⟩=some (.string e.sku)/\(ldD (.pointer (some ⟨g7,0,none⟩))).run Tryz.prog W = .ok (.agg #[.int .i64 e.rep,.int .i64 e.num]) W) (by kernel_rfl) (aB.out _ rfl) (fun hHeld=>?_);refine wU 0 ?_;refine wU 1 ?_;refine wU 2 ?_;refine wU 3 ?_;refine wU 4 ?_;refine wU 5 ?_;refine wU 7 ?_;refine wU 8 ?_;refine wpAnyH_ready (rs:=[6,9]) (by kernel_rfl) (by simp) ?_;refine AllReadyH.cons rfl (fun K hK=>?_) ?_
   ·go_simp;refine hK.out _ _ (aB.out _ rfl) (fun hHeld=>?_);clear hK K;refine wR 9 fun K hK=>?_;go_simp;refine hK.out _ _ (aB.out _ AY) (fun hHeld=>?_);clear hK K;refine wR 10 fun K hK=>?_;refine xk (by rfl) (.tmp 19) (.tmp 22) (by rfl) (by rfl) (by rfl) tx.out ?_;refine hK.out _ _ (aB.out _ HZ.1) (fun hHeld=>?_);clear hK K;refine wR 11 fun K hK=>?_;go_simp;refine hK.out _ _ (aB.out _ HZ.2) (fun hHeld=>?_);clear hK K;refine wD ?_ _;clear hHeld;have l3:=Lf.out;have u3:=LJ.out;obtain ⟨-,d3⟩:=aB.out w9 HZ.2;clear l0 l1 l2 Bh;go_wp2_with (at_builtin;refine xI rfl (.tmp 26) (.tmp 29) rfl rfl rfl Br.out ?_)
    go_roundw
    case rel=>exact ⟨k+1,aK.out,by simp,DI⟩
    case measure=>simp [intOf];have:=aK.out;omega
   ·refine AllReadyH.cons rfl (fun K hK=>?_) ?_;rotate_left
    ·exact AllReadyH.nil
    go_simp;refine hK.out _ _ (aB.out _ AY) (fun hHeld=>?_);clear hK K;refine wR 6 fun K hK=>?_;go_simp;refine hK.out _ _ (aB.out _ AY) (fun hHeld=>?_);clear hK K;refine wR 10 fun K hK=>?_;refine xk (by rfl) (.tmp 19) (.tmp 22) (by rfl) (by rfl) (by rfl) tx.out ?_;refine hK.out _ _ (aB.out _ HZ.1) (fun hHeld=>?_);clear hK K;refine wR 11 fun K hK=>?_;go_simp;refine hK.out _ _ (aB.out _ HZ.2) (fun hHeld=>?_);clear hK K;refine wD ?_ _;clear hHeld;have l3:=Lf.out;have u3:=LJ.out;obtain ⟨-,d3⟩:=aB.out w9 HZ.2;clear l0 l1 l2 Bh;go_wp2_with (at_builtin;refine xI rfl (.tmp 26) (.tmp 29) rfl rfl rfl Br.out ?_)
    go_roundw
    case rel=>exact ⟨k+1,aK.out,by simp,DI⟩
    case measure=>simp [intOf];have:=aK.out;omega
  ·obtain rfl:k=n:=by omega
   have HE:Hid (∃ kk,MD w wr kk L):=by
    have h:=HM.out;rw [List.take_of_length_le (by have:=HL.out;omega)] at h;exact ⟨_,h⟩
   go_wp2_with fail;go_ret;obtain ⟨kk,h⟩:=HE.out;exact ⟨kk,by rw [Hb.out];rfl,h⟩
end
end Go.Proofs.YtjffpimfngdggaaGreat
namespace Go.Proofs.YtjffpimfngdggaaGreat.K
open Go.RowKit

theorem zaT {R:List En} (ha:Asc R) (hc:∀ e∈R,ceE e=0):chk R=0:=by
 have key:okN R R.length=true:=by
  unfold okN;rw [List.all_eq_true];intro k hk;have lI:=List.mem_range.1 hk;unfold okAt;rw [Bool.and_eq_true];refine ⟨?_,?_⟩
  ·rw [beq_iff_eq];exact hc _ (zaI R k lI)
  ·cases k with
   | zero=>rfl
   | succ j =>
    have h:=List.pairwise_iff_getElem.1 ha j (j+1) (by omega) lI (by omega)
    have e1:R.getD j en0=R[j]:=by simp [List.getD,show j < R.length by omega]
    have e2:R.getD (j+1) en0=R[j+1]:=by simp [List.getD,lI]
    simp only [Nat.add_sub_cancel,e1,e2,h,Bool.or_true]
 unfold chk;rw [if_pos key]
theorem kj {R:List En} (h:chk R=0):Asc R:=by
 refine bM R (fun i hi=>?_);have:=bk R _ (zaS h) (i+1) hi;unfold okAt at this;rw [Bool.and_eq_true] at this;simpa using this.2
end Go.Proofs.YtjffpimfngdggaaGreat.K
namespace Go.Proofs.YtjffpimfngdggaaGreat
section
open Go.RowKit
theorem jT {L:List K.En} (h:K.chk L=0):∀ e∈L,K.ceE e=0:=fun e he=>by
 obtain ⟨k,hk,rfl⟩:=List.getElem_of_mem he;have h1:=K.bk L _ (K.zaS h) k hk;unfold K.okAt at h1;rw [Bool.and_eq_true] at h1
 have e1:L.getD k K.en0=L[k]:=by simp [List.getD,List.getElem?_eq_getElem hk]
 rw [e1] at h1;simpa using h1.1
theorem zdB {e:K.En} (h:K.ceE e=0):okD (ae e)=true:=by
 unfold K.ceE at h;by_cases h1:K.isR e.rep=false
 ·rw [if_pos h1] at h;cases h
 ·rw [if_neg h1] at h;by_cases h2:e.num < 1∨1000000000 < e.num
  ·rw [if_pos h2] at h;cases h
  ·have h3:K.isR e.rep=true:=by simpa using h1
   unfold okD ae V.isR;unfold K.isR at h3;simp only [Bool.and_eq_true,decide_eq_true_eq] at h3 ⊢;exact ⟨h3,by omega,by omega⟩
theorem zfG {L:List K.En} (h:K.chk L=0) {x y:K.En} (hx:x∈L) (hy:y∈L) (e:ae x=ae y):x=y:=by
 apply Classical.byContradiction;intro hn;refine K.kC (K.kj h) (fun _=>Iff.rfl) ⟨x,hx,y,hy,?_,hn⟩;unfold ae at e;simp only [Rn.mk.injEq] at e;simp [K.aq,e.1,e.2]
theorem zie {e:K.En} (h:K.ceE e=0):¬ e.sku.size=0:=by
 intro h0
 have hn:e.sku.data.toList=[]:=by
  apply List.eq_nil_of_length_eq_zero;rw [K.jQ];exact h0
 unfold K.ceE at h;by_cases h1:K.isR e.rep=false
 ·rw [if_pos h1] at h;cases h
 ·rw [if_neg h1] at h;by_cases h2:e.num < 1∨1000000000 < e.num
  ·rw [if_pos h2] at h;cases h
  ·rw [if_neg h2,hn] at h
   have hg:K.eQ ([]:List UInt8)=false:=by decide
   simp [hg] at h
def BX (L:List K.En) (F:List Rc) (X:List Pv):Prop:=(∀ r:Nat,r < 16 -> ∀ m,(∃ p∈X,mem (aa p.P r) m)↔∃ f∈F,mem (cq (dB L f.s) r) m/\mem (aa f.p.P r) m)/\wt X <= F.length * (L.length+1)
theorem BX.nil (L:List K.En):BX L [] []:=⟨fun r _ m=>by simp,Nat.zero_le _⟩
theorem BX.snoc {L:List K.En} {F:List Rc} {X:List Pv} (h:BX L F X) {f:Rc} {D:Pst} {p:Pv} (hD:af (cq (dB L f.s)) D) (hm:∃ C:Nat -> List Rn,(∀ r,r < 16 -> ey (aa D r) (aa f.p.P r) (C r))/\af C p.P):BX L (F++[f]) (X++[p]):=by
 obtain ⟨C,hC,hP⟩:=hm
 have key:∀ r:Nat,r < 16 -> ∀ m,mem (C r) m↔mem (cq (dB L f.s) r) m/\mem (aa f.p.P r) m:=fun r hr m=>by rw [(hC r hr).2 m,zZ hD r hr m]
 refine ⟨fun r hr m=>?_,?_⟩
 ·constructor
  ·rintro ⟨q,hq,hm⟩;rcases List.mem_append.1 hq with hq | hq
   ·obtain ⟨g,hg,h1⟩:=(h.1 r hr m).1 ⟨q,hq,hm⟩;exact ⟨g,List.mem_append_left _ hg,h1⟩
   ·obtain rfl:q=p:=by simpa using hq
    rw [zZ hP r hr m,key r hr m] at hm;exact ⟨f,by simp,hm⟩
  ·rintro ⟨g,hg,h1⟩;rcases List.mem_append.1 hg with hg | hg
   ·obtain ⟨q,hq,h2⟩:=(h.1 r hr m).2 ⟨g,hg,h1⟩;exact ⟨q,List.mem_append_left _ hq,h2⟩
   ·obtain rfl:g=f:=by simpa using hg
    exact ⟨p,by simp,by rw [zZ hP r hr m,key r hr m];exact h1⟩
 ·have h1:p.P.cloud.length <= (dB L f.s).length:=zcB hP _ (fun r hr n hn=>by
   obtain ⟨d,hd,-,e1,e2⟩:=(xC _ _ _).1 ((key r hr n).1 hn).1
   have:d=⟨(r:Int),n⟩:=by cases d;simp_all
   rw [<- this];exact hd)
  have h2:=vm L f.s;have h3:=h.2;rw [wM,List.length_append];simp only [wt,List.length_cons,List.length_nil];rw [Nat.add_mul];omega
theorem zjh {a b:ByteArray} (h:(a.toList == b.toList)=true):a=b:=by
 rw [beq_iff_eq,ByteArray.toList_eq,ByteArray.toList_eq] at h
 cases a;cases b
 simp at h;rw [h]
theorem zgs (a:ByteArray):(a.toList == a.toList)=true:=by simp
theorem ze8 {s:ByteArray} (h:s.size=0):s=cS:=by
 obtain ⟨d⟩:=s;have:d=#[]:=Array.eq_empty_of_size_eq_zero h;rw [this];rfl
theorem zfI {e:K.En} (he:okD (ae e)=true) (r:Rc):cv r e=true↔(r.s=cS∨r.s=e.sku)/\mem (aa r.p.P e.rep.toNat) e.num:=by
 unfold cv;rw [Bool.and_eq_true,ql,Bool.or_eq_true,decide_eq_true_eq]
 have h1:V.isR e.rep=true:=by
  unfold okD ae at he;simp only [Bool.and_eq_true] at he;exact he.1
 constructor
 ·rintro ⟨h2,h3⟩;refine ⟨h2.elim (fun h=>.inl (ze8 h)) (fun h=>.inr (zjh h)),h3.2⟩
 ·rintro ⟨h2,h3⟩;refine ⟨h2.elim (fun h=>.inl (by rw [h];rfl)) (fun h=>.inr (by rw [h];exact zgs _)),h1,h3⟩
theorem zfv {L:List K.En} {R F:List Rc} (hc:K.chk L=0) (hF:lm R F) {X:List Pv} (hX:BX L F X) {P:Pst} (hP:af (aA X) P):L.filter (pkB P false)=L.filter (dn R):=by
 apply List.filter_congr;intro e he;have hd:=zdB (jT hc e he);have hs:=zie (jT hc e he)
 have hR:V.isR e.rep=true:=by
  have h:=hd;unfold okD ae at h;simp only [Bool.and_eq_true] at h;exact h.1
 have hr:0 <= e.rep/\e.rep < 16:=by simpa [V.isR] using hR
 have rG:e.rep.toNat < 16:=by omega
 have DG:∀ s:ByteArray,mem (cq (dB L s) e.rep.toNat) e.num↔(s=cS∨s=e.sku):=fun s=>by
  rw [xC];unfold dB;constructor
  ·rintro ⟨d,tS,-,h1,h2⟩;obtain ⟨x,hx,rfl⟩:=List.mem_map.1 tS;obtain ⟨nR,oz⟩:=List.mem_filter.1 hx
   have ed:ae x=ae e:=by
    unfold ae at h1 h2 ⊢;simp only at h1 h2;congr 1;omega
   have:=zfG hc nR he ed;subst this;rw [Bool.or_eq_true,decide_eq_true_eq,decide_eq_true_eq] at oz;exact oz.elim (fun h=>.inl (ze8 h)) (fun h=>.inr h.symm)
  ·intro h;refine ⟨ae e,List.mem_map.2 ⟨e,List.mem_filter.2 ⟨he,?_⟩,rfl⟩,hd,by unfold ae;simp only;omega,rfl⟩;rw [Bool.or_eq_true,decide_eq_true_eq,decide_eq_true_eq];exact h.elim (fun h=>.inl (by rw [h];rfl)) (fun h=>.inr h.symm)
 have ii:inB P e=true↔∃ f∈F,(f.s=cS∨f.s=e.sku)/\fC R f.s e.rep.toNat e.num:=by
  rw [ql];unfold cj;simp only [hR,true_and];rw [zZ hP _ rG,kg,hX.1 _ rG];constructor
  ·rintro ⟨f,hf,h1,h2⟩;refine ⟨f,hf,(DG f.s).1 h1,?_⟩;obtain ⟨C,hC,hI⟩:=(hF.2.1 f hf).2.1;exact (hI _ rG _).1 ((zZ hC _ rG _).1 h2)
  ·rintro ⟨f,hf,h1,h2⟩;refine ⟨f,hf,(DG f.s).2 h1,?_⟩;obtain ⟨C,hC,hI⟩:=(hF.2.1 f hf).2.1;exact (zZ hC _ rG _).2 ((hI _ rG _).2 h2)
 have ue:inB P e=true↔R.any (fun r=>cv r e)=true:=by
  rw [ii,List.any_eq_true];constructor
  ·rintro ⟨f,hf,h1,⟨x,hx,GN,hm⟩,-⟩;exact ⟨x,hx,(zfI hd x).2 ⟨by rw [GN];exact h1,hm⟩⟩
  ·rintro ⟨r,se,Bz⟩;obtain ⟨h1,h2⟩:=(zfI hd r).1 Bz
   have step:∀ s,(s=cS∨s=e.sku) -> fC R s e.rep.toNat e.num -> ∃ f∈F,(f.s=cS∨f.s=e.sku)/\fC R f.s e.rep.toNat e.num:=fun s iZ hM=>by
    obtain ⟨x,hx,GN,-⟩:=hM.1;apply Classical.byContradiction;intro hn;refine hF.2.2 s ⟨x,hx,GN⟩ (fun f hf hfs=>hn ⟨f,hf,by rw [hfs];exact iZ,by rw [hfs];exact hM⟩) _ rG _ hM
   by_cases hz:∃ x∈R,x.s=cS/\mem (aa x.p.P e.rep.toNat) e.num
   ·exact step cS (.inl rfl) ⟨hz,fun h=>absurd rfl h⟩
   ·rcases h1 with h1 | h1
    ·exact absurd ⟨r,se,h1,h2⟩ hz
    ·exact step e.sku (.inr rfl) ⟨⟨r,se,h1,h2⟩,fun _=>hz⟩
 unfold pkB dn
 cases h1:inB P e <;> cases h2:R.any (fun r=>cv r e)
 ·rfl
 ·rw [h1,h2] at ue;exact absurd (ue.2 rfl) (by decide)
 ·rw [h1,h2] at ue;exact absurd (ue.1 rfl) (by decide)
 ·rfl
theorem zg8 {L:List K.En} {R:List Rc} (hc:K.chk L=0) (hF:lm R []):L.filter (dn R)=L:=by
 have h:=zfv hc hF (BX.nil L) (P:=pv0.P) ⟨fun _=>[],fun _ _=>⟨trivial,fun _=>Iff.rfl⟩,by decide⟩;rw [<- h];apply List.filter_eq_self.2;intro e _
 have:inB pv0.P e=false:=by
  cases hb:inB pv0.P e
  ·rfl
  ·rw [ql] at hb;unfold cj at hb;obtain ⟨h1,h2⟩:=hb;exact absurd h2 (by unfold aa pv0;simp [aZ,aj,V.at',mem,V.fE])
 unfold pkB;rw [this];rfl
end
section
open Go.RowKit Go.Maps Go.Sort
attribute [local go_sem ↓] zq zp qf qe
attribute [local go_sem] zL zS qg
theorem zbx {α : Type} [DecidableEq α]:∀ (l m:List α),l.Nodup -> (∀ x∈l,x∈m) -> l.length <= m.length
 | [],_,_,_=>Nat.zero_le _
 | x :: l,m,hn,hs=>by
  have h1:=List.nodup_cons.1 hn;have hx:=hs x List.mem_cons_self;have h2:=zbx l (m.erase x) h1.2 (fun y hy=>(List.mem_erase_of_ne (fun e=>h1.1 (by rw [<- e];exact hy))).2 (hs y (List.mem_cons_of_mem _ hy)));rw [List.length_erase_of_mem hx] at h2;have:=List.length_pos_of_mem hx;simp only [List.length_cons];omega
theorem zfU:∀ a:List UInt8,Lib.compareBytes a a=0
 | []=>by simp [Lib.compareBytes]
 | a :: x=>by
  have h0:¬ a < a:=UInt8.lt_irrefl a;simpa [Lib.compareBytes,h0] using zfU x
theorem zhc {R F:List Rc} (h:lm R F):F.length <= R.length:=by
 have h1:=zbx (F.map (fun x=>x.s.data.toList)) (R.map (fun x=>x.s.data.toList)) (by
  refine List.pairwise_map.2 (h.1.imp fun {a b} ee e=>?_)
  have e2:a.s=b.s:=by cases ha:a.s;cases hb:b.s;rw [ha,hb] at e;simpa using e
  rw [e2] at ee
  exact absurd ee (by unfold eZ;rw [zfU];decide)) (fun x hx=>by
  obtain ⟨f,hf,rfl⟩:=List.mem_map.1 hx;obtain ⟨r,hr,e⟩:=(h.2.1 f hf).1
  exact List.mem_map.2 ⟨r,hr,by rw [e]⟩)
 simpa using h1
theorem zcA {w w':World} {L:List K.En} {n:Nat} {ao:Option Addr} {c:Nat} (hn:L.length=n) (hs:∀ e∈L,e.sku.size <= maxLen) (hb:n <= 3518437208883) (O:K.dP w.heap.size w.heap.size w w' ao c L):K.aD w' ao n c L/\∀ ad,ao=some ad -> w.heap.size <= ad.block:=by
 have h:=O.src hs (by omega);rw [hn] at h;exact h
theorem yN (ao bo:Option Addr) (n cap m cap':Nat) (L:List K.En) (R:List Rc) (w:World) (hS:K.aD w ao n cap L) (hR:RcS w bo m cap' R) (hwt:∀ s,wt (ofS R s) <= 8796093022207) (m4:m * (n+1) <= 8796093022207) :
  Calls Tryz.prog 54 #[.slice ao n cap,.slice bo m cap'] w fun x w'=>ApA w w' x L R m:=by
 have HS:=hide hS;have HR:=hide hR;have HW:=hide hwt;have Ao:=hide m4;have HL:Hid (L.length=n/\n <= 3518437208883):=⟨hS.1,hS.2.2.2.2⟩;have lL:=HL.2;have HM:Hid (R.length=m):=hR.len;clear hS hR hwt m4;go_enter Tryz.func54,Tryz.ntmps54;go_wp2_with fail;refine (K.qx ao n cap L _ HS).mono ?_;rintro x w1 ⟨rfl,b1⟩;have aM:=hide b1;have dg:=hide (HS.below b1);have o5:=hide (HR.below b1);clear b1 HS HR;rcases K.vt L with hc | hc;rotate_left
 ·have HE:Hid (ApA w w1 (.returned (.tuple #[.slice none 0 0,.int .i64 1])) L R m):=.inr ⟨fun h=>(by rw [hc] at h;cases h.1),_,_,_,rfl,K.aD.none _,aM.out,fun ad h=>by cases h⟩;rw [hc];clear hc;go_wp2_with fail;go_ret2;exact HE.out
 ·rw [hc];have HC:=hide hc;clear hc;go_wp2_with fail;refine (zhd bo m cap' R _ o5.out HW).mono ?_;rintro x w2 (⟨hO,⟨qo,qn,qc⟩,F,rfl,S2,b2,-,hF⟩ | ⟨hO,rfl,b2⟩);rotate_left
  ·have HE:Hid (ApA w w2 (.returned (.tuple #[.slice none 0 0,.int .i64 1])) L R m):=.inr ⟨fun h=>hO h.2,_,_,_,rfl,K.aD.none _,tmq aM b2,fun ad h=>by cases h⟩;clear hO b2;go_wp2_with fail;go_ret2;exact HE.out
  ·rw [show HsV ⟨qo,qn,qc⟩=Value.slice qo qn qc from rfl];replace S2:RcS w2 qo qn qc F:=S2;have HO:=hide hO;have cu:=wTr aM b2;have dZ:=hide (dg.below b2);have HF:=hide hF;have AW:=hide S2;have Ed:Hid (F.length=qn):=S2.len;have Oy:=S2.big
   have Fr:Hid (qn <= m):=by show _ <= _;rw [<- Ed.out,<- HM.out];exact zhc hF
   clear hO b2 dg aM o5 hF S2;by_cases hq0:qn=0
   ·have NG:((qn:Int) == 0)=true:=by simp [hq0]
    have Ac:F=[]:=List.eq_nil_of_length_eq_zero (Ed.trans hq0)
    have Kn:Hid (L.filter (dn R)=L):=by show _=_;exact zg8 HC.out (Ac ▸ HF)
    clear Ac
    cases ao with
    | none =>
     have fV:=dZ.2.1 rfl;obtain ⟨rfl,rfl⟩:=fV;go_wp2_with fail;refine (K.zfO _).mono ?_;rintro x w3 ⟨rfl,rfl⟩;have HE:Hid (ApA w w3 (.returned (.tuple #[.slice none 0 0,.int .i64 0])) L R m):=.inl ⟨HC.out,HO.out,none,0,0,rfl,by rw [Kn.out];exact dZ,cu.out,fun ad h=>by cases h⟩;go_wp2_with fail;go_ret2;exact HE.out
    | some ad =>
     go_wp2_with fail;refine (K.zfP ad n cap L _ dZ).mono ?_;rintro x w3 ⟨a3,c3,rfl,O3⟩;have h3:=zcA HL.1 dZ.2.2.2.1 HL.2 O3;have HE:Hid (ApA w w3 (.returned (.tuple #[.slice a3 n c3,.int .i64 0])) L R m):=.inl ⟨HC.out,HO.out,a3,n,c3,rfl,by rw [Kn.out];exact h3.1,tmq cu O3.below,fun ad h=>Nat.le_trans cu.size (h3.2 ad h)⟩;clear O3 h3;go_wp2_with fail;go_ret2;exact HE.out
   ·have NG:((qn:Int) == 0)=false:=by simp [hq0]
    have u2:Hid (∀ e∈L,¬ e.sku.size=0):=fun e he=>zie (jT HC.out e he);go_wp2_with fail;refine (zeb ao n cap L _ dZ.out u2).mono ?_;rintro x w3 ⟨kk,rfl,hM⟩;obtain ⟨K0,f,M3⟩:=hM;have J4:=hide M3;have aw:=wTr cu M3.below;have mn:=hide (dZ.below M3.below);have rY:=hide (AW.below M3.below);obtain ⟨b,Hb⟩:∃ b,Hid (w2.heap.size=b):=⟨_,rfl⟩;rw [Hb.out];clear M3 dZ AW cu;go_wp2_with fail;go_loopw [10,35] (fun v i wr=>∃ (k:Nat) (x:Hs),k <= qn/\v = .slice x.o x.n x.c/\i = .int .i64 (k:Int)/\Hid (∃ X:List Pv,iC w3.heap.size w3 wr x X/\(∀ p∈X,eY x p)/\BX L (F.take k) X/\x.n=k)) (fun _ i _=>qn - (intOf i).toNat)
    case atStart=>exact ⟨0,hs0,Nat.zero_le _,rfl,rfl,⟨[],iC.nil w3,fun p h=>(by cases h),BX.nil L,rfl⟩⟩
    case round =>
     obtain ⟨k,x,hk,rfl,rfl,HX⟩:=hrel
     rename World=>wr
     by_cases ak:k < qn
     ·have aX:(k:Int) < (qn:Int):=by omega
      obtain ⟨X,O,DV,BK,Fg⟩:=HX.out;obtain ⟨ad,cU,A0⟩:=(rY.below O.below).at k ak;have lZ:=(rY.below O.below).okAt k ak;have HT:=hide (yZ F k (by rw [Ed.out];exact ak));obtain ⟨r,Hr⟩:∃ r,Hid (F.getD k rc0=r):=⟨_,rfl⟩;rw [Hr.out] at A0 lZ HT;have ic:=lZ.2;have dF:=zC A0;obtain ⟨g7,ia⟩:∃ g7,wr.heap.size=g7:=⟨_,rfl⟩;obtain ⟨w7,cd,X7,B7,S7⟩:=gt wr (mkR r) g7 ia;have O7:=(O.later B7).later (zf w7);have M7:=((J4.later O.below).later B7).later (zf w7)
      have l0:(Instr.lookup 149 (.map (some b)) (.string r.s) false).run Tryz.prog w7.drew = .ok (.slice (f r.s).o (f r.s).n (f r.s).c) w7.drew:=by
       have:=M7.look sR Tryz.underlying9 Tryz.underlying149 (o0 _) r.s ic;rwa [Hb.out] at this
      have E7:=M7.len r.s;have mK:=vm L r.s
      have Nk:Hid (aV w7.drew (f r.s).o (f r.s).n (f r.s).c (dB L r.s)):=by
       have h:=M7.rows r.s
       have e:(HsV (f r.s)) = .slice (f r.s).o (dB L r.s).length (f r.s).c:=by show Value.slice _ _ _=_;rw [E7]
       rw [e,E7] at h;have:=(dX.src (B0:=w2.heap.size) ⟨h,M7.below,M7.hb.2.2,by omega⟩ (by have:=HL.out;omega)).1
       show aV _ _ _ _ _
       rw [E7];exact this
      have aB:Hid (∀ W:World,W.heap[g7]? = w7.heap[g7]? -> W.cell? ⟨g7,0,none⟩=some (.string r.s)/\(ldP (.pointer (some ⟨g7,1,none⟩))).run Tryz.prog W = .ok (.agg #[.slice r.p.vo r.p.vn r.p.vc,.slice r.p.co r.p.cn r.p.cc]) W):=fun W h=>by
       have X:cg W g7 (mkR r):=h.trans X7;exact ⟨X.sk,zj X.past⟩
      have K8:Hid (g7 < w7.heap.size):=by show _ < _;omega
      have aK:=hide ak;have fj:=hide O7;have tR:=hide DV;have uU:=hide BK;have Lh:Hid (x.n=k/\k <= 2199023255552):=⟨Fg,by omega⟩;have Dx:Hid (am w7.drew r.p):=((lZ.1.below B7).below (zf w7))
      have Kq:Hid (∀ j,(HsV x).ownBlock=some j -> j < g7):=fun j hj=>by have:=(O.own.lt j hj).2;omega
      subst cU;clear A0 X7 B7 S7 M7 O7 O DV BK ak hk lZ E7 mK Fg HX;go_upto_region 14 with fail;clear cd dF;refine wp_region_held_drew (S:=fun W=>W.cell? ⟨g7,0,none⟩=some (.string r.s)/\(ldP (.pointer (some ⟨g7,1,none⟩))).run Tryz.prog W = .ok (.agg #[.slice r.p.vo r.p.vn r.p.vc,.slice r.p.co r.p.cn r.p.cc]) W) (by kernel_rfl) (aB.out _ rfl) (fun hHeld=>?_);refine wU 0 ?_;refine wU 1 ?_;refine wU 2 ?_;refine wU 3 ?_;refine wU 6 ?_;refine wU 7 ?_;refine wR 4 fun K hK=>?_;go_simp;refine hK.out _ _ (aB.out _ rfl) (fun hHeld=>?_);clear hK K;refine wR 5 fun K hK=>?_;go_simp;go_wp2_with fail;refine (yt (f r.s).o (f r.s).n (f r.s).c (dB L r.s) _ Nk).mono ?_;rintro e w8 ⟨pd,rfl,Sd,-,b8,Cd⟩;have eO:=hide (fj.later b8)
      have Ld:=hide (Dx.below b8);have z8:w8.heap[g7]? = w7.heap[g7]?:=b8.block g7 K8.out;have Ix:=hide z8;have Jk:Hid (g7 < w8.heap.size):=Nat.lt_of_lt_of_le K8.out b8.size;have NT:=hide Sd;have CZ:=hide Cd;refine hK.out _ _ (aB.out _ z8) (fun hHeld=>?_);clear hK K;clear b8 z8 Sd Cd fj Dx l0;refine wR 8 fun K hK=>?_;go_simp;go_wp2_with fail;refine (zbr pd r.p _ NT.out Ld).mono ?_;rintro e w9 ⟨pm,rfl,Sm,Nm,b9,Cm⟩;have BR:=hide (eO.later b9);have z9:w9.heap[g7]? = w7.heap[g7]?:=(b9.block g7 Jk).trans Ix.out;have FR:=hide z9;have Ll:Hid (g7 < w9.heap.size):=Nat.lt_of_lt_of_le Jk.out b9.size;have NI:=hide Sm;have GH:Hid (eY x pm):=fun j hj=>dI.new Nm (by have:=Kq.out j hj;have:=Jk.out;omega)
      have LW:Hid (BX L (F.take (k+1)) (X++[pm])):=by show BX _ _ _;rw [HT.out];exact uU.snoc CZ.out Cm
      refine hK.out _ _ (aB.out _ z9) (fun hHeld=>?_);clear hK K;clear b9 z9 Sm Nm Cm eO Ld;obtain ⟨ga,ca,wa,Dv,Oa,Fa,ka⟩:=BR.app tR.out pm NI.out GH.out (by have:=Lh.out;omega);have Br:Hid ((Builtin.append_ #[151,151] 151 #[.slice x.o x.n x.c,.slice (some ⟨w9.heap.size,0,none⟩) 1 1]).run Tryz.prog (w9.alloc (.cells #[.slice pm.vo pm.vn pm.vc,.slice pm.co pm.cn pm.cc] 26)) = .ok (.slice (some ⟨ga,0,none⟩) (x.n+1) ca) wa):=Dv;have zA:(w9.alloc (.cells #[.slice pm.vo pm.vn pm.vc,.slice pm.co pm.cn pm.cc] 26)).heap[g7]? = w7.heap[g7]?:=(Below.heap_alloc w9 _ g7 Ll).trans FR.out;have za:wa.heap[g7]? = w7.heap[g7]?:=(ka g7 Ll.out (fun e=>by have:=Kq.out g7 e;omega)).trans FR.out;have ov:Hid (∃ X:List Pv,iC w3.heap.size w3 wa ⟨some ⟨ga,0,none⟩,x.n+1,ca⟩ X/\(∀ p∈X,eY ⟨some ⟨ga,0,none⟩,x.n+1,ca⟩ p)/\BX L (F.take (k+1)) X/\x.n+1=k+1):=⟨_,Oa,Fa,LW.out,by rw [Lh.1]⟩
      clear Dv Oa Fa ka;refine wR 9 fun K hK=>?_;go_simp;refine hK.out _ _ (aB.out _ zA) (fun hHeld=>?_);clear hK K;refine wR 10 fun K hK=>?_;refine xk (by rfl) (.tmp 39) (.tmp 48) (by rfl) (by rfl) (by rfl) Br.out ?_;refine hK.out _ _ (aB.out _ za) (fun hHeld=>?_);clear hK K;refine wU 11 ?_;refine wD ?_ _;clear hHeld;clear zA za;go_wp2_with fail;go_roundw
      case rel=>exact ⟨k+1,⟨some ⟨ga,0,none⟩,x.n+1,ca⟩,aK.out,rfl,by simp,ov⟩
      case measure=>simp [intOf];have:=aK.out;omega
     ·have aX:¬ (k:Int) < (qn:Int):=by omega
      obtain ⟨X,O,-,BK,Fg⟩:=HX.out;have hT:F.take k=F:=List.take_of_length_le (by have:=Ed.out;omega);rw [hT] at BK;have uU:=hide BK;have HP:Hid (fN wr x.o x.n X):=O.row
      have IS:Hid (wt X <= 8796093022207):=by
       show _ <= _
       have h1:=BK.2;rw [Ed.out,HL.1] at h1;have h2:=Nat.mul_le_mul_right (n+1) Fr.out;have h3:=Ao.out;omega
      have Mr:x.n <= 8796093022207:=by omega
      have fl:=wTr aw O.below;have mQ:=hide (mn.below O.below);clear O BK hT Fg HX hk ak;go_wp2_with fail;refine (xi x.o x.n x.c X _ HP.out IS.out Mr).mono ?_;rintro e w8 ⟨pj,rfl,Sj,-,b8,Cj⟩;have gA:=wTr fl b8;have tM:=hide (mQ.below b8);have Ji:=hide Sj;have Es:=hide Cj;clear b8 Sj Cj fl mQ;go_wp2_with fail;refine (jK ao n cap L pj _ tM.out Ji).mono ?_;rintro e w9 (⟨-,-,a9,n9,c9,rfl,S9,b9,N9⟩ | ⟨fR,-⟩);rotate_left
      ·exact absurd ⟨HC.out,zT.1 Es.canon⟩ fR
      ·have HE:Hid (ApA w w9 (.returned (.tuple #[.slice a9 n9 c9,.int .i64 0])) L R m):=.inl ⟨HC.out,HO.out,a9,n9,c9,rfl,by rw [<- zfv HC.out HF.out uU.out Es.out];exact S9,tmq gA b9,fun ad h=>Nat.le_trans gA.size (N9 ad h)⟩;clear S9 b9 N9;go_wp2_with fail;go_ret2;exact HE.out
end
section
open Go.RowKit
def aQ (s:Fc):Prop:=(K.okN s.es s.an=true/\ag s.p.P/\OkR s.rs s.rn)/\(∀ e∈s.es,inB s.p.P e=true)/\(∀ r∈s.rs,¬ wiP r.p.P s.p.P)/\∀ e∈s.es,dn s.rs e=true
def ns (s:Fc) (x:Int):Prop:=(aQ s/\x=0)∨(¬ aQ s/\x=1)
theorem zeX {L:List K.En} {P:Pst}:(L.filter (pkB P false)).length=0↔∀ e∈L,inB P e=true:=by
 rw [List.length_eq_zero_iff,List.filter_eq_nil_iff];refine forall_congr' fun e=>forall_congr' fun _=>?_;unfold pkB
 cases inB P e <;> simp
theorem zib {L:List K.En} {R:List Rc}:(L.filter (dn R)).length=L.length↔∀ e∈L,dn R e=true:=by
 rw [List.length_filter_eq_length_iff]
theorem zhV {L F:List Rc} {P:Pst} (h:iW L P F):F.length=L.length↔∀ r∈L,¬ wiP r.p.P P:=by
 have e1:F.length=((plR L).filter (waitB P)).length:=by rw [<- h.2,jo]
 have e2:L.length=(plR L).length:=(jo L).symm;rw [e1,e2,List.length_filter_eq_length_iff];constructor
 ·intro k r hr hw;have:=k (r.s,r.p.P) (List.mem_map.2 ⟨r,hr,rfl⟩);have h2:waitB P (r.s,r.p.P)=false:=bT (y:=(r.s,r.p.P)) hw;rw [h2] at this
  cases this
 ·intro k y hy;obtain ⟨r,hr,rfl⟩:=List.mem_map.1 hy;have h2:waitB P (r.s,r.p.P)=true:=wN (y:=(r.s,r.p.P)) (k r hr);exact h2
theorem js {L:List K.En} {n:Nat} (hl:L.length=n):K.chk L=0↔K.okN L n=true:=by
 unfold K.chk;rw [hl]
 split <;> simp_all
attribute [local go_sem ↓] zq zp zP zO
attribute [local go_sem] zi zk zl zr
theorem zb1 (s:Fc) (w:World) (hF:aU w s) (hR:FcR s) (hwt:∀ t,wt (ofS s.rs t) <= 8796093022207) (m4:s.rn * (s.an+1) <= 8796093022207) (rG:s.rn <= 2199023255551) :
  Calls Tryz.prog 27 #[FaV (mkF s)] w fun e w'=>cH w w' e (ns s):=by
 have b1:=ze w (.cells (FaC (mkF s)) 31);have X1:=qs w (mkF s);obtain ⟨wk,aL⟩:∃ w1,w.alloc (.cells (FaC (mkF s)) 31)=w1:=⟨_,rfl⟩;rw [aL] at b1 X1;obtain ⟨G,cK⟩:∃ G,w.heap.size=G:=⟨_,rfl⟩;rw [cK] at X1;have HX:=hide X1;have al:=hide b1;have HF:=hide (hF.below b1);have HR:=hide hR;have II:=hide hwt;have KJ:Hid (s.rn * (s.an+1) <= 8796093022207/\s.rn <= 2199023255551):=⟨m4,rG⟩;have eT:Hid (s.es.length=s.an/\s.rs.length=s.rn):=⟨hF.es.1,hF.rs.len⟩;clear hF b1 X1 hR hwt m4 rG;obtain ⟨c0,c3⟩:=HX.cs;have lp:=zj HX.past;go_enter Tryz.func27,Tryz.ntmps27;go_wp2_with fail;clear aL cK c0 c3 lp;refine (jK s.ao s.an s.ac s.es s.p _ HF.es HF.p).mono ?_;rintro e w3 (⟨hc,hI,a3,n3,d3,rfl,S3,b3,-⟩ | ⟨fR,a3,n3,d3,rfl,S3,b3,-⟩);rotate_left
 ·have HE:Hid (cH w w3 (.returned (.int .i64 1)) (ns s)):=⟨1,rfl,.inr ⟨fun h=>fR ⟨(js eT.1).2 h.1.1,h.1.2.1⟩,rfl⟩,tmq al b3⟩;clear fR S3 b3;go_wp2_with fail;go_ret;exact HE.out
 have H1:Hid (K.okN s.es s.an=true/\ag s.p.P/\(s.es.filter (pkB s.p.P false)).length=n3):=⟨(js eT.1).1 hc,hI,S3.1⟩;have aw:=hide b3;clear hc hI S3 b3;by_cases h3:n3=0;rotate_left
 ·have hp:(0:Int) < (n3:Int):=by omega
  have HE:Hid (cH w w3 (.returned (.int .i64 1)) (ns s)):=⟨1,rfl,.inr ⟨fun h=>h3 (by rw [<- H1.2.2];exact zeX.2 h.2.1),rfl⟩,tmq al aw⟩;go_wp2_with fail;go_ret;exact HE.out
 subst h3;have H2:Hid (∀ e∈s.es,inB s.p.P e=true):=zeX.1 H1.2.2;obtain ⟨c0,c3⟩:=(HX.below aw).cs;have lp:=zj (HX.below aw).past;go_wp2_with fail;clear c0 c3 lp;refine (jM s.ro s.rn s.rc s.rs s.p _ ((HF.row HR).below aw) (HF.p.below aw) KJ.2).mono ?_;rintro e w4 (⟨hO,-,⟨fo,fn,fc⟩,F,rfl,G4,n4,W4⟩ | ⟨fR,rfl,b4⟩);rotate_left
 ·have HE:Hid (cH w w4 (.returned (.int .i64 1)) (ns s)):=⟨1,rfl,.inr ⟨fun h=>fR ⟨h.1.2.2,h.1.2.1⟩,rfl⟩,tmq al (aw.trans (b4.mono aw.size))⟩;clear fR b4;go_wp2_with fail;go_ret;exact HE.out
 have aI:=wTr aw G4.below;have H3:Hid (OkR s.rs s.rn/\iW s.rs s.p.P F/\F.length=fn/\fn <= s.rn):=⟨hO,W4,G4.src.len,n4⟩;rw [show HsV ⟨fo,fn,fc⟩=Value.slice fo fn fc from rfl];clear hO G4 n4 W4;obtain ⟨c0,c3⟩:=(HX.below aI).cs;by_cases h4:fn < s.rn
 ·have hp:(fn:Int) < (s.rn:Int):=by omega
  have HE:Hid (cH w w4 (.returned (.int .i64 1)) (ns s)):=⟨1,rfl,.inr ⟨fun h=>by
   have h5:=(zhV H3.2.1).2 h.2.2.1;rw [H3.2.2.1,eT.2] at h5
   omega,rfl⟩,tmq al aI⟩
  go_wp2_with fail;clear c0 c3;go_ret;exact HE.out
 have hp:¬ (fn:Int) < (s.rn:Int):=by omega
 have H4:Hid (∀ r∈s.rs,¬ wiP r.p.P s.p.P):=(zhV H3.2.1).1 (by rw [H3.2.2.1,eT.2];have:=H3.2.2.2;omega);clear h4;go_wp2_with fail;clear c0 c3 hp;refine (yN s.ao s.ro s.an s.ac s.rn s.rc s.es s.rs _ (HF.es.below aI) (HF.rs.below aI) II.out KJ.1).mono ?_;rintro e w5 (⟨-,-,a5,n5,d5,rfl,S5,b5,-⟩ | ⟨fR,-⟩);rotate_left
 ·exact absurd ⟨(js eT.1).2 H1.1,H3.1⟩ fR
 have cZ:=wTr aI b5;have H5:Hid ((s.es.filter (dn s.rs)).length=n5):=S5.1;clear S5 b5;obtain ⟨c0,c3⟩:=(HX.below cZ).cs
 have iV:n5 <= s.an:=by
  have h:=List.length_filter_le (dn s.rs) s.es;have h6:=H5.out;have h7:=eT.1;omega
 by_cases h6:n5 < s.an
 ·have hp:(n5:Int) < (s.an:Int):=by omega
  have HE:Hid (cH w w5 (.returned (.int .i64 1)) (ns s)):=⟨1,rfl,.inr ⟨fun h=>by
   have h5:=zib.2 h.2.2.2;have h8:=H5.out;have h7:=eT.1
   omega,rfl⟩,tmq al cZ⟩
  clear iV;go_wp2_with fail;clear c0 c3;go_ret;exact HE.out
 have hp:¬ (n5:Int) < (s.an:Int):=by omega
 have HE:Hid (cH w w5 (.returned (.int .i64 0)) (ns s)):=⟨0,rfl,.inl ⟨⟨⟨H1.1,H1.2.1,H3.1⟩,H2.out,H4.out,zib.1 (by
  have h8:=H5.out;have h7:=eT.1
  omega)⟩,rfl⟩,tmq al cZ⟩
 clear iV h6;go_wp2_with fail;clear c0 c3;go_ret;exact HE.out
end
section
open Go.RowKit
attribute [local go_sem ↓] zq zp zE zD zY zX K.zy K.zx
attribute [local go_sem] zi zk zl zr zv zz zM zR qp K.zJ K.zu K.zH K.xq
theorem mD (L:List K.En) (k:Nat) (h:k < L.length):L.take (k+1)=L.take k++[L.getD k K.en0]:=by
 rw [List.take_succ_eq_append_getElem h];simp [List.getD,h]
def LvS (w w':World) (x:Ending) (L:List K.En):Prop:=∃ ao n c,x = .returned (.slice ao n c)/\K.aD w' ao n c L/\Below w.heap.size w w'
end
section
open Go.RowKit Go.Maps
def WvA (w w':World) (x:Ending) (L:List Rc) (P:Pst):Prop:=∃ (h:Hs) (F:List Rc),x = .returned (.slice h.o h.n h.c)/\RcS w' h.o h.n h.c F/\Below w.heap.size w w'/\iW L P F/\h.n <= h.c/\(h.o=none -> h.c=0)
attribute [local go_sem ↓] zq zp qf qe
attribute [local go_sem] zi zk zL zS qg
end
section
open Go.RowKit
attribute [local go_sem ↓] zq zp
attribute [local go_sem] zi zk
variable {w w' w2 W W' : World} {g : Nat}

theorem zcc {p:Addr} {r:Rn} (A:gk W p r):W.cell? ⟨p.block,p.off,none⟩=some (.int .i64 r.lo)/\W.cell? ⟨p.block,p.off+1,none⟩=some (.int .i64 r.hi):=by
 have hs:=World.cell?_spot A.c0;have c1:=A.c1;have c0:=A.c0;obtain ⟨b,o,k⟩:=p;obtain rfl:k=none:=hs;rw [Addr.add_lit] at c1;exact ⟨c0,c1⟩
def gY (d:Rn):Sn:=⟨d.lo,d.hi,d.hi⟩
theorem zeI (D:List Rn) (r:Nat) (hr:r < 16) (n:Int):mem (aa ⟨[],D.map gY⟩ r) n↔mem (cq D r) n:=by
 rw [xN _ r hr,xC];constructor
 ·rintro ⟨h1,h2,h3 | ⟨c,hc,h4,h5,h6⟩⟩
  ·simp at h3;omega
  ·obtain ⟨d,hd,rfl⟩:=List.mem_map.1 hc;unfold gY at h4 h5 h6;simp only at h4 h5 h6;refine ⟨d,hd,?_,h4,by omega⟩;unfold okD V.isR;simp only [Bool.and_eq_true,decide_eq_true_eq];omega
 ·rintro ⟨d,hd,h1,h2,rfl⟩;unfold okD at h1;simp only [Bool.and_eq_true,decide_eq_true_eq] at h1;exact ⟨h1.2.1,h1.2.2,.inr ⟨gY d,List.mem_map.2 ⟨d,hd,rfl⟩,h2,Int.le_refl _,Int.le_refl _⟩⟩
structure RO (w2 W:World) (g3:Nat) (ao:Option Addr) (k cap:Nat) (acc:List Sn):Prop where
 own:fh g3 (g3+1) w2 W ao cap acc
 box:W.heap[g3]? = some (.cells #[.slice none 0 0,.slice ao k cap] 26 (0,0))
 len:acc.length=k
theorem RO.blk {w2 W:World} {g3:Nat} {ao:Option Addr} {k cap:Nat} {acc:List Sn} (h:RO w2 W g3 ao k cap acc):(Value.slice ao acc.length cap).ownBlock≠some g3:=fun e=>by
 have:=(h.own.own.lt g3 e).1;omega
theorem sE {b:Nat} {x y:Value} (h:W.heap[b]? = some (.cells #[x,y] 26 (0,0))):W.cell? ⟨b,0,none⟩=some x/\W.cell? ⟨b,1,none⟩=some y/\∀ j,W.frozen? ⟨b,j,none⟩=false:=
 ⟨by simp [World.cell?,h],by simp [World.cell?,h],fun j=>by simp [World.frozen?,h]⟩
theorem RO.push {w2 W W2:World} {g3:Nat} {ao:Option Addr} {k cap:Nat} {acc:List Sn} {e:Sn} {g6 c6:Nat} (h:RO w2 W g3 ao k cap acc) (O:fh g3 (g3+1) w2 W2 (some ⟨g6,0,none⟩) c6 (acc++[e])) (hk:W2.heap[g3]? = W.heap[g3]?):RO w2 (W2.setCell ⟨g3,1,none⟩ (.slice (some ⟨g6,0,none⟩) (k+1) c6)) g3 (some ⟨g6,0,none⟩) (k+1) c6 (acc++[e]):=by
 have hb:W2.heap[g3]? = some (.cells #[.slice none 0 0,.slice ao k cap] 26 (0,0)):=hk.trans h.box;refine ⟨⟨⟨O.own.1,?_⟩,?_,by simpa [World.setCell] using O.hB,O.hB0⟩,?_,by rw [List.length_append,h.len];rfl⟩
 ·rcases O.own.2 with ⟨h0,_⟩ | ⟨q,cap2,cur,hv,dU,dx,r⟩
  ·cases h0
  ·refine Or.inr ⟨q,cap2,cur,hv,dU,?_,r⟩;rw [<- dx];simp [World.setCell,Array.getElem?_modify,show ¬ g3=q by omega]
 ·exact V.qd O.below (Nat.le_refl _)
 ·simp [World.setCell,Array.getElem?_modify,hb]
theorem zeU (ao:Option Addr) (n c:Nat) (D:List Rn) (w:World) (hS:aV w ao n c D) (lL:n <= 5864062014804) :
  Calls Tryz.prog 121 #[.slice ao n c] w fun e w'=>ct w w' e (af (cq D)):=by
 have b1:=ze w (.cells #[.slice none 0 0,.slice none 0 0] 26);have x1:av (w.alloc (.cells #[.slice none 0 0,.slice none 0 0] 26)) w.heap.size pv0:=zm w pv0;have s1:=World.size_alloc w (.cells #[.slice none 0 0,.slice none 0 0] 26);obtain ⟨w1,cF⟩:∃ w1,w.alloc (.cells #[.slice none 0 0,.slice none 0 0] 26)=w1:=⟨_,rfl⟩;rw [cF] at b1 x1 s1;have b2:=ze w1 (.cells #[.slice none 0 0,.slice none 0 0] 26);have x2:=heap_alloc_new w1 (.cells #[.slice none 0 0,.slice none 0 0] 26);have s2:=World.size_alloc w1 (.cells #[.slice none 0 0,.slice none 0 0] 26);obtain ⟨w2,eH⟩:∃ w2,w1.alloc (.cells #[.slice none 0 0,.slice none 0 0] 26)=w2:=⟨_,rfl⟩;obtain ⟨g3,pV⟩:∃ g3,w1.heap.size=g3:=⟨_,rfl⟩;rw [eH] at b2 x2 s2;rw [pV] at x2 s2;have HX:Hid (av w1 w.heap.size pv0/\Below w.heap.size w w1/\aV w1 ao n c D/\w1.heap.size=g3/\w.heap.size < g3):=⟨x1,b1,hS.below b1,pV,by omega⟩
 have Lv:Hid (RO w1 w2 g3 none 0 0 []):=⟨⟨World.ownsRow_nil _ _ _ _,pV ▸ b2,by omega,by omega⟩,x2,rfl⟩;have HD:Hid (D.length=n):=hS.len;clear b1 b2 x1 x2 hS s1 s2;go_enter Tryz.func121,Tryz.ntmps121;go_wp2_with fail;clear cF eH pV;go_loopw [4] (fun i wr=>∃ (k:Nat) (ap:Option Addr) (cp:Nat),k <= n/\i = .int .i64 (k:Int)/\Hid (RO w1 wr g3 ap k cp ((D.take k).map gY))) (fun i _=>n - (intOf i).toNat)
 case atStart=>exact ⟨0,none,0,Nat.zero_le _,rfl,Lv⟩
 case round =>
  obtain ⟨k,ap,cp,hk,rfl,HI⟩:=hrel
  rename World=>wr
  clear Lv;by_cases ak:k < n
  ·have aX:(k:Int) < (n:Int):=by omega
   obtain ⟨ad,cU,A0⟩:∃ ad,ao=some ad/\gk w1 (ad.add (k * 2)) (D.getD k rn0):=by
    cases ao with
    | none=>have:=(HX.2.2.1.nil rfl).1;omega
    | some ad=>exact ⟨ad,rfl,HX.2.2.1.cell ad rfl k ak⟩
   subst cU;obtain ⟨d,hd⟩:∃ d,D.getD k rn0=d:=⟨_,rfl⟩;rw [hd] at A0;have p7:(ad.add (k * 2)).block < w1.heap.size:=World.block_lt_of_cell? _ _ A0.c0;obtain ⟨q0,q1⟩:=zcc A0
   have HT:Hid ((D.take (k+1)).map gY=(D.take k).map gY++[gY d]):=by
    show _=_
    rw [List.take_add_one,<- hd,List.getD_eq_getElem?_getD,List.getElem?_eq_getElem (by have:=HD.out;omega),List.map_append];rfl
   obtain ⟨acc,iy⟩:∃ acc,(D.take k).map gY=acc:=⟨_,rfl⟩;rw [iy] at HI HT;obtain ⟨lo,hi⟩:=d;dsimp only at q0 q1
   have cG:Hid (∀ W:World,(∀ j,j < w1.heap.size -> W.heap[j]? = w1.heap[j]?) -> W.cell? (ad.add (k * 2))=some (.int .i64 lo)/\W.cell? ⟨(ad.add (k * 2)).block,(ad.add (k * 2)).off,none⟩=some (.int .i64 lo)/\W.cell? ⟨(ad.add (k * 2)).block,(ad.add (k * 2)).off+1,none⟩=some (.int .i64 hi)):=fun W e =>
    ⟨(World.cell?_of_block (e _ p7)).trans A0.c0,(by rw [<- q0];simp only [World.cell?,e _ p7]),(by rw [<- q1];simp only [World.cell?,e _ p7])⟩
   have CQ:Hid (w1.heap.size=g3):=HX.2.2.2.1;have mQ:Hid (∀ j,j < w1.heap.size -> wr.heap[j]? = w1.heap[j]?):=fun j hj=>HI.own.below.block j (by have:=CQ.out;omega)
   have Fq:Hid (g3 < wr.heap.size):=by show _ < _;have:=HI.own.hB;omega
   have y1:wr.drew.cell? ⟨g3,1,none⟩=some (.slice ap k cp):=(sE HI.box).2.1;have y2:(wr.drew.alloc (.cells #[.int .i64 lo,.int .i64 hi,.int .i64 hi] 104)).cell? ⟨g3,1,none⟩=some (.slice ap k cp):=((ze wr.drew _).cell (p:=⟨g3,1,none⟩) Fq).trans y1;have y3:(wr.alloc (.cells #[.int .i64 lo,.int .i64 hi,.int .i64 hi] 104)).cell? ⟨g3,1,none⟩=some (.slice ap k cp):=y2
   have fI:Hid (acc.length < 5864062014805):=by show _ < _;rw [HI.len];omega
   have aK:=hide ak;have tN:Hid (∀ j,j < w1.heap.size -> (wr.drew.alloc (.cells #[.int .i64 lo,.int .i64 hi,.int .i64 hi] 104)).heap[j]? = w1.heap[j]?):=fun j hj=>(Below.heap_alloc wr.drew _ j (show j < wr.heap.size by have:=CQ.out;have:=Fq.out;omega)).trans (mQ.out j hj);clear A0 q0 q1 p7 hd iy ak hk;go_upto_region 5 with fail;refine wp_region_held_drew (S:=fun W=>W.cell? (ad.add (k * 2))=some (.int .i64 lo)/\W.cell? ⟨(ad.add (k * 2)).block,(ad.add (k * 2)).off,none⟩=some (.int .i64 lo)/\W.cell? ⟨(ad.add (k * 2)).block,(ad.add (k * 2)).off+1,none⟩=some (.int .i64 hi)) (by kernel_rfl) (cG.out _ mQ) (fun hHeld=>?_);refine wU 0 ?_;refine wU 2 ?_;refine wU 3 ?_;refine wU 4 ?_;refine wU 5 ?_;refine wU 6 ?_;refine wU 7 ?_;refine wU 8 ?_;refine wU 9 ?_;refine wU 10 ?_;refine wU 11 ?_;refine wU 12 ?_;refine wU 13 ?_;refine wU 14 ?_
   refine wU 15 ?_;refine wU 16 ?_;refine wU 17 ?_;refine wpAnyH_ready (rs:=[1,18]) (by kernel_rfl) (by simp) ?_;refine AllReadyH.cons rfl (fun K hK=>?_) ?_
   ·go_simp;refine hK.out _ _ (cG.out _ mQ) (fun hHeld=>?_);clear hK K;refine wR 18 fun K hK=>?_;go_simp;refine hK.out _ _ (cG.out _ tN) (fun hHeld=>?_);clear hK K;refine wR 19 fun K hK=>?_;refine HI.own.step (gY ⟨lo,hi⟩) _ (by rfl) fI.out (by rfl) (.tmp 12) (.tmp 29) (by rfl) k HI.len (by rfl) _ (by rfl) (by rfl) ?_;intro g6 c6 w9 O6 h6;have e9:w9.heap[g3]? = wr.heap[g3]?:=h6 g3 Fq.out HI.blk;have f9:=(sE (e9.trans HI.box)).2.2 1;have d9:=(sE (e9.trans HI.box)).2.1;have HP:=hide (HI.push O6 e9);have sh:Hid (∀ j,j < w1.heap.size -> w9.heap[j]? = w1.heap[j]?):=fun j hj=>O6.below.block j (by have:=CQ.out;omega);have Iu:Hid (∀ j,j < w1.heap.size -> (w9.setCell ⟨g3,1,none⟩ (.slice (some ⟨g6,0,none⟩) (k+1) c6)).heap[j]? = w1.heap[j]?):=fun j hj=>HP.own.below.block j (by have:=CQ.out;omega)
    refine hK.out _ _ (cG.out _ sh) (fun hHeld=>?_);clear hK K;refine wU 20 ?_;refine wR 21 fun K hK=>?_;go_simp;refine hK.out _ _ (cG.out _ Iu) (fun hHeld=>?_);clear hK K;refine wD ?_ _;clear hHeld;clear O6 h6 e9 f9 d9;go_wp2_with fail;go_roundw
    case rel=>exact ⟨k+1,some ⟨g6,0,none⟩,c6,aK.out,by simp,by rw [HT.out];exact HP⟩
    case measure=>simp [intOf];have:=aK.out;omega
   ·refine AllReadyH.cons rfl (fun K hK=>?_) ?_;rotate_left
    ·exact AllReadyH.nil
    go_simp;refine hK.out _ _ (cG.out _ tN) (fun hHeld=>?_);clear hK K;refine wR 1 fun K hK=>?_;go_simp;refine hK.out _ _ (cG.out _ tN) (fun hHeld=>?_);clear hK K;refine wR 19 fun K hK=>?_;refine HI.own.step (gY ⟨lo,hi⟩) _ (by rfl) fI.out (by rfl) (.tmp 12) (.tmp 29) (by rfl) k HI.len (by rfl) _ (by rfl) (by rfl) ?_;intro g6 c6 w9 O6 h6;have e9:w9.heap[g3]? = wr.heap[g3]?:=h6 g3 Fq.out HI.blk;have f9:=(sE (e9.trans HI.box)).2.2 1;have d9:=(sE (e9.trans HI.box)).2.1;have HP:=hide (HI.push O6 e9);have sh:Hid (∀ j,j < w1.heap.size -> w9.heap[j]? = w1.heap[j]?):=fun j hj=>O6.below.block j (by have:=CQ.out;omega);have Iu:Hid (∀ j,j < w1.heap.size -> (w9.setCell ⟨g3,1,none⟩ (.slice (some ⟨g6,0,none⟩) (k+1) c6)).heap[j]? = w1.heap[j]?):=fun j hj=>HP.own.below.block j (by have:=CQ.out;omega)
    refine hK.out _ _ (cG.out _ sh) (fun hHeld=>?_);clear hK K;refine wU 20 ?_;refine wR 21 fun K hK=>?_;go_simp;refine hK.out _ _ (cG.out _ Iu) (fun hHeld=>?_);clear hK K;refine wD ?_ _;clear hHeld;clear O6 h6 e9 f9 d9;go_wp2_with fail;go_roundw
    case rel=>exact ⟨k+1,some ⟨g6,0,none⟩,c6,aK.out,by simp,by rw [HT.out];exact HP⟩
    case measure=>simp [intOf];have:=aK.out;omega
  ·have aX:¬ (k:Int) < (n:Int):=by omega
   obtain rfl:k=n:=by omega
   obtain ⟨pq,Ag⟩:∃ pq:Pv,(⟨none,0,0,ap,k,cp,⟨[],D.map gY⟩⟩:Pv)=pq:=⟨_,rfl⟩
   have iy:(D.take k).map gY=D.map gY:=by rw [List.take_of_length_le (by have:=HD.out;omega)]
   rw [iy] at HI;have hl:=HI.len
   have N6:Hid (am wr pq):=by
    rw [<- Ag];have h1:=(HI.own.src (by rw [hl];omega)).1;rw [hl] at h1;exact ⟨⟨rfl,fun _=>⟨rfl,rfl⟩,fun ad h=>by cases h⟩,h1,by simp⟩
   have l9:(ldP (.pointer (some ⟨g3,0,none⟩))).run Tryz.prog wr = .ok (PV pq) wr:=by
    rw [<- Ag];exact zj (av.at (p:=⟨none,0,0,ap,k,cp,⟨[],D.map gY⟩⟩) HI.box)
   have HP:Hid (pq.P=⟨[],D.map gY⟩):=by show _=_;rw [<- Ag]
   have Hl:=HI.own.below;have hX:=HX.out;have HB:Hid (av wr w.heap.size pv0/\Below w.heap.size w wr/\w.heap.size+1 <= wr.heap.size):=⟨(Hl.block _ hX.2.2.2.2).trans hX.1,hX.2.1.trans (Hl.mono (by omega)),by have:=HI.own.hB;omega⟩;clear Ag iy hl Hl hX ak;go_wp2_with fail;refine (jE pq _ N6).mono ?_;rintro e w8 ⟨p,rfl,S2,n2,b2,c2'⟩;obtain ⟨s1,e1,e2,e3,e4⟩:=qu (w:=w) (HB.1.below b2) S2 (n2.mono (by have:=HB.2.2;omega)) (HB.2.1.trans (b2.mono HB.2.1.size)) (Nat.le_refl _);have df:=hide e1;have iT:Hid (ct w (w8.setRow w.heap.size (PC p)) (.returned (PV p)) (af (cq D))):=⟨p,rfl,e2,e3,e4,yL (HP.out ▸ c2') (fun r hr n=>zeI D r hr n)⟩;clear S2 n2 b2 c2' e1 e2 e3 e4 l9;go_wp2_with fail;exact bodyPost_ret (v:=PV p) (eR Tryz.results121 rfl df) rfl iT.out
end
section
open Go.RowKit
attribute [local go_sem ↓] zq zp qf qe zY zX K.zy K.zx K.qB
attribute [local go_sem] zi zk zL zS K.zu K.zH qg K.zJ
end
end Go.Proofs.YtjffpimfngdggaaGreat
