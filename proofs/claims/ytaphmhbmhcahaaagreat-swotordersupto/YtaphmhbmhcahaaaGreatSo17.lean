/- PDk GFc Shd PSd ONa -/
import Derived.Test.YtaphmhbmhcahaaaGreatTk
import Derived.Test.YtaphmhbmhcahaaaGreatSo00
import Derived.Laws.AppendOwnNone
import Derived.Test.YtaphmhbmhcahaaaGreatSo16
import Derived.Shelf.SlSortCmp.WholeK
import Derived.Test.YtaphmhbmhcahaaaGreatProg
import Derived.Test.YtaphmhbmhcahaaaGreatSo13
import Derived.Test.YtaphmhbmhcahaaaGreatSo10
import Derived.Lib.BufferMore
set_option maxRecDepth 100000
set_option maxHeartbeats 1600000
namespace Go.Proofs.YtaphmhbmhcahaaaGreat
section
open Go.RowKit

def ldD (v:Value):Sem Value:=Instr.loadAt 43 v
theorem ldD_eq (v:Value):Instr.loadAt 43 v=ldD v:=rfl
def stD (p v:Value):Sem Unit:=Instr.storeAt 43 p v
theorem stD_eq (p v:Value):Instr.storeAt 43 p v=stD p v:=rfl
theorem sizeD:(Tryz.prog.info? 43).map (·.size)=some 2:=by kernel_rfl
theorem infoD:(Tryz.prog.info? 43).map (fun i=>(i.zero,i.size,i.bytes))=some (some (.agg #[.int .i64 0,.int .i64 0]),2,16):=by kernel_rfl
theorem run_ldD {w:World} {p:Addr} {r:Rn} (A:RnAt w p r):(ldD (.pointer (some p))).run Tryz.prog w = .ok (RV r) w:=by
 have hl:=run_loadCells_list (P:=Tryz.prog) (w:=w) p (RC r).toList (fun j v hv=>by
  match j,hv with
  | 0,hv=>cases hv;rw [add_zero];exact A.c0
  | 1,hv=>cases hv;exact A.c1
  | j+2,hv=>simp [RC] at hv)
 unfold ldD;simp only [Instr.loadAt,Instr.sureAddr,Sem.run_bind,Sem.run_pure,Result.andThen]
 cases hq:Tryz.prog.info? 43 with
 | none=>have:=sizeD;simp [hq] at this
 | some x =>
  have hs:x.size=2:=by have:=sizeD;simpa [hq] using this
  have hagg:(isAgg 43).run Tryz.prog w = .ok true w:=by
   unfold isAgg;rw [Sem.run_bind,run_underlying Tryz.underlying43 w];rfl
  have e2:(RC r).toList.length=2:=rfl;rw [e2] at hl;simp [loadVar,Sem.run_bind,hagg,sizeOf,typeInfo,hq,hs,hl,RV]
theorem run_stD {w:World} {g:Nat} {T:TypeId} {r r':Rn} (A:Box w g T r):(stD (.pointer (some ⟨g,0,none⟩)) (RV r')).run Tryz.prog w = .ok () (w.setRow g (RC r')):=by
 unfold stD;have h:=run_storeCells_from (P:=Tryz.prog) g T (RC r').toList 0 (RC r) w A (by simp [RC]) (RC_one r')
 cases hq:Tryz.prog.info? 43 with
 | none=>have:=sizeD;simp [hq] at this
 | some x =>
  have hs:x.size=2:=by have:=sizeD;simpa [hq] using this
  simp only [Instr.storeAt,Instr.sureAddr,Sem.run_bind,Sem.run_pure,Result.andThen,storeVar,sizeOf,typeInfo,cells_RV,RC_size];simp at h;simp [h,hq,hs]
theorem madeD (w:World) (r:Rn) (g:Nat) (hg:w.heap.size=g):∃ w':World,(stD (.pointer (some ⟨g,0,none⟩)) (RV r)).run Tryz.prog (w.alloc (.cells (RC rn0) 43)) = .ok () w'/\Box w' g 43 r/\Below w.heap.size w w'/\w'.heap.size=w.heap.size+1:=by
 subst hg;refine ⟨_,run_stD (box_new w 43 rn0),(box_new w 43 rn0).setRow,below_setRow (below_new w _) (Nat.le_refl _),by simp [World.setRow]⟩
structure OwnD (B0 B:Nat) (w w':World) (ao:Option Addr) (cap:Nat) (acc:List Rn):Prop where
 own:w'.ownsRow B 43 2 (.slice ao acc.length cap) acc.length (rcs acc)
 below:Below B0 w w'
 hB:B <= w'.heap.size
 hB0:B0 <= B
theorem OwnD.later {B0 B:Nat} {w w' w2:World} {ao:Option Addr} {cap:Nat} {acc:List Rn} (O:OwnD B0 B w w' ao cap acc) (hb:Below w'.heap.size w' w2):OwnD B0 B w w2 ao cap acc:=by
 refine ⟨⟨O.own.1,?_⟩,O.below.trans (hb.mono (Nat.le_trans O.hB0 O.hB)),Nat.le_trans O.hB hb.size,O.hB0⟩;rcases O.own.2 with h | ⟨g,cap2,cur,hv,hbg,hgg,r⟩
 ·exact Or.inl h
 ·exact Or.inr ⟨g,cap2,cur,hv,hbg,(hb.block g (Array.getElem?_eq_some_iff.1 hgg).1).trans hgg,r⟩
theorem rcs_cell {w:World} {E:List Rn} {ad:Addr} (h:∀ t,t < E.length -> RnAt w (ad.add (t * 2)) (E.getD t rn0)) (j:Nat) (u:Value) (hj:(rcs E)[j]? = some u):w.cell? (ad.add j)=some u:=by
 have hl:j < E.length * 2:=by rw [<- rcs_length];exact (List.getElem?_eq_some_iff.1 hj).1
 have ht:j / 2 < E.length:=by omega
 have e:=rcs_at E (j / 2) (j % 2) ht (by omega);rw [show j / 2 * 2+j % 2=j by omega,hj] at e;have A:=h (j / 2) ht
 have h2:j % 2=0∨j % 2=1:=by omega
 rcases h2 with h2 | h2
 ·rw [h2] at e
  have e':u = .int .i64 (E.getD (j / 2) rn0).lo:=by simpa [RC] using e
  rw [e',show ad.add j=ad.add (j / 2 * 2) by rw [show j / 2 * 2=j by omega]];exact A.c0
 ·rw [h2] at e
  have e':u = .int .i64 (E.getD (j / 2) rn0).hi:=by simpa [RC] using e
  have:=A.c1;rw [add_add,show j / 2 * 2+1=j by omega] at this;rw [e'];exact this
theorem OwnD.append {B0 B:Nat} {w w':World} {ao:Option Addr} {cap:Nat} {acc:List Rn} (O:OwnD B0 B w w' ao cap acc) (E:List Rn) (ad:Addr) (m c:Nat) (hm:E.length=m) (hE:∀ t,t < m -> RnAt w' (ad.add (t * 2)) (E.getD t rn0)) (hlen:acc.length+m <= 8796093022207)
  {ops:Array Oper} {rest:List Oper} {o:Oper} {a:Act} {Q:Exit -> Act -> World -> Prop} (hgd:o.guard=none) (s x:Operand) (ho:o.op = .call { callee:=.builtin .append,args:=#[s,x],argTypes:=#[39,39] })
  (n:Nat) (hn:acc.length=n) (hs:a.eval s = .slice ao n cap) (hx:a.eval x = .slice (some ad) m c)
  (hK:∀ (ao2:Option Addr) (cap2:Nat) (w2:World),OwnD B0 B w w2 ao2 cap2 (acc++E) -> wpList Tryz.prog ops Q rest (a.put o.dst (.slice ao2 (n+m) cap2)) w2) :
  wpList Tryz.prog ops Q (o :: rest) a w':=by
 subst hn hm;obtain ⟨i0,hi,hz0,hz1,hz2⟩:=info_parts infoD;have hB:=O.hB;have hB0:=O.hB0;refine wpList_append_own _ hgd s x 39 ho B 43 i0 (.agg #[.int .i64 0,.int .i64 0]) 2 16 Tryz.underlying39 hi hz0 hz1 hz2 rfl (by decide) _ acc.length (rcs acc) hs O.own ad E.length c (rcs E) hx (rcs_length E) (fun j u hj=>rcs_cell hE j u hj) (rcs_onecell E) (by unfold maxLen;omega) (by omega) hB ?_;intro v' w2 hown hgrow _;have hrow:∀ k,(Value.slice ao acc.length cap).ownBlock=some k -> B <= k:=fun k hk=>(O.own.lt k hk).1;have hsz:=hgrow.size;have hb2:Below B0 w w2:=O.below.grown hgrow (by omega) (fun k hk=>by have:=hrow k hk;omega);rw [<- rcs_append] at hown;rcases hown.2 with ⟨h0,h00⟩ | ⟨g,cap2,cur,hv,r⟩
 ·subst h0;have e1:acc=[]:=List.eq_nil_of_length_eq_zero (by omega);have e2:E=[]:=List.eq_nil_of_length_eq_zero (by omega);subst e1 e2;exact hK none 0 w2 ⟨hown,hb2,by omega,hB0⟩
 ·subst hv;refine hK (some ⟨g,0,none⟩) cap2 w2 ⟨?_,hb2,by omega,hB0⟩;rw [List.length_append];exact hown
theorem OwnD.appendNone {B0 B:Nat} {w w':World} {ao:Option Addr} {cap:Nat} {acc:List Rn} (O:OwnD B0 B w w' ao cap acc)
  {ops:Array Oper} {rest:List Oper} {o:Oper} {a:Act} {Q:Exit -> Act -> World -> Prop} (hgd:o.guard=none) (s x:Operand) (ho:o.op = .call { callee:=.builtin .append,args:=#[s,x],argTypes:=#[39,39] })
  (n:Nat) (hn:acc.length=n) (hs:a.eval s = .slice ao n cap) (hx:a.eval x = .slice none 0 0)
  (hK:wpList Tryz.prog ops Q rest (a.put o.dst (.slice ao n cap)) w') :
  wpList Tryz.prog ops Q (o :: rest) a w':=by
 subst hn;obtain ⟨i0,hi,hz0,hz1,hz2⟩:=info_parts infoD;exact wpList_append_own_none hgd s x 39 ho B 43 i0 2 Tryz.underlying39 hi _ acc.length (rcs acc) hs O.own hx hK
theorem OwnD.src {B0 B:Nat} {w w':World} {ao:Option Addr} {cap:Nat} {acc:List Rn} (O:OwnD B0 B w w' ao cap acc) (hl:acc.length <= 8796093022207):RSrc w' ao acc.length cap acc/\∀ ad,ao=some ad -> B <= ad.block:=by
 rcases O.own.2 with ⟨h0,h00⟩ | ⟨g,cap2,cur,hv,hbg,hgg,hnc,hcm,hcsz,htake⟩
 ·simp only [Value.slice.injEq] at h0;obtain ⟨rfl,e0,rfl⟩:=h0;exact ⟨⟨rfl,fun _=>⟨h00,rfl⟩,(fun ad h=>by cases h),by omega,Nat.zero_le _,hl⟩,fun ad h=>(by cases h)⟩
 ·simp only [Value.slice.injEq,true_and] at hv;obtain ⟨rfl,rfl⟩:=hv
  have cell:∀ t j,t < acc.length -> j < 2 -> w'.cell? ⟨g,t * 2+j,none⟩=(RC (acc.getD t rn0)).toList[j]?:=fun t j ht hj=>by
   rw [O.own.cellAt (t * 2+j) (by omega),rcs_at _ t j ht hj]
  refine ⟨⟨rfl,fun h=>(by cases h),fun ad h t ht=>?_,hnc,hcm,hl⟩,fun ad h=>by obtain rfl:=Option.some.inj h;exact hbg⟩;obtain rfl:=Option.some.inj h;refine ⟨?_,?_⟩
  ·rw [Addr.add_lit,Nat.zero_add];exact cell t 0 ht (by omega)
  ·rw [Addr.add_lit,Addr.add_lit,Nat.zero_add];exact cell t 1 ht (by omega)
theorem OwnD.appendS {B0 B:Nat} {w w':World} {ao:Option Addr} {cap:Nat} {acc:List Rn} (O:OwnD B0 B w w' ao cap acc) (E:List Rn) (xo:Option Addr) (m c:Nat) (S:RSrc w' xo m c E) (hlen:acc.length+m <= 8796093022207)
  {ops:Array Oper} {rest:List Oper} {o:Oper} {a:Act} {Q:Exit -> Act -> World -> Prop} (hgd:o.guard=none) (s x:Operand) (ho:o.op = .call { callee:=.builtin .append,args:=#[s,x],argTypes:=#[39,39] })
  (n:Nat) (hn:acc.length=n) (hs:a.eval s = .slice ao n cap) (hx:a.eval x = .slice xo m c)
  (hK:∀ (ao2:Option Addr) (cap2:Nat) (w2:World),OwnD B0 B w w2 ao2 cap2 (acc++E) -> wpList Tryz.prog ops Q rest (a.put o.dst (.slice ao2 (n+m) cap2)) w2) :
  wpList Tryz.prog ops Q (o :: rest) a w':=by
 cases xo with
 | some ad=>exact O.append E ad m c S.len (fun t ht=>S.cell ad rfl t ht) hlen hgd s x ho n hn hs hx hK
 | none =>
  obtain ⟨rfl,rfl⟩:=S.nil rfl;have e:=List.eq_nil_of_length_eq_zero S.len;subst e;refine O.appendNone hgd s x ho n hn hs hx ?_;have:=hK ao cap w';rw [List.append_nil,Nat.add_zero] at this;exact this O
theorem ownD_made (w:World):OwnD w.heap.size w.heap.size w (w.alloc (.cells #[] 43)) (some ⟨w.heap.size,0,none⟩) 0 []:=
 ⟨World.ownsRow_made w #[] 0 (Nat.le_refl _) (Nat.zero_le _) rfl,below_new w _,by simp,Nat.le_refl _⟩
end
section
open Go.RowKit
attribute [local go_sem ↓] ldP_eq stP_eq ldFa_eq stFa_eq ldD_eq stD_eq
attribute [local go_sem] cells_PV PC_size cells_FaV FaC_size cells_RV RC_size zero_RC fold_RC
structure Fc where
 ao:Option Addr
 an:Nat
 ac:Nat
 es:List K.En
 p:Pv
 ro:Option Addr
 rn:Nat
 rc:Nat
 rs:List Rc
def mkF (f:Fc):FacV:=⟨f.ao,f.an,f.ac,f.p.vo,f.p.vn,f.p.vc,f.p.co,f.p.cn,f.p.cc,f.ro,f.rn,f.rc⟩
structure FcOk (w:World) (f:Fc):Prop where
 es:K.ESrc w f.ao f.an f.ac f.es
 p:PSrc w f.p
 rs:RcS w f.ro f.rn f.rc f.rs
theorem FcOk.below {w w':World} {f:Fc} (h:FcOk w f) (hb:Below w.heap.size w w'):FcOk w' f:=⟨h.es.below hb,h.p.below hb,h.rs.below hb⟩
theorem FaBox.cs {w:World} {g:Nat} {f:Fc} (h:FaBox w g (mkF f)):w.cell? ⟨g,0,none⟩=some (.slice f.ao f.an f.ac)/\w.cell? ⟨g,3,none⟩=some (.slice f.ro f.rn f.rc):=⟨h.c0,h.c3⟩
def FormF (f:Fc):Prop:=K.okN f.es f.an=true/\InForm f.p.P/\OkR f.rs f.rn
def OneA (f:Fc):Prop:=(f.an=0/\f.rn=0)∨(f.an=1/\f.rn=0/\∃ k,LastOf f.p.P (f.es.getD 0 K.en0).rep k/\k < (f.es.getD 0 K.en0).num)∨(f.an=0/\f.rn=1/\EmptyP f.p.P)
def EvOf (f:Fc) (x:Int):Prop:=(¬ FormF f/\x=1)∨(FormF f/\¬ OneA f/\x=2)∨(FormF f/\OneA f/\x=0)
def NoneF (f:Fc):Prop:=f.an=0/\f.rn=0/\EmptyP f.p.P
end
end Go.Proofs.YtaphmhbmhcahaaaGreat
namespace Go.Proofs
open Go.Shelf
def Tryz.sortD_ren:Go.Shelf.Ren:=⟨fun | 6=>129 | 15=>169 | 14=>168 | 28=>198 | 29=>199 | 20=>190 | 21=>191 | 22=>192 | 23=>193 | 24=>194 | 25=>195 | 26=>196 | 27=>197 | 46=>222 | 47=>223 | 48=>224 | 49=>225 | 50=>226 | 57=>248 | n=>n,fun | 22=>39 | 24=>43 | 25=>179 | 3=>3 | 39=>205 | 0=>0 | 53=>229 | 55=>231 | 4=>4 | 46=>223 | 45=>222 | 50=>206 | 5=>5 | 9=>9 | 66=>246 | 70=>250 | 76=>262 | 77=>211 | n=>n,fun | n=>n⟩
theorem Tryz.sortD:Go.Proofs.SlLaysF0.n6 Tryz.prog Tryz.sortD_ren:={
 mixed:=by kernel_rfl
 f6:=⟨Tryz.f129.name,by decide,Tryz.func129.trans (congrArg some (by kernel_rfl))⟩
 f14:=⟨Tryz.f168.name,by decide,Tryz.func168.trans (congrArg some (by kernel_rfl))⟩
 f15:=Tryz.func169.trans (congrArg some (by kernel_rfl))
 f20:=⟨Tryz.f190.name,by decide,Tryz.func190.trans (congrArg some (by kernel_rfl))⟩
 f21:=⟨Tryz.f191.name,by decide,Tryz.func191.trans (congrArg some (by kernel_rfl))⟩
 f22:=⟨Tryz.f192.name,by decide,Tryz.func192.trans (congrArg some (by kernel_rfl))⟩
 f23:=⟨Tryz.f193.name,by decide,Tryz.func193.trans (congrArg some (by kernel_rfl))⟩
 f24:=⟨Tryz.f194.name,by decide,Tryz.func194.trans (congrArg some (by kernel_rfl))⟩
 f25:=⟨Tryz.f195.name,by decide,Tryz.func195.trans (congrArg some (by kernel_rfl))⟩
 f26:=⟨Tryz.f196.name,by decide,Tryz.func196.trans (congrArg some (by kernel_rfl))⟩
 f27:=⟨Tryz.f197.name,by decide,Tryz.func197.trans (congrArg some (by kernel_rfl))⟩
 f28:=Tryz.func198.trans (congrArg some (by kernel_rfl))
 f29:=Tryz.func199.trans (congrArg some (by kernel_rfl))
 f46:=⟨Tryz.f222.name,by decide,Tryz.func222.trans (congrArg some (by kernel_rfl))⟩
 f47:=Tryz.func223.trans (congrArg some (by kernel_rfl))
 f48:=Tryz.func224.trans (congrArg some (by kernel_rfl))
 f49:=⟨Tryz.f225.name,by decide,Tryz.func225.trans (congrArg some (by kernel_rfl))⟩
 f50:=⟨Tryz.f226.name,by decide,Tryz.func226.trans (congrArg some (by kernel_rfl))⟩
 f57:=⟨Tryz.f248.name,by decide,Tryz.func248.trans (congrArg some (by kernel_rfl))⟩
 t0:=Tryz.underlying0
 a0:=Tryz.isAgg0
 z0:=Tryz.sizeOf0
 v0:=Tryz.zeroValue0
 t3:=Tryz.underlying3
 a3:=Tryz.isAgg3
 z3:=Tryz.sizeOf3
 v3:=Tryz.zeroValue3
 t4:=Tryz.underlying4
 a4:=Tryz.isAgg4
 z4:=Tryz.sizeOf4
 v4:=Tryz.zeroValue4
 t5:=Tryz.underlying5
 a5:=Tryz.isAgg5
 z5:=Tryz.sizeOf5
 v5:=Tryz.zeroValue5
 t9:=Tryz.underlying9
 a9:=Tryz.isAgg9
 z9:=Tryz.sizeOf9
 v9:=Tryz.zeroValue9
 t22:=Tryz.underlying39
 a22:=Tryz.isAgg39
 z22:=Tryz.sizeOf39
 v22:=Tryz.zeroValue39
 t25:=Tryz.underlying179
 a25:=Tryz.isAgg179
 z25:=Tryz.sizeOf179
 v25:=Tryz.zeroValue179
 t39:=Tryz.underlying205
 a39:=Tryz.isAgg205
 z39:=Tryz.sizeOf205
 v39:=Tryz.zeroValue205
 t45:=Tryz.underlying222
 a45:=Tryz.isAgg222
 z45:=Tryz.sizeOf222
 v45:=Tryz.zeroValue222
 t46:=Tryz.underlying223
 a46:=Tryz.isAgg223
 z46:=Tryz.sizeOf223
 v46:=Tryz.zeroValue223
 t50:=Tryz.underlying206
 a50:=Tryz.isAgg206
 z50:=Tryz.sizeOf206
 v50:=Tryz.zeroValue206
 t53:=Tryz.underlying229
 a53:=Tryz.isAgg229
 z53:=Tryz.sizeOf229
 v53:=Tryz.zeroValue229
 t55:=Tryz.underlying231
 a55:=Tryz.isAgg231
 z55:=Tryz.sizeOf231
 v55:=Tryz.zeroValue231
 t66:=Tryz.underlying246
 a66:=Tryz.isAgg246
 z66:=Tryz.sizeOf246
 v66:=Tryz.zeroValue246
 t70:=Tryz.underlying250
 a70:=Tryz.isAgg250
 z70:=Tryz.sizeOf250
 v70:=Tryz.zeroValue250
 t76:=Tryz.underlying262
 a76:=Tryz.isAgg262
 z76:=Tryz.sizeOf262
 v76:=Tryz.zeroValue262
 t77:=Tryz.underlying211
 a77:=Tryz.isAgg211
 z77:=Tryz.sizeOf211
 v77:=Tryz.zeroValue211 }
end Go.Proofs
namespace Go.Proofs.YtaphmhbmhcahaaaGreat
section
open Go.RowKit Go.Sort

def or2 (a b:Int):Int:=if a=0 then b else a
theorem or2_any (g:Nat) (a b:Int) (w:World) (c0:w.cell? ⟨g,0,none⟩=some (.int .i64 a)) (c1:w.cell? ⟨g,1,none⟩=some (.int .i64 b)) :
  Calls Tryz.prog 162 #[.slice (some ⟨g,0,none⟩) 2 2] w fun e w'=>e = .returned (.int .i64 (or2 a b))/\w'=w:=by
 go_enter Tryz.func162,Tryz.ntmps162;go_wp2;go_loop [8] (fun i=>∃ k:Nat,k <= 2/\i = .int .i64 k/\Hid (0 < k -> a=0)/\Hid (1 < k -> b=0)) (fun i=>2 - (intOf i).toNat)
 case atStart=>exact ⟨0,Nat.zero_le _,rfl,fun h=>absurd h (by omega),fun h=>absurd h (by omega)⟩
 case round =>
  obtain ⟨k,hk,rfl,Ha,Hb⟩:=hrel;by_cases hlt:k < 2
  ·obtain ⟨z,hcell,Hz⟩:∃ z,w.cell? ⟨g,k,none⟩=some (.int .i64 z)/\Hid (or2 a b=if z=0/\k=0 then b else z):=by
    match k,hlt,Ha with
    | 0,_,_=>exact ⟨a,c0,by show _=_;unfold or2;by_cases h:a=0 <;> simp [h]⟩
    | 1,_,Ha=>exact ⟨b,c1,by show _=_;unfold or2;rw [if_pos (Ha.out (by omega))];simp⟩
   have Hz0:Hid (z=0 -> (k=0 -> a=0)/\(k=1 -> b=0)):=by
    intro hz;constructor
    ·intro h;subst h;rw [c0] at hcell;simpa [hz] using hcell
    ·intro h;subst h;rw [c1] at hcell;simpa [hz] using hcell
   clear c0 c1;by_cases h0:z=0
   ·have hA:=(Hz0.out h0).1;have hB:=(Hz0.out h0).2
    have HA:Hid (0 < k+1 -> a=0):=by intro _;by_cases hk0:k=0;exact hA hk0;exact Ha.out (by omega)
    have HB:Hid (1 < k+1 -> b=0):=by intro _;exact hB (by omega)
    have h0':(z != 0)=false:=by simpa using h0
    clear h0 hA hB;go_wp2;go_round
    case rel=>exact ⟨k+1,by omega,by go_num,HA,HB⟩
    case measure=>simp [intOf];omega
   ·have h0':(z != 0)=true:=by simpa using h0
    have HF:Hid (or2 a b=z):=by show _=_;rw [Hz.out,if_neg (by simp [h0])]
    clear h0;go_wp2;go_ret;exact ⟨ret_int HF.out.symm,rfl⟩
  ·have HF:Hid (or2 a b=0):=by show _=_;unfold or2;rw [if_pos (Ha.out (by omega))];exact Hb.out (by omega)
   clear c0 c1;go_wp2;go_ret;exact ⟨ret_int HF.out.symm,rfl⟩
def byD (x y:Rn):Int:=or2 (cmpI x.lo y.lo) (cmpI x.hi y.hi)
def aheadD (x y:Rn):Bool:=decide (x.lo < y.lo) || (x.lo == y.lo && decide (x.hi < y.hi))
theorem byD_lt (x y:Rn):ltOf byD x y=aheadD x y:=by
 unfold ltOf byD or2 cmpI aheadD;by_cases h1:x.lo < y.lo
 ·simp [h1]
 ·by_cases h2:y.lo < x.lo
  ·have:¬ x.lo=y.lo:=by omega
   simp [h1,h2,this]
  ·have e:x.lo=y.lo:=by omega
   by_cases h3:x.hi < y.hi
   ·simp [e,h3]
   ·by_cases h4:y.hi < x.hi <;> simp [e,h3,h4]
theorem byD_swo:SWO (ltOf byD) where
 irrefl x:=by rw [byD_lt];simp [aheadD]
 trans x y z h1 h2:=by rw [byD_lt] at *;simp [aheadD] at *;omega
 ntrans x y z h1 h2:=by rw [byD_lt] at *;simp [aheadD] at *;omega
theorem grew_by (w:World) (a b c:Obj):Grew w (((w.alloc a).alloc b).drew.alloc c):=by
 refine ⟨1,#[a]++#[b]++#[c],?_⟩;rw [alloc_eq_grow ((w.alloc a).alloc b).drew c,alloc_eq_grow (w.alloc a) b,alloc_eq_grow w a,grow_grow,drew_grow,grow_grow];rfl
structure TwoD (w W:World) (x y:Rn):Prop where
 below:Below w.heap.size w W
 size:w.heap.size+2 <= W.heap.size
 a0:W.cell? ⟨w.heap.size,0,none⟩=some (.int .i64 x.lo)
 a1:W.cell? ⟨w.heap.size,1,none⟩=some (.int .i64 x.hi)
 b0:W.cell? ⟨w.heap.size+1,0,none⟩=some (.int .i64 y.lo)
 b1:W.cell? ⟨w.heap.size+1,1,none⟩=some (.int .i64 y.hi)
theorem TwoD.start (w:World) (x y:Rn):TwoD w ((w.alloc (.cells #[.int .i64 x.lo,.int .i64 x.hi] 43)).alloc (.cells #[.int .i64 y.lo,.int .i64 y.hi] 43)) x y:=
 ⟨(below_new w _).trans ((below_new _ _).mono (by simp)),by simp,by simp,by simp,by simp,by simp⟩
theorem TwoD.on {w W W':World} {x y:Rn} (h:TwoD w W x y) (hb:Below W.heap.size W W'):TwoD w W' x y:=
 ⟨h.below.trans (hb.mono h.below.size),Nat.le_trans h.size hb.size,(hb.cell (World.block_lt_of_cell? _ _ h.a0)).trans h.a0,(hb.cell (World.block_lt_of_cell? _ _ h.a1)).trans h.a1,(hb.cell (World.block_lt_of_cell? _ _ h.b0)).trans h.b0,(hb.cell (World.block_lt_of_cell? _ _ h.b1)).trans h.b1⟩
theorem or2_new (a b:Int) (w:World) (g:Nat) (hg:w.heap.size=g):Calls Tryz.prog 162 #[.slice (some ⟨g,0,none⟩) 2 2] (w.alloc (.cells #[.int .i64 a,.int .i64 b] 3)) fun e w'=>e = .returned (.int .i64 (or2 a b))/\w'=w.alloc (.cells #[.int .i64 a,.int .i64 b] 3):=by
 subst hg;exact or2_any w.heap.size a b _ (by simp) (by simp)
theorem byDot_gr (x y:Rn) (w:World):Calls Tryz.prog 130 #[.agg #[.int .i64 x.lo,.int .i64 x.hi],.agg #[.int .i64 y.lo,.int .i64 y.hi]] w fun e w'=>e = .returned (.int .i64 (byD x y))/\Grew w w':=by
 have T0:=hide (TwoD.start w x y);obtain ⟨w0,Hw0⟩:∃ w0,Hid ((w.alloc (.cells #[.int .i64 x.lo,.int .i64 x.hi] 43)).alloc (.cells #[.int .i64 y.lo,.int .i64 y.hi] 43)=w0):=⟨_,rfl⟩;rw [Hw0.out] at T0;have c1:=T0.out.a0;have c2:=T0.out.a1;have c3:=T0.out.b0;have c4:=T0.out.b1;obtain ⟨p,Hp⟩:∃ p,Hid (cmpI x.lo y.lo=p):=⟨_,rfl⟩;obtain ⟨q,Hq⟩:∃ q,Hid (cmpI x.hi y.hi=q):=⟨_,rfl⟩
 have C1:Hid (∀ W,Calls Tryz.prog 163 #[.int .i64 x.lo,.int .i64 y.lo] W fun e w'=>e = .returned (.int .i64 p)/\w'=W):=fun W=>by rw [<- Hp.out];exact cmp_any _ _ W
 have C2:Hid (∀ W,Calls Tryz.prog 163 #[.int .i64 x.hi,.int .i64 y.hi] W fun e w'=>e = .returned (.int .i64 q)/\w'=W):=fun W=>by rw [<- Hq.out];exact cmp_any _ _ W
 have HF:Hid (or2 p q=byD x y):=by show _=_;unfold byD;rw [Hp.out,Hq.out]
 have T1:Hid (TwoD w (w0.drew.alloc (.cells #[.int .i64 p,.int .i64 q] 3)) x y):=(T0.out.on (below_drew1 _)).on (below_new _ _);have HO:=hide (or2_new p q w0.drew w0.heap.size rfl)
 have HG:Hid (Grew w (w0.drew.alloc (.cells #[.int .i64 p,.int .i64 q] 3))):=by rw [<- Hw0.out];exact grew_by _ _ _ _
 obtain ⟨r,m⟩:=x;obtain ⟨r',m'⟩:=y;go_enter Tryz.func130,Tryz.ntmps130;go_wp2_with fail;rw [Hw0.out]
 first | (go_region_held (fun W=>W.cell? ⟨w.heap.size,0,none⟩=some (.int .i64 r)/\W.cell? ⟨w.heap.size,1,none⟩=some (.int .i64 m)/\W.cell? ⟨w.heap.size+1,0,none⟩=some (.int .i64 r')/\W.cell? ⟨w.heap.size+1,1,none⟩=some (.int .i64 m')) (first | exact ⟨T1.out.a0,T1.out.a1,T1.out.b0,T1.out.b1⟩ | go_keep) (first | (go_at_call_of 163 r;refine (C1.out _).mono ?_;rintro e w' ⟨rfl,rfl⟩) | (go_at_call_of 163 m;refine (C2.out _).mono ?_;rintro e w' ⟨rfl,rfl⟩) | (go_at_call 162;refine HO.out.mono ?_;rintro e w' ⟨rfl,rfl⟩))) | fail
 all_goals (go_wp2_with fail)
 all_goals go_ret
 all_goals exact ⟨ret_int HF.out,HG.out⟩
theorem cmpLaysD (blk size:Nat) (w:World):CmpLays Tryz.prog 130 #[] encR 2 byD blk 0 size w:=
 fun _ _ _ _ x y=>byDot_gr x y _
theorem sortD_any (ad:Addr) (cap n:Nat) (d:Array Rn) (w:World) (M:MR w ad d) (hn:d.size=n) (hb:n <= 8796093022207) :
  Calls Tryz.prog 129 #[.slice (some ad) n cap,.func (.func 130) #[] #[]] w fun e w'=>e = .returned (.tuple #[])/\∃ d',d'.toList.Perm d.toList/\d'.size=n/\MR w' ad d'/\Below ad.block w w':=by
 subst hn;have eg:∀ args w,(callFunc 130 args).run Tryz.prog w = .ok (.enter 130 args) w:=enters_of Tryz.func130 (by kernel_rfl) rfl;have h:=AnyQ.slices_SortFunc Tryz.sortD 2 Tryz.isAgg43 Tryz.sizeOf43 encR (fun _=>rfl) (fun x v hv=>RC_one x v hv) byD byD_swo 130 #[] ad.block 0 cap d w eg (cmpLaysD ad.block d.size w) M.hk M.lt (by omega);rw [<- M.ha] at h;refine Calls.mono h ?_;rintro e w' ⟨rfl,d',m,os,⟨hs,_,hp⟩,_,rfl⟩;refine ⟨rfl,d',?_,hs,⟨holdsK_sortWorldK_c encR 2 w ad.block 0 d d' m os M.hk M.lt hs,?_,M.ha⟩,?_⟩
 ·have e1:d'.extract 0 d.size=d':=by rw [<- hs];simp
  have e2:d.extract 0 d.size=d:=by simp
  rwa [e1,e2] at hp
 ·have:=M.lt
  show ad.block < ((putRow id (Sort.ahead w m) ad.block 0 (flatK encR 2 d')).heap++os).size
  rw [Array.size_append,size_putRow]
  show ad.block < w.heap.size+os.size
  omega
 ·have h1:Below ad.block w (putRow id (Sort.ahead w m) ad.block 0 (flatK encR 2 d')):=Lib.below_putRow (Below.refl _ _) (Nat.le_refl _);refine h1.trans ?_
  have hsz:ad.block <= (putRow id (Sort.ahead w m) ad.block 0 (flatK encR 2 d')).heap.size:=by rw [size_putRow];exact Nat.le_of_lt M.lt
  show Below ad.block _ (grow (putRow id (Sort.ahead w m) ad.block 0 (flatK encR 2 d')) os)
  generalize putRow id (Sort.ahead w m) ad.block 0 (flatK encR 2 d')=V at hsz;exact ⟨rfl,rfl,rfl,by show _ <= (V.heap++os).size;rw [Array.size_append];omega,fun k hk=>by show (V.heap++os)[k]? = _;rw [Array.getElem?_append_left (by omega)]⟩
theorem OwnD.mr {B0 B:Nat} {w w':World} {ad:Addr} {cap:Nat} {acc:List Rn} (O:OwnD B0 B w w' (some ad) cap acc):MR w' ad acc.toArray/\B <= ad.block/\acc.length <= cap/\cap <= maxLen:=by
 rcases O.own.2 with ⟨h0,_⟩ | ⟨g,c,cur,hv,hbg,hgg,hnc,hcm,hcsz,htake⟩
 ·cases h0
 ·simp only [Value.slice.injEq,Option.some.injEq,true_and] at hv;obtain ⟨rfl,rfl⟩:=hv;refine ⟨⟨fun j hj=>?_,(Array.getElem?_eq_some_iff.1 hgg).1,rfl⟩,hbg,hnc,hcm⟩;rw [Sort.size_flatK] at hj
  have hj':j < acc.length * 2:=by simpa using hj
  refine ⟨?_,by simp [World.frozen?,hgg]⟩;rw [Nat.zero_add,O.own.cellAt j (by omega),Sort.get_flatK _ _ _ _ hj];have e4:=rcs_at acc (j / 2) (j % 2) (by omega) (by omega);rw [show j / 2 * 2+j % 2=j by omega] at e4;rw [e4]
  have e5:acc.toArray[j / 2]! = acc.getD (j / 2) rn0:=by
   rw [getElem!_pos acc.toArray (j / 2) (by simp;omega)];simp [List.getD,show j / 2 < acc.length by omega]
  rw [e5]
  have:j % 2=0∨j % 2=1:=by omega
  rcases this with h | h <;> rw [h] <;> rfl
theorem cloneD_any (ad:Addr) (n c:Nat) (D:List Rn) (w:World) (hS:RSrc w (some ad) n c D) :
  Calls Tryz.prog 128 #[.slice (some ad) n c] w fun e w'=>∃ ao c',e = .returned (.slice ao n c')/\OwnD w.heap.size w.heap.size w w' ao c' D:=by
 have HO:=hide (ownD_made w);have HS:=hide (hS.below (below_new w (.cells #[] 43)));have HB:=hS.big;have hnil:(binOp .eql 39 (.slice (some ad) n c) (.slice none 0 0)).run Tryz.prog w = .ok (.bool false) w:=Lib.run_eql_slice_some_nil w _ _ _ Tryz.underlying39;clear hS;go_enter Tryz.func128,Tryz.ntmps128;go_wp2_with (at_builtin;refine HO.out.appendS D (some ad) n c HS.out (by simp only [List.length_nil];omega) rfl (.tmp 5) (.tmp 6) rfl 0 rfl rfl rfl ?_;intro ao3 c3 w3 O3;rw [List.nil_append] at O3;have HO3:=hide O3;clear O3);go_ret;exact ⟨ao3,c3,by simp,HO3.out⟩
theorem compact1_any (ao:Option Addr) (n c:Nat) (w:World) (hn:n < 2) :
  Calls Tryz.prog 131 #[.slice ao n c] w fun e w'=>e = .returned (.slice ao n c)/\w'=w:=by
 have h:(n:Int) < 2:=by omega
 go_enter Tryz.func131,Tryz.ntmps131;go_wp2_with fail;go_ret;exact ⟨rfl,rfl⟩
end
section
open Go.RowKit

def nrC (s:Sn) (d:Rn):Int:=or2 (cmpI s.rep d.lo) (cmpI s.hi d.hi)
theorem nrC_neg (s:Sn) (d:Rn):nrC s d < 0↔s.rep < d.lo∨(s.rep=d.lo/\s.hi < d.hi):=by
 unfold nrC or2 cmpI;by_cases h1:s.rep < d.lo
 ·simp [h1]
 ·by_cases h2:d.lo < s.rep
  ·simp [h1,h2];omega
  ·have h3:s.rep=d.lo:=by omega
   by_cases h4:s.hi < d.hi
   ·simp [h3,h4]
   ·by_cases h5:d.hi < s.hi <;> simp [h3,h4,h5]
theorem nrC_any (s:Sn) (d:Rn) (w:World):Calls Tryz.prog 173 #[SV s,RV d] w fun e w'=>e = .returned (.int .i64 (nrC s d))/\Below w.heap.size w w':=by
 have b1:=below_new w (.cells (SC s) 122);have x1:=sbox_new w s;have s1:=World.size_alloc w (.cells (SC s) 122);obtain ⟨w1,hw1⟩:∃ w1,w.alloc (.cells (SC s) 122)=w1:=⟨_,rfl⟩;obtain ⟨g1,hg1⟩:∃ g1,w.heap.size=g1:=⟨_,rfl⟩;rw [hw1] at b1 x1 s1;rw [hg1] at x1 s1;have b2:=below_new w1 (.cells (RC d) 43);have x2:=box_new w1 43 d;obtain ⟨w2,hw2⟩:∃ w2,w1.alloc (.cells (RC d) 43)=w2:=⟨_,rfl⟩;rw [hw2] at b2 x2;rw [s1] at x2;have HB:=hide (b1.trans (b2.mono b1.size));have HX:Hid (SBox w2 g1 s/\Box w2 (g1+1) 43 d):=⟨x1.below b2,x2⟩
 have HSt:Hid (∀ W,Below w2.heap.size w2 W -> W.cell? ⟨g1,0,none⟩=some (.int .i64 s.rep)/\W.cell? ⟨g1,2,none⟩=some (.int .i64 s.hi)/\W.cell? ⟨g1+1,0,none⟩=some (.int .i64 d.lo)/\W.cell? ⟨g1+1,1,none⟩=some (.int .i64 d.hi)):=fun W hW=>by
  obtain ⟨c0,-,c2⟩:=(HX.out.1.below hW).at
  have hd:=(HX.out.2.below hW).at
  exact ⟨c0,c2,hd.c0,hd.c1⟩
 obtain ⟨p,Hp⟩:∃ p,Hid (cmpI s.rep d.lo=p):=⟨_,rfl⟩;obtain ⟨q,Hq⟩:∃ q,Hid (cmpI s.hi d.hi=q):=⟨_,rfl⟩
 have HR:Hid (nrC s d=or2 p q):=by show _=_;unfold nrC;rw [Hp.out,Hq.out]
 clear b1 b2 x1 x2;go_enter Tryz.func173,Tryz.ntmps173;go_wp2_with fail;clear hw1 hw2 s1 hg1;refine wp_region_held_drew (S:=fun W=>W.cell? ⟨g1,0,none⟩=some (.int .i64 s.rep)/\W.cell? ⟨g1,2,none⟩=some (.int .i64 s.hi)/\W.cell? ⟨g1+1,0,none⟩=some (.int .i64 d.lo)/\W.cell? ⟨g1+1,1,none⟩=some (.int .i64 d.hi)) (by kernel_rfl) (HSt.out _ (below_drew1 w2)) (fun hHeld=>?_);refine wU 0 ?_;refine wU 1 ?_;refine wU 2 ?_;refine wU 3 ?_;refine wU 5 ?_;refine wU 6 ?_;refine wU 7 ?_;refine wU 8 ?_;refine wpAnyH_ready (rs:=[4]) (by kernel_rfl) (by simp) (.cons rfl (fun K hK=>?_) .nil);go_simp;go_wp2_with fail;refine (cmp_any s.rep d.lo _).mono ?_;rintro e w' ⟨rfl,rfl⟩;rw [Hp.out];refine hK.out _ _ (HSt.out _ (below_drew1 w2)) (fun hHeld=>?_);clear hK K;refine wpAnyH_ready (rs:=[9]) (by kernel_rfl) (by simp) (.cons rfl (fun K hK=>?_) .nil);go_simp
 go_wp2_with fail;refine (cmp_any s.hi d.hi _).mono ?_;rintro e w' ⟨rfl,rfl⟩;rw [Hq.out];refine hK.out _ _ (HSt.out _ (below_drew1 w2)) (fun hHeld=>?_);clear hK K;have HB3:=hide ((below_drew1 w2).trans (below_new w2.drew (.cells #[.int .i64 p,.int .i64 q] 3)));have HO:=hide (or2_new p q w2.drew w2.heap.size rfl);refine wpAnyH_ready (rs:=[10]) (by kernel_rfl) (by simp) (.cons rfl (fun K hK=>?_) .nil);go_simp;refine hK.out _ _ (HSt.out _ HB3.out) (fun hHeld=>?_);clear hK K;refine wpAnyH_ready (rs:=[11]) (by kernel_rfl) (by simp) (.cons rfl (fun K hK=>?_) .nil);go_simp;go_wp2_with fail;refine HO.out.mono ?_;rintro e w' ⟨rfl,rfl⟩;refine hK.out _ _ (HSt.out _ HB3.out) (fun hHeld=>?_);clear hK K;refine wU 12 ?_;refine wpAnyH_done (by kernel_rfl) ?_ _;clear hHeld;go_wp2_with fail;go_ret;exact ⟨ret_int HR.out.symm,HB.out.trans (HB3.out.mono HB.out.size)⟩
end
end Go.Proofs.YtaphmhbmhcahaaaGreat
