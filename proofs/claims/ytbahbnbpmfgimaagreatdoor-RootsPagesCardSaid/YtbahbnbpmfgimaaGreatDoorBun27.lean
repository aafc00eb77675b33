/- Merged. -/
import Derived.Test.YtbahbnbpmfgimaaGreatDoorBun25
set_option maxHeartbeats 4000000
namespace Go.Proofs.Y
open Go.RowKit Go.Hm
theorem zpn{m:Int}{rows:Int}(hrm:rows<=m)(hm:m<=9223372036854775807):∀(cs:List zbb) (ls:List (List za6)) (r:List Nat),ls.length=cs.length->
 (∀i,i<cs.length->zee (cs.getD i ([],0,false)).2.1 (cs.getD i ([],0,false)).2.2 (ls.getD i []) rows)->(∀l∈ls,∀p∈l,statData p.2.2)->(zcd cs ls).length+r.length<=140737488351232->
 zbk m cs (some (zcd cs ls++r))=(ls,some r)
 | [],[],r,_,_,_,_=>rfl
 | [],l::ls,_,h,_,_,_=>by simp at h
 |c::cs,[],_,h,_,_,_=>by simp at h
 |c::cs,l::ls,r,hlen,hok,hd,hr=>by
  simp only[zcd,qni] at hr;have h0:=hok 0 (by simp);simp only[List.getD_cons_zero] at h0;simp only[zcd,qm5,zbk];rw[z35 h0 hrm hm (hd l (by simp)) (by rw[qni];omega)];dsimp only;rw[zpn hrm hm cs ls r (by simpa using hlen) (fun i hi=>by have:=hok (i+1) (by simp;omega);simpa using this) (fun l' hl'=>hd l' (by simp[hl'])) (by omega)]
noncomputable def zdj(k:Int->Int)(cols:List zbb)(m:Int)(S:St):za4 × St:=
 ((((lenS m S).1:Int),(zbk (k ((lenS m S).1:Int)) cols (lenS m S).2).1),(zbk (k ((lenS m S).1:Int)) cols (lenS m S).2).2)
noncomputable def zbo(k:Int->Int)(cols:List zbb)(m:Int):Nat->St->List za4 × St
 |0,S=>([],S)
 |_+1,none=>([],none)
 |n+1,some l=>((zdj k cols m (some l)).1::(zbo k cols m n (zdj k cols m (some l)).2).1,(zbo k cols m n (zdj k cols m (some l)).2).2)
theorem zwa{k:Int->Int}{cols:List zbb}{m:Int}{S:St}(h:S.ok):(zdj k cols m S).2.ok:=zr2 _ (zb4 h)
theorem zy7{k:Int->Int}{cols:List zbb}{m:Int}{S:St}:∀l∈(zdj k cols m S).1.2,∀p∈l,statData p.2.2:=zm6 _ _
theorem zm8(k:Int->Int)(cols:List zbb)(m:Int)(n:Nat):zbo k cols m n none=([],none):=by cases n<;> rfl
theorem zix{k:Int->Int}{cols:List zbb}{m:Int}:∀(n:Nat) (S:St),∀g∈(zbo k cols m n S).1,∀l∈g.2,∀p∈l,statData p.2.2
 |0,_,g,hg=>by simp[zbo] at hg
 |_+1,none,g,hg=>by simp[zbo] at hg
 |n+1,some b,g,hg=>by
  simp only[zbo,qof] at hg;rcases hg with rfl|hg
  ·exact zy7
  ·exact zix n _ g hg
theorem zy8{k:Int->Int}{cols:List zbb}{m:Int}{S:St}{g:za4}{r:List Nat}(hS:S.ok)(h:zdj k cols m S=(g,some r)):S=some (zc4 cols g++r):=by
 unfold zdj at h;obtain⟨N,S1,e⟩:∃N S1,lenS m S=(N,S1):=⟨_,_,rfl⟩;have hS1:S1.ok:=by have:=zb4 (m:=m) hS;rwa[e] at this
 rw[e] at h;dsimp only at h;simp only[qmi] at h;obtain⟨rfl,h2⟩:=h;have e1:=zm7 cols hS1 (show zbk (k (N:Int)) cols S1=((zbk (k (N:Int)) cols S1).1,some r) by rw[<-h2]);rw[(zhf hS (show lenS m S=(N,some _) by rw[e,<-e1])).1];simp[zc4]
theorem zm9{k:Int->Int}{cols:List zbb}{m:Int}:∀(n:Nat) {S:St} {gs:List za4} {r:List Nat},S.ok->zbo k cols m n S=(gs,some r)->S=some (gs.flatMap (zc4 cols)++r)/\gs.length=n
 |0,S,gs,r,_,h=>by
  simp only[zbo,qmi] at h;obtain⟨rfl,rfl⟩:=h;exact⟨rfl,rfl⟩
 |n+1,none,gs,r,_,h=>by
  simp only[zbo,qmi] at h;cases h.2
 |n+1,some b,gs,r,hS,h=>by
  simp only[zbo,qmi] at h;obtain⟨rfl,h2⟩:=h;obtain⟨e1,e2⟩:=zm9 n (S:=(zdj k cols m (some b)).2) (zwa hS) (show zbo k cols m n (zdj k cols m (some b)).2=((zbo k cols m n (zdj k cols m (some b)).2).1,some r) by rw[<-h2]);have e3:=zy8 hS (show zdj k cols m (some b)=((zdj k cols m (some b)).1,some _) by rw[<-e1]);refine⟨?_,by rw[qnu,e2]⟩;rw[qp1,qm5];exact e3
theorem z36{k:Int->Int}(hk:∀r,0<=r->r<=65536->r<=k r/\k r<=65536){cols:List zbb}{m:Int}{g:za4}{r:List Nat}(h:GroupOk cols g)(hgm:g.1<=m)(hm:m<=65536)(hd:∀l∈g.2,∀p∈l,statData p.2.2)
 (hr:(zc4 cols g).length+r.length<=140737488351232):zdj k cols m (some (zc4 cols g++r))=(g,some r):=by
 obtain⟨h1,h2,h3⟩:=h;obtain⟨rows,ls⟩:=g;dsimp only at h1 h2 h3 hgm hd;obtain⟨n,rfl⟩:=qon (show 0<=rows by omega);have hkn:=hk (n:Int) (by omega) (by omega);unfold zc4 at hr⊢;simp only[qng,qni] at hr⊢;unfold zdj;rw[qm5,zds n _ hgm (by omega)];dsimp only;rw[zpn hkn.1 (by omega) cols ls r h2 h3 hd (by omega)]
theorem zpo{k:Int->Int}(hk:∀r,0<=r->r<=65536->r<=k r/\k r<=65536){cols:List zbb}{m:Int}(hm:m<=65536):∀(gs:List za4) (r:List Nat),(∀g∈gs,GroupOk cols g/\g.1<=m/\ ∀l∈g.2,∀p∈l,statData p.2.2)->
 (gs.flatMap (zc4 cols)).length+r.length<=140737488351232->zbo k cols m gs.length (some (gs.flatMap (zc4 cols)++r))=(gs,some r)
 | [],r,_,_=>rfl
 |g::gs,r,h,hr=>by
  obtain⟨a,b,c⟩:=h g (by simp);rw[qp1,qni] at hr;rw[qp1,qm5,qnu];simp only[zbo];rw[z36 hk a b hm c (by rw[qni];omega)];dsimp only;rw[zpo hk hm gs r (fun q hq=>h q (by simp[hq])) (by omega)]
structure IsFoot(b:List Nat)(o:Option FootS):Prop where
 sound:∀F,o=some F->zbu F/\zfb F/\zeu F=b
 compl:∀F,zbu F->zfb F->zeu F=b->o=some F
theorem IsFoot.uniq{b:List Nat}{o p:Option FootS}(h:IsFoot b o)(k:IsFoot b p):o=p:=by
 cases o with
 |some F=>obtain⟨a,b,c⟩:=h.sound F rfl;exact(k.compl F a b c).symm
 |none=>
  cases p with
  |none=>rfl
  |some F=>obtain⟨a,b,c⟩:=k.sound F rfl;exact h.compl F a b c
noncomputable def zpp(b:List Nat):List zbb × St:=getC (some b)
noncomputable def zme(b:List Nat):Nat × St:=lenS 65536 (zpp b).2
noncomputable def zty(k:Int->Int)(b:List Nat):List za4 × St:=
 zbo k (zpp b).1 (k ((zme b).1:Int)) (lenS (k ((zme b).1:Int)) (zme b).2).1 (lenS (k ((zme b).1:Int)) (zme b).2).2
open Classical in
noncomputable def zpq(k:Int->Int)(b:List Nat):Option FootS:=
 if(zty k b).2=some []/\zbu ⟨(zpp b).1,((zme b).1:Int),(zty k b).1⟩ then some ⟨(zpp b).1,((zme b).1:Int),(zty k b).1⟩ else none
theorem znx{cols:List zbb}:∀{gs:List za4},(∀g∈gs,GroupOk cols g)->(gs.length:Int)<=(gs.map (·.1)).sum/\ ∀g∈gs,g.1<=(gs.map (·.1)).sum
 | [],_=>by simp
 |g::gs,h=>by
  have ih:=znx (gs:=gs) fun q hq=>h q (by simp[hq])
  have h1:=(h g (by simp)).1;rw[qnc,qp2,qnu];refine⟨by omega,fun q hq=>?_⟩;rcases qof.1 hq with rfl|hq
  ·omega
  ·have:=ih.2 q hq
   omega
theorem qea{k:Int->Int}(hk:∀r,0<=r->r<=65536->r<=k r/\k r<=65536){b:List Nat}(h8:∀x∈b,x<256)(hb:b.length<=140737488351232):IsFoot b (zpq k b):=by
 constructor
 ·intro F hF
  unfold zpq at hF;split at hF
  ·rename_i hc
   obtain⟨hc1,hc2⟩:=hc;injection hF with hF;subst hF;have hS0:St.ok (some b):=St.ok_some h8;refine⟨hc2,⟨?_,fun g hg=>zix _ _ g hg⟩,?_⟩
   ·intro c hcc z hz
    have hC2:∃r,(zpp b).2=some r:=by
     cases h2:(zpp b).2 with
     |some r=>exact⟨r,rfl⟩
     |none=>
      exfalso;unfold zty zme at hc1;rw[h2,zu1] at hc1;dsimp only at hc1;rw[zu1] at hc1;dsimp only at hc1;rw[zm8] at hc1;cases hc1
    obtain⟨r,hr⟩:=hC2;obtain⟨_,e⟩:=zhe hS0 (show getC (some b)=((zpp b).1,some r) by rw[<-hr];rfl);injection e with e;refine h8 z ?_;rw[e,qm5];refine qre _ (qrd _ ?_);refine qpe.2 ⟨c,hcc,?_⟩;simp only[z3y,qny];exact .inl (.inr hz)
   ·obtain⟨C,SC,eC⟩:∃C SC,zpp b=(C,SC):=⟨_,_,rfl⟩
    obtain⟨N,SN,eN⟩:∃N SN,zme b=(N,SN):=⟨_,_,rfl⟩;obtain⟨n,Sn,en⟩:∃n Sn,lenS (k (N:Int)) SN=(n,Sn):=⟨_,_,rfl⟩;obtain⟨gs,SG,eG⟩:∃gs SG,zty k b=(gs,SG):=⟨_,_,rfl⟩;rw[eG] at hc1;dsimp only at hc1;subst hc1;rw[eC,eN,eG];unfold zty at eG;rw[eC,eN] at eG;dsimp only at eG;rw[en] at eG;dsimp only at eG;unfold zme at eN;rw[eC] at eN;dsimp only at eN;have ok1:SC.ok:=by
     cases SC with
     |none=>exact St.ok_none
     |some r=>
      obtain⟨_,e⟩:=zhe hS0 (show getC (some b)=(C,some r) from eC);injection e with e;exact St.ok_some fun x hx=>h8 x (by rw[e];simp[hx])
    have ok2:SN.ok:=by have:=zb4 (m:=65536) ok1;rwa[eN] at this
    have ok3:Sn.ok:=by have:=zb4 (m:=k (N:Int)) ok2;rwa[en] at this
    obtain⟨e3,hl⟩:=zm9 n ok3 eG;subst e3;have e4:=(zhf ok2 en).1;subst e4;have e5:=(zhf ok1 eN).1;subst e5;obtain⟨hck,e⟩:=zhe hS0 (show getC (some b)=(C,some _) from eC);injection e with e;unfold zeu putC;dsimp only;rw[if_pos hck,e,hl];simp
  ·cases hF
 ·intro F h1 h2 h3
  obtain⟨cols,rows,gs⟩:=F;obtain⟨a1,a2,a3,a4,a5⟩:=h1;obtain⟨d1,d2⟩:=h2;dsimp only at a1 a2 a3 a4 a5 d1 d2;obtain⟨r1,r2⟩:=znx a2;have hck:=(zeh cols).2 a1;obtain⟨N,rfl⟩:=qon (show 0<=rows by omega);have hkN:=hk (N:Int) (by omega) a4;have hb2:b=vp cols.length++zkk cols++(vp N++(vp gs.length++(gs.flatMap (zc4 cols)++[]))):=by rw[<-h3];unfold zeu putC;dsimp only;rw[if_pos hck];simp
  have hbl:=congrArg List.length hb2;simp only[qni] at hbl;have eC:zpp b=(cols,some (vp N++(vp gs.length++(gs.flatMap (zc4 cols)++[])))):=by unfold zpp;rw[hb2];exact qd9 cols _ hck
  have eN:zme b=(N,some (vp gs.length++(gs.flatMap (zc4 cols)++[]))):=by unfold zme;rw[eC];exact zds N _ (by omega) (by omega)
  have en:lenS (k (N:Int)) (some (vp gs.length++(gs.flatMap (zc4 cols)++[])))=(gs.length,some (gs.flatMap (zc4 cols)++[])):=zds _ _ (by omega) (by omega);have eG:zty k b=(gs,some []):=by unfold zty;rw[eC,eN];dsimp only;rw[en];dsimp only;exact zpo hk (by omega) gs [] (fun g hg=>⟨a2 g hg,by have:=r2 g hg;omega,d2 g hg⟩) (by omega)
  unfold zpq;rw[eC,eN,eG];rw[if_pos ⟨rfl,a1,a2,a3,a4,a5⟩]
end Go.Proofs.Y
namespace Go.Hm
open Go Go.RowKit
open Classical in
noncomputable def zq2(F:FootS):Option (List Nat):=if zbu F then some (zeu F) else none
theorem zna:∀(c:Nat) (cs:List zbb) (ls:List (List za6)),c<cs.length->c<ls.length->zcd (cs.take (c+1)) (ls.take (c+1))=zcd (cs.take c) (ls.take c)++zgt (cs.getD c zfv).2.1 (ls.getD c [])
 |0,x::cs,l::ls,_,_=>by simp[zcd]
 |c+1,x::cs,l::ls,h1,h2=>by
  have:=zna c cs ls (by simpa using h1) (by simpa using h2);simp only[qqu,zcd,qqq] at this⊢;rw[this,qm5]
 |_,[],_,h,_=>by simp at h
 |_,_::_,[],_,h=>by simp at h
theorem znb{cols:List zbb}:∀{gs:List za4},(∀g∈gs,GroupOk cols g)->0<=(gs.map (·.1)).sum
 | [],_=>by simp
 |g::gs,h=>by
  have:=znb (gs:=gs) fun q hq=>h q (by simp[hq])
  have:=(h g (by simp)).1;rw[qnc,qp2];omega
end Go.Hm
namespace Go.Proofs.Y
open Go.RowKit Go.Hm
theorem PageFine.num{p:za6}(h:PageFine p){t:Int}{nu:Bool}{m:Int}(hb:zh9 t nu p m=true):zzk p:=by have h1:=(pageB_most.1 hb).1;exact⟨by omega,⟨by omega,h.2.2.2⟩,CellFine.data h.1.1.1,CellFine.data h.1.1.2⟩
theorem qer{L:List zbb}(h:zph L):(putC [] L).length<=8000:=by
 unfold putC;split
 ·have h1:=z1c L (fun x hx=>(h.2.1 x hx).2.1)
  have h2:=zap (n:=L.length) (by have:=h.1;omega);have:=h.1;simp only[qni,qp3];omega
 ·simp
set_option maxRecDepth 100000 in
theorem zzl{w:World}{Ac:Option Addr}{cc:Nat}{L:List zbb}{r:Int}{Ag:Option Addr}{cg:Nat}{G:List GrD}(h:FootIn w Ac cc L Ag G)(hp:∀g∈G,∀x∈g.2.2.2,∀p∈x.2.2,PageFine p):
 Calls Tryz.prog 52 #[zli Ac cc L r Ag cg G] w (OptB (zq2 (zbx L r G)) w):=by
 have RT:=Hz (fun(W:World) (hW:New w W)=>zmd (cg:=cg) (r:=r) (h.later hW) (fun g hg x hx p hpm=>(hp g hg x hx p hpm).stat));have HG:=Hz h.groups;have HL:=Hz h.cols;have hfew:=h.few;have hfew2:=h.few2;have hfine:=h.fine;have hcap:=h.cap;have HCH:=Hz h.chunks;have HPG:=Hz h.pages;have HP:=Hz hp;clear h hp;obtain⟨M,hM⟩:∃M,M=zq2 (zbx L r G):=⟨_,rfl⟩;rw[<-hM];unfold zq2 at hM;show Calls Tryz.prog 52 #[.agg #[.slice Ac L.length cc,.int .i64 r,.slice Ag G.length cg]] w (OptB M w);have B0:=Blk.new w 79 #[.slice Ac L.length cc,.int .i64 r,.slice Ag G.length cg];have b0:New w (w.alloc (.cells #[.slice Ac L.length cc,.int .i64 r,.slice Ag G.length cg] 79)):=(Below.refl _ _).alloc (qmt _) _;obtain⟨x0,x1,x2⟩:=zao B0;by_cases hok:zbu (zbx L r G)
 ·rw[if_pos hok] at hM
  rw[zmc hok] at RT;have RT:Hid (∀W,New w W->Calls Tryz.prog 87 #[.agg #[.slice Ac L.length cc,.int .i64 r,.slice Ag G.length cg]] W (zal (.bool true) W)):=RT;have hok2:=hok;obtain⟨hcok,hgok,hsum,hr,-⟩:=hok;unfold zbx at hok2 hgok hsum hM;dsimp only[zbx] at hcok hr;dsimp only at hgok hsum;have hr0:=znb hgok;rw[hsum] at hr0;obtain⟨rN,rfl⟩:=qon hr0;unfold zeu at hM;dsimp only at hM;rw[qng,qpg] at hM;have hcl:=qer hcok;have SPt:=Hz (fun(W:World) (hW:New w W)=>qd6 (A:=none) (n:=0) (c:=0) (b:=[]) (c2:=cc) Reads.none_ (by omega) (Reads.later HL.out hW) hfine hcap hfew);have HMap:=Hz (fun(k:Nat) (hk:k<G.length)=>zbq grP G (k:=k) grZ zak hk);have HLen:=Hz (show(G.map grP).length=G.length from qpg ..);have HOK:=Hz hok2;have HL64:L.length<=64:=hcok.1;have hGl:G.length<=65536:=by have:=(znx hgok).1;rw[qpg,hsum] at this;omega
  have HM:=Hz hM;clear hM hgok hsum hr0 hok2 hcok hfine;generalize G.map grP=GP at*;generalize putC [] L=PC at*;go_enter Tryz.func52,Tryz.ntmps52
  go_wp2_with fail
  refine(RT.out _ b0).mono ?_;rintro e w1 ⟨rfl,b1⟩;have B1:=B0.below b1 B0.lt;have b01:=New.trans b0 b1;clear B0 b0 b1 x0 x1 x2 RT;obtain⟨x0,x1,x2⟩:=zao B1;go_wp2_with fail
  refine(SPt.out _ b01).mono ?_;rintro e w2 ⟨A2,n2,c2,rfl,o2,b2⟩;have hq2:n2<=8000:=by have:=o2.len;rw[zaa] at this;omega
  have hbase:w.heap.size<=w1.heap.size:=b01.size;have B2:=B1.below b2 B1.lt;have hB1:w.heap.size<w1.heap.size:=B1.lt;have hz2:=b2.size;have N1:=Hz (zdw (N:=rN) o2 hz2 (by omega) (by omega));have VR:=zap (n:=rN) (by omega);have VG:=zap (n:=G.length) (by omega);clear SPt B1 x0 x1 x2;obtain⟨x0,x1,x2⟩:=zao B2;go_wp2_with fail
  refine N1.out.mono ?_;rintro e w3 ⟨A3,n3,c3,rfl,o3,g3⟩;have hq3:n3<=8010:=by have h1:=o3.len;have h2:=o2.len;rw[zaa,qni] at h1;rw[zaa] at h2;omega
  have bb3:=g3.below o2 b2 (qmt _) hz2;have hz3:=g3.size;have N2:=Hz (zdw (N:=G.length) o3 (by omega) (by omega) (by omega));have B3:=g3.blk o2 B2 (by decide);clear N1 o2 g3 B2 x0 x1 x2 b2;obtain⟨x0,x1,x2⟩:=zao B3;go_wp2_with fail
  refine N2.out.mono ?_;rintro e w4 ⟨A4,n4,c4,rfl,o4,g4⟩;have hq4:n4<=8020:=by have h1:=o4.len;have h2:=o3.len;rw[zaa,qni] at h1;rw[zaa] at h2;omega
  have bb4:=g4.below o3 bb3 (qmt _) (by omega);have hz4:=g4.size;have B4:=g4.blk o3 B3 (by decide);have hz14:w1.heap.size<=w4.heap.size:=by omega
  clear N2 o3 g4 B3 x0 x1 x2 bb3;obtain⟨x0,x1,x2⟩:=zao B4;go_wp2_with fail
  clear x0 x1 x2;go_loopw [4,27] (fun v i wr=>∃(k:Nat) (B:Option Addr) (m d R:Nat),k<=G.length/\i= .int .i64 (k:Int)/\v= .slice B m d/\Go.Hm.Own wr w1.heap.size 5 (.slice B m d) (zan .u8 (PC++vp rN++vp G.length++(GP.take k).flatMap (zc4 L)))
   /\(R:Int)=((GP.take k).map (·.1)).sum/\m<=9000+700*k+8961280*R/\Blk wr w.heap.size 79 #[.slice Ac L.length cc,.int .i64 (rN:Int),.slice Ag G.length cg]/\Below w1.heap.size w1 wr/\w1.heap.size<=wr.heap.size) (fun _ i _=>G.length-(intOf i).toNat)
  case atStart=>exact⟨0,A4,n4,c4,0,qmu _,rfl,rfl,by simpa using o4,by simp,by omega,B4,bb4,hz14⟩
  case round=>
   obtain⟨k,Bv,m,d,R,hk,rfl,rfl,o,hR,hml,B,bb,hzw⟩:=hrel;clear o4 B4 bb4 hq4;have bw:New w wr:=New.trans b01 bb;by_cases hlt:k<G.length
   ·obtain⟨ad,rfl,hb,d0,d1⟩:=(Reads.later HG.out bw).gr2 hlt
    have hgm:=zas grZ hlt;have hch:=HCH.out _ hgm;have hpg:=HPG.out _ hgm;have hpp:=HP.out _ hgm;have hmap:=HMap.out k hlt;have hltP:k<GP.length:=by rw[HLen.out];exact hlt
    have hgok:=HOK.out.2.1 (GP.getD k zak) (zas zak hltP);have hrows:=zvy HOK.out hltP;have hts:=zb5 (fun g:za4=>g.1) GP k zak hltP;have hfm:(GP.take (k+1)).flatMap (zc4 L)=(GP.take k).flatMap (zc4 L)++zc4 L (GP.getD k zak):=by rw[zad GP k zak hltP,qp8];simp
    dsimp only at hgok hrows hts;rw[hmap] at hgok hrows hts hfm;generalize G.getD k grZ=g at*;obtain⟨gI,Ach,cch,D⟩:=g;unfold grP at hgok hrows hts hfm;dsimp only at d0 d1 hch hpg hpp hgok hrows hts hfm;obtain⟨hg1,hg2,hg3⟩:=hgok;dsimp only at hg1 hg2 hg3;obtain⟨gr,rfl⟩:=qon (show 0<=gI by omega);rw[qpg] at hg2;rw[show zc4 L ((gr:Int),D.map fun x:ChD=>x.2.2)=vp gr++zcd L (D.map fun x:ChD=>x.2.2) from rfl] at hfm;have hgr:gr+R<=65536:=by omega
    have hRR:((R+gr:Nat):Int)=((GP.take (k+1)).map (·.1)).sum:=by rw[hts,<-hR];simp
    have HRR:=Hz hRR;have HFM:=Hz hfm;have HG3:=Hz hg3;have HCHk:=Hz hch.1;have HPGk:=Hz hpg;have HPPk:=Hz hpp;have hDL:D.length<=L.length:=by omega
    have HG2:=Hz hg2;clear hmap hltP hgm hb hch hpg hpp hts hrows hR hRR hfm hg3 hg2;have ha:New wr (wr.alloc (.cells #[.int .i64 (gr:Int),.slice Ach D.length cch] 114)):=(Below.refl _ _).alloc (qmt _) _;have BG:=Blk.new wr 114 #[.int .i64 (gr:Int),.slice Ach D.length cch];have B5:=B.below ha B.lt;have o5:=o.later ha;have bb5:Below w1.heap.size w1 (wr.alloc (.cells #[.int .i64 (gr:Int),.slice Ach D.length cch] 114)):=bb.trans (Below.mono ha hzw);obtain⟨z0,z1⟩:=zbz BG;have N1:=Hz (zdw (N:=gr) o5 (by simp;omega) (by omega) (by omega));have VGr:=zap (n:=gr) (by omega);have HML:=Hz hml;have hmq:m<=700000000000:=by omega
    clear B o bb ha;go_wp2_with fail
    refine N1.out.mono ?_;rintro e w6 ⟨A6,n6,c6,rfl,o6,g6⟩;have hq6:n6<=m+10:=by have h1:=o6.len;have h2:=o5.len;rw[zaa,qni] at h1;rw[zaa] at h2;omega
    have bb6:=g6.below o5 bb5 (qmt _) (by simp;omega);have hz6:=g6.size;simp only[World.size_alloc] at hz6;have B6:=g6.blk o5 B5 (by decide);have BG6:=g6.blk o5 BG (by decide);have hz16:w1.heap.size<=w6.heap.size:=by omega
    clear N1 o5 g6 B5 BG z0 z1 bb5;obtain⟨z0,z1⟩:=zbz BG6;have hY:∃Y,Y=10+gr*140020:=⟨_,rfl⟩;obtain⟨Y,hY⟩:=hY;have HYY:=Hz hY;clear d0 d1 hY;go_wp2_with fail
    clear z0 z1 BG6;go_loopw [4,38] (fun v i wr=>∃(c:Nat) (Bq:Option Addr) (m2 d2:Nat),c<=D.length/\i= .int .i64 (c:Int)/\v= .slice Bq m2 d2
     /\Go.Hm.Own wr w1.heap.size 5 (.slice Bq m2 d2) (zan .u8 (PC++vp rN++vp G.length++(GP.take k).flatMap (zc4 L)++vp gr++zcd (L.take c) ((D.map (fun x:ChD=>x.2.2)).take c)))
     /\m2<=m+10+c*Y/\Blk wr w.heap.size 79 #[.slice Ac L.length cc,.int .i64 (rN:Int),.slice (some ad) G.length cg]/\Below w1.heap.size w1 wr/\w1.heap.size<=wr.heap.size) (fun _ i _=>D.length-(intOf i).toNat)
    case atStart=>exact⟨0,A6,n6,c6,qmu _,rfl,rfl,by simpa[zcd] using o6,by omega,B6,bb6,hz16⟩
    case round=>
     obtain⟨c,Bq,m2,d2,hc,rfl,rfl,oq,hmc,Bx,bbq,hzq⟩:=hrel;clear o6 hq6 B6 bb6 hz16 hz6;have bq:New w wr:=New.trans b01 bbq;have hcY:c*Y<=64*Y:=qms _ (by omega);have hYv:=HYY.out;have hm2q:m2<=90000000000000:=by omega
     by_cases hlc:c<D.length
     ·have hcL:c<L.length:=by omega
      obtain⟨ac,rfl,hbc,e0⟩:=(Reads.later HCHk.out bq).ch1 hlc;obtain⟨al,rfl,hbl,f0,f1,f2⟩:=(Reads.later HL.out bq).colT hcL;have hxm:=zas chZ hlc;have hpx:=HPGk.out _ hxm;have hsx:=HPPk.out _ hxm;have hco:=HG3.out c hcL;have hsn:=zna c L (D.map fun x:ChD=>x.2.2) hcL (by rw[qpg];exact hlc);rw[zbq (fun x:ChD=>x.2.2) D chZ [] hlc] at hco hsn;generalize D.getD c chZ=x at*;obtain⟨Ax,cx,pl⟩:=x;dsimp only at e0 hpx hsx hco hsn;have hpn:∀p∈pl,zzk p:=fun p hpm=>(hsx p hpm).num (hco.1 p hpm)
      have hpl:=zfg hco.1;have hcr:=hco.2;have hnp:pl.length<=gr:=by omega
      have rP:Reads wr w1.heap.size 14 Ax pl.length (recs zhb pl):=(hpx.1.below bq).more hbase;generalize L.getD c zfv=col at*;obtain⟨nm,t,nu⟩:=col;dsimp only at f0 f1 f2 hsn;have hnp2:pl.length<=65536:=by omega
      have hnn:m2+10+pl.length*140020<=100000000000000:=by clear hcY hmc;omega
      have PPG:=Hz (zwp (t:=t) (cp:=cx) oq hzq rP hpn hnn);have hlch:(zgt t pl).length<=10+pl.length*140020:=by
       have h1:=zmj (t:=t) pl (fun p hpm=>by have:=hpn p hpm;have h1:=this.1;have h2:=this.2.1;omega)
       have h2:=zap (n:=pl.length) (by omega);unfold zgt;rw[qni];omega
      have hchY:(zgt t pl).length<=Y:=by omega
      have HSN:=Hz hsn;obtain⟨x0,x1,x2⟩:=zao Bx;clear hsn hco hcr hpl hpn hpx hsx hxm hbc hbl rP hlch hYv;go_wp2_with fail
      refine PPG.out.mono ?_;rintro e w7 ⟨A7,n7,c7,rfl,o7,g7⟩;have hq7:n7<=m2+Y:=by have h1:=o7.len;have h2:=oq.len;rw[zaa,qni] at h1;rw[zaa] at h2;omega
      have bb7:=g7.below oq bbq (qmt _) hzq;have hz7:=g7.size;have B7:=g7.blk oq Bx (by decide);have hsm:(c+1)*Y=c*Y+Y:=qoo c Y;have o7:Go.Hm.Own w7 w1.heap.size 5 (.slice A7 n7 c7) (zan .u8 (PC++vp rN++vp G.length++(GP.take k).flatMap (zc4 L)++vp gr++zcd (L.take (c+1)) ((D.map (fun x:ChD=>x.2.2)).take (c+1)))):=by rw[HSN.out];simpa using o7
      have hq8:n7<=m+10+(c+1)*Y:=by omega
      have hz8:w1.heap.size<=w7.heap.size:=by omega
      clear PPG oq g7 Bx x0 x1 x2 hsm hq7 hmc;go_wp2_with fail
      go_roundw
      case rel=>exact⟨c+1,A7,n7,c7,by omega,by go_num,rfl,o7,hq8,B7,bb7,hz8⟩
      case measure=>simp[intOf];omega
     ·obtain rfl:c=D.length:=by omega
      have hfin:PC++vp rN++vp G.length++(GP.take k).flatMap (zc4 L)++vp gr++zcd (L.take D.length) ((D.map (fun x:ChD=>x.2.2)).take D.length)=PC++vp rN++vp G.length++(GP.take (k+1)).flatMap (zc4 L):=by rw[HFM.out,HG2.out,qql,show(D.map fun x:ChD=>x.2.2).take L.length=D.map fun x:ChD=>x.2.2 from qnn (by rw[qpg,HG2.out];exact qmt _)];simp
      rw[hfin] at oq;have hml2:m2<=9000+700*(k+1)+8961280*(R+gr):=by have:=HML.out;omega
      clear hfin hmc;go_wp2_with fail
      go_roundw
      case rel=>exact⟨k+1,Bq,m2,d2,R+gr,by omega,by go_num,rfl,oq,HRR.out,hml2,Bx,bbq,hzq⟩
      case measure=>simp[intOf];omega
   ·obtain rfl:k=G.length:=by omega
    have HO2:=Hz o;clear o hR;go_wp2_with fail
    go_ret2
    rw[HM.out];have:=HO2.out;rw[<-HLen.out,qql,HLen.out] at this;exact⟨_,_,_,rfl,this.base_le hbase,bw⟩
 ·rw[if_neg hok] at hM
  rw[zpi hok] at RT;have RT:Hid (∀W,New w W->Calls Tryz.prog 87 #[.agg #[.slice Ac L.length cc,.int .i64 r,.slice Ag G.length cg]] W (zal (.bool false) W)):=RT;have HM:=Hz hM;clear hM hok;go_enter Tryz.func52,Tryz.ntmps52
  go_wp2_with fail
  refine(RT.out _ b0).mono ?_;rintro e w1 ⟨rfl,b1⟩;go_wp2_with fail
  go_ret2
  rw[HM.out];exact⟨rfl,New.trans b0 b1⟩
end Go.Proofs.Y
