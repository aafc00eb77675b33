/- Merged. -/
import Derived.Test.YtbahbnbpmfgimaaGreatDoorBun17
import Derived.Test.YtbahbnbpmfgimaaGreatDoorBun19
set_option maxHeartbeats 4000000
namespace Go.Hm
open Go Go.RowKit
def qbg(E:List zab)(c:zab):Option Nat:=if c∈E then some (E.idxOf c) else none
theorem z7f{E:List zab}{c d:zab}(h:c∉E):(if d=c then some E.length else qbg E d)=qbg (E++[c]) d:=by
 unfold qbg;by_cases e:d=c
 ·subst e
  rw[if_pos rfl,if_pos (by simp),List.idxOf_append,if_neg h];simp
 ·rw[if_neg e]
  by_cases hd:d∈E
  ·rw[if_pos hd,if_pos (by simp[hd]),List.idxOf_append,if_pos hd]
  ·rw[if_neg hd,if_neg (by simp[hd,e])]
theorem z0m{P:List Nat}{n k q:Nat}(hP:P.length=k)(hk:k<n):(P++List.replicate (n-k) 0).set k q=(P++[q])++List.replicate (n-(k+1)) 0:=by rw[qor _ _ (by omega),hP,qos,show n-k=(n-(k+1))+1 by omega,qot,qou,qm5];rfl
end Go.Hm
namespace Go.Proofs.Y
open Go.RowKit Go.Hm
theorem z27(W:World):(Instr.makeMap 244 none).run Tryz.prog W= .ok (.map (some W.heap.size)) (W.alloc (.map #[] 0)):=by simp[Instr.makeMap,Result.andThen]
theorem ql4:ElT Tryz.prog 76 75 (.agg #[.bool false,.int .i64 0,.string ⟨#[]⟩,.int .i64 0,.int .i64 0]) 5 48:=⟨by kernel_rfl,by kernel_rfl,rfl,by omega⟩
def z7g(L:List zab)(w:World)(e:Ending)(w':World):Prop:=
 ∃A1 n1 c1 A2 c2,e= .returned (.tuple #[.slice A1 n1 c1,.slice A2 L.length c2])/\w'.ownsRow w.heap.size 75 5 (.slice A1 n1 c1) n1 (recs za0 (zic L).1)/\Go.Hm.Own w' w.heap.size 138 (.slice A2 L.length c2) (zan .u64 (zic L).2)/\New w w'
theorem qhk{c:zab}(h:CellFine c):∃kl,keyOf Tryz.prog 75 (zc2 c)=some kl:=qc3 h.1.1 h.2.1 h.2.2.1 h.2.2.2
set_option maxRecDepth 100000 in
theorem zyg{w:World}{A:Option Addr}{n c:Nat}{L:List zab}(h:Reads w w.heap.size 5 A n (recs za0 L))(hL:∀y∈L,CellFine y)(hn:n<=100000):
 Calls Tryz.prog 171 #[.slice A n c] w (z7g L w):=by
 obtain rfl:=h.lenCell;have HR:=Hz h;have HL:=Hz hL;clear h hL;have hmm:=z27;have b0:New w (w.alloc (.map #[] 0)):=(Below.refl _ _).alloc (qmt _) _;have M0:=MapC.made (P:=Tryz.prog) (k:=75) w;go_enter Tryz.func171,Tryz.ntmps171
 go_wp2_with (first
  |(refine zca elW rfl (.tmp 13) (.tmp 13) rfl (W:=w) (B:=w.heap.size) L.length L.length rfl rfl rfl rfl (by omega) b0 (by simp) rfl (by omega) (by simp only[maxLen];omega) ?_
    intro w3 hown3 hg3 hb3 hs3))
 have M3:=M0.kept hg3 (by simp);simp only[World.size_alloc] at hown3 hs3;clear M0 b0 hg3 hmm;go_loopw [5,17] (fun v i wr=>∃(k cE:Nat) (AE:Option Addr),k<=L.length/\i= .int .i64 (k:Int)/\v= .slice AE (zic (L.take k)).1.length cE
  /\wr.ownsRow (w.heap.size+2) 75 5 (.slice AE (zic (L.take k)).1.length cE) (zic (L.take k)).1.length (recs za0 (zic (L.take k)).1)
  /\MapC Tryz.prog 75 wr w.heap.size (zic (L.take k)).1.length (qbg (zic (L.take k)).1)
  /\Go.Hm.Own wr (w.heap.size+1) 138 (.slice (some ⟨w.heap.size+1,0,none⟩) L.length L.length) (zan .u64 ((zic (L.take k)).2++List.replicate (L.length-k) 0))
  /\New w wr/\w.heap.size+2<=wr.heap.size) (fun _ i _=>L.length-(intOf i).toNat)
 case atStart=>exact⟨0,0,none,qmu _,rfl,rfl,by simpa[recs,zic] using zc3,by simpa[zic] using M3.eqf (f':=qbg []) (fun c _=>by simp[qbg]),by simpa[zb1,zic] using hown3,hb3,by omega⟩
 case round=>
  obtain⟨k,cE,AE,hk,rfl,rfl,oE,M,oP,b,hz2⟩:=hrel;clear M3 hown3 hb3 hs3;by_cases hlt:k<L.length
  ·have htk:=zad L k (false,0,[],0,0) hlt
   have hst:=ziq (L.take k) (L.getD k (false,0,[],0,0));rw[<-htk] at hst;have hI:=zow (L.take k);have hle:=zs8 (L.take k);have hPl:=hI.len;rw[qmq,qmr (by omega)] at hPl hle;have hfine:=HL.out _ (zd9 (false,0,[],0,0) hlt);obtain⟨ad,rfl,hb,d0,d1,d2,d3,d4⟩:=(Reads.later HR.out b).cell5 hlt;generalize zic (L.take k)=EP at*;obtain⟨E,P⟩:=EP;dsimp only at*;generalize L.getD k (false,0,[],0,0)=y at*;have hkey:=qhk hfine;have hbok:Bok y:=hfine.1.2;unfold zio at hst;try dsimp only at hst
   have hidx:y∈E->E.idxOf y<E.length:=fun hm=>qqs.2 hm
   obtain⟨y0,y1,y2,y3,y4⟩:=y;dsimp only at d0 d1 d2 d3 d4;have ha:New wr (wr.alloc (.cells #[.bool y0,.int .i64 y1,.string (zae y2),.int .i64 y3,.int .i64 y4] 75)):=(Below.refl _ _).alloc (qmt _) _;have BC:=Blk.new wr 75 #[.bool y0,.int .i64 y1,.string (zae y2),.int .i64 y3,.int .i64 y4];obtain⟨q0,q1,q2,q3,q4⟩:=zcs BC;have M1:=M.kept (row:=none) ⟨ha.os,ha.tape,ha.output,ha.size,fun j hj _=>ha.block j hj⟩ (by simp);have oE1:=za1 oE ha;have oP1:=oP.later ha;have b1:=New.trans b ha;have HF:=Hz hfine;clear oE M oP hfine hb;by_cases hm:(y0,y1,y2,y3,y4)∈E
   ·rw[if_pos hm] at hst
    have hq:=hidx hm;have hix:qbg E (y0,y1,y2,y3,y4)=some (E.idxOf (y0,y1,y2,y3,y4)):=by unfold qbg;rw[if_pos hm]
    generalize E.idxOf (y0,y1,y2,y3,y4)=q at*;obtain⟨hg0,hgl,hc,hf,hs⟩:=oP1.num0 (i:=k) hlt;have hs:=hs q;rw[z0m hPl hlt] at hs;have gS:(wr.alloc (.cells #[.bool y0,.int .i64 y1,.string (zae y2),.int .i64 y3,.int .i64 y4] 75)).grownBy ((wr.alloc (.cells #[.bool y0,.int .i64 y1,.string (zae y2),.int .i64 y3,.int .i64 y4] 75)).setCell ⟨w.heap.size+1,k,none⟩ (.int .u64 (q:Int))) (some (w.heap.size+1)):=zb9;have HS:=Hz hs;have HM:=Hz (M1.kept gS (by simp));have HE:=Hz (oE1.kept gS (.inr (fun e=>by have:=(World.ownsRow.lt oE1 _ e).1;omega)));have HB:=Hz (b1.setCell (p:=⟨w.heap.size+1,k,none⟩) (by simp) (.int .u64 (q:Int)));have HST:=Hz hst;have HX:=Hz hix;clear hst hix hs oE1 gS hidx;go_wp2_with (first
     |(refine zmy rfl (.tmp 23) (.tmp 24) 244 rfl z7b qhi (qjn _) M1 hbok hkey rfl rfl ?_
       rw[HX.out];simp only[qob,Option.isSome_some,qbf]))
    go_roundw
    case rel=>exact⟨k+1,cE,AE,by omega,by go_num,by rw[HST.out],by rw[HST.out];exact HE.out,by rw[HST.out];exact HM.out,by rw[HST.out];exact HS.out,HB.out,by simp;omega⟩
    case measure=>simp[intOf];omega
   ·rw[if_neg hm] at hst
    have hix:qbg E (y0,y1,y2,y3,y4)=none:=by unfold qbg;rw[if_neg hm]
    have hwr:IntKind.u64.wrap (E.length:Int)=(E.length:Int):=by rw[IntKind.wrap_u64];omega
    have HST:=Hz hst;have HX:=Hz hix;have HN:=Hz hm;clear hst hix hidx hm;go_wp2_with (first
     |(refine zmy rfl (.tmp 23) (.tmp 24) 244 rfl z7b qhi (qjn _) M1 hbok hkey rfl rfl ?_
       rw[HX.out];simp only[Option.getD_none,Option.isSome_none,qbf])
     |(refine zyb rfl (.tmp 33) (.tmp 34) (.tmp 35) 244 rfl z7b qhi M1 (by simp only[maxLen];omega) hbok hkey E.length rfl rfl rfl ?_
       intro w4 M4 g4;have hz4:=g4.size;have BC4:=BC.grown g4 (by intro e;injection e with e;omega);obtain⟨q0,q1,q2,q3,q4⟩:=zcs BC4;have oE4:=oE1.kept g4 (.inr (fun e=>by have:=(World.ownsRow.lt oE1 _ e).1;omega));have oP4:=oP1.kept g4 (.inr (by simp[Value.ownBlock]));have b4:=Far.below b1 g4 (qmt _) (qmt _);simp only[World.size_alloc] at hz4;clear M1 oE1 oP1 BC g4)
     |(refine zdo ql4 rfl (.tmp 36) (.tmp 38) rfl (W:=w) (B:=w.heap.size) (base:=w.heap.size+2) (n:=E.length) oE4 rfl rfl b4 (by omega) (by omega) rfl (by simp[Value.oneCell']) (by omega) (by simp only[maxLen];omega) ?_
       intro A5 c5 w5 hc5 _ o5 g5 b5 hz5 _;have M5:=M4.kept g5 (fun e=>by have:=(World.ownsRow.lt oE4 _ e.symm).1;omega)
       have oP5:=oP4.kept g5 (.inr (fun e=>by have:=(World.ownsRow.lt oE4 _ (show _=some (w.heap.size+1) by rw[<-e];rfl)).1;omega))
       obtain⟨hg0,hgl,hc,hf,hs⟩:=oP5.num0 (i:=k) hlt;have hs:=hs E.length;rw[z0m hPl hlt] at hs;have gS:w5.grownBy (w5.setCell ⟨w.heap.size+1,k,none⟩ (.int .u64 (E.length:Int))) (some (w.heap.size+1)):=zb9;have HS:=Hz hs;have HM:=Hz ((M5.kept gS (by simp)).eqf (fun d _=>z7f HN.out));have HE:=Hz (o5.kept gS (.inr (fun e=>by have:=(World.ownsRow.lt o5 _ e).1;omega)));have HB:=Hz (b5.setCell (p:=⟨w.heap.size+1,k,none⟩) (by simp) (.int .u64 (E.length:Int)));clear hs M4 oE4 oP4 M5 oP5 o5 gS g5 q0 q1 q2 q3 q4))
    go_roundw
    case rel=>exact⟨k+1,c5,A5,by omega,by go_num,by rw[HST.out];simp,by rw[HST.out];simpa[za2,recs,za0] using HE.out,by rw[HST.out];simpa using HM.out,by rw[HST.out];exact HS.out,HB.out,by simp;omega⟩
    case measure=>simp[intOf];omega
  ·obtain rfl:k=L.length:=by omega
   rw[qql] at oE oP;rw[qos,qqd,qm3] at oP;have oE:=zeo oE (show w.heap.size<=w.heap.size+2 by omega);have oP:=oP.base_le (show w.heap.size<=w.heap.size+1 by omega);have HE:=Hz oE;have HP:=Hz oP;clear oE oP M;go_wp2_with fail
   go_ret2
   refine⟨_,_,_,_,_,rfl,?_,HP.out,b⟩;rw[qql];exact HE.out
open Go.RowKit Go.Hm
def qi6(S:St):zdc × St:=if(zcf (lenS 65536 S).2).1=0/\(zcf (lenS 65536 S).2).2≠none then((((lenS 65536 S).1:Int),false,za8,za8),(zcf (lenS 65536 S).2).2) else(zb0,none)
def zns(s:zdc)(g:Nat)(S:St)(w:World)(e:Ending)(w':World):Prop:=e= .returned (zcg s)/\CurS w' g S/\w.grownBy w' (some g)
set_option maxRecDepth 100000 in
theorem qh1{w:World}{g:Nat}{S:St}{t:Int}(h:CurS w g S)(h1:(zcf (lenS 65536 S).2).1≠1)(ht:0<=t/\t<=3):
 Calls Tryz.prog 138 #[.pointer (some ⟨g,0,none⟩),.int .i64 t] w
  (zns (qi6 S).1 g (qi6 S).2 w):=by
 obtain⟨X,hX⟩:∃X,X=qi6 S:=⟨_,rfl⟩;rw[<-hX];unfold qi6 at hX;have hle:=zdg (m:=65536) S (by omega) h.ok;have hlt:=h.lt;have ha:New w (w.alloc (.cells (zcb zb0).toArray 133)):=(Below.refl _ _).alloc (qmt _) _;have h0:=h.below ha;have L1:=Hz (zdt (m:=65536) h0 (by omega) (by omega));have BZ0:Blk (w.alloc (.cells (zcb zb0).toArray 133)) w.heap.size 133 (zcb zb0).toArray:=Blk.new _ _ _;generalize lenS 65536 S=H at*;obtain⟨n,S1⟩:=H;dsimp only at*;have hbl:=zno (S:=S1);have hRt:zcc t ((n:Int),false,za8,za8)=true:=by unfold zcc;rw[if_neg (by dsimp only;omega)];simp
 have SR:=fun(W:World)=>zha (w:=W) (t:=t) (s:=((n:Int),false,za8,za8)) (by unfold zeb za8;simp)
 rw[hRt] at SR;have SR:Hid (∀W,Calls Tryz.prog 133 #[.int .i64 t,.agg #[.int .i64 (n:Int),.bool false,.bool false,.int .i64 0,.string ⟨#[]⟩,.int .i64 0,.int .i64 0,.bool false,.int .i64 0,.string ⟨#[]⟩,.int .i64 0,.int .i64 0]] W (zal (.bool true) W)):=Hz SR;have HX:=Hz hX;clear hRt h hX;go_enter Tryz.func138,Tryz.ntmps138
 go_wp2_with fail
 refine L1.out.mono ?_;rintro e w1 ⟨rfl,s1,g1⟩;have hbl:=hbl s1.ok;have C2:=Hz (zis (s1.below ((Below.refl _ _).alloc (qmt _) (.cells #[.int .i64 (n:Int),.bool false,.bool false,.int .i64 0,.string ⟨#[]⟩,.int .i64 0,.int .i64 0,.bool false,.int .i64 0,.string ⟨#[]⟩,.int .i64 0,.int .i64 0] 133))));have hz1:=g1.size;have BZ1:=(BZ0.grown g1 (by intro e;injection e with e;omega)).alloc (.cells #[.int .i64 (n:Int),.bool false,.bool false,.int .i64 0,.string ⟨#[]⟩,.int .i64 0,.int .i64 0,.bool false,.int .i64 0,.string ⟨#[]⟩,.int .i64 0,.int .i64 0] 133);have BT1:=Blk.new w1 133 #[.int .i64 (n:Int),.bool false,.bool false,.int .i64 0,.string ⟨#[]⟩,.int .i64 0,.int .i64 0,.bool false,.int .i64 0,.string ⟨#[]⟩,.int .i64 0,.int .i64 0];have G1:=(Far.of_new ha (g:=g)).trans (g1.trans (Far.of_new ((Below.refl _ w1).alloc (qmt _) (.cells #[.int .i64 (n:Int),.bool false,.bool false,.int .i64 0,.string ⟨#[]⟩,.int .i64 0,.int .i64 0,.bool false,.int .i64 0,.string ⟨#[]⟩,.int .i64 0,.int .i64 0] 133))));generalize zcf S1=Bq at*;obtain⟨y,S2⟩:=Bq;dsimp only at*;clear L1 h0 BZ0 s1 g1 ha;go_wp2_with fail
 refine C2.out.mono ?_;rintro e w2 ⟨rfl,s2,g2⟩;have hz2:=g2.size;simp only[World.size_alloc] at hz1 hz2;have BZ:=BZ1.grown g2 (by intro e;injection e with e;omega);have BT:=BT1.grown g2 (by intro e;injection e with e;omega);have G2:=G1.trans g2;clear C2 BZ1 BT1 G1 g2;obtain⟨x0,x1,x2,x3,x4,x5,x6,x7,x8,x9,x10,x11⟩:=za9 BT;have y1:((y:Int)==1)=false:=beq_eq_false_iff_ne.2 (by omega);by_cases hy:1<y
 ·have hX:=HX.out
  rw[if_neg (by omega)] at hX;clear HX;have HX:=Hz hX;clear hX;have t1:decide ((1:Int)<(y:Int))=true:=by simp;omega
  have F:=Hz (zo1 s2);go_wp2_with fail
  refine F.out.mono ?_;rintro e w3 ⟨rfl,s3,g3⟩;have hz3:=g3.size;have BZ3:=BZ.grown g3 (by intro e;injection e with e;omega);have G3:=Hz (G2.trans g3);have HS3:=Hz s3;clear F BZ BT G2 g3 x0 x1 x2 x3 x4 x5 x6 x7 x8 x9 x10 x11 s2 s3
  go_wp2_with (refine zah rfl 133 (.tmp 4) (.tmp 37) rfl w.heap.size _ rfl rfl BZ3 (by kernel_rfl) (by simp[zcb,zb0,za0]) (by simp[Value.oneCell']) ?_
               intro W5 BR G5;obtain⟨s0,s1,s2,s3,s4,s5,s6,s7,s8,s9,s10,s11⟩:=za9 BR)
  have hX:=HX.out;subst hX;exact bodyPost_ret (v:=zcg zb0) (by simp[results,Tryz.results138,go_sem,s0,s1,s2,s3,s4,s5,s6,s7,s8,s9,s10,s11,zcg,zcb,za0,zb0,za8,show zae []=⟨#[]⟩ from rfl]) rfl ⟨rfl,HS3.out.keep G5 BZ3 (by omega) (by decide),zbc G3.out G5 (qmt _)⟩
 ·obtain rfl:y=0:=by omega
  have t1:decide ((1:Int)<((0:Nat):Int))=false:=by simp
  have BD:=Hz (qfq s2);cases S2 with
  |none=>
   have hX:=HX.out;rw[if_neg (by simp)] at hX;clear HX;have HX:=Hz hX;clear hX;go_wp2_with fail
   refine BD.out.mono ?_;rintro e w2' ⟨rfl,rfl⟩;have F:=Hz (zo1 s2);go_wp2_with fail
   refine F.out.mono ?_;rintro e w3 ⟨rfl,s3,g3⟩;have hz3:=g3.size;have BZ3:=BZ.grown g3 (by intro e;injection e with e;omega);have G3:=Hz (G2.trans g3);have HS3:=Hz s3;clear F BZ BT G2 g3 x0 x1 x2 x3 x4 x5 x6 x7 x8 x9 x10 x11 s2 s3
   go_wp2_with (refine zah rfl 133 (.tmp 4) (.tmp 37) rfl w.heap.size _ rfl rfl BZ3 (by kernel_rfl) (by simp[zcb,zb0,za0]) (by simp[Value.oneCell']) ?_
                intro W5 BR G5;obtain⟨s0,s1,s2,s3,s4,s5,s6,s7,s8,s9,s10,s11⟩:=za9 BR)
   have hX:=HX.out;subst hX;exact bodyPost_ret (v:=zcg zb0) (by simp[results,Tryz.results138,go_sem,s0,s1,s2,s3,s4,s5,s6,s7,s8,s9,s10,s11,zcg,zcb,za0,zb0,za8,show zae []=⟨#[]⟩ from rfl]) rfl ⟨rfl,HS3.out.keep G5 BZ3 (by omega) (by decide),zbc G3.out G5 (qmt _)⟩
  |some S2=>
   have hX:=HX.out;rw[if_pos ⟨rfl,by simp⟩] at hX;clear HX;have HX:=Hz hX;clear hX;go_wp2_with fail
   refine BD.out.mono ?_;rintro e w2' ⟨rfl,rfl⟩;go_wp2_with fail
   refine(SR.out _).mono ?_;rintro e w3 ⟨rfl,b3⟩;have hz3:=b3.size;have BZ3:=BZ.below b3 BZ.lt;have BT3:=BT.below b3 BT.lt;have G3:=Hz (G2.trans (Far.of_new b3));have HS3:=Hz (s2.below b3);clear BZ BT G2 b3 x0 x1 x2 x3 x4 x5 x6 x7 x8 x9 x10 x11 s2;obtain⟨x0,x1,x2,x3,x4,x5,x6,x7,x8,x9,x10,x11⟩:=za9 BT3
   go_wp2_with (refine zah rfl 133 (.tmp 4) (.tmp 38) rfl w.heap.size _ rfl rfl BZ3 (by kernel_rfl) (by simp[zcb,zb0,za0]) (by simp[Value.oneCell']) ?_
                intro W5 BR G5;obtain⟨s0,s1,s2,s3,s4,s5,s6,s7,s8,s9,s10,s11⟩:=za9 BR)
   have hX:=HX.out;subst hX;exact bodyPost_ret (v:=zcg ((n:Int),false,za8,za8)) (by simp[results,Tryz.results138,go_sem,s0,s1,s2,s3,s4,s5,s6,s7,s8,s9,s10,s11,zcg,zcb,za0,za8,show zae []=⟨#[]⟩ from rfl]) rfl ⟨rfl,HS3.out.keep G5 BZ3 (by omega) (by decide),zbc G3.out G5 (qmt _)⟩
open Go.RowKit Go.Hm
theorem elP:ElT Tryz.prog 108 111 (.agg #[.int .i64 0,.int .i64 0]) 2 16:=⟨by kernel_rfl,by kernel_rfl,rfl,by omega⟩
def z8y(l:List (Int × Int))(w:World)(e:Ending)(w':World):Prop:=∃A n c,e= .returned (.slice A n c)/\w'.ownsRow w.heap.size 111 2 (.slice A n c) n (zdk l)/\New w w'
theorem z3z(l:List (Int × Int))(p:Int × Int):zdk (l++[p])=zdk l++[.int .i64 p.1,.int .i64 p.2]:=by simp[zdk]
set_option maxRecDepth 100000 in
theorem z1d(f t s:Int)(h1: -9223372036854775808<=f)(h2:t<=9223372036854775807)(h3:s<=9223372036854775807)(w:World):
 Calls Tryz.prog 50 #[.int .i64 f,.int .i64 t,.int .i64 s] w (z8y (zdp f t s) w):=by
 by_cases hg:f<0\/t<=f\/65536<t\/s<1
 ·rw[zvq hg]
  by_cases g1:f<0;all_goals try(have d1:decide (f<0)=false:=by simpa using g1)
  all_goals try(by_cases g2:t<=f)
  all_goals try(have d2:decide (t<=f)=false:=by simpa using g2)
  all_goals try(by_cases g3:65536<t)
  all_goals try(have d3:decide (65536<t)=false:=by simpa using g3)
  all_goals try(have g4:s<1:=by omega)
  all_goals
   clear hg;go_enter Tryz.func50,Tryz.ntmps50
   go_wp2
   go_ret
   exact⟨_,_,_,rfl,zc3,New.refl _⟩
 ·obtain⟨f,rfl⟩:=qon (show 0<=f by omega)
  obtain⟨t,rfl⟩:=qon (show 0<=t by omega);obtain⟨s,rfl⟩:=qon (show 0<=s by omega);have k1:f<t:=by omega
  have k2:t<=65536:=by omega
  have k3:0<s:=by omega
  have k4:s<=9223372036854775807:=by omega
  rw[z08 k1 k2 k3];have d1:decide ((f:Int)<0)=false:=by simp
  have d2:decide (t<=f)=false:=by simp;omega
  have d3:decide ((65536:Int)<(t:Int))=false:=by simp;omega
  have d4:decide ((s:Int)<1)=false:=by simp;omega
  have hN:=z06 (f:=f) (t:=t) k3;clear hg h1 h2 h3;go_enter Tryz.func50,Tryz.ntmps50
  go_wp2
  go_loopw [7,8] (fun v i wr=>∃(k:Nat) (A:Option Addr) (c:Nat),k<=zhz f t s/\i= .int .i64 ((atN f t s k:Nat):Int)/\v= .slice A k c/\wr.ownsRow w.heap.size 111 2 (.slice A k c) k (zdk ((zgq f t s).take k))/\New w wr) (fun _ i _=>t-(intOf i).toNat)
  case atStart=>exact⟨0,none,0,by omega,by congr 1;unfold atN;simp;omega,rfl,zc3,New.refl _⟩
  case round=>
   obtain⟨k,A,c,hk,rfl,rfl,o,b⟩:=hrel;have L:=zgr (f:=f) (t:=t) k3 k;by_cases hlt:k<zhz f t s
   ·obtain⟨e1,e2,e3⟩:=z07 (L.1 hlt)
    have T:=Hz (zpd hlt);have E3:=Hz e3;have hp:atN f t s k<t:=by have:=L.1 hlt;omega
    clear L e1 e3;have HE2:=Hz e2;clear e2;generalize atN f t s k=p at*;generalize hq:atN f t s (k+1)=q at*;have HQ:=Hz hq;have e2:=HE2.out;have z0:=b.size;have hk6:k<=65536:=by omega
    by_cases hm:t-p<s;all_goals
     first
     |(have m2:(p:Int)+((t-p:Nat):Int)=(q:Int):=by have:=HE2.out;omega)
     |(have m2:(p:Int)+(s:Int)=(q:Int):=by have:=HE2.out;omega)
     have mq:p<q/\q<=t:=by have:=HE2.out;omega
     have M2:=Hz m2;clear m2
     go_wp2_with (refine zdo elP rfl (.tmp 36) (.tmp 40) rfl (W:=w) (B:=w.heap.size) (base:=w.heap.size) (n:=k) o rfl rfl b (qmt _) z0 rfl (by simp[Value.oneCell']) (by omega) (by simp only[maxLen];omega) ?_
                  intro A' c' w' _ _ o' g' b' _ _)
     go_roundw
     case rel=>
      have e2:=HE2.out;refine⟨k+1,A',c',by omega,by rw[HQ.out];congr 1<;> omega,rfl,?_,b'⟩;rw[T.out,z3z,E3.out];first
       |(rw[show(p:Int)+((t:Int)-(p:Int))=(q:Int) by omega] at o';exact o')
       |(rw[show(p:Int)+min (s:Int) ((t:Int)-(p:Int))=(q:Int) by omega] at o';exact o')
       |(rw[show(p:Int)+(s:Int)=(q:Int) by omega] at o';exact o')
     case measure=>simp[intOf];omega
   ·have hk2:k=zhz f t s:=by omega
    have hp:atN f t s k=t:=by
     have: ¬f+k*s<t:=fun hh=>hlt (L.2 hh)
     unfold atN;omega
    rw[hp] at*;have HK:=Hz hk2;have HO:=Hz o;clear hk2 L hp o;go_wp2
    go_ret
    exact⟨_,_,_,rfl,by have o:=HO.out;rw[HK.out,qnn (by rw[zf1];omega)] at o;rw[HK.out];exact o,b⟩
open Go.RowKit Go.Hm
set_option maxRecDepth 100000 in
theorem zge{w:World}{A:Option Addr}{n c:Nat}{D:List ziy}(h:Reads w w.heap.size 1 A n (recs zie D))(hD:∀d∈D,BytIn w d)(hn:n<=140737488351232)(hl:(zc5 D).length<=140737488351232):
 Calls Tryz.prog 54 #[.slice A n c] w (zcm (zc5 D) w):=by
 have hlen:n=D.length:=by have:=h.1;rw[zau (sz:=1) (fun _=>rfl)] at this;omega
 subst hlen;have HR:=Hz h;have HD:=Hz hD;clear h hD;go_enter Tryz.func54,Tryz.ntmps54
 go_wp2_with fail
 go_loopw [3,11] (fun s i wr=>∃k:Nat,k<=D.length/\i= .int .i64 (k:Int)/\s= .int .i64 ((zc5 (D.take k)).length:Int)/\wr=w) (fun _ i _=>D.length-(intOf i).toNat)
 case atStart=>exact⟨0,qmu _,rfl,rfl,rfl⟩
 case round=>
  obtain⟨k,hk,rfl,rfl,rfl⟩:=hrel;by_cases hlt:k<D.length
  ·obtain⟨ad,rfl,_,hc⟩:=z9b HR.out hlt
   have e1:=zr5 hlt;have e2:=zlr D (k+1);have E1:=Hz e1;have e3:(zc5 (D.take (k+1))).length=(zc5 (D.take k)).length+(D.getD k (none,0,[])).2.2.length:=by rw[e1,qni]
   clear e1;generalize D.getD k (none,0,[])=d at*;obtain⟨da,dc,dl⟩:=d;have i1:(k:Int)<(D.length:Int):=by omega
   have i2:wrap64 (((zc5 (D.take k)).length:Int)+(dl.length:Int))=((zc5 (D.take (k+1))).length:Int):=by rw[e3];dsimp only;unfold wrap64;dsimp only at e3;omega
   have i3: ¬(((zc5 (D.take (k+1))).length:Int)<0):=by omega
   have E3:=Hz e3;clear e3;generalize(zc5 (D.take k)).length=s0 at*;generalize hs1:(zc5 (D.take (k+1))).length=s1 at*;have HS:=Hz hs1;clear hs1;go_wp2_with fail
   go_roundw
   case rel=>exact⟨k+1,by omega,by go_num,by rw[HS.out,i2],by trivial⟩
   case measure=>simp[intOf];omega
  ·obtain rfl:k=D.length:=by omega
   rw[qql];generalize wr=w0 at*;have G:=Hz (z9c (w:=w0) (n:=(zc5 D).length) hl);generalize hs1:(zc5 D).length=s1 at*;have HS:=Hz hs1;clear hs1;go_wp2_with fail
   refine G.out.mono ?_;rintro e W1 ⟨A1,c1,rfl,o1,b1⟩;clear G;go_wp2_with fail
   go_loopw [6,27] (fun s i wr=>∃(k:Nat) (A2:Option Addr) (c2:Nat),k<=D.length/\i= .int .i64 (k:Int)/\s= .slice A2 (zc5 (D.take k)).length c2/\Go.Hm.Own wr w0.heap.size 5 (.slice A2 (zc5 (D.take k)).length c2) (zan .u8 (zc5 (D.take k)))/\New w0 wr) (fun _ i _=>D.length-(intOf i).toNat)
   case atStart=>exact⟨0,A1,c1,qmu _,rfl,rfl,o1,b1⟩
   case round=>
    clear o1 b1;obtain⟨k,A2,c2,hk,rfl,rfl,o,b⟩:=hrel;by_cases hlt:k<D.length
    ·obtain⟨ad,rfl,_,hc⟩:=z9b (Reads.later HR.out b) hlt
     have hrd:=BytIn.later (HD.out _ (zd9 (none,0,[]) hlt)) b;have e1:=zr5 hlt;have e2:=zlr D (k+1);rw[HS.out] at e2;have E1:=Hz e1;have e3:(zc5 (D.take (k+1))).length=(zc5 (D.take k)).length+(D.getD k (none,0,[])).2.2.length:=by rw[e1,qni]
     have e4:(zc5 (D.take (k+1))).length<=140737488351232:=by omega
     clear e1;generalize D.getD k (none,0,[])=d at*;obtain⟨da,dc,dl⟩:=d;have i1:(k:Int)<(D.length:Int):=by omega
     have hrd:Reads _ _ 1 da dl.length (zan .u8 dl):=hrd;have hsz:=b.size;generalize zc5 (D.take k)=F at*;generalize hF1:zc5 (D.take (k+1))=F1 at*;have HF:=Hz hF1;have e5:F.length+dl.length<=140737488351232:=by have e6:F1.length=F.length+dl.length:=e3;omega
     clear e3;clear hF1
     go_wp2_with (refine zam elB rfl (.tmp 31) (.tmp 32) rfl (W:=w0) (B:=w0.heap.size) (k:= .u8) (l:=F) (l2:=dl) (c2:=dc) o hrd rfl rfl b (qmt _) hsz (by omega) (by simp only[maxLen];omega) ?_
                  intro A3 c3 w3 hq1 hq2 o3 g3 b3 hq3)
     go_roundw
     case rel=>exact⟨k+1,A3,c3,by omega,by go_num,by rw[HF.out,E1.out,qni],by rw[HF.out,E1.out,qni];exact o3,b3⟩
     case measure=>simp[intOf];omega
    ·obtain rfl:k=D.length:=by omega
     rw[qql] at o⊢;go_wp2_with fail
     go_ret
     exact⟨A2,_,c2,rfl,o,b⟩
end Go.Proofs.Y
namespace Go.Hm
open Go Go.RowKit
def sl{α:Type}(L:List α)(lo hi:Nat):List α:=(L.drop lo).take (hi-lo)
theorem zlv{α:Type}{L:List α}{lo hi:Nat}(h:hi<=L.length):(sl L lo hi).length=hi-lo:=by unfold sl;rw[qmq,qmp];omega
theorem qkt{α:Type}(L:List α):sl L 0 L.length=L:=by simp[sl]
theorem qin{α:Type}(L:List α){lo hi k:Nat}(hk:k<=hi-lo):(sl L lo hi).take k=sl L lo (lo+k):=by unfold sl;rw[qrs,show lo+k-lo=k by omega,qmr hk]
theorem qio{α:Type}(L:List α){lo hi k:Nat}:(sl L lo hi).drop k=sl L (lo+k) hi:=by unfold sl;rw[List.drop_take,qpc,show hi-lo-k=hi-(lo+k) by omega]
theorem qlm{α:Type}(L:List α){f t lo hi:Nat}(h1:f<=lo)(h2:hi<=t):sl (sl L f t) (lo-f) (hi-f)=sl L lo hi:=by unfold sl;rw[List.drop_take,qpc,qrs,show f+(lo-f)=lo by omega,show min (hi-f-(lo-f)) (t-f-(lo-f))=hi-lo by omega]
theorem qam{α:Type}(L:List α)(k:Nat):sl L k k=[]:=by simp[sl]
theorem Digs.sl{L:List (List Nat)}(h:Digs L)(lo hi:Nat):Digs (sl L lo hi):=(h.drop lo).take _
theorem z47{L:List (List Nat)}{lo hi:Nat}(hn:2<=hi-lo)(hh:hi<=L.length):
 zb8 (sl L lo hi)=(zb6 zbs [(zb8 (sl L lo (lo+zbf (hi-lo)))).1,(zb8 (sl L (lo+zbf (hi-lo)) hi)).1],
  (zb8 (sl L lo (lo+zbf (hi-lo)))).2++(zb8 (sl L (lo+zbf (hi-lo)) hi)).2++[zcu zbs [(zb8 (sl L lo (lo+zbf (hi-lo)))).1,(zb8 (sl L (lo+zbf (hi-lo)) hi)).1]]):=by
 have hl:(sl L lo hi).length=hi-lo:=zlv hh;have hs:=zd5 hn;rw[zi5 (by omega),hl,qin L (by omega),qio]
def prD(L:List (List Nat))(es:List Ev):List (List Nat):=es.flatMap fun
 | .beside lo hi=>[(zb8 (sl L lo hi)).1]
 |_=>[]
def prF(L:List (List Nat))(es:List Ev):List (List Nat):=es.flatMap fun
 | .beside lo hi=>(zb8 (sl L lo hi)).2
 |_=>[]
theorem zmo(L:List (List Nat))(a b:List Ev):prD L (a++b)=prD L a++prD L b:=qp8
theorem zkg(L:List (List Nat))(a b:List Ev):prF L (a++b)=prF L a++prF L b:=qp8
theorem zt6(L:List (List Nat))(es:List Ev):(prD L es).length=cnt es:=by
 induction es with
 |nil=>rfl
 |cons e es ih=>
  rw[show e::es=[e]++es from rfl,zmo,zgi,qni,ih];cases e<;> rfl
theorem qe6{L:List (List Nat)}(h:Digs L)(es:List Ev):Digs (prD L es):=by
 intro d hd;obtain⟨e,_,h2⟩:=qpe.1 hd;cases e with
 |beside lo hi=>
  obtain rfl:=qnz.1 h2;exact zdn _ (h.sl lo hi)
 |among lo hi=>cases h2
 |node=>cases h2
theorem qan{L:List (List Nat)}{f t:Nat}(hD:Digs L):∀lo hi,lo<=hi->hi<=L.length->(prF L (evs f t lo hi)).length<=hi-lo:=by
 refine zmn (f:=f) (t:=t) ?_ ?_ ?_
 ·intro lo hi _ h _
  rw[zgh h];simp[prF]
 ·intro lo hi hl h h2 hh
  rw[zei h h2];have:=(zf6 _ (hD.sl lo hi) (by rw[zlv hh];omega)).1;rw[zlv hh] at this;simp[prF];omega
 ·intro lo hi k hn h h2 hk k1 k2 i1 i2 hh
  rw[zgv (by omega) h h2,<-hk,zkg,zkg,qni,qni];have:=i1 (by omega);have:=i2 hh;simp[prF];simp[prF] at*;omega
theorem qip{L:List (List Nat)}{a b:List Ev}(h:a <+: b):(prF L a).length<=(prF L b).length:=by obtain⟨c,rfl⟩:=h;rw[zkg,qni];omega
def evIn(f t a b:Nat):Ev->Prop
 | .among lo hi=>a<=lo/\lo<=hi/\hi<=b/\(lo=hi->a=b)/\(lo=hi\/(f<=lo/\hi<=t))
 | .beside lo hi=>a<=lo/\lo<hi/\hi<=b
 | .node=>True
theorem evIn.more{f t a b a' b':Nat}(h1:a'<=a)(h2:b<=b')(h3:a<b){e:Ev}(h:evIn f t a b e):evIn f t a' b' e:=by
 cases e with
 |among lo hi=>obtain⟨x,y,z,u,r⟩:=h;exact⟨by omega,y,by omega,by omega,r⟩
 |beside lo hi=>obtain⟨x,y,z⟩:=h;exact⟨by omega,y,by omega⟩
 |node=>trivial
theorem qku{f t:Nat}:∀lo hi,lo<=hi-> ∀e∈evs f t lo hi,evIn f t lo hi e:=by
 refine zmn (f:=f) (t:=t) ?_ ?_ ?_
 ·intro lo hi hl h e he
  rw[zgh h] at he;obtain rfl:=qnz.1 he;exact⟨qmt _,hl,qmt _,id,h⟩
 ·intro lo hi hl h h2 e he
  rw[zei h h2] at he;obtain rfl:=qnz.1 he;exact⟨qmt _,hl,qmt _⟩
 ·intro lo hi k hn h h2 hk k1 k2 i1 i2 e he
  rw[zgv (by omega) h h2,<-hk] at he;rcases qny.1 he with he|he
  ·exact(i1 e he).more (by omega) (by omega) (by omega)
  ·rcases qny.1 he with he|he
   ·exact(i2 e he).more (by omega) (by omega) (by omega)
   ·obtain rfl:=qnz.1 he
    trivial
theorem qiq{f t:Nat}:∀lo hi,lo<=hi->(evs f t lo hi).length<=2*(hi-lo)-1+(if lo=hi then 1 else 0):=by
 refine zmn (f:=f) (t:=t) ?_ ?_ ?_
 ·intro lo hi hl h
  rw[zgh h];split<;> simp<;> omega
 ·intro lo hi hl h h2
  rw[zei h h2];simp;omega
 ·intro lo hi k hn h h2 hk k1 k2 i1 i2
  rw[zgv (by omega) h h2,<-hk];simp only[qni,qnu,qp3];rw[if_neg (by omega)] at i1 i2⊢;omega
theorem z18{f t n:Nat}{es:List Ev}{e:Ev}(h:es++[e] <+: evs f t 0 n):evIn f t 0 n e:=qku 0 n (qmu n) e (h.subset (by simp))
structure JS where
 made:List (List Nat)
 rest:List (List Nat)
 frames:List (List Nat)
def zfx(P:List (List Nat))(f:Nat)(s:JS):Ev->JS
 | .among lo hi=>⟨s.made++[(zb8 (sl P (lo-f) (hi-f))).1],s.rest,s.frames++(zb8 (sl P (lo-f) (hi-f))).2⟩
 | .beside _ _=>⟨s.made++[s.rest.getD 0 []],s.rest.drop 1,s.frames⟩
 | .node=>⟨s.made.take (s.made.length-2)++[zb6 zbs [s.made.getD (s.made.length-2) [],s.made.getD (s.made.length-2+1) []]],s.rest,
  s.frames++[zcu zbs [s.made.getD (s.made.length-2) [],s.made.getD (s.made.length-2+1) []]]⟩
def zj0(P:List (List Nat))(f:Nat)(s:JS)(es:List Ev):JS:=es.foldl (zfx P f) s
theorem zlw(P:List (List Nat))(f:Nat)(s:JS)(a b:List Ev):zj0 P f s (a++b)=zj0 P f (zj0 P f s a) b:=qri
theorem zn3(P:List (List Nat))(f:Nat)(s:JS)(e:Ev):zj0 P f s [e]=zfx P f s e:=rfl
theorem qir(M:List (List Nat))(a b:List Nat):(M++[a]++[b]).length-2=M.length/\(M++[a]++[b]).getD ((M++[a]++[b]).length-2) []=a/\(M++[a]++[b]).getD ((M++[a]++[b]).length-2+1) []=b/\(M++[a]++[b]).take ((M++[a]++[b]).length-2)=M:=by
 have h:(M++[a]++[b]).length-2=M.length:=by simp
 rw[h];refine⟨rfl,?_,?_,?_⟩
 ·simp[List.getD_eq_getElem?_getD]
 ·simp[List.getD_eq_getElem?_getD]
 ·simp
theorem zn4{P:List (List Nat)}{f t:Nat}{X:Nat->Nat->List (List Nat)->List Nat->List (List Nat)->Prop}
 (h1:∀lo hi R,lo<=hi->(lo=hi\/(f<=lo/\hi<=t))->X lo hi R (zb8 (sl P (lo-f) (hi-f))).1 (zb8 (sl P (lo-f) (hi-f))).2)
 (h2:∀lo hi R,lo<hi-> ¬(lo=hi\/(f<=lo/\hi<=t))->min hi t<=max lo f->X lo hi R (R.getD 0 []) [])
 (h3:∀lo hi k R a b Fa Fb,2<=hi-lo->k=zbf (hi-lo)->1<=k->k<hi-lo-> ¬(lo=hi\/(f<=lo/\hi<=t))-> ¬min hi t<=max lo f->X lo (lo+k) R a Fa->X (lo+k) hi (R.drop (cnt (evs f t lo (lo+k)))) b Fb->X lo hi R (zb6 zbs [a,b]) (Fa++Fb++[zcu zbs [a,b]])):
 ∀lo hi,lo<=hi-> ∀s:JS,∃d F,zj0 P f s (evs f t lo hi)=⟨s.made++[d],s.rest.drop (cnt (evs f t lo hi)),s.frames++F⟩/\X lo hi s.rest d F:=by
 refine zmn (f:=f) (t:=t) ?_ ?_ ?_
 ·intro lo hi hl h s
  refine⟨_,_,?_,h1 lo hi s.rest hl h⟩;rw[zgh h];simp[zn3,zfx,cnt,zh3]
 ·intro lo hi hl h hb s
  refine⟨_,_,?_,h2 lo hi s.rest hl h hb⟩;rw[zei h hb];simp[zn3,zfx,cnt,zh3]
 ·intro lo hi k hn h hb hk k1 k2 i1 i2 s
  obtain⟨a,Fa,e1,x1⟩:=i1 s;obtain⟨b,Fb,e2,x2⟩:=i2 ⟨s.made++[a],s.rest.drop (cnt (evs f t lo (lo+k))),s.frames++Fa⟩;refine⟨_,_,?_,h3 lo hi k s.rest a b Fa Fb hn hk k1 k2 h hb x1 x2⟩;obtain⟨t1,t2,t3,t4⟩:=qir s.made a b;rw[z17 (by omega) h hb,zgv (by omega) h hb,<-hk,zlw,zlw,e1,e2,zn3];unfold zfx;dsimp only;rw[t2,t3,t4,qpc];simp only[qm5]
theorem zzr{L:List (List Nat)}{f t:Nat}(s:JS)(R:List (List Nat))(hs:s.rest=prD L (evs f t 0 L.length)++R):
 ∃F,zj0 (sl L f t) f s (evs f t 0 L.length)=⟨s.made++[(zb8 L).1],R,s.frames++F⟩:=by
 have:=zn4 (P:=sl L f t) (f:=f) (t:=t)
  (X:=fun lo hi R d F=>hi<=L.length-> ∀R',R=prD L (evs f t lo hi)++R'->d=(zb8 (sl L lo hi)).1)
  (by
   intro lo hi R hl h hh R' _;rcases h with rfl|⟨a,b⟩
   ·rw[qam,qam]
   ·rw[qlm L a b])
  (by intro lo hi R hl h hb hh R' e;rw[zei h hb] at e;rw[e];rfl)
  (by
   intro lo hi k R a b Fa Fb hn hk k1 k2 h hb x1 x2 hh R' e;rw[zgv (by omega) h hb,<-hk,zmo,zmo,qm5,qm5] at e;rw[z47 hn hh,<-hk,<-x1 (by omega) _ e,<-x2 hh ([]++R') (by rw[e,<-zt6 L (evs f t lo (lo+k)),qrp];rfl)])
  0 L.length (qmu _) s
 obtain⟨d,F,e,x⟩:=this;refine⟨F,?_⟩;rw[e,x (qmt _) R hs,qkt,hs,<-zt6 L,qrp]
theorem qe7{P:List (List Nat)}{f t:Nat}:∀lo hi,lo<=hi-> ∀(s:JS) es,es++[.node] <+: evs f t lo hi->s.made.length+2<=(zj0 P f s es).made.length:=by
 refine zmn (f:=f) (t:=t) ?_ ?_ ?_
 ·intro lo hi _ h s es hp
  rw[zgh h] at hp;obtain⟨r,hr⟩:=hp;have:=congrArg List.length hr
  match es,hr with
  | [],hr=>simp at hr
  |x::es,hr=>simp at this
 ·intro lo hi _ h h2 s es hp
  rw[zei h h2] at hp;obtain⟨r,hr⟩:=hp;have:=congrArg List.length hr
  match es,hr with
  | [],hr=>simp at hr
  |x::es,hr=>simp at this
 ·intro lo hi k hn h hb hk k1 k2 i1 i2 s es hp
  rw[zgv (by omega) h hb,<-hk] at hp;have J:=fun lo hi hl s=>zn4 (P:=P) (f:=f) (t:=t) (X:=fun _ _ _ _ _=>True) (by simp) (by simp) (by simp) lo hi hl s
  by_cases c1:es.length+1<=(evs f t lo (lo+k)).length
  ·exact i1 s es (qrt hp (qru _ _) (by simpa using c1))
  obtain⟨a,Fa,e1,_⟩:=J lo (lo+k) (by omega) s;have hpre:evs f t lo (lo+k) <+: es:=qrt (qru _ _) ((qru _ _).trans hp) (by omega);obtain⟨es2,rfl⟩:=hpre;rw[qm5,qrv] at hp;rw[zlw,e1];by_cases c2:es2.length+1<=(evs f t (lo+k) hi).length
  ·have:=i2 ⟨s.made++[a],s.rest.drop (cnt (evs f t lo (lo+k))),s.frames++Fa⟩ es2 (qrt hp (qru _ _) (by simpa using c2))
   simp only[qni,qnu,qp3] at this;omega
  have hpre2:evs f t (lo+k) hi <+: es2:=qrt (qru _ _) ((qru _ _).trans hp) (by omega);obtain⟨es3,rfl⟩:=hpre2;have:=hp.length_le;simp only[qni,qnu,qp3] at this;obtain rfl:=qna (show es3.length=0 by omega);obtain⟨b,Fb,e2,_⟩:=J (lo+k) hi (by omega) ⟨s.made++[a],s.rest.drop (cnt (evs f t lo (lo+k))),s.frames++Fa⟩;rw[qm3,e2];simp
theorem zw7(P:List (List Nat))(f:Nat)(s:JS)(e:Ev):s.frames.length<=(zfx P f s e).frames.length:=by cases e<;> simp[zfx]
theorem zp8(P:List (List Nat))(f:Nat):∀(es:List Ev) (s:JS),s.frames.length<=(zj0 P f s es).frames.length
 | [],_=>qmt _
 |e::es,s=>qml (zw7 P f s e) (zp8 P f es (zfx P f s e))
theorem z48(P:List (List Nat))(f:Nat)(s:JS)(e:Ev):(zfx P f s e).made.length<=s.made.length+1:=by
 cases e with
 |among lo hi=>simp[zfx]
 |beside lo hi=>simp[zfx]
 |node=>simp[zfx,List.length_take]
theorem zw8(P:List (List Nat))(f:Nat):∀(es:List Ev) (s:JS),(zj0 P f s es).made.length<=s.made.length+es.length
 | [],_=>qmt _
 |e::es,s=>by
  have h1:=z48 P f s e;have h2:=zw8 P f es (zfx P f s e);show(zj0 P f (zfx P f s e) es).made.length<=_;simp only[qnu];omega
theorem z19{P:List (List Nat)}{f t n:Nat}(hP:Digs P)(s:JS){es:List Ev}(h:es <+: evs f t 0 n):(zj0 P f s es).frames.length<=s.frames.length+2*n+1:=by
 obtain⟨d,F,e,x⟩:=zn4 (P:=P) (f:=f) (t:=t) (X:=fun lo hi _ _ F=>F.length<=if lo=hi then 1 else 2*(hi-lo)-1)
  (by
   intro lo hi _ hl _;have h1:=zrd (hP.sl (lo-f) (hi-f));have h2:(sl P (lo-f) (hi-f)).length<=hi-lo:=by unfold sl;rw[qmq];omega
   by_cases hq:lo=hi
   ·rw[if_pos hq]
    split at h1<;> omega
   ·rw[if_neg hq]
    split at h1<;> omega)
  (by intro lo hi _ hl _ _;simp)
  (by intro lo hi k _ a b Fa Fb hn hk k1 k2 _ _ x1 x2;rw[if_neg (by omega)] at x1 x2⊢;simp only[qni,qnu,qp3];omega) 0 n (qmu n) s
 obtain⟨r,hr⟩:=h;have h1:=zp8 P f r (zj0 P f s es);rw[<-zlw,hr,e] at h1;simp only[qni] at h1;split at x<;> omega
theorem zp9{P:List (List Nat)}{f:Nat}(hP:Digs P):∀(es:List Ev) (s:JS),Digs s.made->Digs s.rest->cnt es<=s.rest.length->Digs (zj0 P f s es).made/\(zj0 P f s es).rest=s.rest.drop (cnt es)
 | [],s,h1,_,_=>⟨h1,by simp[zj0,cnt]⟩
 |e::es,s,h1,h2,h3=>by
  have hc:cnt (e::es)=cnt [e]+cnt es:=zgi [e] es;rw[hc] at h3⊢;have hd:∀(a b:List (List Nat)),Digs a->Digs b->Digs (a++b):=fun a b ha hb d hm=>(qny.1 hm).elim (ha d) (hb d)
  have h1':∀(d:List Nat),zh4 d->Digs [d]:=fun d h x hx=>by obtain rfl:=qnz.1 hx;exact h
  have hs:Digs (zfx P f s e).made/\(zfx P f s e).rest=s.rest.drop (cnt [e]):=by
   cases e with
   |among lo hi=>exact⟨hd _ _ h1 (h1' _ (zdn _ (hP.sl _ _))),by simp[zfx,cnt,zh3]⟩
   |beside lo hi=>
    have h0:1<=s.rest.length:=by have:cnt [Ev.beside lo hi]=1:=rfl;omega
    refine⟨hd _ _ h1 (h1' _ (h2 _ ?_)),by simp[zfx,cnt,zh3]⟩;rw[qoa,qmm h0];exact qm8 h0
   |node=>exact⟨hd _ _ (h1.take _) (h1' _ (zb3 _ _)),by simp[zfx,cnt,zh3]⟩
  obtain⟨a,b⟩:=zp9 hP es (zfx P f s e) hs.1 (by rw[hs.2];exact h2.drop _) (by rw[hs.2,qmp];omega);exact⟨a,by show(zj0 P f (zfx P f s e) es).rest=_;rw[b,hs.2,qpc]⟩
end Go.Hm
