import Derived.Test.YtbahbnbpmfgimaaGreatDoorBun21
import Derived.Test.YtbahbnbpmfgimaaGreatDoorBun22
set_option maxHeartbeats 4000000
set_option maxRecDepth 100000
namespace Go.Hm
open Go Go.RowKit
def qar(E:List zab)(c:zab):Option Nat:=if c∈E then some (E.idxOf c) else none
theorem z7a{E:List zab}{c d:zab}(h:c∉E):(if d=c then some E.length else qar E d)=qar (E++[c]) d:=by
 unfold qar;by_cases e:d=c
 ·subst e
  rw[if_pos rfl,if_pos (by simp),List.idxOf_append,if_neg h];simp
 ·rw[if_neg e]
  by_cases hd:d∈E
  ·rw[if_pos hd,if_pos (by simp[hd]),List.idxOf_append,if_pos hd]
  ·rw[if_neg hd,if_neg (by simp[hd,e])]
theorem z0g{P:List Nat}{n k q:Nat}(hP:P.length=k)(hk:k<n):(P++List.replicate (n-k) 0).set k q=(P++[q])++List.replicate (n-(k+1)) 0:=by rw[qn5 _ _ (by omega),hP,qn6,show n-k=(n-(k+1))+1 by omega,qn7,qn8,qmi];rfl
end Go.Hm
namespace Go.Proofs.Y
open Go.RowKit Go.Hm
theorem z2x(W:World):(Instr.makeMap 244 none).run Tryz.prog W= .ok (.map (some W.heap.size)) (W.alloc (.map #[] 0)):=by simp[Instr.makeMap,Result.andThen]
theorem qk8:ElT Tryz.prog 76 75 (.agg #[.bool false,.int .i64 0,.string ⟨#[]⟩,.int .i64 0,.int .i64 0]) 5 48:=⟨by kernel_rfl,by kernel_rfl,rfl,by omega⟩
def z7b(L:List zab)(w:World)(e:Ending)(w':World):Prop:=
 ∃A1 n1 c1 A2 c2,e= .returned (.tuple #[.slice A1 n1 c1,.slice A2 L.length c2])/\w'.ownsRow w.heap.size 75 5 (.slice A1 n1 c1) n1 (recs za4 (zin L).1)/\Go.Hm.Own w' w.heap.size 138 (.slice A2 L.length c2) (zah .u64 (zin L).2)/\New w w'
theorem qgy{c:zab}(h:CellFine c):∃kl,keyOf Tryz.prog 75 (zdb c)=some kl:=qcj h.1.1 h.2.1 h.2.2.1 h.2.2.2
theorem zx6{w:World}{A:Option Addr}{n c:Nat}{L:List zab}(h:Reads w w.heap.size 5 A n (recs za4 L))(hL:∀y∈L,CellFine y)(hn:n<=100000):
 Calls Tryz.prog 171 #[.slice A n c] w (z7b L w):=by
 obtain rfl:=h.lenCell;have HR:=qrf h;have HL:=qrf hL;clear h hL;have hmm:=z2x;have b0:New w (w.alloc (.map #[] 0)):=(qq8 _ _).alloc (ql6 _) _;have M0:=MapC.made (P:=Tryz.prog) (k:=75) w;go_enter Tryz.func171,Tryz.ntmps171
 go_wp2_with (first
  |(refine zci elW rfl (.tmp 13) (.tmp 13) rfl (W:=w) (B:=w.heap.size) L.length L.length rfl rfl rfl rfl (by omega) b0 (by simp) rfl (by omega) (by simp only[maxLen];omega) ?_
    intro w3 hown3 hg3 hb3 hs3))
 have M3:=M0.kept hg3 (by simp);simp only[qrq] at hown3 hs3;clear M0 b0 hg3 hmm;go_loopw [5,17] (fun v i wr=>∃(k cE:Nat) (AE:Option Addr),k<=L.length/\i= .int .i64 (k:Int)/\v= .slice AE (zin (L.take k)).1.length cE
  /\wr.ownsRow (w.heap.size+2) 75 5 (.slice AE (zin (L.take k)).1.length cE) (zin (L.take k)).1.length (recs za4 (zin (L.take k)).1)
  /\MapC Tryz.prog 75 wr w.heap.size (zin (L.take k)).1.length (qar (zin (L.take k)).1)
  /\Go.Hm.Own wr (w.heap.size+1) 138 (.slice (some ⟨w.heap.size+1,0,none⟩) L.length L.length) (zah .u64 ((zin (L.take k)).2++List.replicate (L.length-k) 0))
  /\New w wr/\w.heap.size+2<=wr.heap.size) (fun _ i _=>L.length-(intOf i).toNat)
 case atStart=>exact⟨0,0,none,ql7 _,rfl,rfl,by simpa[recs,zin] using zdx,by simpa[zin] using M3.eqf (f':=qar []) (fun c _=>by simp[qar]),by simpa[zb8,zin] using hown3,hb3,by omega⟩
 case round=>
  obtain⟨k,cE,AE,hk,rfl,rfl,oE,M,oP,b,hz2⟩:=hrel;clear M3 hown3 hb3 hs3;by_cases hlt:k<L.length
  ·have htk:=zae L k (false,0,[],0,0) hlt
   have hst:=ziv (L.take k) (L.getD k (false,0,[],0,0));rw[<-htk] at hst;have hI:=zpa (L.take k);have hle:=ztf (L.take k);have hPl:=hI.len;rw[ql2,ql3 (by omega)] at hPl hle;have hfine:=HL.out _ (zd4 (false,0,[],0,0) hlt);obtain⟨ad,rfl,hb,d0,d1,d2,d3,d4⟩:=(qsg HR.out b).cell5 hlt;generalize zin (L.take k)=EP at*;obtain⟨E,P⟩:=EP;dsimp only at*;generalize L.getD k (false,0,[],0,0)=y at*;have hkey:=qgy hfine;have hbok:Bok y:=hfine.1.2;unfold ziu at hst;try dsimp only at hst
   have hidx:y∈E->E.idxOf y<E.length:=fun hm=>qp9.2 hm
   obtain⟨y0,y1,y2,y3,y4⟩:=y;dsimp only at d0 d1 d2 d3 d4;have ha:New wr (wr.alloc (.cells #[.bool y0,.int .i64 y1,.string (zai y2),.int .i64 y3,.int .i64 y4] 75)):=(qq8 _ _).alloc (ql6 _) _;have BC:=qrv wr 75 #[.bool y0,.int .i64 y1,.string (zai y2),.int .i64 y3,.int .i64 y4];obtain⟨q0,q1,q2,q3,q4⟩:=zc4 BC;have M1:=M.kept (row:=none) ⟨ha.os,ha.tape,ha.output,ha.size,fun j hj _=>ha.block j hj⟩ (by simp);have oE1:=za8 oE ha;have oP1:=oP.later ha;have b1:=qr0 b ha;have HF:=qrf hfine;clear oE M oP hfine hb;by_cases hm:(y0,y1,y2,y3,y4)∈E
   ·rw[if_pos hm] at hst
    have hq:=hidx hm;have hix:qar E (y0,y1,y2,y3,y4)=some (E.idxOf (y0,y1,y2,y3,y4)):=by unfold qar;rw[if_pos hm]
    generalize E.idxOf (y0,y1,y2,y3,y4)=q at*;obtain⟨hg0,hgl,hc,hf,hs⟩:=oP1.num0 (i:=k) hlt;have hs:=hs q;rw[z0g hPl hlt] at hs;have gS:(wr.alloc (.cells #[.bool y0,.int .i64 y1,.string (zai y2),.int .i64 y3,.int .i64 y4] 75)).grownBy ((wr.alloc (.cells #[.bool y0,.int .i64 y1,.string (zai y2),.int .i64 y3,.int .i64 y4] 75)).setCell ⟨w.heap.size+1,k,none⟩ (.int .u64 (q:Int))) (some (w.heap.size+1)):=zch;have HS:=qrf hs;have HM:=qrf (M1.kept gS (by simp));have HE:=qrf (oE1.kept gS (.inr (fun e=>by have:=(qln oE1 _ e).1;omega)));have HB:=qrf (b1.setCell (p:=⟨w.heap.size+1,k,none⟩) (by simp) (.int .u64 (q:Int)));have HST:=qrf hst;have HX:=qrf hix;clear hst hix hs oE1 gS hidx;go_wp2_with (first
     |(refine znb rfl (.tmp 23) (.tmp 24) 244 rfl z66 qgw (qiu _) M1 hbok hkey rfl rfl ?_
       rw[HX.out];simp only[qnq,Option.isSome_some,qaq]))
    go_roundw
    case rel=>exact⟨k+1,cE,AE,by omega,by go_num,by rw[HST.out],by rw[HST.out];exact HE.out,by rw[HST.out];exact HM.out,by rw[HST.out];exact HS.out,HB.out,by simp;omega⟩
    case measure=>simp[intOf];omega
   ·rw[if_neg hm] at hst
    have hix:qar E (y0,y1,y2,y3,y4)=none:=by unfold qar;rw[if_neg hm]
    have hwr:IntKind.u64.wrap (E.length:Int)=(E.length:Int):=by rw[qrj];omega
    have HST:=qrf hst;have HX:=qrf hix;have HN:=qrf hm;clear hst hix hidx hm;go_wp2_with (first
     |(refine znb rfl (.tmp 23) (.tmp 24) 244 rfl z66 qgw (qiu _) M1 hbok hkey rfl rfl ?_
       rw[HX.out];simp only[Option.getD_none,Option.isSome_none,qaq])
     |(refine zx1 rfl (.tmp 33) (.tmp 34) (.tmp 35) 244 rfl z66 qgw M1 (by simp only[maxLen];omega) hbok hkey E.length rfl rfl rfl ?_
       intro w4 M4 g4;have hz4:=g4.size;have BC4:=BC.grown g4 (by intro e;injection e with e;omega);obtain⟨q0,q1,q2,q3,q4⟩:=zc4 BC4;have oE4:=oE1.kept g4 (.inr (fun e=>by have:=(qln oE1 _ e).1;omega));have oP4:=oP1.kept g4 (.inr (by simp[Value.ownBlock]));have b4:=qr5 b1 g4 (ql6 _) (ql6 _);simp only[qrq] at hz4;clear M1 oE1 oP1 BC g4)
     |(refine zdy qk8 rfl (.tmp 36) (.tmp 38) rfl (W:=w) (B:=w.heap.size) (base:=w.heap.size+2) (n:=E.length) oE4 rfl rfl b4 (by omega) (by omega) rfl (by simp[Value.oneCell']) (by omega) (by simp only[maxLen];omega) ?_
       intro A5 c5 w5 hc5 _ o5 g5 b5 hz5 _;have M5:=M4.kept g5 (fun e=>by have:=(qln oE4 _ e.symm).1;omega)
       have oP5:=oP4.kept g5 (.inr (fun e=>by have:=(qln oE4 _ (show _=some (w.heap.size+1) by rw[<-e];rfl)).1;omega))
       obtain⟨hg0,hgl,hc,hf,hs⟩:=oP5.num0 (i:=k) hlt;have hs:=hs E.length;rw[z0g hPl hlt] at hs;have gS:w5.grownBy (w5.setCell ⟨w.heap.size+1,k,none⟩ (.int .u64 (E.length:Int))) (some (w.heap.size+1)):=zch;have HS:=qrf hs;have HM:=qrf ((M5.kept gS (by simp)).eqf (fun d _=>z7a HN.out));have HE:=qrf (o5.kept gS (.inr (fun e=>by have:=(qln o5 _ e).1;omega)));have HB:=qrf (b5.setCell (p:=⟨w.heap.size+1,k,none⟩) (by simp) (.int .u64 (E.length:Int)));clear hs M4 oE4 oP4 M5 oP5 o5 gS g5 q0 q1 q2 q3 q4))
    go_roundw
    case rel=>exact⟨k+1,c5,A5,by omega,by go_num,by rw[HST.out];simp,by rw[HST.out];simpa[za7,recs,za4] using HE.out,by rw[HST.out];simpa using HM.out,by rw[HST.out];exact HS.out,HB.out,by simp;omega⟩
    case measure=>simp[intOf];omega
  ·obtain rfl:k=L.length:=by omega
   rw[qp1] at oE oP;rw[qn6,qpq,qmg] at oP;have oE:=ze4 oE (show w.heap.size<=w.heap.size+2 by omega);have oP:=oP.base_le (show w.heap.size<=w.heap.size+1 by omega);have HE:=qrf oE;have HP:=qrf oP;clear oE oP M;go_wp2_with fail
   go_ret2
   refine⟨_,_,_,_,_,rfl,?_,HP.out,b⟩;rw[qp1];exact HE.out
theorem qdg{w:World}{g:Nat}{S:St}{t:Int}(h:CurS w g S)(h1:(zcn (lenS 65536 S).2).1≠1)(ht: ¬(0<=t/\t<=3)):
 Calls Tryz.prog 138 #[.pointer (some ⟨g,0,none⟩),.int .i64 t] w
  (zn6 zb7 g none w):=by
 have hle:=zds (m:=65536) S (by omega) h.ok;have hlt:=h.lt;have ha:New w (w.alloc (.cells (zcj zb7).toArray 133)):=(qq8 _ _).alloc (ql6 _) _;have h0:=h.below ha;have L1:=qrf (zeb (m:=65536) h0 (by omega) (by omega));have BZ0:Blk (w.alloc (.cells (zcj zb7).toArray 133)) w.heap.size 133 (zcj zb7).toArray:=qrv _ _ _;generalize lenS 65536 S=H at*;obtain⟨n,S1⟩:=H;dsimp only at*;have hbl:=zn2 (S:=S1);have hRt:zck t ((n:Int),false,zbf,zbf)=false:=by unfold zck;rw[if_pos (by dsimp only;omega)]
 have SR:=fun(W:World)=>zhm (w:=W) (t:=t) (s:=((n:Int),false,zbf,zbf)) (by unfold zep zbf;simp)
 rw[hRt] at SR;have SR:Hid (∀W,Calls Tryz.prog 133 #[.int .i64 t,.agg #[.int .i64 (n:Int),.bool false,.bool false,.int .i64 0,.string ⟨#[]⟩,.int .i64 0,.int .i64 0,.bool false,.int .i64 0,.string ⟨#[]⟩,.int .i64 0,.int .i64 0]] W (zak (.bool false) W)):=qrf SR;clear hRt h;go_enter Tryz.func138,Tryz.ntmps138
 go_wp2_with fail
 refine L1.out.mono ?_;rintro e w1 ⟨rfl,s1,g1⟩;have hbl:=hbl s1.ok;have C2:=qrf (zix (s1.below ((qq8 _ _).alloc (ql6 _) (.cells #[.int .i64 (n:Int),.bool false,.bool false,.int .i64 0,.string ⟨#[]⟩,.int .i64 0,.int .i64 0,.bool false,.int .i64 0,.string ⟨#[]⟩,.int .i64 0,.int .i64 0] 133))));have hz1:=g1.size;have BZ1:=(BZ0.grown g1 (by intro e;injection e with e;omega)).alloc (.cells #[.int .i64 (n:Int),.bool false,.bool false,.int .i64 0,.string ⟨#[]⟩,.int .i64 0,.int .i64 0,.bool false,.int .i64 0,.string ⟨#[]⟩,.int .i64 0,.int .i64 0] 133);have BT1:=qrv w1 133 #[.int .i64 (n:Int),.bool false,.bool false,.int .i64 0,.string ⟨#[]⟩,.int .i64 0,.int .i64 0,.bool false,.int .i64 0,.string ⟨#[]⟩,.int .i64 0,.int .i64 0];have G1:=(qr4 ha (g:=g)).trans (g1.trans (qr4 ((qq8 _ w1).alloc (ql6 _) (.cells #[.int .i64 (n:Int),.bool false,.bool false,.int .i64 0,.string ⟨#[]⟩,.int .i64 0,.int .i64 0,.bool false,.int .i64 0,.string ⟨#[]⟩,.int .i64 0,.int .i64 0] 133))));generalize zcn S1=Bq at*;obtain⟨y,S2⟩:=Bq;dsimp only at*;clear L1 h0 BZ0 s1 g1 ha;go_wp2_with fail
 refine C2.out.mono ?_;rintro e w2 ⟨rfl,s2,g2⟩;have hz2:=g2.size;simp only[qrq] at hz1 hz2;have BZ:=BZ1.grown g2 (by intro e;injection e with e;omega);have BT:=BT1.grown g2 (by intro e;injection e with e;omega);have G2:=G1.trans g2;clear C2 BZ1 BT1 G1 g2;obtain⟨x0,x1,x2,x3,x4,x5,x6,x7,x8,x9,x10,x11⟩:=zbh BT;have y1:((y:Int)==1)=false:=beq_eq_false_iff_ne.2 (by omega);by_cases hy:1<y
 ·have t1:decide ((1:Int)<(y:Int))=true:=by simp;omega
  have F:=qrf (zpf s2);go_wp2_with fail
  refine F.out.mono ?_;rintro e w3 ⟨rfl,s3,g3⟩;have hz3:=g3.size;have BZ3:=BZ.grown g3 (by intro e;injection e with e;omega);have G3:=qrf (G2.trans g3);have HS3:=qrf s3;clear F BZ BT G2 g3 x0 x1 x2 x3 x4 x5 x6 x7 x8 x9 x10 x11 s2 s3
  go_wp2_with (refine zan rfl 133 (.tmp 4) (.tmp 37) rfl w.heap.size _ rfl rfl BZ3 (by kernel_rfl) (by simp[zcj,zb7,za4]) (by simp[Value.oneCell']) ?_
               intro W5 BR G5;obtain⟨s0,s1,s2,s3,s4,s5,s6,s7,s8,s9,s10,s11⟩:=zbh BR)
  exact bodyPost_ret (v:=zcp zb7) (by simp[results,Tryz.results138,go_sem,s0,s1,s2,s3,s4,s5,s6,s7,s8,s9,s10,s11,zcp,zcj,za4,zb7,zbf,show zai []=⟨#[]⟩ from rfl]) rfl ⟨rfl,HS3.out.keep G5 BZ3 (by omega) (by decide),zbj G3.out G5 (ql6 _)⟩
 ·obtain rfl:y=0:=by omega
  have t1:decide ((1:Int)<((0:Nat):Int))=false:=by simp
  have BD:=qrf (qe6 s2);cases S2 with
  |none=>
   go_wp2_with fail
   refine BD.out.mono ?_;rintro e w2' ⟨rfl,rfl⟩;have F:=qrf (zpf s2);go_wp2_with fail
   refine F.out.mono ?_;rintro e w3 ⟨rfl,s3,g3⟩;have hz3:=g3.size;have BZ3:=BZ.grown g3 (by intro e;injection e with e;omega);have G3:=qrf (G2.trans g3);have HS3:=qrf s3;clear F BZ BT G2 g3 x0 x1 x2 x3 x4 x5 x6 x7 x8 x9 x10 x11 s2 s3
   go_wp2_with (refine zan rfl 133 (.tmp 4) (.tmp 37) rfl w.heap.size _ rfl rfl BZ3 (by kernel_rfl) (by simp[zcj,zb7,za4]) (by simp[Value.oneCell']) ?_
                intro W5 BR G5;obtain⟨s0,s1,s2,s3,s4,s5,s6,s7,s8,s9,s10,s11⟩:=zbh BR)
   exact bodyPost_ret (v:=zcp zb7) (by simp[results,Tryz.results138,go_sem,s0,s1,s2,s3,s4,s5,s6,s7,s8,s9,s10,s11,zcp,zcj,za4,zb7,zbf,show zai []=⟨#[]⟩ from rfl]) rfl ⟨rfl,HS3.out.keep G5 BZ3 (by omega) (by decide),zbj G3.out G5 (ql6 _)⟩
  |some S2=>
   go_wp2_with fail
   refine BD.out.mono ?_;rintro e w2' ⟨rfl,rfl⟩;go_wp2_with fail
   refine(SR.out _).mono ?_;rintro e w3 ⟨rfl,b3⟩;have hz3:=b3.size;have BZ3:=BZ.below b3 BZ.lt;have BT3:=BT.below b3 BT.lt;have G3:=G2.trans (qr4 b3);have F:=qrf (zpf (s2.below b3));clear BZ BT G2 b3 x0 x1 x2 x3 x4 x5 x6 x7 x8 x9 x10 x11 s2;obtain⟨x0,x1,x2,x3,x4,x5,x6,x7,x8,x9,x10,x11⟩:=zbh BT3;go_wp2_with fail
   refine F.out.mono ?_;rintro e w4 ⟨rfl,s4,g4⟩;have hz4:=g4.size;have BZ4:=BZ3.grown g4 (by intro e;injection e with e;omega);have G4:=qrf (G3.trans g4);have HS4:=qrf s4;clear F BZ3 BT3 G3 g4 x0 x1 x2 x3 x4 x5 x6 x7 x8 x9 x10 x11 s4
   go_wp2_with (refine zan rfl 133 (.tmp 4) (.tmp 37) rfl w.heap.size _ rfl rfl BZ4 (by kernel_rfl) (by simp[zcj,zb7,za4]) (by simp[Value.oneCell']) ?_
                intro W5 BR G5;obtain⟨s0,s1,s2,s3,s4,s5,s6,s7,s8,s9,s10,s11⟩:=zbh BR)
   exact bodyPost_ret (v:=zcp zb7) (by simp[results,Tryz.results138,go_sem,s0,s1,s2,s3,s4,s5,s6,s7,s8,s9,s10,s11,zcp,zcj,za4,zb7,zbf,show zai []=⟨#[]⟩ from rfl]) rfl ⟨rfl,HS4.out.keep G5 BZ4 (by omega) (by decide),zbj G4.out G5 (ql6 _)⟩
theorem qhg{t:Int}{S:St}(h1:(zcn (lenS 65536 S).2).1≠1)(ht:0<=t/\t<=3)(hS:S.ok):getA t S=qid S:=by
 have hle:=zds (m:=65536) S (by omega) hS;unfold getA z8f qid;rw[if_neg h1];generalize lenS 65536 S=H at*;obtain⟨n,S1⟩:=H;dsimp only at*;generalize zcn S1=Bq at*;obtain⟨y,S2⟩:=Bq;dsimp only at*;have hRt:zck t ((n:Int),false,zbf,zbf)=true:=by unfold zck;rw[if_neg (by dsimp only;omega)];simp
 rw[hRt];by_cases hy:y=0
 ·subst hy
  cases S2<;> simp
 ·rw[if_neg (fun h=>by omega),if_neg (fun h=>hy h.1)]
theorem qdh{t:Int}{S:St}(ht: ¬(0<=t/\t<=3)):getA t S=(zb7,none):=by unfold getA;rw[if_neg];rintro⟨_,_,h⟩;exact ht (zlj h).1
theorem z8g{w:World}{g:Nat}{S:St}{t:Int}(h:CurS w g S)(hl:(S.getD []).length<=140737488351232):
 Calls Tryz.prog 138 #[.pointer (some ⟨g,0,none⟩),.int .i64 t] w (zn6 (getA t S).1 g (getA t S).2 w):=by
 by_cases h1:(zcn (lenS 65536 S).2).1=1
 ·exact qdf h h1 hl
 ·by_cases ht:0<=t/\t<=3
  ·rw[qhg h1 ht h.ok]
   exact qhf h h1 ht
  ·rw[qdh ht]
   exact qdg h h1 ht
theorem zeq:∀(k n:Nat),n<=k-> ∀x∈vp n,x<256:=by
 intro k;induction k with
 |zero=>
  intro n hn x hx;obtain rfl:n=0:=by omega
  rw[zgd (by omega)] at hx;simp at hx;omega
 |succ k ih=>
  intro n hn x hx;by_cases h:n<128
  ·rw[zgd h] at hx
   simp at hx;omega
  ·rw[zge (by omega)] at hx
   rcases qnu.1 hx with rfl|hx
   ·omega
   ·exact ih _ (by omega) x hx
theorem z3h{y:Nat}{r:List Nat}:zcn (some (y::r))=(y,some r):=rfl
theorem z8h{t:Int}{l:List zab}(hd:∀c∈l,∀z∈c.2.2.1,z<256):∀x∈plB t l,x<256:=by
 intro x hx;unfold plB at hx;split at hx
 ·exact zgf _ _ x hx
 ·obtain⟨c,hc,hx⟩:=qov.1 hx
  unfold plE at hx;split at hx
  ·exact zgf _ _ x hx
  ·split at hx
   ·rcases qnd.1 hx with h|h
    ·exact zeq _ _ (ql6 _) x h
    ·exact hd c hc x h
   ·split at hx
    ·rcases qnd.1 hx with h|h
     ·exact zeq _ _ (ql6 _) x h
     ·exact zeq _ _ (ql6 _) x h
    ·simp at hx
theorem z0x{t:Int}:∀(k:Nat) (S:St),S.ok-> ∀c∈(rdL t k S).1,zat c
 |0,_,_,c,hc=>by simp[rdL] at hc
 |_+1,none,_,c,hc=>by simp[rdL] at hc
 |k+1,some l,hS,c,hc=>by
  simp only[rdL,qnu] at hc;rcases hc with rfl|hc
  ·exact z7l hS
  ·exact z0x k _ (qix hS) c hc
theorem qhh{t:Int}{b:List Nat}{n:Int}(h8:∀x∈b,x<256):∃o,IsPl zat t b n o:=by
 by_cases hk:0<=t/\t<=3/\0<=n/\n<=65536
 ·obtain⟨m,rfl⟩:=qn1 hk.2.2.1
  by_cases h1:t=1
  ·subst h1
   exact⟨_,zvu h8⟩
  ·obtain⟨out,S,he⟩:∃out S,rdL t m (some b)=(out,S):=⟨_,_,rfl⟩
   refine⟨_,z0m (by omega) (by omega) (qsq h8) he fun c hc=>?_⟩;have:=z0x (t:=t) m (some b) (qsq h8);rw[he] at this;exact this c hc
 ·exact⟨_,z8d hk⟩
theorem qja{t:Int}{l:List zab}{b:List Nat}{n:Int}(hd:∀c∈l,zat c)(hn:(l.length:Int)=n)(h:plO t l=some b):plD t b n=some l:=by
 have h8:∀x∈b,x<256:=by rw[<-(plO_iff.1 h).2];exact z8h fun c hc=>(hd c hc).1.2
 obtain⟨o,ho⟩:=qhh (t:=t) (n:=n) h8;rw[<-z8e ho];exact ho.compl l hd hn h
theorem z0y{l:List Nat}{t:Int}{s:zdl}:(putS l t s).length<=l.length+140000:=by
 unfold putS;split
 ·rename_i h
  have hn:=(zlj h).2;have h1:=zas (n:=s.1.toNat) (by omega);split
  ·rename_i hh
   have h2:=ztp h hh;have h3:=zas (n:=(zmn t s).length) (by omega);simp only[qmv,qm9,qpg];omega
  ·simp only[qmv,qm9,qpg]
   omega
 ·omega
theorem z8i{t:Int}{S:St}:statData (getA t S).1:=by
 have h0:zat zbf:=⟨⟨by simp[zbf],by simp[zbf]⟩,by simp[zbf],by simp[zbf]⟩;unfold getA;split
 ·unfold z8f
  split
  ·exact zrx t _
  ·exact⟨h0,h0⟩
 ·exact⟨h0,h0⟩
theorem ztq{t:Int}{S S1 S2:St}{N y:Nat}(e1:lenS 65536 S=(N,S1))(e2:zcn S1=(y,S2)):z8f t S=(if y=1 then(((N:Int),true,(zh7 t S2).1.1,(zh7 t S2).1.2),(zh7 t S2).2) else(((N:Int),false,zbf,zbf),S2)):=by
 have a:(lenS 65536 S).1=N:=by rw[e1]
 have b:(zcn (lenS 65536 S).2)=(y,S2):=by rw[e1];exact e2
 unfold z8f;rw[b,a]
theorem ztr{t:Int}{S S1 S2:St}{N y:Nat}(e1:lenS 65536 S=(N,S1))(e2:zcn S1=(y,S2)):getA t S=if y<=1/\(z8f t S).2≠none/\zck t (z8f t S).1=true then z8f t S else(zb7,none):=by
 have b:(zcn (lenS 65536 S).2)=(y,S2):=by rw[e1];exact e2
 unfold getA;rw[b]
theorem qdi{t:Int}{s:zdl}(hr:zck t s=true)(hs:statData s)(r:List Nat)(hl:r.length<=140737488351232):getA t (some (putS [] t s++r))=(s,some r):=by
 have hn:=(zlj hr).2;obtain⟨n,b,p,q⟩:=s;dsimp only at hn;obtain⟨N,rfl⟩:=qn1 hn.1;have hp:putS [] t ((N:Int),b,p,q)=if b then vp N++[1]++vp (zmn t ((N:Int),b,p,q)).length++zmn t ((N:Int),b,p,q) else vp N++[0]:=by unfold putS;rw[if_pos hr];simp
 have hlen:=fun e=>ztp hr (show b=true from e)
 have hok:=fun e=>z78 hr (show b=true from e)
 have hno:=fun e=>zmo hr (show b=true from e)
 have hu:zmn t ((N:Int),b,p,q)=plB t [p,q]:=rfl;rw[hp];generalize zmn t ((N:Int),b,p,q)=E at*;cases b with
 |true=>
  have hlen:=hlen rfl;have hok:=hok rfl;have e1:lenS 65536 (some (vp N++[1]++vp E.length++E++r))=(N,some (1::(vp E.length++(E++r)))):=by
   have:vp N++[1]++vp E.length++E++r=vp N++(1::(vp E.length++(E++r))):=by simp
   rw[this];exact zea N _ (by omega) (by omega)
  have e2:zh7 t (some (vp E.length++(E++r)))=((p,q),some r):=by
   have e3:lenS (((some (vp E.length++(E++r)):St).getD []).length:Int) (some (vp E.length++(E++r)))=(E.length,some (E++r)):=by
    have:=zas (n:=E.length) (by omega);refine zea _ _ ?_ ?_
    ·simp only[qnq,qmv];omega
    ·simp only[qnq,qmv];omega
   unfold zh7;rw[e3];dsimp only;rw[zo5];dsimp only;rw[qja (l:=[p,q]) (fun c hc=>by
    simp at hc;rcases hc with rfl|rfl
    ·exact hs.1
    ·exact hs.2) (by rfl) (plO_iff.2 ⟨hok,hu.symm⟩)]
  simp only[if_true];rw[ztr e1 rfl,ztq e1 rfl,if_pos rfl,e2];dsimp only;rw[if_pos ⟨by omega,by simp,hr⟩]
 |false=>
  have e1:lenS 65536 (some (vp N++[0]++r))=(N,some (0::r)):=by
   have:vp N++[0]++r=vp N++(0::r):=by simp
   rw[this];exact zea N _ (by omega) (by omega)
  have hz:p=zbf/\q=zbf:=by
   unfold zck at hr;split at hr
   ·simp at hr
   ·simpa using hr
  obtain⟨rfl,rfl⟩:=hz;simp only[qqs,if_false];rw[ztr e1 rfl,ztq e1 rfl,if_neg (show¬(0:Nat)=1 by omega)];rw[if_pos ⟨by omega,by simp,hr⟩]
theorem z8j{t:Int}{b r:List Nat}{s:zdl}(h8:∀x∈b,x<256)(h:getA t (some b)=(s,some r)):zck t s=true/\putS [] t s++r=b:=by
 obtain⟨N0,S1,k0⟩:∃N S1,lenS 65536 (some b)=(N,S1):=⟨_,_,rfl⟩;obtain⟨y0,S2,k1⟩:∃y S2,zcn S1=(y,S2):=⟨_,_,rfl⟩;rw[ztr k0 k1] at h;split at h
 ·rename_i hc
  obtain⟨c1,c2,c3⟩:=hc;rw[h] at c3;refine⟨c3,?_⟩;dsimp only at c3;rw[ztq k0 k1] at h;clear c2;rcases zdq 65536 (some b) (qsq h8) with k|⟨N,r0,e0,hN,_,k⟩
  ·exfalso
   rw[k] at k0;injection k0 with k0 k2;subst k0 k2;rw[zmh] at k1;injection k1 with k1 k2;subst k1 k2;simp at h
  ·injection e0 with e0
   rw[k] at k0;injection k0 with k0 k2;subst k0 k2;cases r0 with
   |nil=>
    have:zcn (some [])=(0,none):=rfl;rw[this] at k1;injection k1 with k1 k2;subst k1 k2;simp at h
   |cons y r1=>
    rw[z3h] at k1;injection k1 with k1 k2;subst k1 k2;by_cases hy:y=1
    ·subst hy
     simp only[if_true] at h;have h81:St.ok (some r1):=qsq fun x hx=>h8 x (by rw[e0];simp[hx])
     unfold zh7 at h;generalize hm:(((some r1:St).getD []).length:Int)=m at*;rcases zdq m (some r1) h81 with k2|⟨M,r2,e2,hM,_,k2⟩
     ·rw[k2] at h
      have:(ze6 ((0:Nat):Int) none).1=[]:=rfl;split at h
      ·rename_i a b' hp
       dsimp only at hp;rw[this] at hp;have hp:=(plO_iff.1 (zn7 hp).2.2).2;injection h with _ h;cases h
      ·injection h with _ h
       cases h
     ·injection e2 with e2
      rw[k2] at h;dsimp only at h;split at h
      ·rename_i a b' hp
       injection h with h1 h2;rcases zfi (M:Int) (some r2) with k3|⟨l,e3,e4,e5,k3⟩
       ·rw[k3] at h2;cases h2
       ·injection e3 with e3
        subst e3;rw[k3] at h2 hp;injection h2 with h2;dsimp only at hp;rw[qmt] at h2 hp;have hpb:=(plO_iff.1 (zn7 hp).2.2).2;have hel:(zmn t s)=r2.take M:=by rw[<-h1];exact hpb
        have hs1:s.1.toNat=N:=by rw[<-h1];simp
        have hs2:s.2.1=true:=by rw[<-h1]
        unfold putS;rw[if_pos c3,hs2,hs1,hel];simp only[if_true,qmx];rw[ql2,ql3 (by omega),<-h2,e0,e2];simp
      ·injection h with _ h
       cases h
    ·rw[if_neg hy] at h
     injection h with h1 h2;injection h2 with h2;obtain rfl:y=0:=by omega
     have hs1:s.1.toNat=N:=by rw[<-h1];simp
     have hs2:s.2.1=false:=by rw[<-h1]
     unfold putS;rw[if_pos c3,hs2,hs1,<-h2,e0];simp
 ·cases h
end Go.Proofs.Y
