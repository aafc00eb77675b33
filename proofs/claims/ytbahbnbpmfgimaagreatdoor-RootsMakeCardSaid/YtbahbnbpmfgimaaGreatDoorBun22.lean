import Derived.Deep.DeepCutAuto
import Derived.Test.YtbahbnbpmfgimaaGreatDoorBun15
import Derived.Test.YtbahbnbpmfgimaaGreatDoorBun19
set_option maxHeartbeats 4000000
set_option maxRecDepth 100000
namespace Go.Proofs.Y
open Go.RowKit Go.Hm
def qid(S:St):zdl × St:=if(zcn (lenS 65536 S).2).1=0/\(zcn (lenS 65536 S).2).2≠none then((((lenS 65536 S).1:Int),false,zbf,zbf),(zcn (lenS 65536 S).2).2) else(zb7,none)
def zn6(s:zdl)(g:Nat)(S:St)(w:World)(e:Ending)(w':World):Prop:=e= .returned (zcp s)/\CurS w' g S/\w.grownBy w' (some g)
theorem qhf{w:World}{g:Nat}{S:St}{t:Int}(h:CurS w g S)(h1:(zcn (lenS 65536 S).2).1≠1)(ht:0<=t/\t<=3):
 Calls Tryz.prog 138 #[.pointer (some ⟨g,0,none⟩),.int .i64 t] w
  (zn6 (qid S).1 g (qid S).2 w):=by
 obtain⟨X,hX⟩:∃X,X=qid S:=⟨_,rfl⟩;rw[<-hX];unfold qid at hX;have hle:=zds (m:=65536) S (by omega) h.ok;have hlt:=h.lt;have ha:New w (w.alloc (.cells (zcj zb7).toArray 133)):=(qq8 _ _).alloc (ql6 _) _;have h0:=h.below ha;have L1:=qrf (zeb (m:=65536) h0 (by omega) (by omega));have BZ0:Blk (w.alloc (.cells (zcj zb7).toArray 133)) w.heap.size 133 (zcj zb7).toArray:=qrv _ _ _;generalize lenS 65536 S=H at*;obtain⟨n,S1⟩:=H;dsimp only at*;have hbl:=zn2 (S:=S1);have hRt:zck t ((n:Int),false,zbf,zbf)=true:=by unfold zck;rw[if_neg (by dsimp only;omega)];simp
 have SR:=fun(W:World)=>zhm (w:=W) (t:=t) (s:=((n:Int),false,zbf,zbf)) (by unfold zep zbf;simp)
 rw[hRt] at SR;have SR:Hid (∀W,Calls Tryz.prog 133 #[.int .i64 t,.agg #[.int .i64 (n:Int),.bool false,.bool false,.int .i64 0,.string ⟨#[]⟩,.int .i64 0,.int .i64 0,.bool false,.int .i64 0,.string ⟨#[]⟩,.int .i64 0,.int .i64 0]] W (zak (.bool true) W)):=qrf SR;have HX:=qrf hX;clear hRt h hX;go_enter Tryz.func138,Tryz.ntmps138
 go_wp2_with fail
 refine L1.out.mono ?_;rintro e w1 ⟨rfl,s1,g1⟩;have hbl:=hbl s1.ok;have C2:=qrf (zix (s1.below ((qq8 _ _).alloc (ql6 _) (.cells #[.int .i64 (n:Int),.bool false,.bool false,.int .i64 0,.string ⟨#[]⟩,.int .i64 0,.int .i64 0,.bool false,.int .i64 0,.string ⟨#[]⟩,.int .i64 0,.int .i64 0] 133))));have hz1:=g1.size;have BZ1:=(BZ0.grown g1 (by intro e;injection e with e;omega)).alloc (.cells #[.int .i64 (n:Int),.bool false,.bool false,.int .i64 0,.string ⟨#[]⟩,.int .i64 0,.int .i64 0,.bool false,.int .i64 0,.string ⟨#[]⟩,.int .i64 0,.int .i64 0] 133);have BT1:=qrv w1 133 #[.int .i64 (n:Int),.bool false,.bool false,.int .i64 0,.string ⟨#[]⟩,.int .i64 0,.int .i64 0,.bool false,.int .i64 0,.string ⟨#[]⟩,.int .i64 0,.int .i64 0];have G1:=(qr4 ha (g:=g)).trans (g1.trans (qr4 ((qq8 _ w1).alloc (ql6 _) (.cells #[.int .i64 (n:Int),.bool false,.bool false,.int .i64 0,.string ⟨#[]⟩,.int .i64 0,.int .i64 0,.bool false,.int .i64 0,.string ⟨#[]⟩,.int .i64 0,.int .i64 0] 133))));generalize zcn S1=Bq at*;obtain⟨y,S2⟩:=Bq;dsimp only at*;clear L1 h0 BZ0 s1 g1 ha;go_wp2_with fail
 refine C2.out.mono ?_;rintro e w2 ⟨rfl,s2,g2⟩;have hz2:=g2.size;simp only[qrq] at hz1 hz2;have BZ:=BZ1.grown g2 (by intro e;injection e with e;omega);have BT:=BT1.grown g2 (by intro e;injection e with e;omega);have G2:=G1.trans g2;clear C2 BZ1 BT1 G1 g2;obtain⟨x0,x1,x2,x3,x4,x5,x6,x7,x8,x9,x10,x11⟩:=zbh BT;have y1:((y:Int)==1)=false:=beq_eq_false_iff_ne.2 (by omega);by_cases hy:1<y
 ·have hX:=HX.out
  rw[if_neg (by omega)] at hX;clear HX;have HX:=qrf hX;clear hX;have t1:decide ((1:Int)<(y:Int))=true:=by simp;omega
  have F:=qrf (zpf s2);go_wp2_with fail
  refine F.out.mono ?_;rintro e w3 ⟨rfl,s3,g3⟩;have hz3:=g3.size;have BZ3:=BZ.grown g3 (by intro e;injection e with e;omega);have G3:=qrf (G2.trans g3);have HS3:=qrf s3;clear F BZ BT G2 g3 x0 x1 x2 x3 x4 x5 x6 x7 x8 x9 x10 x11 s2 s3
  go_wp2_with (refine zan rfl 133 (.tmp 4) (.tmp 37) rfl w.heap.size _ rfl rfl BZ3 (by kernel_rfl) (by simp[zcj,zb7,za4]) (by simp[Value.oneCell']) ?_
               intro W5 BR G5;obtain⟨s0,s1,s2,s3,s4,s5,s6,s7,s8,s9,s10,s11⟩:=zbh BR)
  have hX:=HX.out;subst hX;exact bodyPost_ret (v:=zcp zb7) (by simp[results,Tryz.results138,go_sem,s0,s1,s2,s3,s4,s5,s6,s7,s8,s9,s10,s11,zcp,zcj,za4,zb7,zbf,show zai []=⟨#[]⟩ from rfl]) rfl ⟨rfl,HS3.out.keep G5 BZ3 (by omega) (by decide),zbj G3.out G5 (ql6 _)⟩
 ·obtain rfl:y=0:=by omega
  have t1:decide ((1:Int)<((0:Nat):Int))=false:=by simp
  have BD:=qrf (qe6 s2);cases S2 with
  |none=>
   have hX:=HX.out;rw[if_neg (by simp)] at hX;clear HX;have HX:=qrf hX;clear hX;go_wp2_with fail
   refine BD.out.mono ?_;rintro e w2' ⟨rfl,rfl⟩;have F:=qrf (zpf s2);go_wp2_with fail
   refine F.out.mono ?_;rintro e w3 ⟨rfl,s3,g3⟩;have hz3:=g3.size;have BZ3:=BZ.grown g3 (by intro e;injection e with e;omega);have G3:=qrf (G2.trans g3);have HS3:=qrf s3;clear F BZ BT G2 g3 x0 x1 x2 x3 x4 x5 x6 x7 x8 x9 x10 x11 s2 s3
   go_wp2_with (refine zan rfl 133 (.tmp 4) (.tmp 37) rfl w.heap.size _ rfl rfl BZ3 (by kernel_rfl) (by simp[zcj,zb7,za4]) (by simp[Value.oneCell']) ?_
                intro W5 BR G5;obtain⟨s0,s1,s2,s3,s4,s5,s6,s7,s8,s9,s10,s11⟩:=zbh BR)
   have hX:=HX.out;subst hX;exact bodyPost_ret (v:=zcp zb7) (by simp[results,Tryz.results138,go_sem,s0,s1,s2,s3,s4,s5,s6,s7,s8,s9,s10,s11,zcp,zcj,za4,zb7,zbf,show zai []=⟨#[]⟩ from rfl]) rfl ⟨rfl,HS3.out.keep G5 BZ3 (by omega) (by decide),zbj G3.out G5 (ql6 _)⟩
  |some S2=>
   have hX:=HX.out;rw[if_pos ⟨rfl,by simp⟩] at hX;clear HX;have HX:=qrf hX;clear hX;go_wp2_with fail
   refine BD.out.mono ?_;rintro e w2' ⟨rfl,rfl⟩;go_wp2_with fail
   refine(SR.out _).mono ?_;rintro e w3 ⟨rfl,b3⟩;have hz3:=b3.size;have BZ3:=BZ.below b3 BZ.lt;have BT3:=BT.below b3 BT.lt;have G3:=qrf (G2.trans (qr4 b3));have HS3:=qrf (s2.below b3);clear BZ BT G2 b3 x0 x1 x2 x3 x4 x5 x6 x7 x8 x9 x10 x11 s2;obtain⟨x0,x1,x2,x3,x4,x5,x6,x7,x8,x9,x10,x11⟩:=zbh BT3
   go_wp2_with (refine zan rfl 133 (.tmp 4) (.tmp 38) rfl w.heap.size _ rfl rfl BZ3 (by kernel_rfl) (by simp[zcj,zb7,za4]) (by simp[Value.oneCell']) ?_
                intro W5 BR G5;obtain⟨s0,s1,s2,s3,s4,s5,s6,s7,s8,s9,s10,s11⟩:=zbh BR)
   have hX:=HX.out;subst hX;exact bodyPost_ret (v:=zcp ((n:Int),false,zbf,zbf)) (by simp[results,Tryz.results138,go_sem,s0,s1,s2,s3,s4,s5,s6,s7,s8,s9,s10,s11,zcp,zcj,za4,zbf,show zai []=⟨#[]⟩ from rfl]) rfl ⟨rfl,HS3.out.keep G5 BZ3 (by omega) (by decide),zbj G3.out G5 (ql6 _)⟩
open Classical in
noncomputable def plD(t:Int)(b:List Nat)(n:Int):Option (List zab):=
 if h:∃l:List zab,(∀c∈l,zat c)/\(l.length:Int)=n/\plO t l=some b then some h.choose else none
theorem z8e{t:Int}{b:List Nat}{n:Int}{o:Option (List zab)}(h:IsPl zat t b n o):o=plD t b n:=by
 unfold plD;split
 ·rename_i hx
  obtain⟨h1,h2,h3⟩:=hx.choose_spec;exact h.compl _ h1 h2 h3
 ·rename_i hx
  cases o with
  |none=>rfl
  |some l=>
   obtain⟨h1,h2,h3⟩:=h.sound l rfl;exact absurd ⟨l,h3,h1,h2⟩ hx
theorem zn7{t:Int}{b:List Nat}{n:Int}{l:List zab}(h:plD t b n=some l):(∀c∈l,zat c)/\(l.length:Int)=n/\plO t l=some b:=by
 unfold plD at h;split at h
 ·rename_i hx
  injection h with h;subst h;exact hx.choose_spec
 ·cases h
noncomputable def zh7(t:Int)(S:St):(zab × zab) × St:=
 match plD t (ze6 ((lenS ((S.getD []).length:Int) S).1:Int) (lenS ((S.getD []).length:Int) S).2).1 2 with
 |some [a,b]=>((a,b),(ze6 ((lenS ((S.getD []).length:Int) S).1:Int) (lenS ((S.getD []).length:Int) S).2).2)
 |_=>((zbf,zbf),none)
theorem zrx(t:Int)(S:St):zat (zh7 t S).1.1/\zat (zh7 t S).1.2:=by
 have h0:zat zbf:=⟨⟨by simp[zbf],by simp[zbf]⟩,by simp[zbf],by simp[zbf]⟩;unfold zh7;split
 ·rename_i a b h
  have:=(zn7 h).1;exact⟨this a (by simp),this b (by simp)⟩
 ·exact⟨h0,h0⟩
theorem zq5{w w':World}{T:List Nat}{base sz n:Nat}{e:TypeId}{v:Value}{xs:List Value}(h:w.ownsRow base e sz v n xs)(k:Turns T w w')(hT:∀x∈T,x<base):w'.ownsRow base e sz v n xs:=by
 refine⟨h.1,?_⟩;rcases h.2 with hn|⟨g,cap,cur,rfl,hbg,hgg,rest⟩
 ·exact .inl hn
 ·refine .inr ⟨g,cap,cur,rfl,hbg,?_,rest⟩
  rw[k.block g (ql8.1 hgg).1 (fun hm=>by have:=hT g hm;omega)];exact hgg
theorem z3g{W:World}{base c:Nat}{e:TypeId}{ad:Addr}{p q:zab}(h:W.ownsRow base e 5 (.slice (some ad) 2 c) 2 (recs za4 [p,q])):
 (W.cell? ad=some (.bool p.1)/\W.cell? ⟨ad.block,ad.off+1,none⟩=some (.int .i64 p.2.1)/\W.cell? ⟨ad.block,ad.off+2,none⟩=some (.string (zai p.2.2.1))/\W.cell? ⟨ad.block,ad.off+3,none⟩=some (.int .i64 p.2.2.2.1)/\W.cell? ⟨ad.block,ad.off+4,none⟩=some (.int .i64 p.2.2.2.2))
 /\W.cell? ⟨ad.block,ad.off+5,none⟩=some (.bool q.1)/\W.cell? ⟨ad.block,ad.off+5+1,none⟩=some (.int .i64 q.2.1)/\W.cell? ⟨ad.block,ad.off+5+2,none⟩=some (.string (zai q.2.2.1))/\W.cell? ⟨ad.block,ad.off+5+3,none⟩=some (.int .i64 q.2.2.2.1)/\W.cell? ⟨ad.block,ad.off+5+4,none⟩=some (.int .i64 q.2.2.2.2):=by
 have r:=qrt h;obtain⟨a1,e1,_,d⟩:=r.cell5 (i:=0) (by omega);obtain⟨a2,e2,_,d'⟩:=r.cell5 (i:=1) (by omega);injection e1 with e1;injection e2 with e2;subst e1 e2;rw[qox,zfp] at d;exact⟨d,d'⟩
theorem zyn{w:World}{g:Nat}(cells:Array Value):w.grownBy (w.setRow g cells) (some g):=
 ⟨rfl,rfl,rfl,by simp[World.setRow],fun k _ hne=>by simp[World.setRow,Array.getElem?_modify];intro e;exact absurd (by rw[e]) hne⟩
theorem zj3{P:Program}{o:Oper}{a:Act}{w:World}{K:Act->World->Prop}{Q:Exit->Act->World->Prop}(ty:TypeId)(x y:Operand)(ho:o.op= .store ty x y)
 (g:Nat)(cells:Array Value)(hx:a.eval x= .pointer (some ⟨g,0,none⟩))(hy:a.eval y= .agg cells){t:TypeId}{old:Array Value}(hB:Blk w g t old)(hi:(P.info? ty).map (·.size)=some cells.size)
 (hold:old.size=cells.size)(h1:cells.all (·.oneCell')=true)
 (h:∀W,Blk W g t cells->w.grownBy W (some g)->K (a.put o.dst undef) W):o.wp P a w K Q:=by
 refine wp_store_row ty x y ho g cells hx hy t old hB hi hold h1 ?_;refine h _ ?_ (zyn cells);unfold Blk at hB⊢;simp[World.setRow,Array.getElem?_modify,hB]
def qdd(p:zab × zab)(g:Nat)(S:St)(w:World)(e:Ending)(w':World):Prop:=e= .returned (.tuple #[zdb p.1,zdb p.2])/\CurS w' g S/\w.grownBy w' (some g)
theorem qde{w:World}{g:Nat}{S:St}{t:Int}(h:CurS w g S)(hl:(S.getD []).length<=140737488351232):
 Calls Tryz.prog 151 #[.pointer (some ⟨g,0,none⟩),.int .i64 t] w (qdd (zh7 t S).1 g (zh7 t S).2 w):=by
 obtain⟨X,hX⟩:∃X,X=zh7 t S:=⟨_,rfl⟩;rw[<-hX];unfold zh7 at hX;have hle:=zds (m:=((S.getD []).length:Int)) S (by omega) h.ok;have hok1:=zb9 (m:=((S.getD []).length:Int)) h.ok;have hlt:=h.lt;have ha:New w ((w.alloc (.cells #[.bool false,.int .i64 0,.string ⟨#[]⟩,.int .i64 0,.int .i64 0] 75)).alloc (.cells #[.bool false,.int .i64 0,.string ⟨#[]⟩,.int .i64 0,.int .i64 0] 75)):=((qq8 _ _).alloc (ql6 _) _).alloc (by simp) _;have h0:=h.below ha;have LF:=qki h0;unfold zs4 at LF;have LF:=qrf LF;have L1:=qrf (zeb (m:=((S.getD []).length:Int)) h0 (by omega) (by omega));have BA:Blk ((w.alloc (.cells #[.bool false,.int .i64 0,.string ⟨#[]⟩,.int .i64 0,.int .i64 0] 75)).alloc (.cells #[.bool false,.int .i64 0,.string ⟨#[]⟩,.int .i64 0,.int .i64 0] 75)) w.heap.size 75 #[.bool false,.int .i64 0,.string ⟨#[]⟩,.int .i64 0,.int .i64 0]:=(qrv _ _ _).alloc _;have BB:Blk ((w.alloc (.cells #[.bool false,.int .i64 0,.string ⟨#[]⟩,.int .i64 0,.int .i64 0] 75)).alloc (.cells #[.bool false,.int .i64 0,.string ⟨#[]⟩,.int .i64 0,.int .i64 0] 75)) (w.heap.size+1) 75 #[.bool false,.int .i64 0,.string ⟨#[]⟩,.int .i64 0,.int .i64 0]:=by have:=qrv (w.alloc (.cells #[.bool false,.int .i64 0,.string ⟨#[]⟩,.int .i64 0,.int .i64 0] 75)) 75 #[.bool false,.int .i64 0,.string ⟨#[]⟩,.int .i64 0,.int .i64 0];rwa[qrq] at this
 generalize hL:(S.getD []).length=L at*;generalize lenS (L:Int) S=H at*;obtain⟨n,S1⟩:=H;dsimp only at*;have htl:=zo6 (n:=(n:Int)) (S:=S1) (by omega);have htk:=zjf (n:=(n:Int)) hok1;have HX:=qrf hX;have HL:=qrf hL;clear h hX hL;go_enter Tryz.func151,Tryz.ntmps151
 go_wp2_with fail
 refine LF.out.mono ?_;rintro e w1' ⟨rfl,rfl⟩;go_wp2_with fail
 refine L1.out.mono ?_;rintro e w1 ⟨rfl,s1,g1⟩;have hz1:=g1.size;simp only[qrq] at hz1;have BA1:=BA.grown g1 (by intro e;injection e with e;omega);have BB1:=BB.grown g1 (by intro e;injection e with e;omega);have G1:=(qr4 ha (g:=g)).trans g1;have T1:=qrf (zpg (n:=(n:Int)) s1 (by omega) (by omega));clear L1 LF h0 BA BB s1 g1 ha;generalize ze6 (n:Int) S1=Q at*;obtain⟨x,S2⟩:=Q;dsimp only at*;go_wp2_with fail
 refine T1.out.mono ?_;rintro e w2 ⟨A2,n2,c2,rfl,rfl,o2,s2,g2⟩;have hz2:=g2.size;have BA2:=BA1.grown g2 (by intro e;injection e with e;omega);have BB2:=BB1.grown g2 (by intro e;injection e with e;omega);have G2:=G1.trans g2;have PD:=qrf (zym (t:=t) (n:=2) (c:=c2) o2.reads htk.2 (by omega));clear T1 BA1 BB1 G1 g2 o2;go_wp2_with fail
 refine PD.out.mono ?_;rintro e w3 ⟨o,ho,h3⟩;have hX:=HX.out;have ho:=z8e ho;rw[<-ho] at hX;cases o with
 |none=>
  obtain⟨rfl,b3⟩:=h3;dsimp only at hX;clear HX;have HX:=qrf hX;have hz3:=b3.size;have BA3:=BA2.below b3 BA2.lt;have BB3:=BB2.below b3 BB2.lt;have G3:=G2.trans (qr4 b3);have F:=qrf (zpf (s2.below b3));clear PD BA2 BB2 G2 s2 b3 ho hX;go_wp2_with fail
  refine F.out.mono ?_;rintro e w4 ⟨rfl,s4,g4⟩;have hz4:=g4.size;have BA4:=BA3.grown g4 (by intro e;injection e with e;omega);have BB4:=BB3.grown g4 (by intro e;injection e with e;omega);have G4:=qrf (G3.trans g4);have HS4:=qrf s4;clear F BA3 BB3 G3 s4 g4;go_wp2_with (first
   |(refine zan rfl 75 _ (.tmp 25) rfl w.heap.size _ rfl rfl BA4 (by kernel_rfl) rfl (by simp[Value.oneCell']) ?_
     intro W5 BR G5;have BB5:=BB4.grown G5 (by simp))
   |(refine zan rfl 75 _ (.tmp 26) rfl (w.heap.size+1) _ rfl rfl BB5 (by kernel_rfl) rfl (by simp[Value.oneCell']) ?_
     intro W6 BQ G6;have BR6:=BR.grown G6 (by simp);obtain⟨x0,x1,x2,x3,x4⟩:=zc4 BR6;obtain⟨y0,y1,y2,y3,y4⟩:=zc4 BQ))
  have hX:=HX.out;subst hX;have hz5:=G5.size;exact bodyPost_ret (v:= .tuple #[zdb zbf,zdb zbf]) (by simp[results,Tryz.results151,go_sem,x0,x1,x2,x3,x4,y0,y1,y2,y3,y4,zdb,za4,zbf,show zai []=⟨#[]⟩ from rfl]) rfl ⟨rfl,(HS4.out.keep G5 BA4 (by omega) (by decide)).keep G6 BB5 (by omega) (by decide),zbj (zbj G4.out G5 (ql6 _)) G6 (by omega)⟩
 |some l=>
  obtain⟨A3,n3,c3,rfl,o3,b3⟩:=h3;obtain⟨hd,hlen,-⟩:=zn7 ho.symm;have hl2:l.length=2:=by omega
  obtain⟨p,q,rfl⟩:∃p q,l=[p,q]:=by
   match l,hl2 with
   | [p,q],_=>exact⟨p,q,rfl⟩
  dsimp only at hX;have r3:=qrt o3;obtain rfl:n3=2:=by have:=r3.lenCell;simpa using this
  obtain⟨ad,rfl,hb,d0,d1,d2,d3,d4⟩:=r3.cell5 (i:=0) (by omega);obtain⟨ad',e,_,d5,d6,d7,d8,d9⟩:=r3.cell5 (i:=1) (by omega);injection e with e;subst e;simp only[List.getD_cons_zero,qp8,qox,qpd] at d0 d1 d2 d3 d4 d5 d6 d7 d8 d9;obtain⟨p0,p1,p2,p3,p4⟩:=p;obtain⟨q0,q1,q2,q3,q4⟩:=q;dsimp only at d0 d1 d2 d3 d4 d5 d6 d7 d8 d9;clear HX;have HX:=qrf hX;have hz3:=b3.size;have BA3:=BA2.below b3 BA2.lt;have BB3:=BB2.below b3 BB2.lt;have G3:=qrf (G2.trans (qr4 b3));have HS3:=qrf (s2.below b3);clear PD BA2 BB2 G2 s2 b3 ho hX r3 hlen hl2;have HF:=qrf (fun(W:World) (hW:Turns [w.heap.size,w.heap.size+1] w3 W)=>z3g (zq5 o3 hW (by simp;omega)));dsimp only at HF;clear d0 d1 d2 d3 d4 d5 d6 d7 d8 d9 o3 LF;go_upto_region 6 with(fail)
  refine zaw (Turns [w.heap.size,w.heap.size+1]) [(true,0),(true,1),(true,2),(true,3),(true,4),(true,5),(false,6),(false,7)]
   (qr7 _) qr8 (by kernel_rfl) (by kernel_rfl) (by kernel_rfl) (by kernel_rfl) ?_
  have tD:=Turns.drew [w.heap.size,w.heap.size+1] w3;have BA3:=BA3.drew;have BB3:=BB3.drew;have G3:=qrf (G3.out.trans (Far.drew g w3));have HS3:=qrf (HS3.out.below (qr1 w3));repeat(first
   |(refine zaj rfl rfl (v:=?_) (fun W hW=>?_) ?_
     rotate_left
     ·obtain⟨⟨d0,d1,d2,d3,d4⟩,d5,d6,d7,d8,d9⟩:=HF.out W (tD.trans hW)
      go_simp<;> with_reducible rfl
     simp only[Act.put,qoi,qn8,qoj]))
  refine za6 rfl rfl (fun K hK=>?_);refine zj3 75 _ (.tmp 29) rfl w.heap.size _ rfl rfl BA3 (by kernel_rfl) rfl (by simp[Value.oneCell']) ?_;intro W5 BR G5;have BB5:=BB3.grown G5 (by simp);refine hK _ _ (qsa G5 (by simp)) ?_;clear hK;refine za6 rfl rfl (fun K hK=>?_);refine zj3 75 _ (.tmp 32) rfl (w.heap.size+1) _ rfl rfl BB5 (by kernel_rfl) rfl (by simp[Value.oneCell']) ?_;intro W6 BQ G6;have BR6:=BR.grown G6 (by simp);refine hK _ _ (qsa G6 (by simp)) ?_;clear hK;refine zda ?_;obtain⟨x0,x1,x2,x3,x4⟩:=zc4 BR6;obtain⟨y0,y1,y2,y3,y4⟩:=zc4 BQ;go_wp2_with fail
  have hX:=HX.out;subst hX;have hz5:=G5.size;have hz4:w3.heap.size<=W5.heap.size:=hz5;exact bodyPost_ret (v:= .tuple #[zdb (p0,p1,p2,p3,p4),zdb (q0,q1,q2,q3,q4)]) (by simp[results,Tryz.results151,go_sem,x0,x1,x2,x3,x4,y0,y1,y2,y3,y4,zdb,za4]) rfl ⟨rfl,(HS3.out.keep G5 BA3 (by omega) (by decide)).keep G6 BB5 (by omega) (by decide),zbj (zbj G3.out G5 (ql6 _)) G6 (by omega)⟩
noncomputable def z8f(t:Int)(S:St):zdl × St:=
 if(zcn (lenS 65536 S).2).1=1 then((((lenS 65536 S).1:Int),true,(zh7 t (zcn (lenS 65536 S).2).2).1.1,(zh7 t (zcn (lenS 65536 S).2).2).1.2),(zh7 t (zcn (lenS 65536 S).2).2).2)
 else((((lenS 65536 S).1:Int),false,zbf,zbf),(zcn (lenS 65536 S).2).2)
noncomputable def getA(t:Int)(S:St):zdl × St:=
 if(zcn (lenS 65536 S).2).1<=1/\(z8f t S).2≠none/\zck t (z8f t S).1=true then z8f t S else(zb7,none)
theorem qdf{w:World}{g:Nat}{S:St}{t:Int}(h:CurS w g S)(h1:(zcn (lenS 65536 S).2).1=1)(hl:(S.getD []).length<=140737488351232):
 Calls Tryz.prog 138 #[.pointer (some ⟨g,0,none⟩),.int .i64 t] w
  (zn6 (getA t S).1 g (getA t S).2 w):=by
 obtain⟨X,hX⟩:∃X,X=getA t S:=⟨_,rfl⟩;rw[<-hX];unfold getA z8f at hX;rw[if_pos h1,h1] at hX;have hle:=zds (m:=65536) S (by omega) h.ok;have hsub:=ze7 (m:=65536) h.ok;have hlt:=h.lt;have ha:New w (w.alloc (.cells (zcj zb7).toArray 133)):=(qq8 _ _).alloc (ql6 _) _;have h0:=h.below ha;have L1:=qrf (zeb (m:=65536) h0 (by omega) (by omega));have BZ0:Blk (w.alloc (.cells (zcj zb7).toArray 133)) w.heap.size 133 (zcj zb7).toArray:=qrv _ _ _;generalize lenS 65536 S=H at*;obtain⟨n,S1⟩:=H;dsimp only at*;have hsub2:=z6y (S:=S1);have HX:=qrf hX;have H1:=qrf h1;clear h hX h1;go_enter Tryz.func138,Tryz.ntmps138
 go_wp2_with fail
 refine L1.out.mono ?_;rintro e w1 ⟨rfl,s1,g1⟩;have C2:=qrf (zix (s1.below ((qq8 _ _).alloc (ql6 _) (.cells #[.int .i64 (n:Int),.bool false,.bool false,.int .i64 0,.string ⟨#[]⟩,.int .i64 0,.int .i64 0,.bool false,.int .i64 0,.string ⟨#[]⟩,.int .i64 0,.int .i64 0] 133))));have hz1:=g1.size;have BZ1:=(BZ0.grown g1 (by intro e;injection e with e;omega)).alloc (.cells #[.int .i64 (n:Int),.bool false,.bool false,.int .i64 0,.string ⟨#[]⟩,.int .i64 0,.int .i64 0,.bool false,.int .i64 0,.string ⟨#[]⟩,.int .i64 0,.int .i64 0] 133);have BT1:=qrv w1 133 #[.int .i64 (n:Int),.bool false,.bool false,.int .i64 0,.string ⟨#[]⟩,.int .i64 0,.int .i64 0,.bool false,.int .i64 0,.string ⟨#[]⟩,.int .i64 0,.int .i64 0];have G1:=(qr4 ha (g:=g)).trans (g1.trans (qr4 ((qq8 _ w1).alloc (ql6 _) (.cells #[.int .i64 (n:Int),.bool false,.bool false,.int .i64 0,.string ⟨#[]⟩,.int .i64 0,.int .i64 0,.bool false,.int .i64 0,.string ⟨#[]⟩,.int .i64 0,.int .i64 0] 133))));have hb1:=H1.out;generalize zcn S1=Bq at*;obtain⟨y,S2⟩:=Bq;dsimp only at*;clear L1 h0 BZ0 s1 g1 ha H1;subst hb1;go_wp2_with fail
 refine C2.out.mono ?_;rintro e w2 ⟨rfl,s2,g2⟩;have hz2:=g2.size;simp only[qrq] at hz1 hz2;have BZ2:=BZ1.grown g2 (by intro e;injection e with e;omega);have BT2:=BT1.grown g2 (by intro e;injection e with e;omega);have G2:=G1.trans g2;clear C2 BZ1 BT1 G1 g2;obtain⟨x0,x1,x2,x3,x4,x5,x6,x7,x8,x9,x10,x11⟩:=zbh BT2;have f1:=BT2.frozen 1;have gS:w2.grownBy (w2.setCell ⟨w1.heap.size,1,none⟩ (.bool true)) (some w1.heap.size):=zch;have s3:=s2.keep gS BT2 (by omega) (by decide);have BT3:=BT2.set_ 1 (.bool true);simp only[qoi,qn8,qoj] at BT3;have BZ3:=BZ2.grown gS (by simp;omega);have G3:=zbj G2 gS (by omega);have EN:=qrf (qde (t:=t) s3 (by omega));have HD:=zrx t S2;have hz3:w2.heap.size<=(w2.setCell ⟨w1.heap.size,1,none⟩ (.bool true)).heap.size:=gS.size;have SR:=fun(W:World)=>zhm (w:=W) (t:=t) (s:=((n:Int),true,(zh7 t S2).1.1,(zh7 t S2).1.2)) ⟨HD.1.1,HD.2.1⟩
 generalize zh7 t S2=En at*;obtain⟨⟨⟨p0,p1,p2,p3,p4⟩,⟨q0,q1,q2,q3,q4⟩⟩,S3⟩:=En;dsimp only at HX EN SR;generalize zck t ((n:Int),true,(p0,p1,p2,p3,p4),(q0,q1,q2,q3,q4))=R at*;have SR:Hid (∀W,Calls Tryz.prog 133 #[.int .i64 t,.agg #[.int .i64 (n:Int),.bool true,.bool p0,.int .i64 p1,.string (zai p2),.int .i64 p3,.int .i64 p4,.bool q0,.int .i64 q1,.string (zai q2),.int .i64 q3,.int .i64 q4]] W (zak (.bool R) W)):=qrf SR;clear HD;go_wp2_with fail
 refine EN.out.mono ?_;rintro e w4 ⟨rfl,s4,g4⟩;have hz4:=g4.size;have BT4:=BT3.grown g4 (by intro e;injection e with e;omega);have BZ4:=BZ3.grown g4 (by intro e;injection e with e;omega);have G4:=G3.trans g4;clear EN s3 BT3 BZ3 G3 g4 gS s2 BZ2 BT2 G2 x0 x1 x2 x3 x4 x5 x6 x7 x8 x9 x10 x11 f1;rw[show zdb (p0,p1,p2,p3,p4)= .agg #[.bool p0,.int .i64 p1,.string (zai p2),.int .i64 p3,.int .i64 p4] from rfl,show zdb (q0,q1,q2,q3,q4)= .agg #[.bool q0,.int .i64 q1,.string (zai q2),.int .i64 q3,.int .i64 q4] from rfl];go_wp2_with (first
  |(refine zj2 rfl 75 (.tmp 21) (.tmp 19) rfl w1.heap.size 2 rfl rfl BT4 (by simp) (by kernel_rfl) (by simp[Value.oneCell']) ?_
    intro W5 BT5 G5;simp only[qoi,qn8,qoj] at BT5)
  |(refine zj2 rfl 75 (.tmp 22) (.tmp 20) rfl w1.heap.size 7 rfl rfl BT5 (by simp) (by kernel_rfl) (by simp[Value.oneCell']) ?_
    intro W6 BT6 G6;simp only[qoi,qn8,qoj] at BT6;have hz5:=G5.size;have hz6:=G6.size;have s6:=(s4.keep G5 BT4 (by omega) (by decide)).keep G6 BT5 (by omega) (by decide);have BZ6:=(BZ4.grown G5 (by simp;omega)).grown G6 (by simp;omega);have G06:=zbj (zbj G4 G5 (by omega)) G6 (by omega);clear BT4 BT5 G5 G6 s4 BZ4 G4;obtain⟨z0,z1,z2,z3,z4,z5,z6,z7,z8,z9,z10,z11⟩:=zbh BT6;have BD:=qrf (qe6 s6);have t1:decide ((1:Int)<1)=false:=by simp))
 cases S3 with
 |none=>
  refine BD.out.mono ?_;rintro e w7 ⟨rfl,rfl⟩;have hX:=HX.out;rw[if_neg (by simp)] at hX;clear HX;have HX:=qrf hX;clear hX;have s7:=s6;have BZ7:=BZ6;have BT7:=BT6;have G7:=G06;clear s6 BZ6 BT6 G06 BD;have F:=qrf (zpf s7);go_wp2_with fail
  refine F.out.mono ?_;rintro e w8 ⟨rfl,s8,g8⟩;have hz8:=g8.size;have BZ8:=BZ7.grown g8 (by intro e;injection e with e;omega);have G8:=qrf (G7.trans g8);have HS8:=qrf s8;clear F BZ7 BT7 G7 g8 s7 s8 z0 z1 z2 z3 z4 z5 z6 z7 z8 z9 z10 z11
  go_wp2_with (refine zan rfl 133 (.tmp 4) (.tmp 37) rfl w.heap.size _ rfl rfl BZ8 (by kernel_rfl) (by simp[zcj,zb7,za4]) (by simp[Value.oneCell']) ?_
               intro W9 BR G9;obtain⟨s0,s1,s2,s3,s4,s5,s6,s7,s8,s9,s10,s11⟩:=zbh BR)
  have hX:=HX.out;subst hX;exact bodyPost_ret (v:=zcp zb7) (by simp[results,Tryz.results138,go_sem,s0,s1,s2,s3,s4,s5,s6,s7,s8,s9,s10,s11,zcp,zcj,za4,zb7,zbf,show zai []=⟨#[]⟩ from rfl]) rfl ⟨rfl,HS8.out.keep G9 BZ8 (by omega) (by decide),zbj G8.out G9 (ql6 _)⟩
 |some S3=>
  refine BD.out.mono ?_;rintro e w7' ⟨rfl,rfl⟩;go_wp2_with fail
  refine(SR.out _).mono ?_;rintro e w7 ⟨rfl,b7⟩;have hz7:=b7.size;have BZ7:=BZ6.below b7 BZ6.lt;have BT7:=BT6.below b7 BT6.lt;have G7:=G06.trans (qr4 b7);have s7:=s6.below b7;clear s6 BZ6 BT6 G06 BD b7 z0 z1 z2 z3 z4 z5 z6 z7 z8 z9 z10 z11 SR;obtain⟨z0,z1,z2,z3,z4,z5,z6,z7,z8,z9,z10,z11⟩:=zbh BT7;have hX:=HX.out;clear HX;cases R with
  |false=>
   rw[if_neg (by simp)] at hX;have HX:=qrf hX;clear hX;have F:=qrf (zpf s7);go_wp2_with fail
   refine F.out.mono ?_;rintro e w8 ⟨rfl,s8,g8⟩;have hz8:=g8.size;have BZ8:=BZ7.grown g8 (by intro e;injection e with e;omega);have G8:=qrf (G7.trans g8);have HS8:=qrf s8;clear F BZ7 BT7 G7 g8 s7 s8 z0 z1 z2 z3 z4 z5 z6 z7 z8 z9 z10 z11
   go_wp2_with (refine zan rfl 133 (.tmp 4) (.tmp 37) rfl w.heap.size _ rfl rfl BZ8 (by kernel_rfl) (by simp[zcj,zb7,za4]) (by simp[Value.oneCell']) ?_
                intro W9 BR G9;obtain⟨s0,s1,s2,s3,s4,s5,s6,s7,s8,s9,s10,s11⟩:=zbh BR)
   have hX:=HX.out;subst hX;exact bodyPost_ret (v:=zcp zb7) (by simp[results,Tryz.results138,go_sem,s0,s1,s2,s3,s4,s5,s6,s7,s8,s9,s10,s11,zcp,zcj,za4,zb7,zbf,show zai []=⟨#[]⟩ from rfl]) rfl ⟨rfl,HS8.out.keep G9 BZ8 (by omega) (by decide),zbj G8.out G9 (ql6 _)⟩
  |true=>
   rw[if_pos ⟨by omega,by simp,by trivial⟩] at hX;have HX:=qrf hX;have G7:=qrf G7;have s7:=qrf s7;clear hX
   go_wp2_with (refine zan rfl 133 (.tmp 4) (.tmp 38) rfl w.heap.size _ rfl rfl BZ7 (by kernel_rfl) (by simp[zcj,zb7,za4]) (by simp[Value.oneCell']) ?_
                intro W9 BR G9;obtain⟨s0,s1,s2,s3,s4,s5,s6,s70,s8,s9,s10,s11⟩:=zbh BR)
   have hX:=HX.out;subst hX;exact bodyPost_ret (v:=zcp ((n:Int),true,(p0,p1,p2,p3,p4),(q0,q1,q2,q3,q4))) (by simp[results,Tryz.results138,go_sem,s0,s1,s2,s3,s4,s5,s6,s70,s8,s9,s10,s11,zcp,zcj,za4]) rfl ⟨rfl,s7.out.keep G9 BZ7 (by omega) (by decide),zbj G7.out G9 (ql6 _)⟩
end Go.Proofs.Y
namespace Go.Hm
open Go Go.RowKit
abbrev ChD:=Option Addr × Nat × List zbc
def chV(x:ChD):List Value:=[.slice x.1 x.2.2.length x.2.1]
abbrev GrD:=Int × Option Addr × Nat × List ChD
def grV(g:GrD):List Value:=[.int .i64 g.1,.slice g.2.1 g.2.2.2.length g.2.2.1]
def grP(g:GrD):za9:=(g.1,g.2.2.2.map (·.2.2))
theorem zd6{w:World}{g:Nat}{ty:TypeId}{a0 a1 a2 a3 a4 a5 a6 a7 a8 a9 a10 a11 a12 a13:Value}(h:Blk w g ty #[a0,a1,a2,a3,a4,a5,a6,a7,a8,a9,a10,a11,a12,a13]):w.cell? ⟨g,0,none⟩=some a0/\w.cell? ⟨g,1,none⟩=some a1/\w.cell? ⟨g,2,none⟩=some a2/\w.cell? ⟨g,3,none⟩=some a3/\w.cell? ⟨g,4,none⟩=some a4/\w.cell? ⟨g,5,none⟩=some a5/\w.cell? ⟨g,6,none⟩=some a6/\w.cell? ⟨g,7,none⟩=some a7/\w.cell? ⟨g,8,none⟩=some a8/\w.cell? ⟨g,9,none⟩=some a9/\w.cell? ⟨g,10,none⟩=some a10/\w.cell? ⟨g,11,none⟩=some a11/\w.cell? ⟨g,12,none⟩=some a12/\w.cell? ⟨g,13,none⟩=some a13:=by have h0:=h.cell 0;have h1:=h.cell 1;have h2:=h.cell 2;have h3:=h.cell 3;have h4:=h.cell 4;have h5:=h.cell 5;have h6:=h.cell 6;have h7:=h.cell 7;have h8:=h.cell 8;have h9:=h.cell 9;have h10:=h.cell 10;have h11:=h.cell 11;have h12:=h.cell 12;have h13:=h.cell 13;simp at h0 h1 h2 h3 h4 h5 h6 h7 h8 h9 h10 h11 h12 h13;exact⟨h0,h1,h2,h3,h4,h5,h6,h7,h8,h9,h10,h11,h12,h13⟩
def zty(p:zbc):Value:= .agg (zhn p).toArray
def qk1(c:zbi):Value:= .agg (zl3 c).toArray
end Go.Hm
namespace Go.Proofs.Y
open Go.RowKit Go.Hm
def PageFine(p:zbc):Prop:=((CellFine p.2.2.2.2.1/\CellFine p.2.2.2.2.2)/\ -9223372036854775808<=p.2.2.1/\p.2.2.1<=9223372036854775807)/\(-9223372036854775808<=p.1/\p.1<=9223372036854775807)/\ -9223372036854775808<=p.2.1/\p.2.1<=9223372036854775807
theorem PageFine.stat{p:zbc}(h:PageFine p):zep p.2.2:=⟨h.1.1.1.1,h.1.1.2.1⟩
theorem ztz{w:World}{c:zbi}{p:zbc}{most:Int}(hp:zep p.2.2):
 Calls Tryz.prog 131 #[qk1 c,zty p,.int .i64 most] w (zak (.bool (zij c.2.1 c.2.2 p most)) w):=by
 obtain⟨nm,t,nu⟩:=c;have SR:=fun(W:World)=>zhm (w:=W) (t:=t) hp
 clear hp;obtain⟨M,hM⟩:∃M,M=zij t nu p most:=⟨_,rfl⟩;dsimp only;rw[<-hM];unfold zij at hM;generalize zck t p.2.2=R at*;obtain⟨sz,rw,nn,bb,⟨p1,p2,p3,p4,p5⟩,⟨q1,q2,q3,q4,q5⟩⟩:=p;dsimp only at hM SR;have SR:Hid (∀W,Calls Tryz.prog 133 #[.int .i64 t,.agg #[.int .i64 nn,.bool bb,.bool p1,.int .i64 p2,.string (zai p3),.int .i64 p4,.int .i64 p5,.bool q1,.int .i64 q2,.string (zai q3),.int .i64 q4,.int .i64 q5]] W (zak (.bool R) W)):=qrf SR;show Calls Tryz.prog 131 #[.agg #[.string (zai nm),.int .i64 t,.bool nu],.agg #[.int .i64 sz,.int .i64 rw,.int .i64 nn,.bool bb,.bool p1,.int .i64 p2,.string (zai p3),.int .i64 p4,.int .i64 p5,.bool q1,.int .i64 q2,.string (zai q3),.int .i64 q4,.int .i64 q5],.int .i64 most] w (zak (.bool M) w);have B0:=(qrv w 71 #[.string (zai nm),.int .i64 t,.bool nu]).alloc (.cells #[.int .i64 sz,.int .i64 rw,.int .i64 nn,.bool bb,.bool p1,.int .i64 p2,.string (zai p3),.int .i64 p4,.int .i64 p5,.bool q1,.int .i64 q2,.string (zai q3),.int .i64 q4,.int .i64 q5] 135);have B1:=qrv (w.alloc (.cells #[.string (zai nm),.int .i64 t,.bool nu] 71)) 135 #[.int .i64 sz,.int .i64 rw,.int .i64 nn,.bool bb,.bool p1,.int .i64 p2,.string (zai p3),.int .i64 p4,.int .i64 p5,.bool q1,.int .i64 q2,.string (zai q3),.int .i64 q4,.int .i64 q5];have b0:=zx4 w (.cells #[.string (zai nm),.int .i64 t,.bool nu] 71) (.cells #[.int .i64 sz,.int .i64 rw,.int .i64 nn,.bool bb,.bool p1,.int .i64 p2,.string (zai p3),.int .i64 p4,.int .i64 p5,.bool q1,.int .i64 q2,.string (zai q3),.int .i64 q4,.int .i64 q5] 135);simp only[qrq] at B1;obtain⟨x0,x1,x2,x3,x4,x5,x6,x7,x8,x9,x10,x11,x12,x13⟩:=zd6 B1;obtain⟨y0,y1,y2⟩:=zar B0;by_cases hbad:rw<1\/most<rw\/sz<1\/268435456<sz
 ·rw[if_pos hbad] at hM
  have HM:=qrf hM;clear hM SR;by_cases h1:rw<1;all_goals try by_cases h2:most<rw
  all_goals try by_cases h3:sz<1
  all_goals try(have h4:268435456<sz:=by omega)
  all_goals
   clear hbad;go_enter Tryz.func131,Tryz.ntmps131
   go_wp2
   go_ret
   exact⟨by rw[HM.out];rfl,b0⟩
 ·rw[if_neg hbad] at hM
  have h1: ¬rw<1:=fun h=>hbad (by omega)
  have h2: ¬most<rw:=fun h=>hbad (by omega)
  have h3: ¬sz<1:=fun h=>hbad (by omega)
  have h4: ¬268435456<sz:=fun h=>hbad (by omega)
  have HM:=qrf hM;clear hM hbad;have hs:New ((w.alloc (.cells #[.string (zai nm),.int .i64 t,.bool nu] 71)).alloc (.cells #[.int .i64 sz,.int .i64 rw,.int .i64 nn,.bool bb,.bool p1,.int .i64 p2,.string (zai p3),.int .i64 p4,.int .i64 p5,.bool q1,.int .i64 q2,.string (zai q3),.int .i64 q4,.int .i64 q5] 135)) (((w.alloc (.cells #[.string (zai nm),.int .i64 t,.bool nu] 71)).alloc (.cells #[.int .i64 sz,.int .i64 rw,.int .i64 nn,.bool bb,.bool p1,.int .i64 p2,.string (zai p3),.int .i64 p4,.int .i64 p5,.bool q1,.int .i64 q2,.string (zai q3),.int .i64 q4,.int .i64 q5] 135)).alloc (.cells #[.int .i64 nn,.bool bb,.bool p1,.int .i64 p2,.string (zai p3),.int .i64 p4,.int .i64 p5,.bool q1,.int .i64 q2,.string (zai q3),.int .i64 q4,.int .i64 q5] 133)):=(qq8 _ _).alloc (ql6 _) _;have B2:=qrv ((w.alloc (.cells #[.string (zai nm),.int .i64 t,.bool nu] 71)).alloc (.cells #[.int .i64 sz,.int .i64 rw,.int .i64 nn,.bool bb,.bool p1,.int .i64 p2,.string (zai p3),.int .i64 p4,.int .i64 p5,.bool q1,.int .i64 q2,.string (zai q3),.int .i64 q4,.int .i64 q5] 135)) 133 #[.int .i64 nn,.bool bb,.bool p1,.int .i64 p2,.string (zai p3),.int .i64 p4,.int .i64 p5,.bool q1,.int .i64 q2,.string (zai q3),.int .i64 q4,.int .i64 q5];simp only[qrq] at B2;obtain⟨z0,z1,z2,z3,z4,z5,z6,z7,z8,z9,z10,z11⟩:=zbh B2;have B0:=B0.below hs B0.lt;have B1:=B1.below hs B1.lt;have b2:=qr0 b0 hs;obtain⟨v0,v1,v2⟩:=zar B0;have HB0:=qrf B0;have HB1:=qrf B1;have HB2:=qrf B2;have Hb2:=qrf b2;clear hs b0 B0 B1 B2 b2;go_enter Tryz.func131,Tryz.ntmps131
  go_wp2_with fail
  refine(SR.out _).mono ?_;rintro e w1 ⟨rfl,b1⟩;have B0:=HB0.out.below b1 HB0.out.lt;have B1:=HB1.out.below b1 HB1.out.lt;have B2:=HB2.out.below b1 HB2.out.lt;have b01:=qr0 Hb2.out b1;clear x0 x1 x2 x3 x4 x5 x6 x7 x8 x9 x10 x11 x12 x13 y0 y1 y2 v0 v1 v2 z0 z1 z2 z3 z4 z5 z6 z7 z8 z9 z10 z11 HB0 HB1 HB2 Hb2 b1 SR;obtain⟨x0,x1,x2,x3,x4,x5,x6,x7,x8,x9,x10,x11,x12,x13⟩:=zd6 B1;obtain⟨z0,z1,z2,z3,z4,z5,z6,z7,z8,z9,z10,z11⟩:=zbh B2;obtain⟨y0,y1,y2⟩:=zar B0;cases R with
  |false=>
   go_wp2
   go_ret
   exact⟨by rw[HM.out];rfl,b01⟩
  |true=>
   generalize k1:decide (nn<=rw)=d1 at*;generalize k2:decide (nn<rw)=d2 at*;generalize k3:decide (nn=0)=d3 at*;have k4:(nn==0)=d3:=by rw[<-k3];rfl
   cases d1<;> cases d2<;> cases d3<;> cases bb<;> cases nu;all_goals
    go_wp2
    go_ret
    exact⟨by rw[HM.out];rfl,b01⟩
end Go.Proofs.Y
namespace Go.Hm
open Go Go.RowKit
abbrev zb1:zbc:=(0,0,0,false,(false,0,[],0,0),(false,0,[],0,0))
theorem Reads.page14{w:World}{B n i:Nat}{A:Option Addr}{l:List zbc}(h:Reads w B 14 A n (recs zhn l))(hi:i<n):
 ∃ad,A=some ad/\ad.block<B/\w.cell? (ad.add (i*14))=some (.int .i64 (l.getD i zb1).1)/\w.cell? ⟨(ad.add (i*14)).block,(ad.add (i*14)).off+1,none⟩=some (.int .i64 (l.getD i zb1).2.1)/\w.cell? ⟨(ad.add (i*14)).block,(ad.add (i*14)).off+2,none⟩=some (.int .i64 (l.getD i zb1).2.2.1)/\w.cell? ⟨(ad.add (i*14)).block,(ad.add (i*14)).off+3,none⟩=some (.bool (l.getD i zb1).2.2.2.1)/\w.cell? ⟨(ad.add (i*14)).block,(ad.add (i*14)).off+4,none⟩=some (.bool (l.getD i zb1).2.2.2.2.1.1)/\w.cell? ⟨(ad.add (i*14)).block,(ad.add (i*14)).off+5,none⟩=some (.int .i64 (l.getD i zb1).2.2.2.2.1.2.1)/\w.cell? ⟨(ad.add (i*14)).block,(ad.add (i*14)).off+6,none⟩=some (.string (zai (l.getD i zb1).2.2.2.2.1.2.2.1))/\w.cell? ⟨(ad.add (i*14)).block,(ad.add (i*14)).off+7,none⟩=some (.int .i64 (l.getD i zb1).2.2.2.2.1.2.2.2.1)/\w.cell? ⟨(ad.add (i*14)).block,(ad.add (i*14)).off+8,none⟩=some (.int .i64 (l.getD i zb1).2.2.2.2.1.2.2.2.2)/\w.cell? ⟨(ad.add (i*14)).block,(ad.add (i*14)).off+9,none⟩=some (.bool (l.getD i zb1).2.2.2.2.2.1)/\w.cell? ⟨(ad.add (i*14)).block,(ad.add (i*14)).off+10,none⟩=some (.int .i64 (l.getD i zb1).2.2.2.2.2.2.1)/\w.cell? ⟨(ad.add (i*14)).block,(ad.add (i*14)).off+11,none⟩=some (.string (zai (l.getD i zb1).2.2.2.2.2.2.2.1))/\w.cell? ⟨(ad.add (i*14)).block,(ad.add (i*14)).off+12,none⟩=some (.int .i64 (l.getD i zb1).2.2.2.2.2.2.2.2.1)/\w.cell? ⟨(ad.add (i*14)).block,(ad.add (i*14)).off+13,none⟩=some (.int .i64 (l.getD i zb1).2.2.2.2.2.2.2.2.2):=by
 obtain⟨ad,h1,h2,_,h3⟩:=h.rec_ (f:=zhn) (sz:=14) (fun _=>rfl) zb1 hi (by omega);refine⟨ad,h1,h2,h3 0 _ rfl,?_,?_,?_,?_,?_,?_,?_,?_,?_,?_,?_,?_,?_⟩
 ·have:=h3 1 _ rfl
  rw[<-zba] at this;exact this
 ·have:=h3 2 _ rfl
  rw[<-zba] at this;exact this
 ·have:=h3 3 _ rfl
  rw[<-zba] at this;exact this
 ·have:=h3 4 _ rfl
  rw[<-zba] at this;exact this
 ·have:=h3 5 _ rfl
  rw[<-zba] at this;exact this
 ·have:=h3 6 _ rfl
  rw[<-zba] at this;exact this
 ·have:=h3 7 _ rfl
  rw[<-zba] at this;exact this
 ·have:=h3 8 _ rfl
  rw[<-zba] at this;exact this
 ·have:=h3 9 _ rfl
  rw[<-zba] at this;exact this
 ·have:=h3 10 _ rfl
  rw[<-zba] at this;exact this
 ·have:=h3 11 _ rfl
  rw[<-zba] at this;exact this
 ·have:=h3 12 _ rfl
  rw[<-zba] at this;exact this
 ·have:=h3 13 _ rfl
  rw[<-zba] at this;exact this
theorem Reads.lenPage{w:World}{B n:Nat}{A:Option Addr}{l:List zbc}(h:Reads w B 14 A n (recs zhn l)):n=l.length:=h.lenR (f:=zhn) (sz:=14) (fun _=>rfl) (by omega)
theorem z8s{α:Type}(l:List α)(k:Nat)(d:α)(h:k<l.length):l.drop k=l.getD k d::l.drop (k+1):=by rw[qmh h,qnp,qlx h];rfl
theorem zax{α:Type}{l:List α}{k:Nat}(d:α)(h:k<l.length):l.getD k d∈l:=by rw[qnp,qlx h];exact qml h
end Go.Hm
namespace Go.Proofs.Y
open Go.RowKit Go.Hm
def zt0(r:Int × Bool)(w:World)(e:Ending)(w':World):Prop:=e= .returned (.tuple #[.int .i64 r.1,.bool r.2])/\New w w'
theorem zt1{w:World}{c:zbi}{A:Option Addr}{n cap:Nat}{l:List zbc}{rows:Int}(h:Reads w w.heap.size 14 A n (recs zhn l))(hl:∀p∈l,zep p.2.2)(hn:n<=4611686018427387903)(hr:0<=rows/\rows<=65536):
 Calls Tryz.prog 110 #[qk1 c,.slice A n cap,.int .i64 rows] w (zt0 (zfb c.2.1 c.2.2 l rows 0) w):=by
 obtain rfl:=h.lenPage;obtain⟨nm,t,nu⟩:=c;have HR:=qrf h;have HL:=qrf hl;have HC:=qrf (show zfb t nu l rows 0=zfb t nu (l.drop 0) rows 0 from rfl);clear h hl;show Calls Tryz.prog 110 #[.agg #[.string (zai nm),.int .i64 t,.bool nu],.slice A l.length cap,.int .i64 rows] w (zt0 (zfb t nu l rows 0) w);generalize hX:zfb t nu l rows 0=X at*;clear hX;have B0:=qrv w 71 #[.string (zai nm),.int .i64 t,.bool nu];have b0:New w (w.alloc (.cells #[.string (zai nm),.int .i64 t,.bool nu] 71)):=(qq8 _ _).alloc (ql6 _) _;go_enter Tryz.func110,Tryz.ntmps110
 go_wp2_with fail
 go_loopw [2,8,13] (fun r s i wr=>∃(k:Nat) (rr ss:Int),k<=l.length/\i= .int .i64 (k:Int)/\r= .int .i64 rr/\s= .int .i64 ss/\Hid (X=zfb t nu (l.drop k) rr ss)/\(0<=rr/\rr+k<=rows)/\(0<=ss/\ss<=k*268435456)
  /\Blk wr w.heap.size 71 #[.string (zai nm),.int .i64 t,.bool nu]/\New w wr) (fun _ _ i _=>l.length-(intOf i).toNat)
 case atStart=>exact⟨0,rows,0,ql7 _,rfl,rfl,rfl,HC,by omega,by omega,B0,b0⟩
 case round=>
  obtain⟨k,rr,ss,hk,rfl,rfl,rfl,H,hrr,hss,B,b⟩:=hrel;clear HC B0 b0;by_cases hlt:k<l.length
  ·obtain⟨ad,rfl,hb,d0,d1,d2,d3,d4,d5,d6,d7,d8,d9,d10,d11,d12,d13⟩:=(qsg HR.out b).page14 hlt
   have hd:=z8s l k zb1 hlt;have RP:=fun(W:World)=>ztz (w:=W) (c:=(nm,t,nu)) (p:=l.getD k zb1) (most:=rr) (HL.out _ (zax zb1 hlt))
   have hst:zfb t nu (l.drop k) rr ss=if zij t nu (l.getD k zb1) rr then zfb t nu (l.drop (k+1)) (rr-(l.getD k zb1).2.1) (ss+(l.getD k zb1).1) else(0,false):=by rw[hd];rfl
   rw[<-H.out] at hst;have hok:=fun(e:zij t nu (l.getD k zb1) rr=true)=>(pageB_most.1 e).1
   clear hd H hb;dsimp only at RP;generalize zij t nu (l.getD k zb1) rr=R at*;generalize l.getD k zb1=p at*;obtain⟨sz,rw,nn,bb,⟨p1,p2,p3,p4,p5⟩,⟨q1,q2,q3,q4,q5⟩⟩:=p;dsimp only at hst hok d0 d1 d2 d3 d4 d5 d6 d7 d8 d9 d10 d11 d12 d13;have RP:Hid (∀W,Calls Tryz.prog 131 #[.agg #[.string (zai nm),.int .i64 t,.bool nu],.agg #[.int .i64 sz,.int .i64 rw,.int .i64 nn,.bool bb,.bool p1,.int .i64 p2,.string (zai p3),.int .i64 p4,.int .i64 p5,.bool q1,.int .i64 q2,.string (zai q3),.int .i64 q4,.int .i64 q5],.int .i64 rr] W (zak (.bool R) W)):=qrf RP;have ha:New wr (wr.alloc (.cells #[.int .i64 sz,.int .i64 rw,.int .i64 nn,.bool bb,.bool p1,.int .i64 p2,.string (zai p3),.int .i64 p4,.int .i64 p5,.bool q1,.int .i64 q2,.string (zai q3),.int .i64 q4,.int .i64 q5] 135)):=(qq8 _ _).alloc (ql6 _) _;have BP:=qrv wr 135 #[.int .i64 sz,.int .i64 rw,.int .i64 nn,.bool bb,.bool p1,.int .i64 p2,.string (zai p3),.int .i64 p4,.int .i64 p5,.bool q1,.int .i64 q2,.string (zai q3),.int .i64 q4,.int .i64 q5];have B1:=B.below ha B.lt;have b1:=qr0 b ha;obtain⟨y0,y1,y2⟩:=zar B1;obtain⟨e0,e1,e2,e3,e4,e5,e6,e7,e8,e9,e10,e11,e12,e13⟩:=zd6 BP;have HST:=qrf hst;clear hst B ha;go_wp2_with fail
   refine(RP.out _).mono ?_;rintro e w2 ⟨rfl,b2⟩;have B2:=B1.below b2 B1.lt;have BP2:=BP.below b2 BP.lt;have b02:=qr0 b1 b2;clear RP B1 BP b2 b1 y0 y1 y2 d0 d1 d2 d3 d4 d5 d6 d7 d8 d9 d10 d11 d12 d13 e0 e1 e2 e3 e4 e5 e6 e7 e8 e9 e10 e11 e12 e13;obtain⟨e0,e1,e2,e3,e4,e5,e6,e7,e8,e9,e10,e11,e12,e13⟩:=zd6 BP2;cases R with
   |false=>
    go_wp2_with fail
    go_ret2
    have hX:=HST.out;rw[if_neg (by simp)] at hX;rw[hX];exact⟨rfl,b02⟩
   |true=>
    have hX:=HST.out;rw[if_pos rfl] at hX;have HX:=qrf hX;have hok:=hok rfl;clear hX HST;go_wp2_with fail
    go_roundw
    case rel=>exact⟨k+1,rr-rw,ss+sz,by omega,by go_num,rfl,rfl,HX,by omega,by omega,B2,b02⟩
    case measure=>simp[intOf];omega
  ·obtain rfl:k=l.length:=by omega
   have hX:=H.out;rw[qqj] at hX;have HX:=qrf hX;clear hX H;go_wp2_with fail
   go_ret2
   rw[HX.out];exact⟨rfl,b⟩
theorem z37(a b:List Nat)(ha:∀x∈a,x<256)(hb:∀x∈b,x<256)(hla:a.length<=9223372036854775806)(hlb:b.length<=9223372036854775806)(w:World):
 Calls Tryz.prog 201 #[.string (zai a),.string (zai b)] w (DrewPost (.int .i64 (shr a b)) w):=by
 have z1:=zbt a;have z2:=zbt b;go_enter Tryz.func201,Tryz.ntmps201
 go_wp2
 go_loopw [5] (fun n wr=>∃k m:Nat,n= .int .i64 (k:Int)/\k<=a.length/\k<=b.length/\a.take k=b.take k/\wr=w.drewN m) (fun n _=>a.length-(intOf n).toNat)
 case atStart=>exact⟨0,0,rfl,by omega,by omega,rfl,rfl⟩
 case round=>
  obtain⟨k,m,rfl,h1,h2,h3,rfl⟩:=hrel;have S0:=qe7 a b k h1 h2 h3;have H3:=qrf h3;clear h3;by_cases ka:k=a.length
  ·have S:=qrf (S0 (.inl ka))
   have d1:decide (k<a.length)=false:=by simp;omega
   clear ka S0;go_wp2
   go_quiet (fail)
   go_wp2
   go_ret
   exact⟨by rw[S.out];rfl,_,zon _ _ _⟩
  ·by_cases kb:k=b.length
   ·have S:=qrf (S0 (.inr (.inl kb)))
    have d1:decide (k<a.length)=true:=by simp;omega
    have d2:decide (k<b.length)=false:=by simp;omega
    clear ka kb S0;go_wp2
    go_quiet (fail)
    go_wp2
    go_ret
    exact⟨by rw[S.out];rfl,_,zon _ _ _⟩
   ·have i1:=z47 qa0 a ha k (by omega)
    have i2:=z47 qa0 b hb k (by omega);have d1:decide (k<a.length)=true:=by simp;omega
    have d2:decide (k<b.length)=true:=by simp;omega
    have t1:=zae a k 0 (by omega);have t2:=zae b k 0 (by omega);by_cases e:a.getD k 0=b.getD k 0
    ·have H4:=qrf (show a.take (k+1)=b.take (k+1) by rw[t1,t2,H3.out,e])
     rw[e] at i1;clear t1 t2 e S0;generalize b.getD k 0=y at*;go_wp2
     go_quiet (fail)
     go_wp2
     go_roundw
     case rel=>exact⟨k+1,_,by go_num,by omega,by omega,H4.out,rfl⟩
     case measure=>simp[intOf];omega
    ·have S:=qrf (S0 (.inr (.inr e)))
     have d3:(((a.getD k 0:Nat):Int)==((b.getD k 0:Nat):Int))=false:=by rw[beq_eq_false_iff_ne];omega
     clear t1 t2 e S0;generalize a.getD k 0=x at*;generalize b.getD k 0=y at*;go_wp2
     go_quiet (fail)
     go_wp2
     go_ret
     exact⟨by rw[S.out];rfl,_,zon _ _ _⟩
theorem z9l{w:World}{A:Option Addr}{n c:Nat}{L:List (List Nat)}(h:Reads w w.heap.size 1 A n (zre L))(hL:∀s∈L,s.length<=140737488351232)(hn:n<=9223372036854775806):
 Calls Tryz.prog 200 #[.slice A n c] w (zcv (.bool (qas L)) w):=by
 obtain rfl:=h.lenT;by_cases h0:65536<L.length
 ·have F:=qrf (qc0 h0)
  go_enter Tryz.func200,Tryz.ntmps200
  go_wp2
  go_ret
  exact⟨by rw[F.out];rfl,rfl⟩
 ·have d0:decide (65536<(L.length:Int))=false:=by simp;omega
  go_enter Tryz.func200,Tryz.ntmps200
  go_wp2
  go_loop [3,11] (fun a i=>∃k q:Nat,k<=L.length/\i= .int .i64 (k:Int)/\a= .int .i64 (q:Int)/\q<=16777216/\Hid (q=zud (L.take k)/\ ∀s∈L.take k,s.length<=65536)) (fun _ i=>L.length-(intOf i).toNat)
  case atStart=>exact⟨0,0,by omega,rfl,rfl,by omega,qrf ⟨rfl,by simp⟩⟩
  case round=>
   obtain⟨k,q,hk,rfl,rfl,hq,H⟩:=hrel;by_cases hlt:k<L.length
   ·obtain⟨ad,rfl,hb,hcell⟩:=h.str hlt
    have hs:=zom hL hlt;have T:=zae L k [] hlt;have F1:=qrf (qc1 hlt);have F2:=qrf (qc2 (l:=L) (k:=k+1));rw[T] at F2;have HT:=qrf T;clear T;generalize L.getD k []=s at*;have z:=zbt s;generalize hls:s.length=ls at*;have HL:=qrf hls;clear hls;by_cases h1:65536<ls
    ·have F:=qrf (F1.out h1)
     clear F1 F2;go_wp2
     go_ret
     exact⟨by rw[F.out];rfl,rfl⟩
    ·have d1:decide (65536<(ls:Int))=false:=by simp;omega
     by_cases h2:16777216<q+ls
     ·have F:=qrf (F2.out (by rw[zvk,<-H.out.1,HL.out];exact h2))
      clear F1 F2;go_wp2
      go_ret
      exact⟨by rw[F.out];rfl,rfl⟩
     ·have d2:decide (16777216<(q:Int)+(ls:Int))=false:=by simp;omega
      go_wp2
      go_round
      case rel=>exact⟨k+1,q+ls,by omega,by go_num,by go_num,by omega,qrf ⟨by rw[HT.out,zvk,<-H.out.1,HL.out],fun x hx=>by
       rw[HT.out,qnd,qne] at hx;rcases hx with hx|rfl
       ·exact H.out.2 x hx
       ·rw[HL.out];omega⟩⟩
      case measure=>simp[intOf];omega
   ·obtain rfl:k=L.length:=by omega
    have F:=qrf (qc3 (l:=L) (by omega) (by have:=H.out.2;rwa[qp1] at this) (by have:=H.out.1;rw[qp1] at this;omega));go_wp2
    go_ret
    exact⟨by rw[F.out];rfl,rfl⟩
theorem z9m{w:World}{A:Option Addr}{n c:Nat}{L:List (List Nat)}(h:Reads w w.heap.size 1 A n (zre L))(h8:∀s∈L,∀x∈s,x<256)(hf:qas L=true):
 Calls Tryz.prog 182 #[.slice A n c] w (OptB (some (zyh [] L)) w):=by
 obtain rfl:=h.lenT;obtain⟨hn,hl,hsum⟩:=(zjl L).1 hf;have F:=qrf (z9l (c:=c) h (fun s hs=>by have:=hl s hs;omega) (by omega));rw[hf] at F;have HSUM:=qrf hsum;have HF:=qrf hf;clear hf hsum;go_enter Tryz.func182,Tryz.ntmps182
 go_wp2_with (go_at_call 200;refine F.out.mono ?_;rintro e w1 ⟨rfl,rfl⟩)
 go_loopw [4,5,14] (fun v a i wr=>∃(k:Nat) (A:Option Addr) (m c:Nat),i= .int .i64 (k:Int)/\k<=L.length/\a= .string (zai (zq4 [] (L.take k)))/\v= .slice A m c/\Own wr w.heap.size 5 (.slice A m c) (zah .u8 (zyh [] (L.take k)))/\Below w.heap.size w wr) (fun _ _ i _=>L.length-(intOf i).toNat)
 case atStart=>exact⟨0,_,_,_,rfl,by omega,rfl,rfl,qru,qq8 _ _⟩
 case round=>
  obtain⟨k,A5,m5,c5,rfl,hk,rfl,rfl,o5,b5⟩:=hrel;have z5:=b5.size;by_cases hlt:k<L.length
  ·obtain⟨ad,rfl,hb,hcell⟩:=(h.below b5).str hlt
   have q5:=o5.len;rw[zaa] at q5;have q6:=z0s [] (L.take k) (fun s hs=>hl s (qmu hs));have q7:=zvj L k;have q8:=HSUM.out;rw[<-q5,ql2] at q6;have qm:m5<=20*65536+16777216:=by omega
   have T:=qrf (zae L k [] hlt);have a8:=zvl (Q:=fun s=>∀x∈s,x<256) (a:=[]) (L.take k) (by simp) (fun s hs=>h8 s (qmu hs));have al:=zvl (Q:=fun s=>s.length<=65536) (a:=[]) (L.take k) (by simp) (fun s hs=>hl s (qmu hs));have s8:=zom (Q:=fun s=>∀x∈s,x<256) h8 hlt;have sl:=zom (Q:=fun s=>s.length<=65536) hl hlt;have SN:=qrf (z7y [] (L.getD k []) (L.take k));have LS:=qrf (z29 [] (L.getD k []) (L.take k));clear q5 q6 q7 q8;generalize L.getD k []=s at*;generalize zq4 [] (L.take k)=a at*;have k1:=zpl a s;have k2:=ziy a s;have z1:=zbt s;have SH:=qrf (z37 a s a8 s8 (by omega) (by omega) wr);have FP:=qrf (show fpiece a s=vp (shr a s)++vp (s.length-shr a s)++s.drop (shr a s) from rfl);have i3:=qaz qa0 s (shr a s) k2;have d8:∀x∈s.drop (shr a s),x<256:=fun x hx=>s8 x (qoo hx)
   have dl:(s.drop (shr a s)).length<=65536:=by rw[ql0];omega
   have v1:=zas (n:=shr a s) (by omega);have v2:=zas (n:=s.length-shr a s) (by omega);have hq:(s.length:Int)-(shr a s:Int)=((s.length-shr a s:Nat):Int):=by omega
   generalize shr a s=j at*;generalize s.length-j=p at*;generalize s.drop j=r at*;have V1:=qrf v1;have V2:=qrf v2;have DL:=qrf dl;clear v1 v2 dl;go_wp2_with (first
    |(go_at_call 201;refine SH.out.mono ?_;intro e w6 hh;obtain⟨rfl,b6⟩:=hh.new;clear hh
      have b06:=zg8 b5 b6 (ql6 _);have o6:=o5.later b6;have P6:=qrf (zc9 none 0 0 [] j w6 qrs (by omega) (by omega)))
    |(go_at_call 111;(with_reducible refine P6.out.mono ?_);rintro e w7 ⟨A7,n7,c7,rfl,k7,b7⟩
      rw[qmx] at k7;have b07:=zg8 b06 b7 (ql6 _);have o7:=o6.later b7;have q7:n7<=10:=by have:=k7.len;rw[zaa] at this;have:=V1.out;omega
      have r7:=k7.reads)
    |(refine zal elB rfl (.tmp 21) (.tmp 24) rfl (W:=w) (B:=w.heap.size) o7 r7 rfl rfl b07 (ql6 _) (by have:=b07.size;omega) (by omega) (by simp only[maxLen];omega) ?_
      intro A8 c8 w8 _ _ o8 _ b08 _;have P8:=qrf (zc9 none 0 0 [] p w8 qrs (by omega) (by omega)))
    |(go_at_call 111;(with_reducible refine P8.out.mono ?_);rintro e w9 ⟨A9,n9,c9,rfl,k9,b9⟩
      rw[qmx] at k9;have b09:=zg8 b08 b9 (ql6 _);have o9:=o8.later b9;have q9:n9<=10:=by have:=k9.len;rw[zaa] at this;have:=V2.out;omega
      have r9:=k9.reads)
    |(refine zal elB rfl (.tmp 26) (.tmp 32) rfl (W:=w) (B:=w.heap.size) o9 r9 rfl rfl b09 (ql6 _) (by have:=b09.size;omega) (by omega) (by simp only[maxLen];omega) ?_
      intro A10 c10 w10 _ _ o10 _ b010 _)
    |(refine zdo elB qa0 rfl (.tmp 34) (.tmp 37) rfl (W:=w) (B:=w.heap.size) o10 d8 rfl rfl b010 (ql6 _) (by have:=b010.size;omega) (by have:=DL.out;omega) ?_
      intro A11 c11 w11 _ _ o11 _ b011))
   go_roundw
   case rel=>exact⟨k+1,_,_,_,by go_num,by omega,by rw[T.out,LS.out],rfl,by rw[T.out,SN.out,FP.out,<-qmi,<-qmi];exact o11,b011⟩
   case measure=>simp[intOf];omega
  ·obtain rfl:k=L.length:=by omega
   rw[qp1] at o5;go_wp2
   go_ret2
   exact⟨_,_,_,rfl,o5,b5⟩
theorem qea{w:World}{A:Option Addr}{n c:Nat}{L:List (List Nat)}(h:Reads w w.heap.size 1 A n (zre L))(h8:∀s∈L,∀x∈s,x<256)(hL:∀s∈L,s.length<=140737488351232)(hn:n<=9223372036854775806):
 Calls Tryz.prog 182 #[.slice A n c] w (OptB (qe8 L) w):=by
 unfold qe8;by_cases hf:qas L=true
 ·rw[if_pos hf]
  exact z9m h h8 hf
 ·rw[if_neg hf]
  have F:=qrf (z9l (c:=c) h hL hn);rw[qqc.2 hf] at F;clear hf;go_enter Tryz.func182,Tryz.ntmps182
  go_wp2_with (go_at_call 200;refine F.out.mono ?_;rintro e w1 ⟨rfl,rfl⟩)
  go_ret2
  exact⟨rfl,qq8 _ _⟩
end Go.Proofs.Y
