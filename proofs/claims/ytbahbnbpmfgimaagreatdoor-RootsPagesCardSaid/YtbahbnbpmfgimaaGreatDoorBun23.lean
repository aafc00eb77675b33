/- Merged. -/
import Derived.Test.YtbahbnbpmfgimaaGreatDoorBun20
import Derived.Test.YtbahbnbpmfgimaaGreatDoorBun21
set_option maxHeartbeats 4000000
namespace Go.Proofs.Y
open Go.RowKit Go.Hm
open Classical in
noncomputable def plD(t:Int)(b:List Nat)(n:Int):Option (List zab):=
 if h:∃l:List zab,(∀c∈l,zaq c)/\(l.length:Int)=n/\plO t l=some b then some h.choose else none
theorem z8j{t:Int}{b:List Nat}{n:Int}{o:Option (List zab)}(h:IsPl zaq t b n o):o=plD t b n:=by
 unfold plD;split
 ·rename_i hx
  obtain⟨h1,h2,h3⟩:=hx.choose_spec;exact h.compl _ h1 h2 h3
 ·rename_i hx
  cases o with
  |none=>rfl
  |some l=>
   obtain⟨h1,h2,h3⟩:=h.sound l rfl;exact absurd ⟨l,h3,h1,h2⟩ hx
theorem znt{t:Int}{b:List Nat}{n:Int}{l:List zab}(h:plD t b n=some l):(∀c∈l,zaq c)/\(l.length:Int)=n/\plO t l=some b:=by
 unfold plD at h;split at h
 ·rename_i hx
  injection h with h;subst h;exact hx.choose_spec
 ·cases h
noncomputable def zhy(t:Int)(S:St):(zab × zab) × St:=
 match plD t (zeq ((lenS ((S.getD []).length:Int) S).1:Int) (lenS ((S.getD []).length:Int) S).2).1 2 with
 |some [a,b]=>((a,b),(zeq ((lenS ((S.getD []).length:Int) S).1:Int) (lenS ((S.getD []).length:Int) S).2).2)
 |_=>((za8,za8),none)
theorem zrr(t:Int)(S:St):zaq (zhy t S).1.1/\zaq (zhy t S).1.2:=by
 have h0:zaq za8:=⟨⟨by simp[za8],by simp[za8]⟩,by simp[za8],by simp[za8]⟩;unfold zhy;split
 ·rename_i a b h
  have:=(znt h).1;exact⟨this a (by simp),this b (by simp)⟩
 ·exact⟨h0,h0⟩
theorem zqx{w w':World}{T:List Nat}{base sz n:Nat}{e:TypeId}{v:Value}{xs:List Value}(h:w.ownsRow base e sz v n xs)(k:Turns T w w')(hT:∀x∈T,x<base):w'.ownsRow base e sz v n xs:=by
 refine⟨h.1,?_⟩;rcases h.2 with hn|⟨g,cap,cur,rfl,hbg,hgg,rest⟩
 ·exact .inl hn
 ·refine .inr ⟨g,cap,cur,rfl,hbg,?_,rest⟩
  rw[k.block g (qmv.1 hgg).1 (fun hm=>by have:=hT g hm;omega)];exact hgg
theorem z3q{W:World}{base c:Nat}{e:TypeId}{ad:Addr}{p q:zab}(h:W.ownsRow base e 5 (.slice (some ad) 2 c) 2 (recs za0 [p,q])):
 (W.cell? ad=some (.bool p.1)/\W.cell? ⟨ad.block,ad.off+1,none⟩=some (.int .i64 p.2.1)/\W.cell? ⟨ad.block,ad.off+2,none⟩=some (.string (zae p.2.2.1))/\W.cell? ⟨ad.block,ad.off+3,none⟩=some (.int .i64 p.2.2.2.1)/\W.cell? ⟨ad.block,ad.off+4,none⟩=some (.int .i64 p.2.2.2.2))
 /\W.cell? ⟨ad.block,ad.off+5,none⟩=some (.bool q.1)/\W.cell? ⟨ad.block,ad.off+5+1,none⟩=some (.int .i64 q.2.1)/\W.cell? ⟨ad.block,ad.off+5+2,none⟩=some (.string (zae q.2.2.1))/\W.cell? ⟨ad.block,ad.off+5+3,none⟩=some (.int .i64 q.2.2.2.1)/\W.cell? ⟨ad.block,ad.off+5+4,none⟩=some (.int .i64 q.2.2.2.2):=by
 have r:=Reads.of_own h;obtain⟨a1,e1,_,d⟩:=r.cell5 (i:=0) (by omega);obtain⟨a2,e2,_,d'⟩:=r.cell5 (i:=1) (by omega);injection e1 with e1;injection e2 with e2;subst e1 e2;rw[qpj,zel] at d;exact⟨d,d'⟩
theorem zyx{w:World}{g:Nat}(cells:Array Value):w.grownBy (w.setRow g cells) (some g):=
 ⟨rfl,rfl,rfl,by simp[World.setRow],fun k _ hne=>by simp[World.setRow,Array.getElem?_modify];intro e;exact absurd (by rw[e]) hne⟩
theorem zjy{P:Program}{o:Oper}{a:Act}{w:World}{K:Act->World->Prop}{Q:Exit->Act->World->Prop}(ty:TypeId)(x y:Operand)(ho:o.op= .store ty x y)
 (g:Nat)(cells:Array Value)(hx:a.eval x= .pointer (some ⟨g,0,none⟩))(hy:a.eval y= .agg cells){t:TypeId}{old:Array Value}(hB:Blk w g t old)(hi:(P.info? ty).map (·.size)=some cells.size)
 (hold:old.size=cells.size)(h1:cells.all (·.oneCell')=true)
 (h:∀W,Blk W g t cells->w.grownBy W (some g)->K (a.put o.dst undef) W):o.wp P a w K Q:=by
 refine wp_store_row ty x y ho g cells hx hy t old hB hi hold h1 ?_;refine h _ ?_ (zyx cells);unfold Blk at hB⊢;simp[World.setRow,Array.getElem?_modify,hB]
def qdx(p:zab × zab)(g:Nat)(S:St)(w:World)(e:Ending)(w':World):Prop:=e= .returned (.tuple #[zc2 p.1,zc2 p.2])/\CurS w' g S/\w.grownBy w' (some g)
set_option maxRecDepth 100000 in
theorem qdy{w:World}{g:Nat}{S:St}{t:Int}(h:CurS w g S)(hl:(S.getD []).length<=140737488351232):
 Calls Tryz.prog 151 #[.pointer (some ⟨g,0,none⟩),.int .i64 t] w (qdx (zhy t S).1 g (zhy t S).2 w):=by
 obtain⟨X,hX⟩:∃X,X=zhy t S:=⟨_,rfl⟩;rw[<-hX];unfold zhy at hX;have hle:=zdg (m:=((S.getD []).length:Int)) S (by omega) h.ok;have hok1:=zb4 (m:=((S.getD []).length:Int)) h.ok;have hlt:=h.lt;have ha:New w ((w.alloc (.cells #[.bool false,.int .i64 0,.string ⟨#[]⟩,.int .i64 0,.int .i64 0] 75)).alloc (.cells #[.bool false,.int .i64 0,.string ⟨#[]⟩,.int .i64 0,.int .i64 0] 75)):=((Below.refl _ _).alloc (qmt _) _).alloc (by simp) _;have h0:=h.below ha;have LF:=qlb h0;unfold zsu at LF;have LF:=Hz LF;have L1:=Hz (zdt (m:=((S.getD []).length:Int)) h0 (by omega) (by omega));have BA:Blk ((w.alloc (.cells #[.bool false,.int .i64 0,.string ⟨#[]⟩,.int .i64 0,.int .i64 0] 75)).alloc (.cells #[.bool false,.int .i64 0,.string ⟨#[]⟩,.int .i64 0,.int .i64 0] 75)) w.heap.size 75 #[.bool false,.int .i64 0,.string ⟨#[]⟩,.int .i64 0,.int .i64 0]:=(Blk.new _ _ _).alloc _;have BB:Blk ((w.alloc (.cells #[.bool false,.int .i64 0,.string ⟨#[]⟩,.int .i64 0,.int .i64 0] 75)).alloc (.cells #[.bool false,.int .i64 0,.string ⟨#[]⟩,.int .i64 0,.int .i64 0] 75)) (w.heap.size+1) 75 #[.bool false,.int .i64 0,.string ⟨#[]⟩,.int .i64 0,.int .i64 0]:=by have:=Blk.new (w.alloc (.cells #[.bool false,.int .i64 0,.string ⟨#[]⟩,.int .i64 0,.int .i64 0] 75)) 75 #[.bool false,.int .i64 0,.string ⟨#[]⟩,.int .i64 0,.int .i64 0];rwa[World.size_alloc] at this
 generalize hL:(S.getD []).length=L at*;generalize lenS (L:Int) S=H at*;obtain⟨n,S1⟩:=H;dsimp only at*;have htl:=zos (n:=(n:Int)) (S:=S1) (by omega);have htk:=zi9 (n:=(n:Int)) hok1;have HX:=Hz hX;have HL:=Hz hL;clear h hX hL;go_enter Tryz.func151,Tryz.ntmps151
 go_wp2_with fail
 refine LF.out.mono ?_;rintro e w1' ⟨rfl,rfl⟩;go_wp2_with fail
 refine L1.out.mono ?_;rintro e w1 ⟨rfl,s1,g1⟩;have hz1:=g1.size;simp only[World.size_alloc] at hz1;have BA1:=BA.grown g1 (by intro e;injection e with e;omega);have BB1:=BB.grown g1 (by intro e;injection e with e;omega);have G1:=(Far.of_new ha (g:=g)).trans g1;have T1:=Hz (zo2 (n:=(n:Int)) s1 (by omega) (by omega));clear L1 LF h0 BA BB s1 g1 ha;generalize zeq (n:Int) S1=Q at*;obtain⟨x,S2⟩:=Q;dsimp only at*;go_wp2_with fail
 refine T1.out.mono ?_;rintro e w2 ⟨A2,n2,c2,rfl,rfl,o2,s2,g2⟩;have hz2:=g2.size;have BA2:=BA1.grown g2 (by intro e;injection e with e;omega);have BB2:=BB1.grown g2 (by intro e;injection e with e;omega);have G2:=G1.trans g2;have PD:=Hz (zyw (t:=t) (n:=2) (c:=c2) o2.reads htk.2 (by omega));clear T1 BA1 BB1 G1 g2 o2;go_wp2_with fail
 refine PD.out.mono ?_;rintro e w3 ⟨o,ho,h3⟩;have hX:=HX.out;have ho:=z8j ho;rw[<-ho] at hX;cases o with
 |none=>
  obtain⟨rfl,b3⟩:=h3;dsimp only at hX;clear HX;have HX:=Hz hX;have hz3:=b3.size;have BA3:=BA2.below b3 BA2.lt;have BB3:=BB2.below b3 BB2.lt;have G3:=G2.trans (Far.of_new b3);have F:=Hz (zo1 (s2.below b3));clear PD BA2 BB2 G2 s2 b3 ho hX;go_wp2_with fail
  refine F.out.mono ?_;rintro e w4 ⟨rfl,s4,g4⟩;have hz4:=g4.size;have BA4:=BA3.grown g4 (by intro e;injection e with e;omega);have BB4:=BB3.grown g4 (by intro e;injection e with e;omega);have G4:=Hz (G3.trans g4);have HS4:=Hz s4;clear F BA3 BB3 G3 s4 g4;go_wp2_with (first
   |(refine zah rfl 75 _ (.tmp 25) rfl w.heap.size _ rfl rfl BA4 (by kernel_rfl) rfl (by simp[Value.oneCell']) ?_
     intro W5 BR G5;have BB5:=BB4.grown G5 (by simp))
   |(refine zah rfl 75 _ (.tmp 26) rfl (w.heap.size+1) _ rfl rfl BB5 (by kernel_rfl) rfl (by simp[Value.oneCell']) ?_
     intro W6 BQ G6;have BR6:=BR.grown G6 (by simp);obtain⟨x0,x1,x2,x3,x4⟩:=zcs BR6;obtain⟨y0,y1,y2,y3,y4⟩:=zcs BQ))
  have hX:=HX.out;subst hX;have hz5:=G5.size;exact bodyPost_ret (v:= .tuple #[zc2 za8,zc2 za8]) (by simp[results,Tryz.results151,go_sem,x0,x1,x2,x3,x4,y0,y1,y2,y3,y4,zc2,za0,za8,show zae []=⟨#[]⟩ from rfl]) rfl ⟨rfl,(HS4.out.keep G5 BA4 (by omega) (by decide)).keep G6 BB5 (by omega) (by decide),zbc (zbc G4.out G5 (qmt _)) G6 (by omega)⟩
 |some l=>
  obtain⟨A3,n3,c3,rfl,o3,b3⟩:=h3;obtain⟨hd,hlen,-⟩:=znt ho.symm;have hl2:l.length=2:=by omega
  obtain⟨p,q,rfl⟩:∃p q,l=[p,q]:=by
   match l,hl2 with
   | [p,q],_=>exact⟨p,q,rfl⟩
  dsimp only at hX;have r3:=Reads.of_own o3;obtain rfl:n3=2:=by have:=r3.lenCell;simpa using this
  obtain⟨ad,rfl,hb,d0,d1,d2,d3,d4⟩:=r3.cell5 (i:=0) (by omega);obtain⟨ad',e,_,d5,d6,d7,d8,d9⟩:=r3.cell5 (i:=1) (by omega);injection e with e;subst e;simp only[List.getD_cons_zero,qqq,qpj,qp0] at d0 d1 d2 d3 d4 d5 d6 d7 d8 d9;obtain⟨p0,p1,p2,p3,p4⟩:=p;obtain⟨q0,q1,q2,q3,q4⟩:=q;dsimp only at d0 d1 d2 d3 d4 d5 d6 d7 d8 d9;clear HX;have HX:=Hz hX;have hz3:=b3.size;have BA3:=BA2.below b3 BA2.lt;have BB3:=BB2.below b3 BB2.lt;have G3:=Hz (G2.trans (Far.of_new b3));have HS3:=Hz (s2.below b3);clear PD BA2 BB2 G2 s2 b3 ho hX r3 hlen hl2;have HF:=Hz (fun(W:World) (hW:Turns [w.heap.size,w.heap.size+1] w3 W)=>z3q (zqx o3 hW (by simp;omega)));dsimp only at HF;clear d0 d1 d2 d3 d4 d5 d6 d7 d8 d9 o3 LF;go_upto_region 6 with(fail)
  refine zax (Turns [w.heap.size,w.heap.size+1]) [(true,0),(true,1),(true,2),(true,3),(true,4),(true,5),(false,6),(false,7)]
   (Turns.refl _) Turns.trans (by kernel_rfl) (by kernel_rfl) (by kernel_rfl) (by kernel_rfl) ?_
  have tD:=Turns.drew [w.heap.size,w.heap.size+1] w3;have BA3:=BA3.drew;have BB3:=BB3.drew;have G3:=Hz (G3.out.trans (Far.drew g w3));have HS3:=Hz (HS3.out.below (New.drew w3));repeat(first
   |(refine zar rfl rfl (v:=?_) (fun W hW=>?_) ?_
     rotate_left
     ·obtain⟨⟨d0,d1,d2,d3,d4⟩,d5,d6,d7,d8,d9⟩:=HF.out W (tD.trans hW)
      go_simp<;> with_reducible rfl
     simp only[Act.put,qo6,qou,qo7]))
  refine zba rfl rfl (fun K hK=>?_);refine zjy 75 _ (.tmp 29) rfl w.heap.size _ rfl rfl BA3 (by kernel_rfl) rfl (by simp[Value.oneCell']) ?_;intro W5 BR G5;have BB5:=BB3.grown G5 (by simp);refine hK _ _ (Turns.of_far G5 (by simp)) ?_;clear hK;refine zba rfl rfl (fun K hK=>?_);refine zjy 75 _ (.tmp 32) rfl (w.heap.size+1) _ rfl rfl BB5 (by kernel_rfl) rfl (by simp[Value.oneCell']) ?_;intro W6 BQ G6;have BR6:=BR.grown G6 (by simp);refine hK _ _ (Turns.of_far G6 (by simp)) ?_;clear hK;refine zdh ?_;obtain⟨x0,x1,x2,x3,x4⟩:=zcs BR6;obtain⟨y0,y1,y2,y3,y4⟩:=zcs BQ;go_wp2_with fail
  have hX:=HX.out;subst hX;have hz5:=G5.size;have hz4:w3.heap.size<=W5.heap.size:=hz5;exact bodyPost_ret (v:= .tuple #[zc2 (p0,p1,p2,p3,p4),zc2 (q0,q1,q2,q3,q4)]) (by simp[results,Tryz.results151,go_sem,x0,x1,x2,x3,x4,y0,y1,y2,y3,y4,zc2,za0]) rfl ⟨rfl,(HS3.out.keep G5 BA3 (by omega) (by decide)).keep G6 BB5 (by omega) (by decide),zbc (zbc G3.out G5 (qmt _)) G6 (by omega)⟩
open Go.RowKit Go.Hm
noncomputable def z8k(t:Int)(S:St):zdc × St:=
 if(zcf (lenS 65536 S).2).1=1 then((((lenS 65536 S).1:Int),true,(zhy t (zcf (lenS 65536 S).2).2).1.1,(zhy t (zcf (lenS 65536 S).2).2).1.2),(zhy t (zcf (lenS 65536 S).2).2).2)
 else((((lenS 65536 S).1:Int),false,za8,za8),(zcf (lenS 65536 S).2).2)
noncomputable def getA(t:Int)(S:St):zdc × St:=
 if(zcf (lenS 65536 S).2).1<=1/\(z8k t S).2≠none/\zcc t (z8k t S).1=true then z8k t S else(zb0,none)
set_option maxRecDepth 100000 in
theorem qdz{w:World}{g:Nat}{S:St}{t:Int}(h:CurS w g S)(h1:(zcf (lenS 65536 S).2).1=1)(hl:(S.getD []).length<=140737488351232):
 Calls Tryz.prog 138 #[.pointer (some ⟨g,0,none⟩),.int .i64 t] w
  (zns (getA t S).1 g (getA t S).2 w):=by
 obtain⟨X,hX⟩:∃X,X=getA t S:=⟨_,rfl⟩;rw[<-hX];unfold getA z8k at hX;rw[if_pos h1,h1] at hX;have hle:=zdg (m:=65536) S (by omega) h.ok;have hsub:=zer (m:=65536) h.ok;have hlt:=h.lt;have ha:New w (w.alloc (.cells (zcb zb0).toArray 133)):=(Below.refl _ _).alloc (qmt _) _;have h0:=h.below ha;have L1:=Hz (zdt (m:=65536) h0 (by omega) (by omega));have BZ0:Blk (w.alloc (.cells (zcb zb0).toArray 133)) w.heap.size 133 (zcb zb0).toArray:=Blk.new _ _ _;generalize lenS 65536 S=H at*;obtain⟨n,S1⟩:=H;dsimp only at*;have hsub2:=z63 (S:=S1);have HX:=Hz hX;have H1:=Hz h1;clear h hX h1;go_enter Tryz.func138,Tryz.ntmps138
 go_wp2_with fail
 refine L1.out.mono ?_;rintro e w1 ⟨rfl,s1,g1⟩;have C2:=Hz (zis (s1.below ((Below.refl _ _).alloc (qmt _) (.cells #[.int .i64 (n:Int),.bool false,.bool false,.int .i64 0,.string ⟨#[]⟩,.int .i64 0,.int .i64 0,.bool false,.int .i64 0,.string ⟨#[]⟩,.int .i64 0,.int .i64 0] 133))));have hz1:=g1.size;have BZ1:=(BZ0.grown g1 (by intro e;injection e with e;omega)).alloc (.cells #[.int .i64 (n:Int),.bool false,.bool false,.int .i64 0,.string ⟨#[]⟩,.int .i64 0,.int .i64 0,.bool false,.int .i64 0,.string ⟨#[]⟩,.int .i64 0,.int .i64 0] 133);have BT1:=Blk.new w1 133 #[.int .i64 (n:Int),.bool false,.bool false,.int .i64 0,.string ⟨#[]⟩,.int .i64 0,.int .i64 0,.bool false,.int .i64 0,.string ⟨#[]⟩,.int .i64 0,.int .i64 0];have G1:=(Far.of_new ha (g:=g)).trans (g1.trans (Far.of_new ((Below.refl _ w1).alloc (qmt _) (.cells #[.int .i64 (n:Int),.bool false,.bool false,.int .i64 0,.string ⟨#[]⟩,.int .i64 0,.int .i64 0,.bool false,.int .i64 0,.string ⟨#[]⟩,.int .i64 0,.int .i64 0] 133))));have hb1:=H1.out;generalize zcf S1=Bq at*;obtain⟨y,S2⟩:=Bq;dsimp only at*;clear L1 h0 BZ0 s1 g1 ha H1;subst hb1;go_wp2_with fail
 refine C2.out.mono ?_;rintro e w2 ⟨rfl,s2,g2⟩;have hz2:=g2.size;simp only[World.size_alloc] at hz1 hz2;have BZ2:=BZ1.grown g2 (by intro e;injection e with e;omega);have BT2:=BT1.grown g2 (by intro e;injection e with e;omega);have G2:=G1.trans g2;clear C2 BZ1 BT1 G1 g2;obtain⟨x0,x1,x2,x3,x4,x5,x6,x7,x8,x9,x10,x11⟩:=za9 BT2;have f1:=BT2.frozen 1;have gS:w2.grownBy (w2.setCell ⟨w1.heap.size,1,none⟩ (.bool true)) (some w1.heap.size):=zb9;have s3:=s2.keep gS BT2 (by omega) (by decide);have BT3:=BT2.set_ 1 (.bool true);simp only[qo6,qou,qo7] at BT3;have BZ3:=BZ2.grown gS (by simp;omega);have G3:=zbc G2 gS (by omega);have EN:=Hz (qdy (t:=t) s3 (by omega));have HD:=zrr t S2;have hz3:w2.heap.size<=(w2.setCell ⟨w1.heap.size,1,none⟩ (.bool true)).heap.size:=gS.size;have SR:=fun(W:World)=>zha (w:=W) (t:=t) (s:=((n:Int),true,(zhy t S2).1.1,(zhy t S2).1.2)) ⟨HD.1.1,HD.2.1⟩
 generalize zhy t S2=En at*;obtain⟨⟨⟨p0,p1,p2,p3,p4⟩,⟨q0,q1,q2,q3,q4⟩⟩,S3⟩:=En;dsimp only at HX EN SR;generalize zcc t ((n:Int),true,(p0,p1,p2,p3,p4),(q0,q1,q2,q3,q4))=R at*;have SR:Hid (∀W,Calls Tryz.prog 133 #[.int .i64 t,.agg #[.int .i64 (n:Int),.bool true,.bool p0,.int .i64 p1,.string (zae p2),.int .i64 p3,.int .i64 p4,.bool q0,.int .i64 q1,.string (zae q2),.int .i64 q3,.int .i64 q4]] W (zal (.bool R) W)):=Hz SR;clear HD;go_wp2_with fail
 refine EN.out.mono ?_;rintro e w4 ⟨rfl,s4,g4⟩;have hz4:=g4.size;have BT4:=BT3.grown g4 (by intro e;injection e with e;omega);have BZ4:=BZ3.grown g4 (by intro e;injection e with e;omega);have G4:=G3.trans g4;clear EN s3 BT3 BZ3 G3 g4 gS s2 BZ2 BT2 G2 x0 x1 x2 x3 x4 x5 x6 x7 x8 x9 x10 x11 f1;rw[show zc2 (p0,p1,p2,p3,p4)= .agg #[.bool p0,.int .i64 p1,.string (zae p2),.int .i64 p3,.int .i64 p4] from rfl,show zc2 (q0,q1,q2,q3,q4)= .agg #[.bool q0,.int .i64 q1,.string (zae q2),.int .i64 q3,.int .i64 q4] from rfl];go_wp2_with (first
  |(refine zjx rfl 75 (.tmp 21) (.tmp 19) rfl w1.heap.size 2 rfl rfl BT4 (by simp) (by kernel_rfl) (by simp[Value.oneCell']) ?_
    intro W5 BT5 G5;simp only[qo6,qou,qo7] at BT5)
  |(refine zjx rfl 75 (.tmp 22) (.tmp 20) rfl w1.heap.size 7 rfl rfl BT5 (by simp) (by kernel_rfl) (by simp[Value.oneCell']) ?_
    intro W6 BT6 G6;simp only[qo6,qou,qo7] at BT6;have hz5:=G5.size;have hz6:=G6.size;have s6:=(s4.keep G5 BT4 (by omega) (by decide)).keep G6 BT5 (by omega) (by decide);have BZ6:=(BZ4.grown G5 (by simp;omega)).grown G6 (by simp;omega);have G06:=zbc (zbc G4 G5 (by omega)) G6 (by omega);clear BT4 BT5 G5 G6 s4 BZ4 G4;obtain⟨z0,z1,z2,z3,z4,z5,z6,z7,z8,z9,z10,z11⟩:=za9 BT6;have BD:=Hz (qfq s6);have t1:decide ((1:Int)<1)=false:=by simp))
 cases S3 with
 |none=>
  refine BD.out.mono ?_;rintro e w7 ⟨rfl,rfl⟩;have hX:=HX.out;rw[if_neg (by simp)] at hX;clear HX;have HX:=Hz hX;clear hX;have s7:=s6;have BZ7:=BZ6;have BT7:=BT6;have G7:=G06;clear s6 BZ6 BT6 G06 BD;have F:=Hz (zo1 s7);go_wp2_with fail
  refine F.out.mono ?_;rintro e w8 ⟨rfl,s8,g8⟩;have hz8:=g8.size;have BZ8:=BZ7.grown g8 (by intro e;injection e with e;omega);have G8:=Hz (G7.trans g8);have HS8:=Hz s8;clear F BZ7 BT7 G7 g8 s7 s8 z0 z1 z2 z3 z4 z5 z6 z7 z8 z9 z10 z11
  go_wp2_with (refine zah rfl 133 (.tmp 4) (.tmp 37) rfl w.heap.size _ rfl rfl BZ8 (by kernel_rfl) (by simp[zcb,zb0,za0]) (by simp[Value.oneCell']) ?_
               intro W9 BR G9;obtain⟨s0,s1,s2,s3,s4,s5,s6,s7,s8,s9,s10,s11⟩:=za9 BR)
  have hX:=HX.out;subst hX;exact bodyPost_ret (v:=zcg zb0) (by simp[results,Tryz.results138,go_sem,s0,s1,s2,s3,s4,s5,s6,s7,s8,s9,s10,s11,zcg,zcb,za0,zb0,za8,show zae []=⟨#[]⟩ from rfl]) rfl ⟨rfl,HS8.out.keep G9 BZ8 (by omega) (by decide),zbc G8.out G9 (qmt _)⟩
 |some S3=>
  refine BD.out.mono ?_;rintro e w7' ⟨rfl,rfl⟩;go_wp2_with fail
  refine(SR.out _).mono ?_;rintro e w7 ⟨rfl,b7⟩;have hz7:=b7.size;have BZ7:=BZ6.below b7 BZ6.lt;have BT7:=BT6.below b7 BT6.lt;have G7:=G06.trans (Far.of_new b7);have s7:=s6.below b7;clear s6 BZ6 BT6 G06 BD b7 z0 z1 z2 z3 z4 z5 z6 z7 z8 z9 z10 z11 SR;obtain⟨z0,z1,z2,z3,z4,z5,z6,z7,z8,z9,z10,z11⟩:=za9 BT7;have hX:=HX.out;clear HX;cases R with
  |false=>
   rw[if_neg (by simp)] at hX;have HX:=Hz hX;clear hX;have F:=Hz (zo1 s7);go_wp2_with fail
   refine F.out.mono ?_;rintro e w8 ⟨rfl,s8,g8⟩;have hz8:=g8.size;have BZ8:=BZ7.grown g8 (by intro e;injection e with e;omega);have G8:=Hz (G7.trans g8);have HS8:=Hz s8;clear F BZ7 BT7 G7 g8 s7 s8 z0 z1 z2 z3 z4 z5 z6 z7 z8 z9 z10 z11
   go_wp2_with (refine zah rfl 133 (.tmp 4) (.tmp 37) rfl w.heap.size _ rfl rfl BZ8 (by kernel_rfl) (by simp[zcb,zb0,za0]) (by simp[Value.oneCell']) ?_
                intro W9 BR G9;obtain⟨s0,s1,s2,s3,s4,s5,s6,s7,s8,s9,s10,s11⟩:=za9 BR)
   have hX:=HX.out;subst hX;exact bodyPost_ret (v:=zcg zb0) (by simp[results,Tryz.results138,go_sem,s0,s1,s2,s3,s4,s5,s6,s7,s8,s9,s10,s11,zcg,zcb,za0,zb0,za8,show zae []=⟨#[]⟩ from rfl]) rfl ⟨rfl,HS8.out.keep G9 BZ8 (by omega) (by decide),zbc G8.out G9 (qmt _)⟩
  |true=>
   rw[if_pos ⟨by omega,by simp,by trivial⟩] at hX;have HX:=Hz hX;have G7:=Hz G7;have s7:=Hz s7;clear hX
   go_wp2_with (refine zah rfl 133 (.tmp 4) (.tmp 38) rfl w.heap.size _ rfl rfl BZ7 (by kernel_rfl) (by simp[zcb,zb0,za0]) (by simp[Value.oneCell']) ?_
                intro W9 BR G9;obtain⟨s0,s1,s2,s3,s4,s5,s6,s70,s8,s9,s10,s11⟩:=za9 BR)
   have hX:=HX.out;subst hX;exact bodyPost_ret (v:=zcg ((n:Int),true,(p0,p1,p2,p3,p4),(q0,q1,q2,q3,q4))) (by simp[results,Tryz.results138,go_sem,s0,s1,s2,s3,s4,s5,s6,s70,s8,s9,s10,s11,zcg,zcb,za0]) rfl ⟨rfl,s7.out.keep G9 BZ7 (by omega) (by decide),zbc G7.out G9 (qmt _)⟩
open Go.RowKit Go.Hm
set_option maxRecDepth 100000 in
theorem qd0{w:World}{g:Nat}{S:St}{t:Int}(h:CurS w g S)(h1:(zcf (lenS 65536 S).2).1≠1)(ht: ¬(0<=t/\t<=3)):
 Calls Tryz.prog 138 #[.pointer (some ⟨g,0,none⟩),.int .i64 t] w
  (zns zb0 g none w):=by
 have hle:=zdg (m:=65536) S (by omega) h.ok;have hlt:=h.lt;have ha:New w (w.alloc (.cells (zcb zb0).toArray 133)):=(Below.refl _ _).alloc (qmt _) _;have h0:=h.below ha;have L1:=Hz (zdt (m:=65536) h0 (by omega) (by omega));have BZ0:Blk (w.alloc (.cells (zcb zb0).toArray 133)) w.heap.size 133 (zcb zb0).toArray:=Blk.new _ _ _;generalize lenS 65536 S=H at*;obtain⟨n,S1⟩:=H;dsimp only at*;have hbl:=zno (S:=S1);have hRt:zcc t ((n:Int),false,za8,za8)=false:=by unfold zcc;rw[if_pos (by dsimp only;omega)]
 have SR:=fun(W:World)=>zha (w:=W) (t:=t) (s:=((n:Int),false,za8,za8)) (by unfold zeb za8;simp)
 rw[hRt] at SR;have SR:Hid (∀W,Calls Tryz.prog 133 #[.int .i64 t,.agg #[.int .i64 (n:Int),.bool false,.bool false,.int .i64 0,.string ⟨#[]⟩,.int .i64 0,.int .i64 0,.bool false,.int .i64 0,.string ⟨#[]⟩,.int .i64 0,.int .i64 0]] W (zal (.bool false) W)):=Hz SR;clear hRt h;go_enter Tryz.func138,Tryz.ntmps138
 go_wp2_with fail
 refine L1.out.mono ?_;rintro e w1 ⟨rfl,s1,g1⟩;have hbl:=hbl s1.ok;have C2:=Hz (zis (s1.below ((Below.refl _ _).alloc (qmt _) (.cells #[.int .i64 (n:Int),.bool false,.bool false,.int .i64 0,.string ⟨#[]⟩,.int .i64 0,.int .i64 0,.bool false,.int .i64 0,.string ⟨#[]⟩,.int .i64 0,.int .i64 0] 133))));have hz1:=g1.size;have BZ1:=(BZ0.grown g1 (by intro e;injection e with e;omega)).alloc (.cells #[.int .i64 (n:Int),.bool false,.bool false,.int .i64 0,.string ⟨#[]⟩,.int .i64 0,.int .i64 0,.bool false,.int .i64 0,.string ⟨#[]⟩,.int .i64 0,.int .i64 0] 133);have BT1:=Blk.new w1 133 #[.int .i64 (n:Int),.bool false,.bool false,.int .i64 0,.string ⟨#[]⟩,.int .i64 0,.int .i64 0,.bool false,.int .i64 0,.string ⟨#[]⟩,.int .i64 0,.int .i64 0];have G1:=(Far.of_new ha (g:=g)).trans (g1.trans (Far.of_new ((Below.refl _ w1).alloc (qmt _) (.cells #[.int .i64 (n:Int),.bool false,.bool false,.int .i64 0,.string ⟨#[]⟩,.int .i64 0,.int .i64 0,.bool false,.int .i64 0,.string ⟨#[]⟩,.int .i64 0,.int .i64 0] 133))));generalize zcf S1=Bq at*;obtain⟨y,S2⟩:=Bq;dsimp only at*;clear L1 h0 BZ0 s1 g1 ha;go_wp2_with fail
 refine C2.out.mono ?_;rintro e w2 ⟨rfl,s2,g2⟩;have hz2:=g2.size;simp only[World.size_alloc] at hz1 hz2;have BZ:=BZ1.grown g2 (by intro e;injection e with e;omega);have BT:=BT1.grown g2 (by intro e;injection e with e;omega);have G2:=G1.trans g2;clear C2 BZ1 BT1 G1 g2;obtain⟨x0,x1,x2,x3,x4,x5,x6,x7,x8,x9,x10,x11⟩:=za9 BT;have y1:((y:Int)==1)=false:=beq_eq_false_iff_ne.2 (by omega);by_cases hy:1<y
 ·have t1:decide ((1:Int)<(y:Int))=true:=by simp;omega
  have F:=Hz (zo1 s2);go_wp2_with fail
  refine F.out.mono ?_;rintro e w3 ⟨rfl,s3,g3⟩;have hz3:=g3.size;have BZ3:=BZ.grown g3 (by intro e;injection e with e;omega);have G3:=Hz (G2.trans g3);have HS3:=Hz s3;clear F BZ BT G2 g3 x0 x1 x2 x3 x4 x5 x6 x7 x8 x9 x10 x11 s2 s3
  go_wp2_with (refine zah rfl 133 (.tmp 4) (.tmp 37) rfl w.heap.size _ rfl rfl BZ3 (by kernel_rfl) (by simp[zcb,zb0,za0]) (by simp[Value.oneCell']) ?_
               intro W5 BR G5;obtain⟨s0,s1,s2,s3,s4,s5,s6,s7,s8,s9,s10,s11⟩:=za9 BR)
  exact bodyPost_ret (v:=zcg zb0) (by simp[results,Tryz.results138,go_sem,s0,s1,s2,s3,s4,s5,s6,s7,s8,s9,s10,s11,zcg,zcb,za0,zb0,za8,show zae []=⟨#[]⟩ from rfl]) rfl ⟨rfl,HS3.out.keep G5 BZ3 (by omega) (by decide),zbc G3.out G5 (qmt _)⟩
 ·obtain rfl:y=0:=by omega
  have t1:decide ((1:Int)<((0:Nat):Int))=false:=by simp
  have BD:=Hz (qfq s2);cases S2 with
  |none=>
   go_wp2_with fail
   refine BD.out.mono ?_;rintro e w2' ⟨rfl,rfl⟩;have F:=Hz (zo1 s2);go_wp2_with fail
   refine F.out.mono ?_;rintro e w3 ⟨rfl,s3,g3⟩;have hz3:=g3.size;have BZ3:=BZ.grown g3 (by intro e;injection e with e;omega);have G3:=Hz (G2.trans g3);have HS3:=Hz s3;clear F BZ BT G2 g3 x0 x1 x2 x3 x4 x5 x6 x7 x8 x9 x10 x11 s2 s3
   go_wp2_with (refine zah rfl 133 (.tmp 4) (.tmp 37) rfl w.heap.size _ rfl rfl BZ3 (by kernel_rfl) (by simp[zcb,zb0,za0]) (by simp[Value.oneCell']) ?_
                intro W5 BR G5;obtain⟨s0,s1,s2,s3,s4,s5,s6,s7,s8,s9,s10,s11⟩:=za9 BR)
   exact bodyPost_ret (v:=zcg zb0) (by simp[results,Tryz.results138,go_sem,s0,s1,s2,s3,s4,s5,s6,s7,s8,s9,s10,s11,zcg,zcb,za0,zb0,za8,show zae []=⟨#[]⟩ from rfl]) rfl ⟨rfl,HS3.out.keep G5 BZ3 (by omega) (by decide),zbc G3.out G5 (qmt _)⟩
  |some S2=>
   go_wp2_with fail
   refine BD.out.mono ?_;rintro e w2' ⟨rfl,rfl⟩;go_wp2_with fail
   refine(SR.out _).mono ?_;rintro e w3 ⟨rfl,b3⟩;have hz3:=b3.size;have BZ3:=BZ.below b3 BZ.lt;have BT3:=BT.below b3 BT.lt;have G3:=G2.trans (Far.of_new b3);have F:=Hz (zo1 (s2.below b3));clear BZ BT G2 b3 x0 x1 x2 x3 x4 x5 x6 x7 x8 x9 x10 x11 s2;obtain⟨x0,x1,x2,x3,x4,x5,x6,x7,x8,x9,x10,x11⟩:=za9 BT3;go_wp2_with fail
   refine F.out.mono ?_;rintro e w4 ⟨rfl,s4,g4⟩;have hz4:=g4.size;have BZ4:=BZ3.grown g4 (by intro e;injection e with e;omega);have G4:=Hz (G3.trans g4);have HS4:=Hz s4;clear F BZ3 BT3 G3 g4 x0 x1 x2 x3 x4 x5 x6 x7 x8 x9 x10 x11 s4
   go_wp2_with (refine zah rfl 133 (.tmp 4) (.tmp 37) rfl w.heap.size _ rfl rfl BZ4 (by kernel_rfl) (by simp[zcb,zb0,za0]) (by simp[Value.oneCell']) ?_
                intro W5 BR G5;obtain⟨s0,s1,s2,s3,s4,s5,s6,s7,s8,s9,s10,s11⟩:=za9 BR)
   exact bodyPost_ret (v:=zcg zb0) (by simp[results,Tryz.results138,go_sem,s0,s1,s2,s3,s4,s5,s6,s7,s8,s9,s10,s11,zcg,zcb,za0,zb0,za8,show zae []=⟨#[]⟩ from rfl]) rfl ⟨rfl,HS4.out.keep G5 BZ4 (by omega) (by decide),zbc G4.out G5 (qmt _)⟩
theorem qh2{t:Int}{S:St}(h1:(zcf (lenS 65536 S).2).1≠1)(ht:0<=t/\t<=3)(hS:S.ok):getA t S=qi6 S:=by
 have hle:=zdg (m:=65536) S (by omega) hS;unfold getA z8k qi6;rw[if_neg h1];generalize lenS 65536 S=H at*;obtain⟨n,S1⟩:=H;dsimp only at*;generalize zcf S1=Bq at*;obtain⟨y,S2⟩:=Bq;dsimp only at*;have hRt:zcc t ((n:Int),false,za8,za8)=true:=by unfold zcc;rw[if_neg (by dsimp only;omega)];simp
 rw[hRt];by_cases hy:y=0
 ·subst hy
  cases S2<;> simp
 ·rw[if_neg (fun h=>by omega),if_neg (fun h=>hy h.1)]
theorem qd1{t:Int}{S:St}(ht: ¬(0<=t/\t<=3)):getA t S=(zb0,none):=by unfold getA;rw[if_neg];rintro⟨_,_,h⟩;exact ht (zle h).1
theorem z8l{w:World}{g:Nat}{S:St}{t:Int}(h:CurS w g S)(hl:(S.getD []).length<=140737488351232):
 Calls Tryz.prog 138 #[.pointer (some ⟨g,0,none⟩),.int .i64 t] w (zns (getA t S).1 g (getA t S).2 w):=by
 by_cases h1:(zcf (lenS 65536 S).2).1=1
 ·exact qdz h h1 hl
 ·by_cases ht:0<=t/\t<=3
  ·rw[qh2 h1 ht h.ok]
   exact qh1 h h1 ht
  ·rw[qd1 ht]
   exact qd0 h h1 ht
open Go.RowKit Go.Hm
theorem zec:∀(k n:Nat),n<=k-> ∀x∈vp n,x<256:=by
 intro k;induction k with
 |zero=>
  intro n hn x hx;obtain rfl:n=0:=by omega
  rw[zf2 (by omega)] at hx;simp at hx;omega
 |succ k ih=>
  intro n hn x hx;by_cases h:n<128
  ·rw[zf2 h] at hx
   simp at hx;omega
  ·rw[zf3 (by omega)] at hx
   rcases qof.1 hx with rfl|hx
   ·omega
   ·exact ih _ (by omega) x hx
theorem z3r{y:Nat}{r:List Nat}:zcf (some (y::r))=(y,some r):=rfl
theorem z8m{t:Int}{l:List zab}(hd:∀c∈l,∀z∈c.2.2.1,z<256):∀x∈plB t l,x<256:=by
 intro x hx;unfold plB at hx;split at hx
 ·exact zg1 _ _ x hx
 ·obtain⟨c,hc,hx⟩:=qpe.1 hx
  unfold plE at hx;split at hx
  ·exact zg1 _ _ x hx
  ·split at hx
   ·rcases qny.1 hx with h|h
    ·exact zec _ _ (qmt _) x h
    ·exact hd c hc x h
   ·split at hx
    ·rcases qny.1 hx with h|h
     ·exact zec _ _ (qmt _) x h
     ·exact zec _ _ (qmt _) x h
    ·simp at hx
theorem z03{t:Int}:∀(k:Nat) (S:St),S.ok-> ∀c∈(rdL t k S).1,zaq c
 |0,_,_,c,hc=>by simp[rdL] at hc
 |_+1,none,_,c,hc=>by simp[rdL] at hc
 |k+1,some l,hS,c,hc=>by
  simp only[rdL,qof] at hc;rcases hc with rfl|hc
  ·exact z7q hS
  ·exact z03 k _ (qjq hS) c hc
theorem qh3{t:Int}{b:List Nat}{n:Int}(h8:∀x∈b,x<256):∃o,IsPl zaq t b n o:=by
 by_cases hk:0<=t/\t<=3/\0<=n/\n<=65536
 ·obtain⟨m,rfl⟩:=qon hk.2.2.1
  by_cases h1:t=1
  ·subst h1
   exact⟨_,zvp h8⟩
  ·obtain⟨out,S,he⟩:∃out S,rdL t m (some b)=(out,S):=⟨_,_,rfl⟩
   refine⟨_,z0s (by omega) (by omega) (St.ok_some h8) he fun c hc=>?_⟩;have:=z03 (t:=t) m (some b) (St.ok_some h8);rw[he] at this;exact this c hc
 ·exact⟨_,z8i hk⟩
theorem qj3{t:Int}{l:List zab}{b:List Nat}{n:Int}(hd:∀c∈l,zaq c)(hn:(l.length:Int)=n)(h:plO t l=some b):plD t b n=some l:=by
 have h8:∀x∈b,x<256:=by rw[<-(plO_iff.1 h).2];exact z8m fun c hc=>(hd c hc).1.2
 obtain⟨o,ho⟩:=qh3 (t:=t) (n:=n) h8;rw[<-z8j ho];exact ho.compl l hd hn h
theorem z04{l:List Nat}{t:Int}{s:zdc}:(putS l t s).length<=l.length+140000:=by
 unfold putS;split
 ·rename_i h
  have hn:=(zle h).2;have h1:=zap (n:=s.1.toNat) (by omega);split
  ·rename_i hh
   have h2:=zti h hh;have h3:=zap (n:=(zl8 t s).length) (by omega);simp only[qni,qnu,qp3];omega
  ·simp only[qni,qnu,qp3]
   omega
 ·omega
theorem z8n{t:Int}{S:St}:statData (getA t S).1:=by
 have h0:zaq za8:=⟨⟨by simp[za8],by simp[za8]⟩,by simp[za8],by simp[za8]⟩;unfold getA;split
 ·unfold z8k
  split
  ·exact zrr t _
  ·exact⟨h0,h0⟩
 ·exact⟨h0,h0⟩
theorem ztj{t:Int}{S S1 S2:St}{N y:Nat}(e1:lenS 65536 S=(N,S1))(e2:zcf S1=(y,S2)):z8k t S=(if y=1 then(((N:Int),true,(zhy t S2).1.1,(zhy t S2).1.2),(zhy t S2).2) else(((N:Int),false,za8,za8),S2)):=by
 have a:(lenS 65536 S).1=N:=by rw[e1]
 have b:(zcf (lenS 65536 S).2)=(y,S2):=by rw[e1];exact e2
 unfold z8k;rw[b,a]
theorem ztk{t:Int}{S S1 S2:St}{N y:Nat}(e1:lenS 65536 S=(N,S1))(e2:zcf S1=(y,S2)):getA t S=if y<=1/\(z8k t S).2≠none/\zcc t (z8k t S).1=true then z8k t S else(zb0,none):=by
 have b:(zcf (lenS 65536 S).2)=(y,S2):=by rw[e1];exact e2
 unfold getA;rw[b]
theorem qd2{t:Int}{s:zdc}(hr:zcc t s=true)(hs:statData s)(r:List Nat)(hl:r.length<=140737488351232):getA t (some (putS [] t s++r))=(s,some r):=by
 have hn:=(zle hr).2;obtain⟨n,b,p,q⟩:=s;dsimp only at hn;obtain⟨N,rfl⟩:=qon hn.1;have hp:putS [] t ((N:Int),b,p,q)=if b then vp N++[1]++vp (zl8 t ((N:Int),b,p,q)).length++zl8 t ((N:Int),b,p,q) else vp N++[0]:=by unfold putS;rw[if_pos hr];simp
 have hlen:=fun e=>zti hr (show b=true from e)
 have hok:=fun e=>z8d hr (show b=true from e)
 have hno:=fun e=>zl9 hr (show b=true from e)
 have hu:zl8 t ((N:Int),b,p,q)=plB t [p,q]:=rfl;rw[hp];generalize zl8 t ((N:Int),b,p,q)=E at*;cases b with
 |true=>
  have hlen:=hlen rfl;have hok:=hok rfl;have e1:lenS 65536 (some (vp N++[1]++vp E.length++E++r))=(N,some (1::(vp E.length++(E++r)))):=by
   have:vp N++[1]++vp E.length++E++r=vp N++(1::(vp E.length++(E++r))):=by simp
   rw[this];exact zds N _ (by omega) (by omega)
  have e2:zhy t (some (vp E.length++(E++r)))=((p,q),some r):=by
   have e3:lenS (((some (vp E.length++(E++r)):St).getD []).length:Int) (some (vp E.length++(E++r)))=(E.length,some (E++r)):=by
    have:=zap (n:=E.length) (by omega);refine zds _ _ ?_ ?_
    ·simp only[qob,qni];omega
    ·simp only[qob,qni];omega
   unfold zhy;rw[e3];dsimp only;rw[zor];dsimp only;rw[qj3 (l:=[p,q]) (fun c hc=>by
    simp at hc;rcases hc with rfl|rfl
    ·exact hs.1
    ·exact hs.2) (by rfl) (plO_iff.2 ⟨hok,hu.symm⟩)]
  simp only[if_true];rw[ztk e1 rfl,ztj e1 rfl,if_pos rfl,e2];dsimp only;rw[if_pos ⟨by omega,by simp,hr⟩]
 |false=>
  have e1:lenS 65536 (some (vp N++[0]++r))=(N,some (0::r)):=by
   have:vp N++[0]++r=vp N++(0::r):=by simp
   rw[this];exact zds N _ (by omega) (by omega)
  have hz:p=za8/\q=za8:=by
   unfold zcc at hr;split at hr
   ·simp at hr
   ·simpa using hr
  obtain⟨rfl,rfl⟩:=hz;simp only[qrc,if_false];rw[ztk e1 rfl,ztj e1 rfl,if_neg (show¬(0:Nat)=1 by omega)];rw[if_pos ⟨by omega,by simp,hr⟩]
theorem z8o{t:Int}{b r:List Nat}{s:zdc}(h8:∀x∈b,x<256)(h:getA t (some b)=(s,some r)):zcc t s=true/\putS [] t s++r=b:=by
 obtain⟨N0,S1,k0⟩:∃N S1,lenS 65536 (some b)=(N,S1):=⟨_,_,rfl⟩;obtain⟨y0,S2,k1⟩:∃y S2,zcf S1=(y,S2):=⟨_,_,rfl⟩;rw[ztk k0 k1] at h;split at h
 ·rename_i hc
  obtain⟨c1,c2,c3⟩:=hc;rw[h] at c3;refine⟨c3,?_⟩;dsimp only at c3;rw[ztj k0 k1] at h;clear c2;rcases zdf 65536 (some b) (St.ok_some h8) with k|⟨N,r0,e0,hN,_,k⟩
  ·exfalso
   rw[k] at k0;injection k0 with k0 k2;subst k0 k2;rw[zl2] at k1;injection k1 with k1 k2;subst k1 k2;simp at h
  ·injection e0 with e0
   rw[k] at k0;injection k0 with k0 k2;subst k0 k2;cases r0 with
   |nil=>
    have:zcf (some [])=(0,none):=rfl;rw[this] at k1;injection k1 with k1 k2;subst k1 k2;simp at h
   |cons y r1=>
    rw[z3r] at k1;injection k1 with k1 k2;subst k1 k2;by_cases hy:y=1
    ·subst hy
     simp only[if_true] at h;have h81:St.ok (some r1):=St.ok_some fun x hx=>h8 x (by rw[e0];simp[hx])
     unfold zhy at h;generalize hm:(((some r1:St).getD []).length:Int)=m at*;rcases zdf m (some r1) h81 with k2|⟨M,r2,e2,hM,_,k2⟩
     ·rw[k2] at h
      have:(zeq ((0:Nat):Int) none).1=[]:=rfl;split at h
      ·rename_i a b' hp
       dsimp only at hp;rw[this] at hp;have hp:=(plO_iff.1 (znt hp).2.2).2;injection h with _ h;cases h
      ·injection h with _ h
       cases h
     ·injection e2 with e2
      rw[k2] at h;dsimp only at h;split at h
      ·rename_i a b' hp
       injection h with h1 h2;rcases ze4 (M:Int) (some r2) with k3|⟨l,e3,e4,e5,k3⟩
       ·rw[k3] at h2;cases h2
       ·injection e3 with e3
        subst e3;rw[k3] at h2 hp;injection h2 with h2;dsimp only at hp;rw[qng] at h2 hp;have hpb:=(plO_iff.1 (znt hp).2.2).2;have hel:(zl8 t s)=r2.take M:=by rw[<-h1];exact hpb
        have hs1:s.1.toNat=N:=by rw[<-h1];simp
        have hs2:s.2.1=true:=by rw[<-h1]
        unfold putS;rw[if_pos c3,hs2,hs1,hel];simp only[if_true,qnk];rw[qmq,qmr (by omega),<-h2,e0,e2];simp
      ·injection h with _ h
       cases h
    ·rw[if_neg hy] at h
     injection h with h1 h2;injection h2 with h2;obtain rfl:y=0:=by omega
     have hs1:s.1.toNat=N:=by rw[<-h1];simp
     have hs2:s.2.1=false:=by rw[<-h1]
     unfold putS;rw[if_pos c3,hs2,hs1,<-h2,e0];simp
 ·cases h
end Go.Proofs.Y
