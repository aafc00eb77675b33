/- Merged. -/
import Derived.Deep.DeepCutAuto
import Derived.Lib.AppendZeros
import Derived.Test.YtmgfkpnghlmheaaGreatBun15
import Derived.Test.YtmgfkpnghlmheaaGreatBun17
set_option maxHeartbeats 4000000
namespace Go.Proofs.Y
open Go.RowKit Go.Hm
def qgq(S:St):zc7 × St:=if(zbf (lenS 65536 S).2).1=0/\(zbf (lenS 65536 S).2).2≠none then((((lenS 65536 S).1:Int),false,zaz,zaz),(zbf (lenS 65536 S).2).2) else(zbs,none)
def zm4(s:zc7)(g:Nat)(S:St)(w:World)(e:Ending)(w':World):Prop:=e= .returned (zbz s)/\CurS w' g S/\w.grownBy w' (some g)
set_option maxRecDepth 100000 in
theorem qfu{w:World}{g:Nat}{S:St}{t:Int}(h:CurS w g S)(h1:(zbf (lenS 65536 S).2).1≠1)(ht:0<=t/\t<=3):
 Calls Tryz.prog 149 #[.pointer (some ⟨g,0,none⟩),.int .i64 t] w
  (zm4 (qgq S).1 g (qgq S).2 w):=by
 obtain⟨X,hX⟩:∃X,X=qgq S:=⟨_,rfl⟩;rw[<-hX];unfold qgq at hX;have hle:=zbx (m:=65536) S (by omega) h.ok;have hlt:=h.lt;have ha:New w (w.alloc (.cells (zb3 zbs).toArray 63)):=(Below.refl _ _).alloc (Nat.le_refl _) _;have h0:=h.below ha;have L1:=Hz (zcc (m:=65536) h0 (by omega) (by omega));have BZ0:Blk (w.alloc (.cells (zb3 zbs).toArray 63)) w.heap.size 63 (zb3 zbs).toArray:=Blk.new _ _ _;generalize lenS 65536 S=H at*;obtain⟨n,S1⟩:=H;dsimp only at*;have hbl:=zhl (S:=S1);have hRt:zbu t ((n:Int),false,zaz,zaz)=true:=by unfold zbu;rw[if_neg (by dsimp only;omega)];simp
 have SR:=fun(W:World)=>zg5 (w:=W) (t:=t) (s:=((n:Int),false,zaz,zaz)) (by unfold zco zaz;simp)
 rw[hRt] at SR;have SR:Hid (∀W,Calls Tryz.prog 119 #[.int .i64 t,.agg #[.int .i64 (n:Int),.bool false,.bool false,.int .i64 0,.string ⟨#[]⟩,.int .i64 0,.int .i64 0,.bool false,.int .i64 0,.string ⟨#[]⟩,.int .i64 0,.int .i64 0]] W (zak (.bool true) W)):=Hz SR;have HX:=Hz hX;clear hRt h hX;go_enter Tryz.func149,Tryz.ntmps149
 go_wp2_with fail
 refine L1.out.mono ?_;rintro e w1 ⟨rfl,s1,g1⟩;have hbl:=hbl s1.ok;have C2:=Hz (ze8 (s1.below ((Below.refl _ _).alloc (Nat.le_refl _) (.cells #[.int .i64 (n:Int),.bool false,.bool false,.int .i64 0,.string ⟨#[]⟩,.int .i64 0,.int .i64 0,.bool false,.int .i64 0,.string ⟨#[]⟩,.int .i64 0,.int .i64 0] 63))));have hz1:=g1.size;have BZ1:=(BZ0.grown g1 (by intro e;injection e with e;omega)).alloc (.cells #[.int .i64 (n:Int),.bool false,.bool false,.int .i64 0,.string ⟨#[]⟩,.int .i64 0,.int .i64 0,.bool false,.int .i64 0,.string ⟨#[]⟩,.int .i64 0,.int .i64 0] 63);have BT1:=Blk.new w1 63 #[.int .i64 (n:Int),.bool false,.bool false,.int .i64 0,.string ⟨#[]⟩,.int .i64 0,.int .i64 0,.bool false,.int .i64 0,.string ⟨#[]⟩,.int .i64 0,.int .i64 0];have G1:=(Far.of_new ha (g:=g)).trans (g1.trans (Far.of_new ((Below.refl _ w1).alloc (Nat.le_refl _) (.cells #[.int .i64 (n:Int),.bool false,.bool false,.int .i64 0,.string ⟨#[]⟩,.int .i64 0,.int .i64 0,.bool false,.int .i64 0,.string ⟨#[]⟩,.int .i64 0,.int .i64 0] 63))));generalize zbf S1=Bq at*;obtain⟨y,S2⟩:=Bq;dsimp only at*;clear L1 h0 BZ0 s1 g1 ha;go_wp2_with fail
 refine C2.out.mono ?_;rintro e w2 ⟨rfl,s2,g2⟩;have hz2:=g2.size;simp only[World.size_alloc] at hz1 hz2;have BZ:=BZ1.grown g2 (by intro e;injection e with e;omega);have BT:=BT1.grown g2 (by intro e;injection e with e;omega);have G2:=G1.trans g2;clear C2 BZ1 BT1 G1 g2;obtain⟨x0,x1,x2,x3,x4,x5,x6,x7,x8,x9,x10,x11⟩:=za6 BT;have y1:((y:Int)==1)=false:=beq_eq_false_iff_ne.2 (by omega);by_cases hy:1<y
 ·have hX:=HX.out
  rw[if_neg (by omega)] at hX;clear HX;have HX:=Hz hX;clear hX;have t1:decide ((1:Int)<(y:Int))=true:=by simp;omega
  have F:=Hz (zjq s2);go_wp2_with fail
  refine F.out.mono ?_;rintro e w3 ⟨rfl,s3,g3⟩;have hz3:=g3.size;have BZ3:=BZ.grown g3 (by intro e;injection e with e;omega);have G3:=Hz (G2.trans g3);have HS3:=Hz s3;clear F BZ BT G2 g3 x0 x1 x2 x3 x4 x5 x6 x7 x8 x9 x10 x11 s2 s3
  go_wp2_with (refine zah rfl 63 (.tmp 4) (.tmp 37) rfl w.heap.size _ rfl rfl BZ3 (by kernel_rfl) (by simp[zb3,zbs,zan]) (by simp[Value.oneCell']) ?_
               intro W5 BR G5;obtain⟨s0,s1,s2,s3,s4,s5,s6,s7,s8,s9,s10,s11⟩:=za6 BR)
  have hX:=HX.out;subst hX;exact bodyPost_ret (v:=zbz zbs) (by simp[results,Tryz.results149,go_sem,s0,s1,s2,s3,s4,s5,s6,s7,s8,s9,s10,s11,zbz,zb3,zan,zbs,zaz,show zac []=⟨#[]⟩ from rfl]) rfl ⟨rfl,HS3.out.keep G5 BZ3 (by omega) (by decide),zbd G3.out G5 (Nat.le_refl _)⟩
 ·obtain rfl:y=0:=by omega
  have t1:decide ((1:Int)<((0:Nat):Int))=false:=by simp
  have BD:=Hz (zzi s2);cases S2 with
  |none=>
   have hX:=HX.out;rw[if_neg (by simp)] at hX;clear HX;have HX:=Hz hX;clear hX;go_wp2_with fail
   refine BD.out.mono ?_;rintro e w2' ⟨rfl,rfl⟩;have F:=Hz (zjq s2);go_wp2_with fail
   refine F.out.mono ?_;rintro e w3 ⟨rfl,s3,g3⟩;have hz3:=g3.size;have BZ3:=BZ.grown g3 (by intro e;injection e with e;omega);have G3:=Hz (G2.trans g3);have HS3:=Hz s3;clear F BZ BT G2 g3 x0 x1 x2 x3 x4 x5 x6 x7 x8 x9 x10 x11 s2 s3
   go_wp2_with (refine zah rfl 63 (.tmp 4) (.tmp 37) rfl w.heap.size _ rfl rfl BZ3 (by kernel_rfl) (by simp[zb3,zbs,zan]) (by simp[Value.oneCell']) ?_
                intro W5 BR G5;obtain⟨s0,s1,s2,s3,s4,s5,s6,s7,s8,s9,s10,s11⟩:=za6 BR)
   have hX:=HX.out;subst hX;exact bodyPost_ret (v:=zbz zbs) (by simp[results,Tryz.results149,go_sem,s0,s1,s2,s3,s4,s5,s6,s7,s8,s9,s10,s11,zbz,zb3,zan,zbs,zaz,show zac []=⟨#[]⟩ from rfl]) rfl ⟨rfl,HS3.out.keep G5 BZ3 (by omega) (by decide),zbd G3.out G5 (Nat.le_refl _)⟩
  |some S2=>
   have hX:=HX.out;rw[if_pos ⟨rfl,by simp⟩] at hX;clear HX;have HX:=Hz hX;clear hX;go_wp2_with fail
   refine BD.out.mono ?_;rintro e w2' ⟨rfl,rfl⟩;go_wp2_with fail
   refine(SR.out _).mono ?_;rintro e w3 ⟨rfl,b3⟩;have hz3:=b3.size;have BZ3:=BZ.below b3 BZ.lt;have BT3:=BT.below b3 BT.lt;have G3:=Hz (G2.trans (Far.of_new b3));have HS3:=Hz (s2.below b3);clear BZ BT G2 b3 x0 x1 x2 x3 x4 x5 x6 x7 x8 x9 x10 x11 s2;obtain⟨x0,x1,x2,x3,x4,x5,x6,x7,x8,x9,x10,x11⟩:=za6 BT3
   go_wp2_with (refine zah rfl 63 (.tmp 4) (.tmp 38) rfl w.heap.size _ rfl rfl BZ3 (by kernel_rfl) (by simp[zb3,zbs,zan]) (by simp[Value.oneCell']) ?_
                intro W5 BR G5;obtain⟨s0,s1,s2,s3,s4,s5,s6,s7,s8,s9,s10,s11⟩:=za6 BR)
   have hX:=HX.out;subst hX;exact bodyPost_ret (v:=zbz ((n:Int),false,zaz,zaz)) (by simp[results,Tryz.results149,go_sem,s0,s1,s2,s3,s4,s5,s6,s7,s8,s9,s10,s11,zbz,zb3,zan,zaz,show zac []=⟨#[]⟩ from rfl]) rfl ⟨rfl,HS3.out.keep G5 BZ3 (by omega) (by decide),zbd G3.out G5 (Nat.le_refl _)⟩
open Go.RowKit Go.Hm
open Classical in
noncomputable def plD(t:Int)(b:List Nat)(n:Int):Option (List zab):=
 if h:∃l:List zab,(∀c∈l,zai c)/\(l.length:Int)=n/\plO t l=some b then some h.choose else none
theorem z6n{t:Int}{b:List Nat}{n:Int}{o:Option (List zab)}(h:IsPl zai t b n o):o=plD t b n:=by
 unfold plD;split
 ·rename_i hx
  obtain⟨h1,h2,h3⟩:=hx.choose_spec;exact h.compl _ h1 h2 h3
 ·rename_i hx
  cases o with
  |none=>rfl
  |some l=>
   obtain⟨h1,h2,h3⟩:=h.sound l rfl;exact absurd ⟨l,h3,h1,h2⟩ hx
theorem zm5{t:Int}{b:List Nat}{n:Int}{l:List zab}(h:plD t b n=some l):(∀c∈l,zai c)/\(l.length:Int)=n/\plO t l=some b:=by
 unfold plD at h;split at h
 ·rename_i hx
  injection h with h;subst h;exact hx.choose_spec
 ·cases h
noncomputable def zhu(t:Int)(S:St):(zab × zab) × St:=
 match plD t (zbr ((lenS ((S.getD []).length:Int) S).1:Int) (lenS ((S.getD []).length:Int) S).2).1 2 with
 |some [a,b]=>((a,b),(zbr ((lenS ((S.getD []).length:Int) S).1:Int) (lenS ((S.getD []).length:Int) S).2).2)
 |_=>((zaz,zaz),none)
theorem zqz(t:Int)(S:St):zai (zhu t S).1.1/\zai (zhu t S).1.2:=by
 have h0:zai zaz:=⟨⟨by simp[zaz],by simp[zaz]⟩,by simp[zaz],by simp[zaz]⟩;unfold zhu;split
 ·rename_i a b h
  have:=(zm5 h).1;exact⟨this a (by simp),this b (by simp)⟩
 ·exact⟨h0,h0⟩
theorem zp6{w w':World}{T:List Nat}{base sz n:Nat}{e:TypeId}{v:Value}{xs:List Value}(h:w.ownsRow base e sz v n xs)(k:Turns T w w')(hT:∀x∈T,x<base):w'.ownsRow base e sz v n xs:=by
 refine⟨h.1,?_⟩;rcases h.2 with hn|⟨g,cap,cur,rfl,hbg,hgg,rest⟩
 ·exact .inl hn
 ·refine .inr ⟨g,cap,cur,rfl,hbg,?_,rest⟩
  rw[k.block g (Array.getElem?_eq_some_iff.1 hgg).1 (fun hm=>by have:=hT g hm;omega)];exact hgg
theorem z2i{W:World}{base c:Nat}{e:TypeId}{ad:Addr}{p q:zab}(h:W.ownsRow base e 5 (.slice (some ad) 2 c) 2 (recs zan [p,q])):
 (W.cell? ad=some (.bool p.1)/\W.cell? ⟨ad.block,ad.off+1,none⟩=some (.int .i64 p.2.1)/\W.cell? ⟨ad.block,ad.off+2,none⟩=some (.string (zac p.2.2.1))/\W.cell? ⟨ad.block,ad.off+3,none⟩=some (.int .i64 p.2.2.2.1)/\W.cell? ⟨ad.block,ad.off+4,none⟩=some (.int .i64 p.2.2.2.2))
 /\W.cell? ⟨ad.block,ad.off+5,none⟩=some (.bool q.1)/\W.cell? ⟨ad.block,ad.off+5+1,none⟩=some (.int .i64 q.2.1)/\W.cell? ⟨ad.block,ad.off+5+2,none⟩=some (.string (zac q.2.2.1))/\W.cell? ⟨ad.block,ad.off+5+3,none⟩=some (.int .i64 q.2.2.2.1)/\W.cell? ⟨ad.block,ad.off+5+4,none⟩=some (.int .i64 q.2.2.2.2):=by
 have r:=Reads.of_own h;obtain⟨a1,e1,_,d⟩:=r.cell5 (i:=0) (by omega);obtain⟨a2,e2,_,d'⟩:=r.cell5 (i:=1) (by omega);injection e1 with e1;injection e2 with e2;subst e1 e2;rw[Nat.zero_mul,zj1] at d;exact⟨d,d'⟩
theorem zxo{w:World}{g:Nat}(cells:Array Value):w.grownBy (w.setRow g cells) (some g):=
 ⟨rfl,rfl,rfl,by simp[World.setRow],fun k _ hne=>by simp[World.setRow,Array.getElem?_modify];intro e;exact absurd (by rw[e]) hne⟩
theorem zji{P:Program}{o:Oper}{a:Act}{w:World}{K:Act->World->Prop}{Q:Exit->Act->World->Prop}(ty:TypeId)(x y:Operand)(ho:o.op= .store ty x y)
 (g:Nat)(cells:Array Value)(hx:a.eval x= .pointer (some ⟨g,0,none⟩))(hy:a.eval y= .agg cells){t:TypeId}{old:Array Value}(hB:Blk w g t old)(hi:(P.info? ty).map (·.size)=some cells.size)
 (hold:old.size=cells.size)(h1:cells.all (·.oneCell')=true)
 (h:∀W,Blk W g t cells->w.grownBy W (some g)->K (a.put o.dst undef) W):o.wp P a w K Q:=by
 refine wp_store_row ty x y ho g cells hx hy t old hB hi hold h1 ?_;refine h _ ?_ (zxo cells);unfold Blk at hB⊢;simp[World.setRow,Array.getElem?_modify,hB]
def qbq(p:zab × zab)(g:Nat)(S:St)(w:World)(e:Ending)(w':World):Prop:=e= .returned (.tuple #[zca p.1,zca p.2])/\CurS w' g S/\w.grownBy w' (some g)
set_option maxRecDepth 100000 in
theorem qbr{w:World}{g:Nat}{S:St}{t:Int}(h:CurS w g S)(hl:(S.getD []).length<=140737488351232):
 Calls Tryz.prog 172 #[.pointer (some ⟨g,0,none⟩),.int .i64 t] w (qbq (zhu t S).1 g (zhu t S).2 w):=by
 obtain⟨X,hX⟩:∃X,X=zhu t S:=⟨_,rfl⟩;rw[<-hX];unfold zhu at hX;have hle:=zbx (m:=((S.getD []).length:Int)) S (by omega) h.ok;have hok1:=zba (m:=((S.getD []).length:Int)) h.ok;have hlt:=h.lt;have ha:New w ((w.alloc (.cells #[.bool false,.int .i64 0,.string ⟨#[]⟩,.int .i64 0,.int .i64 0] 61)).alloc (.cells #[.bool false,.int .i64 0,.string ⟨#[]⟩,.int .i64 0,.int .i64 0] 61)):=((Below.refl _ _).alloc (Nat.le_refl _) _).alloc (by simp) _;have h0:=h.below ha;have LF:=zua h0;unfold zfg at LF;have LF:=Hz LF;have L1:=Hz (zcc (m:=((S.getD []).length:Int)) h0 (by omega) (by omega));have BA:Blk ((w.alloc (.cells #[.bool false,.int .i64 0,.string ⟨#[]⟩,.int .i64 0,.int .i64 0] 61)).alloc (.cells #[.bool false,.int .i64 0,.string ⟨#[]⟩,.int .i64 0,.int .i64 0] 61)) w.heap.size 61 #[.bool false,.int .i64 0,.string ⟨#[]⟩,.int .i64 0,.int .i64 0]:=(Blk.new _ _ _).alloc _;have BB:Blk ((w.alloc (.cells #[.bool false,.int .i64 0,.string ⟨#[]⟩,.int .i64 0,.int .i64 0] 61)).alloc (.cells #[.bool false,.int .i64 0,.string ⟨#[]⟩,.int .i64 0,.int .i64 0] 61)) (w.heap.size+1) 61 #[.bool false,.int .i64 0,.string ⟨#[]⟩,.int .i64 0,.int .i64 0]:=by have:=Blk.new (w.alloc (.cells #[.bool false,.int .i64 0,.string ⟨#[]⟩,.int .i64 0,.int .i64 0] 61)) 61 #[.bool false,.int .i64 0,.string ⟨#[]⟩,.int .i64 0,.int .i64 0];rwa[World.size_alloc] at this
 generalize hL:(S.getD []).length=L at*;generalize lenS (L:Int) S=H at*;obtain⟨n,S1⟩:=H;dsimp only at*;have htl:=zem (n:=(n:Int)) (S:=S1) (by omega);have htk:=zct (n:=(n:Int)) hok1;have HX:=Hz hX;have HL:=Hz hL;clear h hX hL;go_enter Tryz.func172,Tryz.ntmps172
 go_wp2_with fail
 refine LF.out.mono ?_;rintro e w1' ⟨rfl,rfl⟩;go_wp2_with fail
 refine L1.out.mono ?_;rintro e w1 ⟨rfl,s1,g1⟩;have hz1:=g1.size;simp only[World.size_alloc] at hz1;have BA1:=BA.grown g1 (by intro e;injection e with e;omega);have BB1:=BB.grown g1 (by intro e;injection e with e;omega);have G1:=(Far.of_new ha (g:=g)).trans g1;have T1:=Hz (zc6 (n:=(n:Int)) s1 (by omega) (by omega));clear L1 LF h0 BA BB s1 g1 ha;generalize zbr (n:Int) S1=Q at*;obtain⟨x,S2⟩:=Q;dsimp only at*;go_wp2_with fail
 refine T1.out.mono ?_;rintro e w2 ⟨A2,n2,c2,rfl,rfl,o2,s2,g2⟩;have hz2:=g2.size;have BA2:=BA1.grown g2 (by intro e;injection e with e;omega);have BB2:=BB1.grown g2 (by intro e;injection e with e;omega);have G2:=G1.trans g2;have PD:=Hz (zju (t:=t) (n:=2) (c:=c2) o2.reads htk.2 (by omega));clear T1 BA1 BB1 G1 g2 o2;go_wp2_with fail
 refine PD.out.mono ?_;rintro e w3 ⟨o,ho,h3⟩;have hX:=HX.out;have ho:=z6n ho;rw[<-ho] at hX;cases o with
 |none=>
  obtain⟨rfl,b3⟩:=h3;dsimp only at hX;clear HX;have HX:=Hz hX;have hz3:=b3.size;have BA3:=BA2.below b3 BA2.lt;have BB3:=BB2.below b3 BB2.lt;have G3:=G2.trans (Far.of_new b3);have F:=Hz (zjq (s2.below b3));clear PD BA2 BB2 G2 s2 b3 ho hX;go_wp2_with fail
  refine F.out.mono ?_;rintro e w4 ⟨rfl,s4,g4⟩;have hz4:=g4.size;have BA4:=BA3.grown g4 (by intro e;injection e with e;omega);have BB4:=BB3.grown g4 (by intro e;injection e with e;omega);have G4:=Hz (G3.trans g4);have HS4:=Hz s4;clear F BA3 BB3 G3 s4 g4;go_wp2_with (first
   |(refine zah rfl 61 _ (.tmp 25) rfl w.heap.size _ rfl rfl BA4 (by kernel_rfl) rfl (by simp[Value.oneCell']) ?_
     intro W5 BR G5;have BB5:=BB4.grown G5 (by simp))
   |(refine zah rfl 61 _ (.tmp 26) rfl (w.heap.size+1) _ rfl rfl BB5 (by kernel_rfl) rfl (by simp[Value.oneCell']) ?_
     intro W6 BQ G6;have BR6:=BR.grown G6 (by simp);obtain⟨x0,x1,x2,x3,x4⟩:=zcb BR6;obtain⟨y0,y1,y2,y3,y4⟩:=zcb BQ))
  have hX:=HX.out;subst hX;have hz5:=G5.size;exact bodyPost_ret (v:= .tuple #[zca zaz,zca zaz]) (by simp[results,Tryz.results172,go_sem,x0,x1,x2,x3,x4,y0,y1,y2,y3,y4,zca,zan,zaz,show zac []=⟨#[]⟩ from rfl]) rfl ⟨rfl,(HS4.out.keep G5 BA4 (by omega) (by decide)).keep G6 BB5 (by omega) (by decide),zbd (zbd G4.out G5 (Nat.le_refl _)) G6 (by omega)⟩
 |some l=>
  obtain⟨A3,n3,c3,rfl,o3,b3⟩:=h3;obtain⟨hd,hlen,-⟩:=zm5 ho.symm;have hl2:l.length=2:=by omega
  obtain⟨p,q,rfl⟩:∃p q,l=[p,q]:=by
   match l,hl2 with
   | [p,q],_=>exact⟨p,q,rfl⟩
  dsimp only at hX;have r3:=Reads.of_own o3;obtain rfl:n3=2:=by have:=r3.lenCell;simpa using this
  obtain⟨ad,rfl,hb,d0,d1,d2,d3,d4⟩:=r3.cell5 (i:=0) (by omega);obtain⟨ad',e,_,d5,d6,d7,d8,d9⟩:=r3.cell5 (i:=1) (by omega);injection e with e;subst e;simp only[List.getD_cons_zero,List.getD_cons_succ,Nat.zero_mul,Nat.one_mul] at d0 d1 d2 d3 d4 d5 d6 d7 d8 d9;obtain⟨p0,p1,p2,p3,p4⟩:=p;obtain⟨q0,q1,q2,q3,q4⟩:=q;dsimp only at d0 d1 d2 d3 d4 d5 d6 d7 d8 d9;clear HX;have HX:=Hz hX;have hz3:=b3.size;have BA3:=BA2.below b3 BA2.lt;have BB3:=BB2.below b3 BB2.lt;have G3:=Hz (G2.trans (Far.of_new b3));have HS3:=Hz (s2.below b3);clear PD BA2 BB2 G2 s2 b3 ho hX r3 hlen hl2;have HF:=Hz (fun(W:World) (hW:Turns [w.heap.size,w.heap.size+1] w3 W)=>z2i (zp6 o3 hW (by simp;omega)));dsimp only at HF;clear d0 d1 d2 d3 d4 d5 d6 d7 d8 d9 o3 LF;go_upto_region 6 with(fail)
  refine zam (Turns [w.heap.size,w.heap.size+1]) [(true,0),(true,1),(true,2),(true,3),(true,4),(true,5),(false,6),(false,7)]
   (Turns.refl _) Turns.trans (by kernel_rfl) (by kernel_rfl) (by kernel_rfl) (by kernel_rfl) ?_
  have tD:=Turns.drew [w.heap.size,w.heap.size+1] w3;have BA3:=BA3.drew;have BB3:=BB3.drew;have G3:=Hz (G3.out.trans (Far.drew g w3));have HS3:=Hz (HS3.out.below (New.drew w3));repeat(first
   |(refine zaq rfl rfl (v:=?_) (fun W hW=>?_) ?_
     rotate_left
     ·obtain⟨⟨d0,d1,d2,d3,d4⟩,d5,d6,d7,d8,d9⟩:=HF.out W (tD.trans hW)
      go_simp<;> with_reducible rfl
     simp only[Act.put,List.setIfInBounds_toArray,List.set_cons_zero,List.set_cons_succ]))
  refine za8 rfl rfl (fun K hK=>?_);refine zji 61 _ (.tmp 29) rfl w.heap.size _ rfl rfl BA3 (by kernel_rfl) rfl (by simp[Value.oneCell']) ?_;intro W5 BR G5;have BB5:=BB3.grown G5 (by simp);refine hK _ _ (Turns.of_far G5 (by simp)) ?_;clear hK;refine za8 rfl rfl (fun K hK=>?_);refine zji 61 _ (.tmp 32) rfl (w.heap.size+1) _ rfl rfl BB5 (by kernel_rfl) rfl (by simp[Value.oneCell']) ?_;intro W6 BQ G6;have BR6:=BR.grown G6 (by simp);refine hK _ _ (Turns.of_far G6 (by simp)) ?_;clear hK;refine zb2 ?_;obtain⟨x0,x1,x2,x3,x4⟩:=zcb BR6;obtain⟨y0,y1,y2,y3,y4⟩:=zcb BQ;go_wp2_with fail
  have hX:=HX.out;subst hX;have hz5:=G5.size;have hz4:w3.heap.size<=W5.heap.size:=hz5;exact bodyPost_ret (v:= .tuple #[zca (p0,p1,p2,p3,p4),zca (q0,q1,q2,q3,q4)]) (by simp[results,Tryz.results172,go_sem,x0,x1,x2,x3,x4,y0,y1,y2,y3,y4,zca,zan]) rfl ⟨rfl,(HS3.out.keep G5 BA3 (by omega) (by decide)).keep G6 BB5 (by omega) (by decide),zbd (zbd G3.out G5 (Nat.le_refl _)) G6 (by omega)⟩
open Go.RowKit Go.Hm
theorem elP:ElT Tryz.prog 75 78 (.agg #[.int .i64 0,.int .i64 0]) 2 16:=⟨by kernel_rfl,by kernel_rfl,rfl,by omega⟩
def z67(l:List (Int × Int))(w:World)(e:Ending)(w':World):Prop:=∃A n c,e= .returned (.slice A n c)/\w'.ownsRow w.heap.size 78 2 (.slice A n c) n (zc0 l)/\New w w'
theorem z2r(l:List (Int × Int))(p:Int × Int):zc0 (l++[p])=zc0 l++[.int .i64 p.1,.int .i64 p.2]:=by simp[zc0]
set_option maxRecDepth 100000 in
theorem z0f(f t s:Int)(h1: -9223372036854775808<=f)(h2:t<=9223372036854775807)(h3:s<=9223372036854775807)(w:World):
 Calls Tryz.prog 28 #[.int .i64 f,.int .i64 t,.int .i64 s] w (z67 (zcq f t s) w):=by
 by_cases hg:f<0\/t<=f\/65536<t\/s<1
 ·rw[zuu hg]
  by_cases g1:f<0;all_goals try(have d1:decide (f<0)=false:=by simpa using g1)
  all_goals try(by_cases g2:t<=f)
  all_goals try(have d2:decide (t<=f)=false:=by simpa using g2)
  all_goals try(by_cases g3:65536<t)
  all_goals try(have d3:decide (65536<t)=false:=by simpa using g3)
  all_goals try(have g4:s<1:=by omega)
  all_goals
   clear hg;go_enter Tryz.func28,Tryz.ntmps28
   go_wp2
   go_ret
   exact⟨_,_,_,rfl,zcp,New.refl _⟩
 ·obtain⟨f,rfl⟩:=Int.eq_ofNat_of_zero_le (show 0<=f by omega)
  obtain⟨t,rfl⟩:=Int.eq_ofNat_of_zero_le (show 0<=t by omega);obtain⟨s,rfl⟩:=Int.eq_ofNat_of_zero_le (show 0<=s by omega);have k1:f<t:=by omega
  have k2:t<=65536:=by omega
  have k3:0<s:=by omega
  have k4:s<=9223372036854775807:=by omega
  rw[zz6 k1 k2 k3];have d1:decide ((f:Int)<0)=false:=by simp
  have d2:decide (t<=f)=false:=by simp;omega
  have d3:decide ((65536:Int)<(t:Int))=false:=by simp;omega
  have d4:decide ((s:Int)<1)=false:=by simp;omega
  have hN:=zz4 (f:=f) (t:=t) k3;clear hg h1 h2 h3;go_enter Tryz.func28,Tryz.ntmps28
  go_wp2
  go_loopw [7,8] (fun v i wr=>∃(k:Nat) (A:Option Addr) (c:Nat),k<=zhv f t s/\i= .int .i64 ((atN f t s k:Nat):Int)/\v= .slice A k c/\wr.ownsRow w.heap.size 78 2 (.slice A k c) k (zc0 ((zgl f t s).take k))/\New w wr) (fun _ i _=>t-(intOf i).toNat)
  case atStart=>exact⟨0,none,0,by omega,by congr 1;unfold atN;simp;omega,rfl,zcp,New.refl _⟩
  case round=>
   obtain⟨k,A,c,hk,rfl,rfl,o,b⟩:=hrel;have L:=zgm (f:=f) (t:=t) k3 k;by_cases hlt:k<zhv f t s
   ·obtain⟨e1,e2,e3⟩:=zz5 (L.1 hlt)
    have T:=Hz (zoj hlt);have E3:=Hz e3;have hp:atN f t s k<t:=by have:=L.1 hlt;omega
    clear L e1 e3;have HE2:=Hz e2;clear e2;generalize atN f t s k=p at*;generalize hq:atN f t s (k+1)=q at*;have HQ:=Hz hq;have e2:=HE2.out;have z0:=b.size;have hk6:k<=65536:=by omega
    by_cases hm:t-p<s;all_goals
     first
     |(have m2:(p:Int)+((t-p:Nat):Int)=(q:Int):=by have:=HE2.out;omega)
     |(have m2:(p:Int)+(s:Int)=(q:Int):=by have:=HE2.out;omega)
     have mq:p<q/\q<=t:=by have:=HE2.out;omega
     have M2:=Hz m2;clear m2
     go_wp2_with (refine zdc elP rfl (.tmp 36) (.tmp 40) rfl (W:=w) (B:=w.heap.size) (base:=w.heap.size) (n:=k) o rfl rfl b (Nat.le_refl _) z0 rfl (by simp[Value.oneCell']) (by omega) (by simp only[maxLen];omega) ?_
                  intro A' c' w' _ _ o' g' b' _ _)
     go_roundw
     case rel=>
      have e2:=HE2.out;refine⟨k+1,A',c',by omega,by rw[HQ.out];congr 1<;> omega,rfl,?_,b'⟩;rw[T.out,z2r,E3.out];first
       |(rw[show(p:Int)+((t:Int)-(p:Int))=(q:Int) by omega] at o';exact o')
       |(rw[show(p:Int)+min (s:Int) ((t:Int)-(p:Int))=(q:Int) by omega] at o';exact o')
       |(rw[show(p:Int)+(s:Int)=(q:Int) by omega] at o';exact o')
     case measure=>simp[intOf];omega
   ·have hk2:k=zhv f t s:=by omega
    have hp:atN f t s k=t:=by
     have: ¬f+k*s<t:=fun hh=>hlt (L.2 hh)
     unfold atN;omega
    rw[hp] at*;have HK:=Hz hk2;have HO:=Hz o;clear hk2 L hp o;go_wp2
    go_ret
    exact⟨_,_,_,rfl,by have o:=HO.out;rw[HK.out,List.take_of_length_le (by rw[zfu];omega)] at o;rw[HK.out];exact o,b⟩
end Go.Proofs.Y
namespace Go.Hm
open Go Go.RowKit
theorem zmi{P:Program}{w:World}{ops:Array Oper}{rest:List Oper}{o:Oper}{a:Act}{Q:Exit->Act->World->Prop}{t e tn:TypeId}{z:Value}{bytes:Nat}{kn:IntKind}(E:ElT P t e z 1 bytes)(hgd:o.guard=none)(s x:Operand)
 (ho:o.op= .call {callee:= .builtin .append,args:= #[s,x],argTypes:= #[t,tn]})(htn:P.underlying tn=some (.int kn))(hz1:z.oneCell'=true)(hs:a.eval s= .slice none 0 0)(n:Nat)(hx:a.eval x= .int .i64 (n:Int))(h0:0<n)(hn:n*bytes<=140737488355328)(hm:n<=maxLen)
 (h:∀w' cap,n<=cap->cap<=maxLen->w'.ownsRow w.heap.size e 1 (.slice (some ⟨w.heap.size,0,none⟩) 0 cap) 0 []->Below w.heap.size w w'->wpList P ops Q rest (a.put o.dst (.slice (some ⟨w.heap.size,0,none⟩) n cap)) w'):
 wpList P ops Q (o::rest) a w:=by
 obtain⟨i,hi,hz0,hs1,hb1⟩:=info_parts E.hi;have hzc:z.cells= #[z]:=by
  revert hz1;unfold Value.oneCell' Value.cells
  cases z<;> simp
 have hsm:n<=9223372036854775807:=by simp only[maxLen] at hm;omega
 refine Lib.wpList_append_run w hgd s x t tn ho _ _ hs hx _ _ (Lib.run_append_nil_zeros w t tn o.type e i z .i64 kn E.ht htn hi hz0 n h0 (by omega) (by omega) (by rw[hb1];omega)) ?_;refine h _ _ (grownCap_ge w n 0 e) (grownCap_le_maxLen w n 0 e hm) ⟨rfl,.inr ⟨w.heap.size,_,_,rfl,Nat.le_refl _,heap_alloc_new w.drew _,Nat.zero_le _,grownCap_le_maxLen w n 0 e hm,?_,by simp⟩⟩ ⟨rfl,rfl,rfl,by simp,fun k hk=>heap_alloc_old w.drew _ hk⟩;have:=grownCap_ge w n 0 e;simp only[Array.size_append,size_zeroCells,hzc];simp;omega
open Go Go.RowKit
abbrev zh6:=Option Addr × Nat × List Nat
def zja(d:zh6):List Value:=[.slice d.1 d.2.2.length d.2.1]
def BytIn(w:World)(d:zh6):Prop:=Reads w w.heap.size 1 d.1 d.2.2.length (za2 .u8 d.2.2)
theorem BytIn.later{w w':World}{d:zh6}(h:BytIn w d)(hb:New w w'):BytIn w' d:=Reads.later h hb
def zdb(D:List zh6):List Nat:=D.flatMap fun d=>d.2.2
theorem z3l(D:List zh6)(d:zh6):zdb (D++[d])=zdb D++d.2.2:=by simp[zdb]
theorem zrw{D:List zh6}{k:Nat}(hk:k<D.length):zdb (D.take (k+1))=zdb (D.take k)++(D.getD k (none,0,[])).2.2:=by rw[zae _ k (none,0,[]) hk,z3l]
theorem zk1(D:List zh6)(k:Nat):(zdb (D.take k)).length<=(zdb D).length:=by
 have e:zdb D=zdb (D.take k)++zdb (D.drop k):=by unfold zdb;rw[<-List.flatMap_append,List.take_append_drop]
 rw[e,List.length_append];omega
theorem z8s{w:World}{B:Nat}{A:Option Addr}{n:Nat}{D:List zh6}(h:Reads w B 1 A n (recs zja D)){k:Nat}(hk:k<D.length):
 ∃ad,A=some ad/\ad.block<B/\w.cell? (ad.add k)=some (.slice (D.getD k (none,0,[])).1 (D.getD k (none,0,[])).2.2.length (D.getD k (none,0,[])).2.1):=by
 have hn:n=D.length:=by have:=h.1;rw[zat (sz:=1) (fun _=>rfl)] at this;omega
 obtain⟨ad,u,e,hb,hu,hc⟩:=h.at_ (k:=k) (by omega);have:=zn0 (f:=zja) (sz:=1) (fun _=>rfl) D (none,0,[]) k 0 hk (by omega);rw[Nat.mul_one,Nat.add_zero] at this;rw[this] at hu;obtain rfl:=Option.some.inj hu;exact⟨ad,e,hb,hc⟩
end Go.Hm
namespace Go.Proofs.Y
open Go.RowKit Go.Hm
theorem qi2:Tryz.prog.underlying 3=some (.int .i64):=by kernel_rfl
theorem z8t{w:World}{n:Nat}(hn:n<=140737488351232):
 Calls Tryz.prog 66 #[.slice none 0 0,.int .i64 (n:Int)] w (fun e w'=>∃A c,e= .returned (.slice A 0 c)/\w'.ownsRow w.heap.size 5 1 (.slice A 0 c) 0 []/\New w w'):=by
 by_cases h0:n=0
 ·subst h0
  go_enter Tryz.func66,Tryz.ntmps66
  go_wp2_with fail
  go_ret
  exact⟨none,0,rfl,World.ownsRow_nil _ _ _ _,New.refl _⟩
 ·have h1: ¬((n:Int)<0):=by omega
  have h2:(0:Int)<(n:Int):=by omega
  have h3:wrap64 ((n:Int)-0)=(n:Int):=by unfold wrap64;omega
  have h4:wrap64 (n:Int)=(n:Int):=by unfold wrap64;omega
  go_enter Tryz.func66,Tryz.ntmps66
  go_wp2_with (refine zmi elB rfl (.tmp 20) (.tmp 21) rfl qi2 rfl rfl n rfl (by omega) (by omega) (by simp only[maxLen];omega) ?_
               intro w1 cap hc1 hc2 o1 b1)
  go_ret
  exact⟨_,cap,rfl,o1,b1⟩
end Go.Proofs.Y
