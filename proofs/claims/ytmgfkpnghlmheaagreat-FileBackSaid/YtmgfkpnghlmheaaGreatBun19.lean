/- Texts merged and made short: StaG, StaH, Lay, DelC, MkB. -/
import Derived.BigRegion
import Derived.Deep.DeepCutAuto
import Derived.RegionTactic
import Derived.Test.YtmgfkpnghlmheaaGreatBun1
import Derived.Test.YtmgfkpnghlmheaaGreatBun11
import Derived.Test.YtmgfkpnghlmheaaGreatBun13
import Derived.Test.YtmgfkpnghlmheaaGreatBun14
import Derived.Test.YtmgfkpnghlmheaaGreatBun16
import Derived.Test.YtmgfkpnghlmheaaGreatBun4
import Derived.Test.YtmgfkpnghlmheaaGreatBun5
import Derived.Test.YtmgfkpnghlmheaaGreatBun7
set_option maxHeartbeats 4000000
namespace Go.Proofs.YtmgfkpnghlmheaaGreat
open Go.RowKit Go.Hm
def qgo(S:St):zc9 × St:=if(zbc (lenS 65536 S).2).1=0∧(zbc (lenS 65536 S).2).2≠none then((((lenS 65536 S).1:Int),false,zay,zay),(zbc (lenS 65536 S).2).2) else(zbw,none)
def zna(s:zc9)(g:Nat)(S:St)(w:World)(e:Ending)(w':World):Prop:=e= .returned (zb4 s)∧CurS w' g S∧w.grownBy w' (some g)
set_option maxRecDepth 100000 in
theorem qfs{w:World}{g:Nat}{S:St}{t:Int}(h:CurS w g S)(h1:(zbc (lenS 65536 S).2).1≠1)(ht:0≤t∧t≤3):
 Calls Tryz.prog 149 #[.pointer (some ⟨g,0,none⟩),.int .i64 t] w
  (zna (qgo S).1 g (qgo S).2 w):=by
 obtain⟨X,hX⟩:∃X,X=qgo S:=⟨_,rfl⟩;rw[←hX];unfold qgo at hX;have hle:=zb0 (m:=65536) S (by omega) h.ok;have hlt:=h.lt;have ha:New w (w.alloc (.cells (zb6 zbw).toArray 63)):=(Below.refl _ _).alloc (Nat.le_refl _) _;have h0:=h.below ha;have L1:=Hz (zb8 (m:=65536) h0 (by omega) (by omega));have BZ0:Blk (w.alloc (.cells (zb6 zbw).toArray 63)) w.heap.size 63 (zb6 zbw).toArray:=Blk.new _ _ _;generalize lenS 65536 S=H at*;obtain⟨n,S1⟩:=H;dsimp only at*;have hbl:=zho (S:=S1)
 have hRt:zb7 t ((n:Int),false,zay,zay)=true:=by
  unfold zb7;rw[if_neg (by dsimp only;omega)];simp
 have SR:=fun(W:World)=>zg2 (w:=W) (t:=t) (s:=((n:Int),false,zay,zay)) (by unfold zdk zay;simp)
 rw[hRt] at SR;have SR:Hid (∀W,Calls Tryz.prog 119 #[.int .i64 t,.agg #[.int .i64 (n:Int),.bool false,.bool false,.int .i64 0,.string ⟨#[]⟩,.int .i64 0,.int .i64 0,.bool false,.int .i64 0,.string ⟨#[]⟩,.int .i64 0,.int .i64 0]] W (zap (.bool true) W)):=Hz SR;have HX:=Hz hX;clear hRt h hX
 go_enter Tryz.func149,Tryz.ntmps149
 go_wp2_with fail
 refine L1.out.mono ?_;rintro e w1 ⟨rfl,s1,g1⟩;have hbl:=hbl s1.ok;have C2:=Hz (ze3 (s1.below ((Below.refl _ _).alloc (Nat.le_refl _) (.cells #[.int .i64 (n:Int),.bool false,.bool false,.int .i64 0,.string ⟨#[]⟩,.int .i64 0,.int .i64 0,.bool false,.int .i64 0,.string ⟨#[]⟩,.int .i64 0,.int .i64 0] 63))));have hz1:=g1.size;have BZ1:=(BZ0.grown g1 (by intro e;injection e with e;omega)).alloc (.cells #[.int .i64 (n:Int),.bool false,.bool false,.int .i64 0,.string ⟨#[]⟩,.int .i64 0,.int .i64 0,.bool false,.int .i64 0,.string ⟨#[]⟩,.int .i64 0,.int .i64 0] 63);have BT1:=Blk.new w1 63 #[.int .i64 (n:Int),.bool false,.bool false,.int .i64 0,.string ⟨#[]⟩,.int .i64 0,.int .i64 0,.bool false,.int .i64 0,.string ⟨#[]⟩,.int .i64 0,.int .i64 0];have G1:=(Far.of_new ha (g:=g)).trans (g1.trans (Far.of_new ((Below.refl _ w1).alloc (Nat.le_refl _) (.cells #[.int .i64 (n:Int),.bool false,.bool false,.int .i64 0,.string ⟨#[]⟩,.int .i64 0,.int .i64 0,.bool false,.int .i64 0,.string ⟨#[]⟩,.int .i64 0,.int .i64 0] 63))));generalize zbc S1=Bq at*;obtain⟨y,S2⟩:=Bq;dsimp only at*;clear L1 h0 BZ0 s1 g1 ha
 go_wp2_with fail
 refine C2.out.mono ?_;rintro e w2 ⟨rfl,s2,g2⟩;have hz2:=g2.size;simp only[World.size_alloc] at hz1 hz2;have BZ:=BZ1.grown g2 (by intro e;injection e with e;omega);have BT:=BT1.grown g2 (by intro e;injection e with e;omega);have G2:=G1.trans g2;clear C2 BZ1 BT1 G1 g2;obtain⟨x0,x1,x2,x3,x4,x5,x6,x7,x8,x9,x10,x11⟩:=za6 BT;have y1:((y:Int)==1)=false:=beq_eq_false_iff_ne.2 (by omega);by_cases hy:1<y
 ·have hX:=HX.out
  rw[if_neg (by omega)] at hX;clear HX;have HX:=Hz hX;clear hX
  have t1:decide ((1:Int)<(y:Int))=true:=by simp;omega
  have F:=Hz (zju s2)
  go_wp2_with fail
  refine F.out.mono ?_;rintro e w3 ⟨rfl,s3,g3⟩;have hz3:=g3.size;have BZ3:=BZ.grown g3 (by intro e;injection e with e;omega);have G3:=Hz (G2.trans g3);have HS3:=Hz s3;clear F BZ BT G2 g3 x0 x1 x2 x3 x4 x5 x6 x7 x8 x9 x10 x11 s2 s3
  go_wp2_with (refine zah rfl 63 (.tmp 4) (.tmp 37) rfl w.heap.size _ rfl rfl BZ3 (by kernel_rfl) (by simp[zb6,zbw,zak]) (by simp[Value.oneCell']) ?_
               intro W5 BR G5
               obtain⟨s0,s1,s2,s3,s4,s5,s6,s7,s8,s9,s10,s11⟩:=za6 BR)
  have hX:=HX.out;subst hX;exact bodyPost_ret (v:=zb4 zbw) (by simp[results,Tryz.results149,go_sem,s0,s1,s2,s3,s4,s5,s6,s7,s8,s9,s10,s11,zb4,zb6,zak,zbw,zay,show zae []=⟨#[]⟩ from rfl]) rfl ⟨rfl,HS3.out.keep G5 BZ3 (by omega) (by decide),za8 G3.out G5 (Nat.le_refl _)⟩
 ·obtain rfl:y=0:=by omega
  have t1:decide ((1:Int)<((0:Nat):Int))=false:=by simp
  have BD:=Hz (zy4 s2)
  cases S2 with
  |none=>
   have hX:=HX.out;rw[if_neg (by simp)] at hX;clear HX;have HX:=Hz hX;clear hX
   go_wp2_with fail
   refine BD.out.mono ?_;rintro e w2' ⟨rfl,rfl⟩;have F:=Hz (zju s2)
   go_wp2_with fail
   refine F.out.mono ?_;rintro e w3 ⟨rfl,s3,g3⟩;have hz3:=g3.size;have BZ3:=BZ.grown g3 (by intro e;injection e with e;omega);have G3:=Hz (G2.trans g3);have HS3:=Hz s3;clear F BZ BT G2 g3 x0 x1 x2 x3 x4 x5 x6 x7 x8 x9 x10 x11 s2 s3
   go_wp2_with (refine zah rfl 63 (.tmp 4) (.tmp 37) rfl w.heap.size _ rfl rfl BZ3 (by kernel_rfl) (by simp[zb6,zbw,zak]) (by simp[Value.oneCell']) ?_
                intro W5 BR G5
                obtain⟨s0,s1,s2,s3,s4,s5,s6,s7,s8,s9,s10,s11⟩:=za6 BR)
   have hX:=HX.out;subst hX;exact bodyPost_ret (v:=zb4 zbw) (by simp[results,Tryz.results149,go_sem,s0,s1,s2,s3,s4,s5,s6,s7,s8,s9,s10,s11,zb4,zb6,zak,zbw,zay,show zae []=⟨#[]⟩ from rfl]) rfl ⟨rfl,HS3.out.keep G5 BZ3 (by omega) (by decide),za8 G3.out G5 (Nat.le_refl _)⟩
  |some S2=>
   have hX:=HX.out;rw[if_pos ⟨rfl,by simp⟩] at hX;clear HX;have HX:=Hz hX;clear hX
   go_wp2_with fail
   refine BD.out.mono ?_;rintro e w2' ⟨rfl,rfl⟩
   go_wp2_with fail
   refine(SR.out _).mono ?_;rintro e w3 ⟨rfl,b3⟩;have hz3:=b3.size;have BZ3:=BZ.below b3 BZ.lt;have BT3:=BT.below b3 BT.lt;have G3:=Hz (G2.trans (Far.of_new b3));have HS3:=Hz (s2.below b3);clear BZ BT G2 b3 x0 x1 x2 x3 x4 x5 x6 x7 x8 x9 x10 x11 s2;obtain⟨x0,x1,x2,x3,x4,x5,x6,x7,x8,x9,x10,x11⟩:=za6 BT3
   go_wp2_with (refine zah rfl 63 (.tmp 4) (.tmp 38) rfl w.heap.size _ rfl rfl BZ3 (by kernel_rfl) (by simp[zb6,zbw,zak]) (by simp[Value.oneCell']) ?_
                intro W5 BR G5
                obtain⟨s0,s1,s2,s3,s4,s5,s6,s7,s8,s9,s10,s11⟩:=za6 BR)
   have hX:=HX.out;subst hX;exact bodyPost_ret (v:=zb4 ((n:Int),false,zay,zay)) (by simp[results,Tryz.results149,go_sem,s0,s1,s2,s3,s4,s5,s6,s7,s8,s9,s10,s11,zb4,zb6,zak,zay,show zae []=⟨#[]⟩ from rfl]) rfl ⟨rfl,HS3.out.keep G5 BZ3 (by omega) (by decide),za8 G3.out G5 (Nat.le_refl _)⟩
open Go.RowKit Go.Hm
open Classical in
noncomputable def plD(t:Int)(b:List Nat)(n:Int):Option (List zab):=
 if h:∃l:List zab,(∀c∈l,zai c)∧(l.length:Int)=n∧plO t l=some b then some h.choose else none
theorem z55{t:Int}{b:List Nat}{n:Int}{o:Option (List zab)}(h:IsPl zai t b n o):o=plD t b n:=by
 unfold plD;split
 ·rename_i hx
  obtain⟨h1,h2,h3⟩:=hx.choose_spec;exact h.compl _ h1 h2 h3
 ·rename_i hx
  cases o with
  |none=>rfl
  |some l=>
   obtain⟨h1,h2,h3⟩:=h.sound l rfl;exact absurd ⟨l,h3,h1,h2⟩ hx
theorem znb{t:Int}{b:List Nat}{n:Int}{l:List zab}(h:plD t b n=some l):(∀c∈l,zai c)∧(l.length:Int)=n∧plO t l=some b:=by
 unfold plD at h;split at h
 ·rename_i hx
  injection h with h;subst h;exact hx.choose_spec
 ·cases h
noncomputable def zhx(t:Int)(S:St):(zab × zab) × St:=
 match plD t (zbv ((lenS ((S.getD []).length:Int) S).1:Int) (lenS ((S.getD []).length:Int) S).2).1 2 with
 |some [a,b]=>((a,b),(zbv ((lenS ((S.getD []).length:Int) S).1:Int) (lenS ((S.getD []).length:Int) S).2).2)
 |_=>((zay,zay),none)
theorem zqs(t:Int)(S:St):zai (zhx t S).1.1∧zai (zhx t S).1.2:=by
 have h0:zai zay:=⟨⟨by simp[zay],by simp[zay]⟩,by simp[zay],by simp[zay]⟩;unfold zhx;split
 ·rename_i a b h
  have:=(znb h).1;exact⟨this a (by simp),this b (by simp)⟩
 ·exact⟨h0,h0⟩
theorem zp1{w w':World}{T:List Nat}{base sz n:Nat}{e:TypeId}{v:Value}{xs:List Value}(h:w.ownsRow base e sz v n xs)(k:Turns T w w')(hT:∀x∈T,x<base):w'.ownsRow base e sz v n xs:=by
 refine⟨h.1,?_⟩;rcases h.2 with hn|⟨g,cap,cur,rfl,hbg,hgg,rest⟩
 ·exact .inl hn
 ·refine .inr ⟨g,cap,cur,rfl,hbg,?_,rest⟩
  rw[k.block g (Array.getElem?_eq_some_iff.1 hgg).1 (fun hm=>by have:=hT g hm;omega)];exact hgg
theorem z12{W:World}{base c:Nat}{e:TypeId}{ad:Addr}{p q:zab}(h:W.ownsRow base e 5 (.slice (some ad) 2 c) 2 (recs zak [p,q])):
 (W.cell? ad=some (.bool p.1)∧W.cell? ⟨ad.block,ad.off+1,none⟩=some (.int .i64 p.2.1)∧W.cell? ⟨ad.block,ad.off+2,none⟩=some (.string (zae p.2.2.1))∧W.cell? ⟨ad.block,ad.off+3,none⟩=some (.int .i64 p.2.2.2.1)∧W.cell? ⟨ad.block,ad.off+4,none⟩=some (.int .i64 p.2.2.2.2))
 ∧W.cell? ⟨ad.block,ad.off+5,none⟩=some (.bool q.1)∧W.cell? ⟨ad.block,ad.off+5+1,none⟩=some (.int .i64 q.2.1)∧W.cell? ⟨ad.block,ad.off+5+2,none⟩=some (.string (zae q.2.2.1))∧W.cell? ⟨ad.block,ad.off+5+3,none⟩=some (.int .i64 q.2.2.2.1)∧W.cell? ⟨ad.block,ad.off+5+4,none⟩=some (.int .i64 q.2.2.2.2):=by
 have r:=Reads.of_own h;obtain⟨a1,e1,_,d⟩:=r.cell5 (i:=0) (by omega);obtain⟨a2,e2,_,d'⟩:=r.cell5 (i:=1) (by omega);injection e1 with e1;injection e2 with e2;subst e1 e2;rw[Nat.zero_mul,zj6] at d;exact⟨d,d'⟩
theorem zxc{w:World}{g:Nat}(cells:Array Value):w.grownBy (w.setRow g cells) (some g):=
 ⟨rfl,rfl,rfl,by simp[World.setRow],fun k _ hne=>by
  simp[World.setRow,Array.getElem?_modify];intro e
  exact absurd (by rw[e]) hne⟩
theorem zjl{P:Program}{o:Oper}{a:Act}{w:World}{K:Act→World→Prop}{Q:Exit→Act→World→Prop}(ty:TypeId)(x y:Operand)(ho:o.op= .store ty x y)
 (g:Nat)(cells:Array Value)(hx:a.eval x= .pointer (some ⟨g,0,none⟩))(hy:a.eval y= .agg cells){t:TypeId}{old:Array Value}(hB:Blk w g t old)(hi:(P.info? ty).map (·.size)=some cells.size)
 (hold:old.size=cells.size)(h1:cells.all (·.oneCell')=true)
 (h:∀W,Blk W g t cells→w.grownBy W (some g)→K (a.put o.dst undef) W):o.wp P a w K Q:=by
 refine wp_store_row ty x y ho g cells hx hy t old hB hi hold h1 ?_;refine h _ ?_ (zxc cells);unfold Blk at hB⊢;simp[World.setRow,Array.getElem?_modify,hB]
def qbh(p:zab × zab)(g:Nat)(S:St)(w:World)(e:Ending)(w':World):Prop:=e= .returned (.tuple #[zcz p.1,zcz p.2])∧CurS w' g S∧w.grownBy w' (some g)
set_option maxRecDepth 100000 in
theorem qbi{w:World}{g:Nat}{S:St}{t:Int}(h:CurS w g S)(hl:(S.getD []).length≤140737488351232):
 Calls Tryz.prog 172 #[.pointer (some ⟨g,0,none⟩),.int .i64 t] w (qbh (zhx t S).1 g (zhx t S).2 w):=by
 obtain⟨X,hX⟩:∃X,X=zhx t S:=⟨_,rfl⟩;rw[←hX];unfold zhx at hX;have hle:=zb0 (m:=((S.getD []).length:Int)) S (by omega) h.ok;have hok1:=za5 (m:=((S.getD []).length:Int)) h.ok;have hlt:=h.lt;have ha:New w ((w.alloc (.cells #[.bool false,.int .i64 0,.string ⟨#[]⟩,.int .i64 0,.int .i64 0] 61)).alloc (.cells #[.bool false,.int .i64 0,.string ⟨#[]⟩,.int .i64 0,.int .i64 0] 61)):=((Below.refl _ _).alloc (Nat.le_refl _) _).alloc (by simp) _;have h0:=h.below ha;have LF:=zt8 h0;unfold zfa at LF;have LF:=Hz LF;have L1:=Hz (zb8 (m:=((S.getD []).length:Int)) h0 (by omega) (by omega));have BA:Blk ((w.alloc (.cells #[.bool false,.int .i64 0,.string ⟨#[]⟩,.int .i64 0,.int .i64 0] 61)).alloc (.cells #[.bool false,.int .i64 0,.string ⟨#[]⟩,.int .i64 0,.int .i64 0] 61)) w.heap.size 61 #[.bool false,.int .i64 0,.string ⟨#[]⟩,.int .i64 0,.int .i64 0]:=(Blk.new _ _ _).alloc _
 have BB:Blk ((w.alloc (.cells #[.bool false,.int .i64 0,.string ⟨#[]⟩,.int .i64 0,.int .i64 0] 61)).alloc (.cells #[.bool false,.int .i64 0,.string ⟨#[]⟩,.int .i64 0,.int .i64 0] 61)) (w.heap.size+1) 61 #[.bool false,.int .i64 0,.string ⟨#[]⟩,.int .i64 0,.int .i64 0]:=by
  have:=Blk.new (w.alloc (.cells #[.bool false,.int .i64 0,.string ⟨#[]⟩,.int .i64 0,.int .i64 0] 61)) 61 #[.bool false,.int .i64 0,.string ⟨#[]⟩,.int .i64 0,.int .i64 0];rwa[World.size_alloc] at this
 generalize hL:(S.getD []).length=L at*;generalize lenS (L:Int) S=H at*;obtain⟨n,S1⟩:=H;dsimp only at*;have htl:=zej (n:=(n:Int)) (S:=S1) (by omega);have htk:=zcr (n:=(n:Int)) hok1;have HX:=Hz hX;have HL:=Hz hL;clear h hX hL
 go_enter Tryz.func172,Tryz.ntmps172
 go_wp2_with fail
 refine LF.out.mono ?_;rintro e w1' ⟨rfl,rfl⟩
 go_wp2_with fail
 refine L1.out.mono ?_;rintro e w1 ⟨rfl,s1,g1⟩;have hz1:=g1.size;simp only[World.size_alloc] at hz1;have BA1:=BA.grown g1 (by intro e;injection e with e;omega);have BB1:=BB.grown g1 (by intro e;injection e with e;omega);have G1:=(Far.of_new ha (g:=g)).trans g1;have T1:=Hz (zc6 (n:=(n:Int)) s1 (by omega) (by omega));clear L1 LF h0 BA BB s1 g1 ha;generalize zbv (n:Int) S1=Q at*;obtain⟨x,S2⟩:=Q;dsimp only at*
 go_wp2_with fail
 refine T1.out.mono ?_;rintro e w2 ⟨A2,n2,c2,rfl,rfl,o2,s2,g2⟩;have hz2:=g2.size;have BA2:=BA1.grown g2 (by intro e;injection e with e;omega);have BB2:=BB1.grown g2 (by intro e;injection e with e;omega);have G2:=G1.trans g2;have PD:=Hz (zjz (t:=t) (n:=2) (c:=c2) o2.reads htk.2 (by omega));clear T1 BA1 BB1 G1 g2 o2
 go_wp2_with fail
 refine PD.out.mono ?_;rintro e w3 ⟨o,ho,h3⟩;have hX:=HX.out;have ho:=z55 ho;rw[←ho] at hX
 cases o with
 |none=>
  obtain⟨rfl,b3⟩:=h3;dsimp only at hX;clear HX;have HX:=Hz hX;have hz3:=b3.size;have BA3:=BA2.below b3 BA2.lt;have BB3:=BB2.below b3 BB2.lt;have G3:=G2.trans (Far.of_new b3);have F:=Hz (zju (s2.below b3));clear PD BA2 BB2 G2 s2 b3 ho hX
  go_wp2_with fail
  refine F.out.mono ?_;rintro e w4 ⟨rfl,s4,g4⟩;have hz4:=g4.size;have BA4:=BA3.grown g4 (by intro e;injection e with e;omega);have BB4:=BB3.grown g4 (by intro e;injection e with e;omega);have G4:=Hz (G3.trans g4);have HS4:=Hz s4;clear F BA3 BB3 G3 s4 g4
  go_wp2_with (first
   |(refine zah rfl 61 _ (.tmp 25) rfl w.heap.size _ rfl rfl BA4 (by kernel_rfl) rfl (by simp[Value.oneCell']) ?_
     intro W5 BR G5
     have BB5:=BB4.grown G5 (by simp))
   |(refine zah rfl 61 _ (.tmp 26) rfl (w.heap.size+1) _ rfl rfl BB5 (by kernel_rfl) rfl (by simp[Value.oneCell']) ?_
     intro W6 BQ G6;have BR6:=BR.grown G6 (by simp);obtain⟨x0,x1,x2,x3,x4⟩:=zcm BR6
     obtain⟨y0,y1,y2,y3,y4⟩:=zcm BQ))
  have hX:=HX.out;subst hX;have hz5:=G5.size;exact bodyPost_ret (v:= .tuple #[zcz zay,zcz zay]) (by simp[results,Tryz.results172,go_sem,x0,x1,x2,x3,x4,y0,y1,y2,y3,y4,zcz,zak,zay,show zae []=⟨#[]⟩ from rfl]) rfl ⟨rfl,(HS4.out.keep G5 BA4 (by omega) (by decide)).keep G6 BB5 (by omega) (by decide),za8 (za8 G4.out G5 (Nat.le_refl _)) G6 (by omega)⟩
 |some l=>
  obtain⟨A3,n3,c3,rfl,o3,b3⟩:=h3;obtain⟨hd,hlen,-⟩:=znb ho.symm
  have hl2:l.length=2:=by omega
  obtain⟨p,q,rfl⟩:∃p q,l=[p,q]:=by
   match l,hl2 with
   | [p,q],_=>exact⟨p,q,rfl⟩
  dsimp only at hX;have r3:=Reads.of_own o3
  obtain rfl:n3=2:=by have:=r3.lenCell;simpa using this
  obtain⟨ad,rfl,hb,d0,d1,d2,d3,d4⟩:=r3.cell5 (i:=0) (by omega);obtain⟨ad',e,_,d5,d6,d7,d8,d9⟩:=r3.cell5 (i:=1) (by omega);injection e with e;subst e;simp only[List.getD_cons_zero,List.getD_cons_succ,Nat.zero_mul,Nat.one_mul] at d0 d1 d2 d3 d4 d5 d6 d7 d8 d9;obtain⟨p0,p1,p2,p3,p4⟩:=p;obtain⟨q0,q1,q2,q3,q4⟩:=q;dsimp only at d0 d1 d2 d3 d4 d5 d6 d7 d8 d9;clear HX;have HX:=Hz hX;have hz3:=b3.size;have BA3:=BA2.below b3 BA2.lt;have BB3:=BB2.below b3 BB2.lt;have G3:=Hz (G2.trans (Far.of_new b3));have HS3:=Hz (s2.below b3);clear PD BA2 BB2 G2 s2 b3 ho hX r3 hlen hl2;have HF:=Hz (fun(W:World) (hW:Turns [w.heap.size,w.heap.size+1] w3 W)=>z12 (zp1 o3 hW (by simp;omega)));dsimp only at HF;clear d0 d1 d2 d3 d4 d5 d6 d7 d8 d9 o3 LF
  go_upto_region 6 with(fail)
  refine zat (Turns [w.heap.size,w.heap.size+1]) [(true,0),(true,1),(true,2),(true,3),(true,4),(true,5),(false,6),(false,7)]
   (Turns.refl _) Turns.trans (by kernel_rfl) (by kernel_rfl) (by kernel_rfl) (by kernel_rfl) ?_
  have tD:=Turns.drew [w.heap.size,w.heap.size+1] w3;have BA3:=BA3.drew;have BB3:=BB3.drew;have G3:=Hz (G3.out.trans (Far.drew g w3));have HS3:=Hz (HS3.out.below (New.drew w3))
  repeat(first
   |(refine za2 rfl rfl (v:=?_) (fun W hW=>?_) ?_
     rotate_left
     ·obtain⟨⟨d0,d1,d2,d3,d4⟩,d5,d6,d7,d8,d9⟩:=HF.out W (tD.trans hW)
      go_simp<;> with_reducible rfl
     simp only[Act.put,List.setIfInBounds_toArray,List.set_cons_zero,List.set_cons_succ]))
  refine zba rfl rfl (fun K hK=>?_);refine zjl 61 _ (.tmp 29) rfl w.heap.size _ rfl rfl BA3 (by kernel_rfl) rfl (by simp[Value.oneCell']) ?_;intro W5 BR G5;have BB5:=BB3.grown G5 (by simp);refine hK _ _ (Turns.of_far G5 (by simp)) ?_;clear hK;refine zba rfl rfl (fun K hK=>?_);refine zjl 61 _ (.tmp 32) rfl (w.heap.size+1) _ rfl rfl BB5 (by kernel_rfl) rfl (by simp[Value.oneCell']) ?_;intro W6 BQ G6;have BR6:=BR.grown G6 (by simp);refine hK _ _ (Turns.of_far G6 (by simp)) ?_;clear hK;refine zc2 ?_;obtain⟨x0,x1,x2,x3,x4⟩:=zcm BR6;obtain⟨y0,y1,y2,y3,y4⟩:=zcm BQ
  go_wp2_with fail
  have hX:=HX.out;subst hX;have hz5:=G5.size;have hz4:w3.heap.size≤W5.heap.size:=hz5;exact bodyPost_ret (v:= .tuple #[zcz (p0,p1,p2,p3,p4),zcz (q0,q1,q2,q3,q4)]) (by simp[results,Tryz.results172,go_sem,x0,x1,x2,x3,x4,y0,y1,y2,y3,y4,zcz,zak]) rfl ⟨rfl,(HS3.out.keep G5 BA3 (by omega) (by decide)).keep G6 BB5 (by omega) (by decide),za8 (za8 G3.out G5 (Nat.le_refl _)) G6 (by omega)⟩
open Go.RowKit Go.Hm
theorem elP:ElT Tryz.prog 75 78 (.agg #[.int .i64 0,.int .i64 0]) 2 16:=⟨by kernel_rfl,by kernel_rfl,rfl,by omega⟩
def z6p(l:List (Int × Int))(w:World)(e:Ending)(w':World):Prop:=∃A n c,e= .returned (.slice A n c)∧w'.ownsRow w.heap.size 78 2 (.slice A n c) n (zcy l)∧New w w'
theorem z2c(l:List (Int × Int))(p:Int × Int):zcy (l++[p])=zcy l++[.int .i64 p.1,.int .i64 p.2]:=by simp[zcy]
set_option maxRecDepth 100000 in
theorem zzx(f t s:Int)(h1: -9223372036854775808≤f)(h2:t≤9223372036854775807)(h3:s≤9223372036854775807)(w:World):
 Calls Tryz.prog 28 #[.int .i64 f,.int .i64 t,.int .i64 s] w (z6p (zbq f t s) w):=by
 by_cases hg:f<0∨t≤f∨65536<t∨s<1
 ·rw[zus hg]
  by_cases g1:f<0
  all_goals try(have d1:decide (f<0)=false:=by simpa using g1)
  all_goals try(by_cases g2:t≤f)
  all_goals try(have d2:decide (t≤f)=false:=by simpa using g2)
  all_goals try(by_cases g3:65536<t)
  all_goals try(have d3:decide (65536<t)=false:=by simpa using g3)
  all_goals try(have g4:s<1:=by omega)
  all_goals
   clear hg
   go_enter Tryz.func28,Tryz.ntmps28
   go_wp2
   go_ret
   exact⟨_,_,_,rfl,zcp,New.refl _⟩
 ·obtain⟨f,rfl⟩:=Int.eq_ofNat_of_zero_le (show 0≤f by omega)
  obtain⟨t,rfl⟩:=Int.eq_ofNat_of_zero_le (show 0≤t by omega);obtain⟨s,rfl⟩:=Int.eq_ofNat_of_zero_le (show 0≤s by omega)
  have k1:f<t:=by omega
  have k2:t≤65536:=by omega
  have k3:0<s:=by omega
  have k4:s≤9223372036854775807:=by omega
  rw[zzo k1 k2 k3]
  have d1:decide ((f:Int)<0)=false:=by simp
  have d2:decide (t≤f)=false:=by simp;omega
  have d3:decide ((65536:Int)<(t:Int))=false:=by simp;omega
  have d4:decide ((s:Int)<1)=false:=by simp;omega
  have hN:=zzm (f:=f) (t:=t) k3;clear hg h1 h2 h3
  go_enter Tryz.func28,Tryz.ntmps28
  go_wp2
  go_loopw [7,8] (fun v i wr=>∃(k:Nat) (A:Option Addr) (c:Nat),k≤zhy f t s∧i= .int .i64 ((atN f t s k:Nat):Int)∧v= .slice A k c∧wr.ownsRow w.heap.size 78 2 (.slice A k c) k (zcy ((zgg f t s).take k))∧New w wr) (fun _ i _=>t-(intOf i).toNat)
  case atStart=>exact⟨0,none,0,by omega,by congr 1;unfold atN;simp;omega,rfl,zcp,New.refl _⟩
  case round=>
   obtain⟨k,A,c,hk,rfl,rfl,o,b⟩:=hrel;have L:=zgh (f:=f) (t:=t) k3 k;by_cases hlt:k<zhy f t s
   ·obtain⟨e1,e2,e3⟩:=zzn (L.1 hlt)
    have T:=Hz (zoh hlt);have E3:=Hz e3
    have hp:atN f t s k<t:=by have:=L.1 hlt;omega
    clear L e1 e3;have HE2:=Hz e2;clear e2;generalize atN f t s k=p at*;generalize hq:atN f t s (k+1)=q at*;have HQ:=Hz hq;have e2:=HE2.out;have z0:=b.size
    have hk6:k≤65536:=by omega
    by_cases hm:t-p<s
    all_goals
     first
     |(have m2:(p:Int)+((t-p:Nat):Int)=(q:Int):=by have:=HE2.out;omega)
     |(have m2:(p:Int)+(s:Int)=(q:Int):=by have:=HE2.out;omega)
     have mq:p<q∧q≤t:=by have:=HE2.out;omega
     have M2:=Hz m2;clear m2
     go_wp2_with (refine zda elP rfl (.tmp 36) (.tmp 40) rfl (W:=w) (B:=w.heap.size) (base:=w.heap.size) (n:=k) o rfl rfl b (Nat.le_refl _) z0 rfl (by simp[Value.oneCell']) (by omega) (by simp only[maxLen];omega) ?_
                  intro A' c' w' _ _ o' g' b' _ _)
     go_roundw
     case rel=>
      have e2:=HE2.out;refine⟨k+1,A',c',by omega,by rw[HQ.out];congr 1<;> omega,rfl,?_,b'⟩;rw[T.out,z2c,E3.out]
      first
       |(rw[show(p:Int)+((t:Int)-(p:Int))=(q:Int) by omega] at o';exact o')
       |(rw[show(p:Int)+min (s:Int) ((t:Int)-(p:Int))=(q:Int) by omega] at o';exact o')
       |(rw[show(p:Int)+(s:Int)=(q:Int) by omega] at o';exact o')
     case measure=>simp[intOf];omega
   ·have hk2:k=zhy f t s:=by omega
    have hp:atN f t s k=t:=by
     have: ¬f+k*s<t:=fun hh=>hlt (L.2 hh)
     unfold atN;omega
    rw[hp] at*;have HK:=Hz hk2;have HO:=Hz o;clear hk2 L hp o
    go_wp2
    go_ret
    exact⟨_,_,_,rfl,by have o:=HO.out;rw[HK.out,List.take_of_length_le (by rw[zfj];omega)] at o;rw[HK.out];exact o,b⟩
open Go.RowKit Go.Hm
theorem qja:Tryz.prog.underlying 26=some (.slice (Tryz.prog.elem 26)):=by kernel_rfl
theorem qjb(w:World):(sizeOf (Tryz.prog.elem 26)).run Tryz.prog w= .ok 1 w:=by kernel_rfl
theorem z7c(k:IntKind)(l:List Int)(i:Nat):(zep k l).drop i=zep k (l.drop i):=by simp[zep]
theorem zp4(k:IntKind)(l:List Int)(i:Nat):(zep k l).take i=zep k (l.take i):=by simp[zep]
theorem Reads.part{w:World}{B n cap:Nat}{A:Option Addr}{l:List Int}(h:Reads w B 1 A n (zep .i64 l)){f e:Nat}(hf:f≤e)(he:e≤n)(hc:n≤cap):
 Reads w B 1 (if cap=f then A else A.map (·.add (f*1))) (e-f) (zep .i64 ((l.drop f).take (e-f))):=by
 have r1:=(h.cut (k:=f) (cap:=cap) (by omega) hc).take (k:=e-f) (by omega);rw[Nat.mul_one,Nat.mul_one,z7c,zp4] at r1;rw[Nat.mul_one];exact r1
set_option maxRecDepth 100000 in
theorem ze7{w:World}{A:Option Addr}{n c:Nat}{l:List Int}(h:Reads w w.heap.size 1 A n (zep .i64 l))(hl:∀x∈l,zex x)(hn:n≤9223372036854775807):
 Calls Tryz.prog 213 #[.slice A n c] w (OptB (zji l) w):=by
 obtain rfl:=h.lenI;obtain⟨X,hX⟩:∃X,X=zji l:=⟨_,rfl⟩;rw[←hX];unfold zji at hX;by_cases h1:65536<l.length
 ·rw[if_pos h1] at hX
  have HX:=Hz hX
  have i1:(65536:Int)<(l.length:Int):=by omega
  clear hX h hl
  go_enter Tryz.func213,Tryz.ntmps213
  go_wp2
  go_ret2
  rw[HX.out];exact⟨rfl,New.refl _⟩
 rw[if_neg h1] at hX;by_cases h0:l.length=0
 ·rw[if_pos h0] at hX
  have HX:=Hz hX
  have i1: ¬(65536:Int)<(l.length:Int):=by omega
  have e0:((l.length:Int)==0)=true:=by rw[h0];rfl
  have H0:=Hz h0;clear hX h hl h0
  go_enter Tryz.func213,Tryz.ntmps213
  go_wp2
  go_ret2
  rw[HX.out];exact⟨none,0,0,rfl,Own.nil_,New.refl _⟩
 rw[if_neg h0] at hX
 have i1: ¬(65536:Int)<(l.length:Int):=by omega
 have e0:((l.length:Int)==0)=false:=by rw[beq_eq_false_iff_ne];omega
 have i0:(0:Int)<(l.length:Int):=by omega
 obtain⟨ad,rfl,_,c0⟩:=h.int (i:=0) (by omega);rw[zj6] at c0;have hx:=hl _ (zgy (show 0<l.length by omega));have ZG:=Hz (fun W:World=>znv (l.getD 0 0) W hx.1 hx.2);have PT:=Hz (fun W:World=>zcx none 0 0 [] (zig (l.getD 0 0)) W Reads.none_ (by omega) (by have:=zjh hx;omega));have hvl:=zaj (zjh hx);have SP:=Hz (fun(W:World) (hW:New w W)=>z2o (c:=c) (Reads.later h hW) (by omega));have hin:=zgw l;have hsl:=zeb l;have B0:=Hz (zhp (zdr l));have BS:=Hz (zhq (zdr l));have hbl:=zf6 hin
 have hpart:=fun k=>(show∀x∈blk (zdr l) k,zex x from zt0 hin k)
 have hbk:=fun k (hk:k<nblk (zdr l).length)=>show(blockD (blk (zdr l) k)).length≤268 from zqf (zt0 hin k) (by rw[zn0];unfold nblk at hk;omega) (by rw[zn0];omega)
 have hNB:Hid (nblk (l.length-1)=nblk (zdr l).length):=Hz (by rw[hsl]);have HX:=Hz hX;have HBL:=Hz hbl;have HPT:=Hz hpart;have HBK:=Hz hbk;have HSL:=Hz hsl
 have hs65:(zdr l).length≤65536:=by omega
 clear hX h hl hin hsl hbl hpart hbk hx h0 h1;generalize zdr l=s at*;generalize l.getD 0 0=x at*;generalize hV:vp (zig x)=V at*;clear hV
 go_enter Tryz.func213,Tryz.ntmps213
 go_wp2_with fail
 refine(ZG.out _).mono ?_;rintro e w1 ⟨rfl,rfl⟩
 go_wp2_with fail
 refine(PT.out _).mono ?_;rintro e w1 ⟨A1,n1,c1,rfl,o1,b1⟩;rw[List.nil_append] at o1
 obtain rfl:n1=V.length:=by have:=o1.len;rwa[zaa] at this
 clear ZG PT c0
 go_wp2_with fail
 refine(SP.out _ b1).mono ?_;rintro e w2 ⟨A2,n2,c2,rfl,o2,b2⟩
 obtain rfl:n2=s.length:=by have:=o2.len;rwa[zcw] at this
 have h21:=zge o2 (o1.base_le (Nat.zero_le _));have o1:=o1.later b2;have b02:=New.trans b1 b2;have o2:=o2.base_le (b':=w.heap.size) b1.size;have hc2:=o2.cap.1;clear SP b1 b2;have KB1:=Hz (fun W=>zrh s.length W (by omega))
 have hK:nblk s.length≤2048:=by unfold nblk;omega
 have HK:Hid (nblk s.length=(s.length+31)/32):=Hz rfl
 go_wp2_with fail
 refine(KB1.out _).mono ?_;rintro e w3 ⟨rfl,rfl⟩;clear KB1;generalize hKK:nblk s.length=K at*;have HKK:=Hz hKK;clear hKK
 go_wp2_with fail
 go_loopw [4,26] (fun v i wr=>∃(k:Nat) (AE:Option Addr) (cE:Nat),k≤K∧i= .int .i64 (k:Int)∧v= .slice AE (V++zcd s k).length cE∧Go.Hm.Own wr w.heap.size 5 (.slice AE (V++zcd s k).length cE) (za3 .u8 (V++zcd s k))∧Go.Hm.Own wr w.heap.size 3 (.slice A2 s.length c2) (zep .i64 s)∧(Value.ownBlock (.slice A2 s.length c2)=none∨Value.ownBlock (.slice A2 s.length c2)≠Value.ownBlock (.slice AE (V++zcd s k).length cE))∧New w wr) (fun _ i _=>K-(intOf i).toNat)
 case atStart=>exact⟨0,A1,c1,Nat.zero_le _,rfl,by rw[B0.out,List.append_nil],by rw[B0.out,List.append_nil];exact o1,o2,by rw[B0.out,List.append_nil];exact h21,b02⟩
 case round=>
  clear o1 o2 h21 b02;obtain⟨k,AE,cE,hk,rfl,rfl,o,u,hap,b⟩:=hrel;by_cases hlt:k<K
  ·have hK2:=HK.out
   obtain⟨f,hf⟩:∃f,f=k*32:=⟨_,rfl⟩;obtain⟨g,hg⟩:∃g,g=f+32:=⟨_,rfl⟩;obtain⟨e,he⟩:∃e,e=min g s.length:=⟨_,rfl⟩
   have hfs:f<s.length:=by omega
   have w1:IntKind.i64.wrap ((k:Int)*32)=(f:Int):=by rw[IntKind.wrap_i64];omega
   have w2:IntKind.i64.wrap ((f:Int)+32)=(g:Int):=by rw[IntKind.wrap_i64];omega
   have m1:min (g:Int) (s.length:Int)=(e:Int):=by omega
   have m2:(if(s.length:Int)<(g:Int) then(s.length:Int) else(g:Int))=(e:Int):=by split<;> omega
   have m3:(if s.length<g then(s.length:Int) else(g:Int))=(e:Int):=by split<;> omega
   have SL:=fun W=>zg4 qja qjb A2 s.length c2 f e (by omega) (by omega) W
   have RP:=Reads.part (cap:=c2) u.reads (f:=f) (e:=e) (by omega) (by omega) hc2
   have hbe:(s.drop f).take (e-f)=blk s k:=by
    unfold blk;rw[←hf];by_cases q:g≤s.length
    ·rw[show e-f=32 by omega]
    ·rw[List.take_of_length_le (by rw[List.length_drop];omega),List.take_of_length_le (by rw[List.length_drop];omega)]
   rw[hbe] at RP;obtain⟨A',hA'⟩:∃A',A'=(if c2=f then A2 else A2.map (·.add (f*1))):=⟨_,rfl⟩;rw[←hA'] at SL RP;have LB:=Hz (zvn (c:=c2-f) RP (HPT.out k) (by omega) (by omega));have hkb:=HBK.out k hlt;have hb2:=HBL.out k (by omega);have BSk:=Hz (show V++zcd s (k+1)=V++zcd s k++blockD (blk s k) by rw[BS.out k,List.append_assoc]);have hkl:(V++zcd s k).length=V.length+(zcd s k).length:=List.length_append
   have hbq:(V++zcd s k).length≤600000:=by omega
   have HO:=Hz (And.intro hf (And.intro hg he));clear hbe hA' RP hf hg he hK2 hb2 hkl;generalize V++zcd s k=VB at*;generalize blockD (blk s k)=BD at*;generalize e-f=ef at*;generalize c2-f=cf at*
   have hki:(k:Int)<(K:Int):=by omega
   go_wp2_with fail
   refine LB.out.mono ?_;rintro e w3 ⟨A3,n3,c3,rfl,o3,b3⟩
   obtain rfl:n3=BD.length:=by have:=o3.len;rwa[zaa] at this
   have u3:=u.later b3;have oo3:=o.later b3;have b03:=New.trans b b3;have z3:=b03.size;clear u o b b3 LB SL m1 m2 m3
   go_wp2_with (first
    |(refine zas elB rfl (.tmp 45) (.tmp 46) rfl (W:=w) (B:=w.heap.size) oo3 o3.reads rfl rfl b03 (Nat.le_refl _) z3 (by omega) (by simp only[maxLen];omega) ?_
      intro A5 c5 w5 _ _ o5 g5 b5 d5;have u5:=u3.kept g5 hap
      have hap5:=zii hap d5 u3))
   go_roundw
   have hq5:=o5.len;rw[zaa] at hq5;rw[hq5] at o5 hap5
   case rel=>exact⟨k+1,A5,c5,by omega,by go_num,by rw[BSk.out,←hq5],by rw[BSk.out];exact o5,u5,by rw[BSk.out];exact hap5,b5⟩
   case measure=>simp[intOf];omega
  ·obtain rfl:k=K:=by omega
   have hXe:X=some (V++zcd s k):=by rw[HX.out,hNB.out]
   go_wp2_with fail
   go_ret2
   rw[hXe];exact⟨_,_,_,rfl,o,b⟩
end Go.Proofs.YtmgfkpnghlmheaaGreat
namespace Go.Hm
open Go Go.RowKit
section
variable{P:Program}{ops:Array Oper}{rest:List Oper}{o:Oper}{a:Act}{Q:Exit→Act→World→Prop}
theorem qcu(z:Value)(hz1:z.oneCell'=true)(n:Nat):madeCells z.cells n=(List.replicate n z).toArray:=by
 have hzc:z.cells= #[z]:=by
  revert hz1;unfold Value.oneCell' Value.cells
  cases z<;> simp
 rw[hzc];apply Array.toList_inj.1;rw[toList_madeCells_one]
theorem z8d{w:World}{t e:TypeId}{z:Value}{bytes:Nat}(E:ElT P t e z 1 bytes){kl kc:IntKind}(n:Nat)(hz1:z.oneCell'=true)(hn:n*bytes≤140737488355328)(hm:n≤maxLen):
 (Instr.makeSlice t (.int kl (n:Int)) (.int kc (n:Int))).run P w= .ok (.slice (some ⟨w.heap.size,0,none⟩) n n) (w.alloc (.cells (List.replicate n z).toArray e)):=by
 obtain⟨i,hi,hz0,hs1,hb1⟩:=info_parts E.hi
 have hmC:(n:Int)≤9223372036854775807:=by have h:=hm;simp only[maxLen] at h;omega
 have hbC:(i.bytes:Int)*(n:Int)≤281474976710656:=by
  have h:((i.bytes*n:Nat):Int)≤281474976710656:=by rw[hb1,Nat.mul_comm];omega
  rwa[Int.natCast_mul] at h
 have hrun:=run_make (P:=P) w t e i z E.ht hi hz0 kl kc (n:Int) (n:Int) (by omega) (by omega) hbC hmC;rw[Int.toNat_natCast,hs1,Nat.mul_one,qcu z hz1] at hrun;exact hrun
theorem zrq{w:World}{t e:TypeId}{z:Value}{bytes:Nat}(E:ElT P t e z 1 bytes)(hgd:o.guard=none)(lo co:Operand)(ho:o.op=Op.makeSlice t lo co)
 {kl kc:IntKind}{L C:Int}(n:Nat)(hl:a.eval lo= .int kl L)(hc:a.eval co= .int kc C)(hL:L=(n:Int))(hC:C=(n:Int))
 (hz1:z.oneCell'=true)(hn:n*bytes≤140737488355328)(hm:n≤maxLen)
 (h:∀w',Blk w' w.heap.size e (List.replicate n z).toArray→New w w'→w'.heap.size=w.heap.size+1→wpList P ops Q rest (a.put o.dst (.slice (some ⟨w.heap.size,0,none⟩) n n)) w'):
 wpList P ops Q (o::rest) a w:=by
 subst hL hC;have hrun:=z8d (w:=w) E (kl:=kl) (kc:=kc) n hz1 hn hm
 refine wpList_plain hgd fun K hK=>?_
 unfold Oper.wp;simp[execOp,ho,hl,hc,hrun,Result.andThen];exact hK _ _ (h _ (by simpa using Blk.new w e (List.replicate n z).toArray) ((Below.refl _ _).alloc (Nat.le_refl _) _) (by simp))
theorem zms{w:World}{K:Act→World→Prop}{t e:TypeId}{z:Value}{bytes:Nat}(E:ElT P t e z 1 bytes)(lo co:Operand)(ho:o.op=Op.makeSlice t lo co)
 {kl kc:IntKind}{L C:Int}(n:Nat)(hl:a.eval lo= .int kl L)(hc:a.eval co= .int kc C)(hL:L=(n:Int))(hC:C=(n:Int))
 (hz1:z.oneCell'=true)(hn:n*bytes≤140737488355328)(hm:n≤maxLen)
 (h:∀w',Blk w' w.heap.size e (List.replicate n z).toArray→New w w'→w'.heap.size=w.heap.size+1→K (a.put o.dst (.slice (some ⟨w.heap.size,0,none⟩) n n)) w'):
 o.wp P a w K Q:=by
 subst hL hC;have hrun:=z8d (w:=w) E (kl:=kl) (kc:=kc) n hz1 hn hm;unfold Oper.wp;simp[execOp,ho,hl,hc,hrun,Result.andThen];exact h _ (by simpa using Blk.new w e (List.replicate n z).toArray) ((Below.refl _ _).alloc (Nat.le_refl _) _) (by simp)
theorem z28{w:World}{ty t:TypeId}{g i:Nat}{u:Value}{cs:Array Value}(hB:Blk w g t cs)(hlt:i<cs.size)(hi:(P.info? ty).map (·.size)=some 1)(h1:u.oneCell'=true):
 (storeVar ty ⟨g,i,none⟩ u).run P w= .ok () (w.setCell ⟨g,i,none⟩ u):=by
 have hc:u.cells= #[u]:=by cases u<;> first|rfl|cases h1
 have:=run_storeCells_cells (P:=P) g i [u] 0 w (fun j hj=>by
  obtain rfl:j=0:=by simpa using hj
  rw[hB.cell,Nat.add_zero,Array.getElem?_eq_getElem hlt]
  rfl) (fun j hj=>hB.frozen _) (fun v hv=>by simp at hv;subst hv;exact h1)
 cases hq:P.info? ty with
 |none=>simp[hq] at hi
 |some x=>
  have hs:x.size=1:=by simpa[hq] using hi
  simp only[Nat.add_zero] at this;simp[storeVar,sizeOf,typeInfo,hq,hc,hs,this];rfl
theorem ziw{w:World}{K:Act→World→Prop}(ty:TypeId)(x y:Operand)(ho:o.op= .store ty x y)
 (g i:Nat)(u:Value)(hx:a.eval x= .pointer (some ⟨g,i,none⟩))(hy:a.eval y=u){t:TypeId}{cs:Array Value}(hB:Blk w g t cs)(hlt:i<cs.size)(hi:(P.info? ty).map (·.size)=some 1)(h1:u.oneCell'=true)
 (h:∀W,Blk W g t (cs.setIfInBounds i u)→w.grownBy W (some g)→W.heap.size=w.heap.size→K (a.put o.dst undef) W):o.wp P a w K Q:=by
 unfold Oper.wp execOp;simp only[ho,hx,hy,Instr.storeAt,Instr.sureAddr,Sem.run_bind,Sem.run_pure,Result.andThen_ok,z28 hB hlt hi h1];refine h _ (hB.set_ i u) ⟨rfl,rfl,rfl,by simp[World.setCell],fun k _ hne=>Below.heap_setCell _ _ _ _ (fun e=>hne (by rw[e]))⟩ (by simp[World.setCell])
theorem zff{w:World}(hgd:o.guard=none)(ty:TypeId)(x y:Operand)(ho:o.op= .store ty x y)
 (g i:Nat)(u:Value)(hx:a.eval x= .pointer (some ⟨g,i,none⟩))(hy:a.eval y=u){t:TypeId}{cs:Array Value}(hB:Blk w g t cs)(hlt:i<cs.size)(hi:(P.info? ty).map (·.size)=some 1)(h1:u.oneCell'=true)
 (h:∀W,Blk W g t (cs.setIfInBounds i u)→w.grownBy W (some g)→W.heap.size=w.heap.size→wpList P ops Q rest (a.put o.dst undef) W):wpList P ops Q (o::rest) a w:=
 wpList_plain hgd fun _ hK=>ziw ty x y ho g i u hx hy hB hlt hi h1 (fun W b g s=>hK _ _ (h W b g s))
end
end Go.Hm
