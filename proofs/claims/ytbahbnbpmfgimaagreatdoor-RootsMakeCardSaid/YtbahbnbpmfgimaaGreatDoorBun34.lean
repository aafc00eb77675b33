import Derived.Test.YtbahbnbpmfgimaaGreatDoorBun33
set_option maxHeartbeats 4000000
set_option maxRecDepth 100000
namespace Go.Proofs.Y
open Go.RowKit Go.Hm
theorem z9f{S:St}(hS:S.ok):(∀c∈(getC S).1,(∀z∈c.1,z<256)/\c.1.length<=140737488351232)/\(getC S).1.length<=64:=by
 cases h:(getC S).2 with
 |none=>
  have:=z81 (show getC S=((getC S).1,none) by rw[<-h]);rw[this];simp
 |some r=>
  obtain⟨h1,h2⟩:=zhq hS (show getC S=((getC S).1,some r) by rw[<-h]);obtain⟨a,b,-⟩:=(zez _).1 h1;refine⟨fun c hc=>⟨fun z hz=>hS _ h2 z ?_,by have:=(b c hc).2.1;omega⟩,a⟩;rw[qmi];refine qqu _ (qqt _ (qov.2 ⟨c,hc,?_⟩));simp only[z3o,qnd];exact .inl (.inr hz)
theorem qho{S:St}(hS:S.ok):(getC S).2.ok:=by
 cases h:(getC S).2 with
 |none=>exact qsp
 |some r=>
  have:=(zhq hS (show getC S=((getC S).1,some r) by rw[<-h])).2;exact qsq fun x hx=>hS _ this x (by simp[hx])
theorem qdy{S:St}(hS:S.ok):((getC S).2.getD []).length<=(S.getD []).length:=by
 cases h:(getC S).2 with
 |none=>simp
 |some r=>
  have:=(zhq hS (show getC S=((getC S).1,some r) by rw[<-h])).2;rw[this];simp only[qnq,qmv];omega
theorem zqb{m:Int}:∀(cs:List zbi) {S:St},S.ok->((zbq m cs S).2.getD []).length<=(S.getD []).length
 | [],_,_=>ql6 _
 |c::cs,S,h=>by
  have a:=zqb (m:=m) cs (zlv (t:=c.2.1) (m:=m) h);have b:=zsc (t:=c.2.1) (m:=m) h;simp only[zbq];omega
theorem z31{k:Int->Int}{cols:List zbi}{m:Int}{S:St}(h:S.ok):((zdt k cols m S).2.getD []).length<=(S.getD []).length:=by have a:=ze7 (m:=m) h;have b:=zqb (m:=k ((lenS m S).1:Int)) cols (zb9 (m:=m) h);unfold zdt;dsimp only;omega
structure GrOwn(w:World)(B:Nat)(A:Option Addr)(d:Nat)(G:List GrD):Prop where
 row:w.ownsRow B 114 2 (.slice A G.length d) G.length (recs grV G)
 chunks:∀g∈G,ChOwn w B g.2.1 g.2.2.1 g.2.2.2
theorem GrOwn.later{w w':World}{B:Nat}{A:Option Addr}{d:Nat}{G:List GrD}(h:GrOwn w B A d G)(b:New w w'):GrOwn w' B A d G:=⟨za8 h.row b,fun x hx=>(h.chunks x hx).later b⟩
theorem GrOwn.far{w w':World}{B g:Nat}{A:Option Addr}{d:Nat}{G:List GrD}(h:GrOwn w B A d G)(hg:w.grownBy w' (some g))(hne:g<B):GrOwn w' B A d G:=
 ⟨h.row.kept hg (.inr (fun e=>by have:=(qln h.row _ e).1;omega)),fun x hx=>(h.chunks x hx).far hg hne⟩
theorem ChOwn.base{w:World}{B B':Nat}{A:Option Addr}{d:Nat}{D:List ChD}(h:ChOwn w B A d D)(hb:B'<=B):ChOwn w B' A d D:=⟨ze4 h.row hb,fun x hx=>ze4 (h.pages x hx) hb⟩
theorem ChOwn.row_{w w':World}{B base sz n:Nat}{A:Option Addr}{d:Nat}{D:List ChD}{e:TypeId}{v:Value}{xs:List Value}(h:ChOwn w B A d D)(o:w.ownsRow base e sz v n xs)(hg:w.grownBy w' v.ownBlock)(h1:136≠e)(h2:135≠e):ChOwn w' B A d D:=
 ⟨h.row.kept hg (zef h.row o h1),fun x hx=>(h.pages x hx).kept hg (zef (h.pages x hx) o h2)⟩
theorem FootIn.own{w:World}{B cc d:Nat}{Ac A:Option Addr}{L:List zbi}{G:List GrD}(oC:w.ownsRow B 71 3 (.slice Ac L.length cc) L.length (recs zl3 L))(GO:GrOwn w B A d G)(hf:∀x∈L,(∀z∈x.1,z<256)/\x.1.length<=140737488351232)(hc:L.length<=cc)(hl:L.length<=64)(hg:G.length<=65536)
 (hs:∀x∈G,x.2.2.2.length=L.length/\ ∀y∈x.2.2.2,y.2.2.length<=65536):FootIn w Ac cc L A G:=
 ⟨qrt oC,hf,hc,by omega,qrt GO.row,by omega,fun x hx=>⟨qrt (GO.chunks x hx).row,by have:=(hs x hx).1;omega⟩,fun x hx y hy=>⟨qrt ((GO.chunks x hx).pages y hy),by have:=(hs x hx).2 y hy;omega⟩⟩
theorem zsd{t m:Int}:∀(k:Nat) (S:St),(zc0 t m k S).1.length<=k
 |0,_=>ql6 _
 |_+1,none=>ql7 _
 |k+1,some l=>by
  have:=zsd (t:=t) (m:=m) k (zg6 t m (some l)).2;simp only[zc0,qm9];omega
theorem z32{t m:Int}{S:St}(hS:S.ok)(hm:0<=m/\m<=65536):(zdi t m S).1.length<=65536:=by have a:=zsd (t:=t) (m:=m) (lenS m S).1 (lenS m S).2;have b:=zds (m:=m) S hm.1 hS;unfold zdi;omega
theorem zqc{m:Int}(hm:0<=m/\m<=65536):∀(cs:List zbi) {S:St},S.ok-> ∀l∈(zbq m cs S).1,l.length<=65536
 | [],_,_,l,hl=>by simp[zbq] at hl
 |c::cs,S,hS,l,hl=>by
  simp only[zbq,qnu] at hl;rcases hl with rfl|hl
  ·exact z32 hS hm
  ·exact zqc hm cs (zlv hS) l hl
theorem zqd{cols:List zbi}{m:Int}(hm:0<=m/\m<=65536):∀(n:Nat) {S:St},S.ok-> ∀g∈(zbs (fun r=>r) cols m n S).1,g.2.length=cols.length/\ ∀l∈g.2,l.length<=65536
 |0,_,_,g,hg=>by simp[zbs] at hg
 |_+1,none,_,g,hg=>by simp[zbs] at hg
 |n+1,some b,hS,g,hg=>by
  simp only[zbs,qnu] at hg;rcases hg with rfl|hg
  ·have hle:=zds (m:=m) (some b) hm.1 hS
   exact⟨zp0 _ _,zqc (by dsimp only;omega) _ (zb9 hS)⟩
  ·exact zqd hm n (zwf hS) g hg
def qkn(o:Option FootS)(w:World)(e:Ending)(w':World):Prop:=
 match o with
 |none=>e= .returned (.tuple #[.agg #[.slice none 0 0,.int .i64 0,.slice none 0 0],.bool false])/\New w w'
 |some F=>∃Ac cc L r Ag cg G,e= .returned (.tuple #[zln Ac cc L r Ag cg G,.bool true])/\zb5 L r G=F/\((∀g W,g<=w.heap.size->w'.grownBy W (some g)->FootIn W Ac cc L Ag G)/\G.length<=cg)/\New w w'
theorem qle:ElT Tryz.prog 77 114 (.agg #[.int .i64 0,.slice none 0 0]) 2 32:=⟨by kernel_rfl,by kernel_rfl,rfl,by omega⟩
theorem zt7(D:List GrD)(x:GrD):recs grV (D++[x])=recs grV D++[.int .i64 x.1,.slice x.2.1 x.2.2.2.length x.2.2.1]:=by rw[za7];rfl
theorem zws{k:Int->Int}{cols:List zbi}{m:Int}{j:Nat}{b:List Nat}:zbs k cols m (j+1) (some b)=((zdt k cols m (some b)).1::(zbs k cols m j (zdt k cols m (some b)).2).1,(zbs k cols m j (zdt k cols m (some b)).2).2):=rfl
theorem zwt{w:World}{A:Option Addr}{m c:Nat}{b:List Nat}(h:Reads w w.heap.size 1 A m (zah .u8 b))(h8:∀x∈b,x<256)(hm:m<=140737488351232):
 Calls Tryz.prog 68 #[.slice A m c] w (qkn (zp4 (fun r=>r) b) w):=by
 obtain rfl:m=b.length:=h.len;have hok0:St.ok (some b):=qsq h8;obtain⟨hf1,hf2⟩:=z9f hok0;have hok1:=qho hok0;have hsub1:=qdy hok0;have ha:New w (w.alloc (.cells #[.slice none 0 0,.int .i64 0,.slice none 0 0] 79)):=(qq8 _ _).alloc (ql6 _) _;have BZ:=qrv w 79 #[.slice none 0 0,.int .i64 0,.slice none 0 0];have OV:=qrf (zs7 (c:=c) (qsg h ha) (by omega) h8);obtain⟨M,hM⟩:∃M,M=zp4 (fun r=>r) b:=⟨_,rfl⟩;rw[<-hM];unfold zp4 zt5 zmt zp3 at hM;have hle2:=zds (m:=65536) (getC (some b)).2 (by omega) hok1;have hok2:=zb9 (m:=65536) hok1;have hsub2:=ze7 (m:=65536) hok1;have HF1:=qrf hf1;have HM:=qrf hM;have GC:=fun(W:World) (g:Nat) (hs:CurS W g (some b))=>qdx hs
 clear h hM hf1 hok0;generalize getC (some b)=H at*;obtain⟨L,SC⟩:=H;dsimp only at hok1 hsub1 hf2 hle2 hok2 hsub2 HF1 HM GC;have L1:=fun(W:World) (g:Nat) (hs:CurS W g SC)=>zeb (m:=65536) hs (by omega) (by omega)
 generalize lenS 65536 SC=H at*;obtain⟨R,SN⟩:=H;dsimp only at hle2 hok2 hsub2 HM L1;have hle3:=zds (m:=(R:Int)) SN (by omega) hok2;have hok3:=zb9 (m:=(R:Int)) hok2;have hsub3:=ze7 (m:=(R:Int)) hok2;have L2:=fun(W:World) (g:Nat) (hs:CurS W g SN)=>zeb (m:=(R:Int)) hs (by omega) (by omega)
 generalize lenS (R:Int) SN=H at*;obtain⟨N,Sn⟩:=H;dsimp only at hle3 hok3 hsub3 HM L2;simp only[qnq] at hsub1;have HGC:=qrf GC;have HL1:=qrf L1;have HL2:=qrf L2;clear GC L1 L2 hok1 hok2;go_enter Tryz.func68,Tryz.ntmps68
 go_wp2_with fail
 refine OV.out.mono ?_;rintro e w1 ⟨g,rfl,hg,C1,b1⟩;have hgl:=C1.lt;have hz1:=b1.size;simp only[qrq] at hz1 hg;have s1:=CurS.of C1;have BZ1:=BZ.below b1 BZ.lt;have b01:=qr0 ha b1;have ha2:New w1 (w1.alloc (.cells #[.slice none 0 0,.int .i64 0,.slice none 0 0] 79)):=(qq8 _ _).alloc (ql6 _) _;have BQ:=qrv w1 79 #[.slice none 0 0,.int .i64 0,.slice none 0 0];have BZ2:=BZ1.below ha2 BZ1.lt;have s2:=s1.below ha2;have b02:=qr0 b01 ha2;have P1:=qrf (HGC.out _ _ s2);have hzq:(w1.alloc (.cells #[.slice none 0 0,.int .i64 0,.slice none 0 0] 79)).heap.size=w1.heap.size+1:=by simp
 clear OV C1 BZ BZ1 b1 b01 ha ha2 s1 s2;go_wp2_with fail
 refine P1.out.mono ?_;rintro e w3 ⟨Ac,nc,cc,rfl,hcc,hcm,oC,s3,g3⟩;obtain rfl:nc=L.length:=(qrt oC).lenC;rw[hzq] at oC;have hz3:=g3.size;rw[hzq] at hz3;have BQ3:=BQ.grown g3 (by intro e;injection e with e;omega);have BZ3:=BZ2.grown g3 (by intro e;injection e with e;omega);have b03:=qr5 b02 g3 (by omega) (ql6 _);clear P1 BQ BZ2 b02 g3 hzq;generalize w1.heap.size=gq at*;obtain⟨x0,x1,x2⟩:=zar BQ3;have f0:=BQ3.frozen 0;have gS:w3.grownBy (w3.setCell ⟨gq,0,none⟩ (.slice Ac L.length cc)) (some gq):=za1;have hzS:w3.heap.size<=(w3.setCell ⟨gq,0,none⟩ (.slice Ac L.length cc)).heap.size:=gS.size;have s4:=s3.keep gS BQ3 (by omega) (by decide);have oC4:=oC.kept gS (.inr (fun e=>by have:=(qln oC _ e).1;omega));have BZ4:=BZ3.grown gS (by intro e;injection e with e;omega);have BQ4:=BQ3.set_ 0 (.slice Ac L.length cc);simp only[qoi,qn8] at BQ4;have b04:=qr5 b03 gS (by omega) (ql6 _);have P2:=qrf (HL1.out _ _ s4);clear s3 oC BZ3 BQ3 b03 gS;go_wp2_with fail
 refine P2.out.mono ?_;rintro e w5 ⟨rfl,s5,g5⟩;have hz5:=g5.size;have BQ5:=BQ4.grown g5 (by intro e;injection e with e;omega);have BZ5:=BZ4.grown g5 (by intro e;injection e with e;omega);have oC5:=oC4.kept g5 (.inr (fun e=>by have:=(qln oC4 _ e).1;omega));have b05:=qr5 b04 g5 (by omega) (ql6 _);clear P2 s4 oC4 BZ4 BQ4 b04 g5 x0 x1 x2 f0;obtain⟨x0,x1,x2⟩:=zar BQ5;have f1:=BQ5.frozen 1;have gS:w5.grownBy (w5.setCell ⟨gq,1,none⟩ (.int .i64 (R:Int))) (some gq):=za1;have hzS5:w5.heap.size<=(w5.setCell ⟨gq,1,none⟩ (.int .i64 (R:Int))).heap.size:=gS.size;have s6:=s5.keep gS BQ5 (by omega) (by decide);have oC6:=oC5.kept gS (.inr (fun e=>by have:=(qln oC5 _ e).1;omega));have BZ6:=BZ5.grown gS (by intro e;injection e with e;omega);have BQ6:=BQ5.set_ 1 (.int .i64 (R:Int));simp only[qoi,qn8,qoj] at BQ6;have b06:=qr5 b05 gS (by omega) (ql6 _);have P3:=qrf (HL2.out _ _ s6);clear s5 oC5 BZ5 BQ5 b05 gS;obtain⟨y0,y1,y2⟩:=zar BQ6;go_wp2_with fail
 refine P3.out.mono ?_;rintro e w7 ⟨rfl,s7,g7⟩;have hz7:=g7.size;have BQ7:=BQ6.grown g7 (by intro e;injection e with e;omega);have BZ7:=BZ6.grown g7 (by intro e;injection e with e;omega);have oC7:=oC6.kept g7 (.inr (fun e=>by have:=(qln oC6 _ e).1;omega));have b07:=qr5 b06 g7 (by omega) (ql6 _);clear P3 s6 oC6 BZ6 BQ6 b06 g7 x0 x1 x2 y0 y1 y2 f1;go_wp2_with fail
 have hgw:w.heap.size<g:=by omega
 have hgq:g<gq:=by omega
 have hq7:gq<w7.heap.size:=by omega
 have HX0:=qrf (show zbs (fun r=>r) L (R:Int) N Sn=([]++(zbs (fun r=>r) L (R:Int) N Sn).1,(zbs (fun r=>r) L (R:Int) N Sn).2) from rfl);obtain⟨X,hX⟩:∃X,X=zbs (fun r=>r) L (R:Int) N Sn:=⟨_,rfl⟩;rw[<-hX] at HM;have HX0:Hid (X=([]++(zbs (fun r=>r) L (R:Int) N Sn).1,(zbs (fun r=>r) L (R:Int) N Sn).2)):=qrf (by rw[hX];rfl);have HXD:Hid (∀gr∈X.1,∀l∈gr.2,∀p∈l,statData p.2.2):=qrf (by rw[hX];exact zi2 _ _);have HXF:Hid (∀gr∈X.1,gr.2.length=L.length/\ ∀l∈gr.2,l.length<=65536):=qrf (by rw[hX];exact zqd (by omega) _ hok3);clear hX hzS hzS5 hz3 hz5 hz7 hz1 hg hgl;go_loopw [6] (fun i wr=>∃(j d:Nat) (A:Option Addr) (G:List GrD) (Sj:St),i= .int .i64 (j:Int)/\Hid (G.length+j=N)/\j<=N/\Blk wr gq 79 #[.slice Ac L.length cc,.int .i64 (R:Int),.slice A G.length d]/\Blk wr w.heap.size 79 #[.slice none 0 0,.int .i64 0,.slice none 0 0]
  /\wr.ownsRow (gq+1) 71 3 (.slice Ac L.length cc) L.length (recs zl3 L)/\GrOwn wr (gq+1) A d G/\CurS wr g Sj/\(Sj.getD []).length<=140737488351232/\Hid (X=(G.map grP++(zbs (fun r=>r) L (R:Int) j Sj).1,(zbs (fun r=>r) L (R:Int) j Sj).2))/\New w wr/\gq<wr.heap.size) (fun i _=>(intOf i).toNat)
 case atStart=>exact⟨N,0,none,[],Sn,rfl,qrf (by simp),ql6 _,BQ7,BZ7,oC7,⟨zdx,by simp⟩,s7,by omega,HX0,b07,hq7⟩
 case round=>
  obtain⟨j,d,A,G,Sj,rfl,hGj,hjN,B,BZ,oC,GO,s,hsl,HXj,bw,hgr⟩:=hrel;clear HX0 s7 BQ7 BZ7 oC7 b07 hq7 HL1 HL2 HGC hok3 hsub3;have BD:=qrf (qe6 s);by_cases hj:0<j
  ·cases Sj with
   |none=>
    simp only[Option.isNone_none] at BD;have hX:=HXj.out;rw[znl,qmg] at hX;clear HXj;have hN:M=none:=by rw[HM.out,hX];exact if_neg (fun h=>by simp at h)
    have hNone:=qrf hN;have BW:=bw;have EN:=zlf s;simp only[qca] at EN;have EN:=qrf EN;clear HM HXD HXF hN GO oC HF1;go_wp2_with fail
    refine BD.out.mono ?_;rintro e w8' ⟨rfl,rfl⟩;go_wp2_with fail
    refine EN.out.mono ?_;rintro e w8 ⟨rfl,rfl⟩
    go_wp2_with (refine zan rfl 79 (.tmp 2) (.tmp 47) rfl w.heap.size _ rfl rfl BZ (by kernel_rfl) rfl (by simp[Value.oneCell']) ?_
                 intro W9 BR G9;obtain⟨r0,r1,r2⟩:=zar BR)
    rw[hNone.out];exact bodyPost_ret (v:= .tuple #[.agg #[.slice none 0 0,.int .i64 0,.slice none 0 0],.bool false]) (by simp[results,Tryz.results68,go_sem,r0,r1,r2]) rfl ⟨rfl,qr5 BW G9 (ql6 _) (ql6 _)⟩
   |some b=>
    simp only[qqd] at BD;obtain⟨j,rfl⟩:∃k,j=k+1:=⟨j-1,by omega⟩;have hX:=HXj.out;rw[zws] at hX;have hok:=s.ok;have hgs:=z31 (k:=fun r=>r) (cols:=L) (m:=(R:Int)) hok;have GG:=fun(W:World) (hs:CurS W g (some b)) (hC:W.ownsRow (gq+1) 71 3 (.slice Ac L.length cc) L.length (recs zl3 L))=>zwr (m:=(R:Int)) hs hsl (by omega) hC (by omega)
    generalize zdt (fun r=>r) L (R:Int) (some b)=H at*;obtain⟨gv,S5⟩:=H;obtain⟨gvr,gvc⟩:=gv;dsimp only at hX hgs GG;have HX:=qrf hX;have hGl:G.length<=65536:=by have:=hGj.out;omega
    have hge:∀x∈zbg (.slice A G.length d),gq+1<=x:=fun x hx=>(zma GO.row x hx).1
    have hne1:gq∉(g::zbg (.slice A G.length d)):=by
     intro hm;rcases qnu.1 hm with e|e
     ·omega
     ·have:=hge _ e;omega
    have hne2:w.heap.size∉(g::zbg (.slice A G.length d)):=by
     intro hm;rcases qnu.1 hm with e|e
     ·omega
     ·have:=hge _ e;omega
    obtain⟨x0,x1,x2⟩:=zar B;clear hX HXj hok;go_wp2_with fail
    refine BD.out.mono ?_;rintro e w8' ⟨rfl,rfl⟩;go_wp2_with fail
    refine zcf (Turns (g::zbg (.slice A G.length d))) 11 [(1,0),(0,1),(1,2),(1,3),(0,4),(1,5),(0,6),(2,7),(2,8),(2,9),(1,10),(2,11)]
     (qr7 _) qr8 (by kernel_rfl) (by kernel_rfl) (by kernel_rfl) (by kernel_rfl) ?_
    have F:=qrf (fun(W:World) (hW:Turns (g::zbg (.slice A G.length d)) wr.drew W)=>B.drew.touch hW hne1);have s2:=s.below (qr1 wr);have GO2:=GO.later (qr1 wr);have oC2:=za8 oC (qr1 wr);have B2:=B.drew;have BZ2:=BZ.drew;have bw2:=qr0 bw (qr1 wr);have GP2:=qrf (GG _ s2 oC2);have hgr2:gq<wr.drew.heap.size:=hgr;clear x0 x1 x2 B BZ GO oC s bw GG BD;obtain⟨wa,hwa⟩:∃wa,wa=wr.drew:=⟨_,rfl⟩;rw[<-hwa] at F s2 GO2 oC2 B2 BZ2 bw2 GP2 hgr2⊢;clear hwa;repeat(first
     |(refine zco rfl rfl (v:=?_) (fun W hW=>?_) ?_;rotate_left;(have F1:=F.out W hW;obtain⟨y0,y1,y2⟩:=zar F1;clear F1;go_simp<;> with_reducible rfl);simp only[Act.put,qoi,qn8,qoj])
     |(refine zb2 rfl rfl (v:=?_) (fun W=>?_) ?_;rotate_left;(go_simp<;> with_reducible rfl);simp only[Act.put,qoi,qn8,qoj]))
    refine zbl rfl rfl (fun K hK=>?_);go_simp
    (with_reducible refine GP2.out.mono ?_)
    rintro e w8 ⟨A8,d8,D8,rfl,hD8,CO8,s8,g8⟩;refine hK _ _ (.inr (.inr (qsa g8 (by simp)))) ?_;clear hK;dsimp only at hD8;have hz8:=g8.size;have GO8:=GO2.far g8 (by omega);have oC8:=oC2.kept g8 (.inr (fun e=>by have:=(qln oC2 _ e).1;omega));have B8:=B2.grown g8 (by intro e;injection e with e;omega);have BZ8:=BZ2.grown g8 (by intro e;injection e with e;omega);have bw8:=qr5 bw2 g8 (by omega) (ql6 _);have CO8:=CO8.base (show gq+1<=wa.heap.size by omega);have HD8:=qrf hD8;clear F GP2 GO2 oC2 B2 BZ2 bw2 s2 g8 hD8;refine zbl rfl rfl (fun K hK=>?_);go_simp
    refine hK _ _ (.inr (.inr (qr9 ((qq8 _ _).alloc (ql6 _) _)))) ?_;clear hK;have RL:=qsh w8 114 #[.int .i64 gvr,.slice A8 D8.length d8] 1 2 [.int .i64 gvr,.slice A8 D8.length d8] rfl rfl;have hb8:New w8 (w8.alloc (.cells #[.int .i64 gvr,.slice A8 D8.length d8] 114)):=(qq8 _ _).alloc (ql6 _) _;have GO9:=GO8.later hb8;have CO9:=CO8.later hb8;have oC9:=za8 oC8 hb8;have s9:=s8.below hb8;have B9:=B8.below hb8 B8.lt;have BZ9:=BZ8.below hb8 BZ8.lt;have bw9:=qr0 bw8 hb8;have hz9:=hb8.size;clear GO8 CO8 oC8 s8 B8 BZ8 bw8 hb8;obtain⟨wb,hwb⟩:∃wb,wb=w8.alloc (.cells #[.int .i64 gvr,.slice A8 D8.length d8] 114):=⟨_,rfl⟩;rw[<-hwb] at RL GO9 CO9 oC9 s9 B9 BZ9 bw9 hz9⊢;clear hwb;refine zbl rfl rfl (fun K hK=>?_);refine zxm qle (.tmp 29) (.tmp 36) rfl (W:=w) (B:=w.heap.size) (base:=gq+1) GO9.row RL rfl rfl bw9 (by omega) (by omega) (by simp[Value.oneCell']) (by omega) (by simp only[maxLen];omega) ?_;intro A10 c10 w10 _ _ o10 g10 bw10;refine hK _ _ (.inr (.inr ((qsi g10).more (fun x hx=>qps _ hx)))) ?_;clear hK;have hz10:=g10.size;have hrn:∀y,y<gq+1->y∉zbg (.slice A G.length d):=fun y hy hm=>by have:=hge _ hm;omega
    have B10:=B9.touch (qsi g10) (hrn _ (by omega));have BZ10:=BZ9.touch (qsi g10) (hrn _ (by omega));have s10:=s9.pushRow GO9.row g10 (by decide) (by decide);have oC10:=oC9.kept g10 (zef oC9 GO9.row (by decide));have P10:∀x∈G,ChOwn w10 (gq+1) x.2.1 x.2.2.1 x.2.2.2:=fun x hx=>(GO9.chunks x hx).row_ GO9.row g10 (by decide) (by decide)
    have CO10:=CO9.row_ GO9.row g10 (by decide) (by decide);have x0:=B10.cell 2;have y0:=B10.frozen 2;simp at x0;have gS:w10.grownBy (w10.setCell ⟨gq,2,none⟩ (.slice A10 (G.length+1) c10)) (some gq):=za1;clear GO9 CO9 oC9 s9 B9 BZ9 bw9 g10 RL;refine zb2 rfl rfl (v:=?_) (fun W=>?_) ?_;rotate_left
    ·go_simp<;> with_reducible rfl
    simp only[Act.put,qoi,qn8,qoj];refine zbl rfl rfl (fun K hK=>?_);go_simp
    refine hK _ _ (.inr (.inl rfl)) ?_;clear hK x0 y0;refine zfd ?_;have GO12:GrOwn (w10.setCell ⟨gq,2,none⟩ (.slice A10 (G.length+1) c10)) (gq+1) A10 c10 (G++[(gvr,A8,d8,D8)]):=by
     constructor
     ·rw[zt7,qmv]
      exact o10.kept gS (.inr (fun e=>by have:=(qln o10 _ e).1;omega))
     ·intro x hx
      rcases qnd.1 hx with hx|hx
      ·exact(P10 x hx).far gS (by omega)
      ·rw[qne.1 hx]
       exact CO10.far gS (by omega)
    have B12:=B10.set_ 2 (.slice A10 (G.length+1) c10);simp only[qoi,qn8,qoj] at B12;have BZ12:=BZ10.grown gS (by intro e;injection e with e;omega);have s12:=s10.keep gS B10 (by omega) (by decide);have oC12:=oC10.kept gS (.inr (fun e=>by have:=(qln oC10 _ e).1;omega));have bw12:=qr5 bw10 gS (by omega) (ql6 _);have hg12:gq<(w10.setCell ⟨gq,2,none⟩ (.slice A10 (G.length+1) c10)).heap.size:=by have:=gS.size;omega
    have HX12:Hid (X=((G++[(gvr,A8,d8,D8)]).map grP++(zbs (fun r=>r) L (R:Int) j S5).1,(zbs (fun r=>r) L (R:Int) j S5).2)):=qrf (by rw[HX.out,qpj,show [((gvr,A8,d8,D8):GrD)].map grP=[(gvr,gvc)] by rw[<-HD8.out];rfl,qmi];rfl)
    have HG12:Hid ((G++[(gvr,A8,d8,D8)]).length+j=N):=qrf (by rw[qmv,<-hGj.out];simp;omega);have hsl5:(S5.getD []).length<=140737488351232:=by omega
    have B12:Blk (w10.setCell ⟨gq,2,none⟩ (.slice A10 (G.length+1) c10)) gq 79 #[.slice Ac L.length cc,.int .i64 (R:Int),.slice A10 (G++[(gvr,A8,d8,D8)]).length c10]:=by rw[qmv];exact B12
    clear gS P10 CO10 o10 s10 oC10 BZ10 B10 bw10 HX HD8 hgs;go_wp2_with fail
    go_roundw
    case rel=>exact⟨j,c10,A10,G++[(gvr,A8,d8,D8)],S5,by go_num,HG12,by omega,B12,BZ12,oC12,GO12,s12,hsl5,HX12,bw12,hg12⟩
    case measure=>simp[intOf]
  ·obtain rfl:j=0:=by omega
   have hX:=HXj.out;rw[show zbs (fun r=>r) L (R:Int) 0 Sj=([],Sj) from rfl,qmg] at hX;clear HXj BD;cases Sj with
   |none=>
    have hN:M=none:=by rw[HM.out,hX];exact if_neg (fun h=>by simp at h)
    have hNone:=qrf hN;have BW:=bw;have EN:=zlf s;simp only[qca] at EN;have EN:=qrf EN;clear HM HXD HXF hN GO oC HF1;go_wp2_with fail
    refine EN.out.mono ?_;rintro e w8 ⟨rfl,rfl⟩
    go_wp2_with (refine zan rfl 79 (.tmp 2) (.tmp 47) rfl w.heap.size _ rfl rfl BZ (by kernel_rfl) rfl (by simp[Value.oneCell']) ?_
                 intro W9 BR G9;obtain⟨r0,r1,r2⟩:=zar BR)
    rw[hNone.out];exact bodyPost_ret (v:= .tuple #[.agg #[.slice none 0 0,.int .i64 0,.slice none 0 0],.bool false]) (by simp[results,Tryz.results68,go_sem,r0,r1,r2]) rfl ⟨rfl,qr5 BW G9 (ql6 _) (ql6 _)⟩
   |some r=>
    cases r with
    |cons z r=>
     have hN:M=none:=by rw[HM.out,hX];exact if_neg (fun h=>by simp at h)
     have hNone:=qrf hN;have BW:=bw;have EN:=zlf s;simp only[qca] at EN;have EN:=qrf EN;clear HM HXD HXF hN GO oC HF1;go_wp2_with fail
     refine EN.out.mono ?_;rintro e w8 ⟨rfl,rfl⟩
     go_wp2_with (refine zan rfl 79 (.tmp 2) (.tmp 47) rfl w.heap.size _ rfl rfl BZ (by kernel_rfl) rfl (by simp[Value.oneCell']) ?_
                  intro W9 BR G9;obtain⟨r0,r1,r2⟩:=zar BR)
     rw[hNone.out];exact bodyPost_ret (v:= .tuple #[.agg #[.slice none 0 0,.int .i64 0,.slice none 0 0],.bool false]) (by simp[results,Tryz.results68,go_sem,r0,r1,r2]) rfl ⟨rfl,qr5 BW G9 (ql6 _) (ql6 _)⟩
    |nil=>
     have EN:=zlf s;simp only[qca] at EN;have EN:=qrf EN;have hGl:G.length<=65536:=by have:=hGj.out;omega
     have hsh:∀x∈G,x.2.2.2.length=L.length/\ ∀y∈x.2.2.2,y.2.2.length<=65536:=fun x hx=>by have h1:=HXF.out;rw[hX] at h1;obtain⟨h2,h3⟩:=h1 (grP x) (qly.2 ⟨x,hx,rfl⟩);unfold grP at h2 h3;rw[qos] at h2;exact⟨h2,fun y hy=>h3 y.2.2 (qly.2 ⟨y,hy,rfl⟩)⟩
     have FI:=FootIn.own oC GO HF1.out hcc hf2 hGl hsh;have HFO:=qrf (fun(W:World) (o1:W.ownsRow (gq+1) 71 3 (.slice Ac L.length cc) L.length (recs zl3 L)) (o2:GrOwn W (gq+1) A d G)=>FootIn.own o1 o2 HF1.out hcc hf2 hGl hsh);have hdat:∀x∈G,∀y∈x.2.2.2,∀p∈y.2.2,zep p.2.2:=fun x hx y hy p hp=>by have h1:=HXD.out;rw[hX] at h1;exact(h1 (grP x) (qly.2 ⟨x,hx,rfl⟩) y.2.2 (qly.2 ⟨y,hy,rfl⟩) p hp).fine
     have RT:=zms (cg:=d) (r:=(R:Int)) FI hdat;have RT:Calls Tryz.prog 87 #[.agg #[.slice Ac L.length cc,.int .i64 (R:Int),.slice A G.length d]] wr (zak (.bool (zfw (zb5 L (R:Int) G))) wr):=RT;have hMM:=HM.out;rw[hX] at hMM;dsimp only at hMM;have HOC:=qrf oC;have HGO:=qrf GO;clear HM HXD HXF hdat hsh FI GO oC HF1;obtain⟨x0,x1,x2⟩:=zar B;by_cases hFo:zb0 (zb5 L (R:Int) G)
     ·rw[zmr hFo] at RT
      rw[if_pos ⟨rfl,hFo⟩] at hMM;have RT:=qrf RT;have HMM:=qrf hMM;clear hMM hFo;go_wp2_with fail
      refine EN.out.mono ?_;rintro e w8 ⟨rfl,rfl⟩;go_wp2_with fail
      refine RT.out.mono ?_;rintro e w9 ⟨rfl,b9⟩;have B9:=B.below b9 B.lt;have BZ9:=BZ.below b9 BZ.lt;have HOC:=qrf (za8 HOC.out b9);have HGO:=qrf (HGO.out.later b9);have b09:=qr0 bw b9;clear B BZ b9 x0 x1 x2 RT EN;obtain⟨x0,x1,x2⟩:=zar B9
      go_wp2_with (refine zan rfl 79 (.tmp 2) (.tmp 48) rfl w.heap.size _ rfl rfl BZ9 (by kernel_rfl) rfl (by simp[Value.oneCell']) ?_
                   intro W9 BR G9;obtain⟨r0,r1,r2⟩:=zar BR)
      rw[HMM.out];exact bodyPost_ret (v:= .tuple #[.agg #[.slice Ac L.length cc,.int .i64 (R:Int),.slice A G.length d],.bool true]) (by simp[results,Tryz.results68,go_sem,r0,r1,r2]) rfl ⟨Ac,cc,L,(R:Int),A,d,G,rfl,rfl,⟨fun g' W' hg' G'=>HFO.out _ (qlm (HOC.out.kept G9 (.inr (fun e=>by have:=(qln HOC.out _ e).1;omega))) G' (.inr (fun e=>by have:=(qln HOC.out _ e).1;omega))) ((HGO.out.far G9 (by omega)).far G' (by omega)),by obtain⟨_,_,e,k,_⟩:=zcy HGO.out.row;injection e with _ _ e;omega⟩,qr5 b09 G9 (ql6 _) (ql6 _)⟩
     ·rw[zpw hFo] at RT
      rw[if_neg (fun h=>hFo h.2)] at hMM;have RT:=qrf RT;have hNone:=qrf hMM;clear hMM hFo HFO HOC HGO;go_wp2_with fail
      refine EN.out.mono ?_;rintro e w8 ⟨rfl,rfl⟩;go_wp2_with fail
      refine RT.out.mono ?_;rintro e w9 ⟨rfl,b9⟩;have BZ:=BZ.below b9 BZ.lt;have BW:=qr0 bw b9;clear B b9 x0 x1 x2 RT EN
      go_wp2_with (refine zan rfl 79 (.tmp 2) (.tmp 47) rfl w.heap.size _ rfl rfl BZ (by kernel_rfl) rfl (by simp[Value.oneCell']) ?_
                   intro W9 BR G9;obtain⟨r0,r1,r2⟩:=zar BR)
      rw[hNone.out];exact bodyPost_ret (v:= .tuple #[.agg #[.slice none 0 0,.int .i64 0,.slice none 0 0],.bool false]) (by simp[results,Tryz.results68,go_sem,r0,r1,r2]) rfl ⟨rfl,qr5 BW G9 (ql6 _) (ql6 _)⟩
end Go.Proofs.Y
