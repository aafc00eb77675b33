/- Merged. -/
import Derived.Test.YtmgfkpnghlmheaaGreatBun25
import Derived.Test.YtmgfkpnghlmheaaGreatBun28
set_option maxHeartbeats 4000000
namespace Go.Hm
open Go Go.RowKit
theorem zd4{w:World}{base base2 sz sz2 n n2:Nat}{e e2:TypeId}{v v2:Value}{xs xs2:List Value}(h:w.ownsRow base e sz v n xs)(h2:w.ownsRow base2 e2 sz2 v2 n2 xs2)(hne:e≠e2):v.ownBlock=none\/v.ownBlock≠v2.ownBlock:=by
 rcases hu:v.ownBlock with _|k
 ·exact .inl rfl
 ·refine .inr fun he=>z7q h h2 hne k ?_ hu
  unfold zmp;rw[<-he];simp
theorem ztb(D:List ChD)(x:ChD):recs chV (D++[x])=recs chV D++[.slice x.1 x.2.2.length x.2.1]:=by rw[zas];rfl
end Go.Hm
namespace Go.Proofs.Y
open Go.RowKit Go.Hm
theorem zmf{m:Int}:∀(cs:List za1) (c:za1) (S:St),zbi m (cs++[c]) S=((zbi m cs S).1++[(zdd c.2.1 m (zbi m cs S).2).1],(zdd c.2.1 m (zbi m cs S).2).2)
 | [],_,_=>rfl
 |x::cs,c,S=>by
  have:=zmf (m:=m) cs c (zdd x.2.1 m S).2;simp only[List.cons_append,zbi,this]
theorem zrm{t m:Int}:∀(k:Nat) {S:St},S.ok->((zcn t m k S).2.getD []).length<=(S.getD []).length
 |0,_,_=>Nat.le_refl _
 |_+1,none,_=>Nat.le_refl _
 |k+1,some b,h=>by
  have h1:=zrm (t:=t) (m:=m) k (znd (t:=t) (m:=m) h);have h2:((zgt t m (some b)).2.getD []).length<=((some b:St).getD []).length:=by unfold zgt;have a:=zc3 (m:=268435456) h;have b':=zc3 (m:=m) (zba (m:=268435456) h);have c:=z0j (t:=t) (zba (m:=m) (zba (m:=268435456) h));dsimp only;omega
  simp only[zcn];omega
theorem zrn{t m:Int}{S:St}(h:S.ok):((zdd t m S).2.getD []).length<=(S.getD []).length:=by have a:=zc3 (m:=m) h;have b:=zrm (t:=t) (m:=m) (lenS m S).1 (zba (m:=m) h);unfold zdd;omega
structure ChOwn(w:World)(B:Nat)(A:Option Addr)(d:Nat)(D:List ChD):Prop where
 row:w.ownsRow B 53 1 (.slice A D.length d) D.length (recs chV D)
 pages:∀x∈D,w.ownsRow B 65 14 (.slice x.1 x.2.2.length x.2.1) x.2.2.length (recs zf7 x.2.2)
theorem ChOwn.later{w w':World}{B:Nat}{A:Option Addr}{d:Nat}{D:List ChD}(h:ChOwn w B A d D)(b:New w w'):ChOwn w' B A d D:=⟨zav h.row b,fun x hx=>zav (h.pages x hx) b⟩
theorem ChOwn.far{w w':World}{B g:Nat}{A:Option Addr}{d:Nat}{D:List ChD}(h:ChOwn w B A d D)(hg:w.grownBy w' (some g))(hne:g<B):ChOwn w' B A d D:=
 ⟨h.row.kept hg (.inr (fun e=>by have:=(World.ownsRow.lt h.row _ e).1;omega)),fun x hx=>(h.pages x hx).kept hg (.inr (fun e=>by have:=(World.ownsRow.lt (h.pages x hx) _ e).1;omega))⟩
theorem ChOwn.blk{w w':World}{B g:Nat}{A:Option Addr}{d:Nat}{D:List ChD}{t:TypeId}{cs:Array Value}(h:ChOwn w B A d D)(hB:Blk w g t cs)(hg:w.grownBy w' (some g))(h1:53≠t)(h2:65≠t):ChOwn w' B A d D:=
 ⟨h.row.kept hg (.inr (zao h.row hB h1)),fun x hx=>(h.pages x hx).kept hg (.inr (zao (h.pages x hx) hB h2))⟩
def z7r(G:za5)(g:Nat)(S:St)(w:World)(e:Ending)(w':World):Prop:=
 ∃A d D,e= .returned (.agg #[.int .i64 G.1,.slice A D.length d])/\D.map (·.2.2)=G.2/\ChOwn w' w.heap.size A d D/\CurS w' g S/\w.grownBy w' (some g)
theorem qi8:ElT Tryz.prog 54 53 (.slice none 0 0) 1 24:=⟨by kernel_rfl,by kernel_rfl,rfl,by omega⟩
set_option maxRecDepth 100000 in
theorem zvp{w:World}{g base cc:Nat}{S:St}{m:Int}{Ac:Option Addr}{L:List za1}(h:CurS w g S)(hl:(S.getD []).length<=140737488351232)(hm:0<=m/\m<=65536)
 (hL:w.ownsRow base 70 3 (.slice Ac L.length cc) L.length (recs zhq L))(hlen:L.length<=100000):
 Calls Tryz.prog 81 #[.pointer (some ⟨g,0,none⟩),.slice Ac L.length cc,.int .i64 m] w (z7r (zdp (fun r=>r) L m S).1 g (zdp (fun r=>r) L m S).2 w):=by
 obtain⟨X,hX⟩:∃X,X=zdp (fun r=>r) L m S:=⟨_,rfl⟩;rw[<-hX];unfold zdp at hX;have hgw:=h.lt;have hle:=zbx (m:=m) S hm.1 h.ok;have hok:=zba (m:=m) h.ok;have hsub:=zc3 (m:=m) h.ok;obtain⟨cb,hcb⟩:=h.blk;have hLne:=zao hL hcb (by decide);have HLK:=Hz (fun(W:World) (G:w.grownBy W (some g))=>hL.kept G (.inr hLne));have ha:New w (w.alloc (.cells #[.int .i64 0,.slice none 0 0] 56)):=(Below.refl _ _).alloc (Nat.le_refl _) _;have BZ:=Blk.new w 56 #[.int .i64 0,.slice none 0 0];have s0:=h.below ha;have L1:=Hz (zcc (m:=m) s0 (by omega) (by omega));generalize lenS m S=H at*;obtain⟨N,S1⟩:=H;dsimp only at*;have HX:=Hz hX;clear hX h hL hcb hLne s0;go_enter Tryz.func81,Tryz.ntmps81
 go_wp2_with fail
 refine L1.out.mono ?_;rintro e w1 ⟨rfl,s1,g1⟩;have hz1:=g1.size;simp only[World.size_alloc] at hz1;have BZ1:=BZ.grown g1 (by intro e;injection e with e;omega);have ha2:New w1 (w1.alloc (.cells #[.int .i64 (N:Int),.slice none 0 0] 56)):=(Below.refl _ _).alloc (Nat.le_refl _) _;have BQ:=Blk.new w1 56 #[.int .i64 (N:Int),.slice none 0 0];have BZ2:=BZ1.below ha2 BZ1.lt;have s2:=s1.below ha2;have G2:=ze7 ((zdg (row:=some g) ha).trans g1) (zdg (row:=none) ha2) (by simp);have hgz:w.heap.size<w1.heap.size:=by omega
 clear L1 BZ BZ1 s1 g1 ha ha2;go_wp2_with fail
 generalize w1.heap.size=gq at*;go_loopw [16] (fun i wr=>∃(k d:Nat) (A:Option Addr) (D:List ChD),k<=L.length/\i= .int .i64 (k:Int)/\Blk wr gq 56 #[.int .i64 (N:Int),.slice A D.length d]/\Blk wr w.heap.size 56 #[.int .i64 0,.slice none 0 0]
  /\ChOwn wr w.heap.size A d D/\Hid (D.map (·.2.2)=(zbi (N:Int) (L.take k) S1).1)/\Hid (D.length=k)/\CurS wr g (zbi (N:Int) (L.take k) S1).2/\((zbi (N:Int) (L.take k) S1).2.getD []).length<=140737488351232/\w.grownBy wr (some g)) (fun i _=>L.length-(intOf i).toNat)
 case atStart=>exact⟨0,0,none,[],Nat.zero_le _,rfl,BQ,BZ2,⟨zcp,by simp⟩,Hz rfl,Hz rfl,s2,by simp only[List.take_zero,zbi];omega,G2⟩
 case round=>
  obtain⟨k,d,A,D,hk,rfl,B,BZ,CO,HD,hDk,s,hsl,G⟩:=hrel;clear BQ BZ2 s2 G2 hok hsub;have hDl:D.length<=100000:=by have:=hDk.out;omega
  have hgr:=G.size;by_cases hlt:k<L.length
  ·have oL:=HLK.out wr G
   obtain⟨al,rfl,hbl,f0,f1,f2⟩:=(Reads.of_own oL).colT hlt;have htk:=zae L k zdo hlt;have hsn:=zmf (m:=(N:Int)) (L.take k) (L.getD k zdo) S1;rw[<-htk] at hsn;have hok:=s.ok;generalize(zbi (N:Int) (L.take k) S1).2=Sk at*;have hcs:=zrn (t:=(L.getD k zdo).2.1) (m:=(N:Int)) hok;have GPg:=fun(W:World) (hs:CurS W g Sk)=>zvo (t:=(L.getD k zdo).2.1) (m:=(N:Int)) hs hsl (by omega)
   rw[<-HD.out] at hsn;generalize L.getD k zdo=col at*;obtain⟨nm,t,nu⟩:=col;dsimp only at f0 f1 f2 hsn hcs GPg;generalize zdd t (N:Int) Sk=H at*;obtain⟨pl,S5⟩:=H;dsimp only at hsn hcs GPg;have ha:New wr (wr.alloc (.cells #[.string (zac nm),.int .i64 t,.bool nu] 70)):=(Below.refl _ _).alloc (Nat.le_refl _) _;have BC:=Blk.new wr 70 #[.string (zac nm),.int .i64 t,.bool nu];have B1:=B.below ha B.lt;have BZ1:=BZ.below ha BZ.lt;have CO1:=CO.later ha;have s1:=s.below ha;have G1:=ze7 G (zdg (row:=none) ha) (by simp);have HSN:=Hz hsn;have hgl:=s.lt;have hap:=fun b e=>(World.ownsRow.lt CO.row b e).2
   clear B BZ CO s G hbl htk hsn HD oL hok ha;have hza:wr.heap.size<(wr.alloc (.cells #[.string (zac nm),.int .i64 t,.bool nu] 70)).heap.size:=by simp
   obtain⟨y0,y1,y2⟩:=zad BC;obtain⟨z0,z1⟩:=za7 B1;have hne1:gq∉(g::zmp (.slice A D.length d)):=by
    intro hm;rcases List.mem_cons.1 hm with e|e
    ·omega
    ·exact ziq CO1.row B1 (by decide) e
   have hne2:wr.heap.size∉(g::zmp (.slice A D.length d)):=by
    intro hm;rcases List.mem_cons.1 hm with e|e
    ·omega
    ·exact ziq CO1.row BC (by decide) e
   go_wp2_with fail
   refine zdy (Turns (g::zmp (.slice A D.length d))) 11 [(1,0),(0,1),(1,2),(1,3),(0,4),(1,5),(0,6),(2,7),(2,8),(2,9),(1,10),(2,11)]
    (Turns.refl _) Turns.trans (by kernel_rfl) (by kernel_rfl) (by kernel_rfl) (by kernel_rfl) ?_
   have F:=Hz (fun(W:World) (hW:Turns (g::zmp (.slice A D.length d)) (wr.alloc (.cells #[.string (zac nm),.int .i64 t,.bool nu] 70)).drew W)=>And.intro (B1.drew.touch hW hne1) (BC.drew.touch hW hne2));have s2:=s1.below (New.drew _);have CO2:=CO1.later (New.drew _);have B2:=B1.drew;have BZ2:=BZ1.drew;have G2:=ze7 G1 (zdg (row:=none) (New.drew _)) (by simp);have GP2:=Hz (GPg _ s2);clear y0 y1 y2 z0 z1 B1 BZ1 CO1 s1 G1 GPg;obtain⟨wa,hwa⟩:∃wa,wa=(wr.alloc (.cells #[.string (zac nm),.int .i64 t,.bool nu] 70)).drew:=⟨_,rfl⟩;have hza2:wr.heap.size<wa.heap.size:=by rw[hwa];exact hza
   rw[<-hwa] at F s2 CO2 B2 BZ2 G2 GP2⊢;clear hwa BC hza;repeat(first
    |(refine zd7 rfl rfl (v:=?_) (fun W hW=>?_) ?_;rotate_left;(obtain⟨F1,F2⟩:=F.out W hW;obtain⟨y0,y1,y2⟩:=zad F2;obtain⟨z0,z1⟩:=za7 F1;clear F1 F2;go_simp<;> with_reducible rfl);simp only[Act.put,List.setIfInBounds_toArray,List.set_cons_zero,List.set_cons_succ])
    |(refine zcv rfl rfl (v:=?_) (fun W=>?_) ?_;rotate_left;(go_simp<;> with_reducible rfl);simp only[Act.put,List.setIfInBounds_toArray,List.set_cons_zero,List.set_cons_succ]))
   refine zbl rfl rfl (fun K hK=>?_);go_simp
   (with_reducible refine GP2.out.mono ?_)
   rintro e w8 ⟨A8,n8,c8,rfl,o8,s8,g8⟩;refine hK _ _ (.inr (.inr (Turns.of_far g8 (by simp)))) ?_;clear hK;obtain rfl:n8=pl.length:=(Reads.of_own o8).lenPage;have hz8:=g8.size;have CO8:=CO2.far g8 hgw;have B8:=B2.grown g8 (by intro e;injection e with e;omega);have BZ8:=BZ2.grown g8 (by intro e;injection e with e;omega);have G8:=G2.trans g8;have o8:=zbg o8 (show w.heap.size<=wa.heap.size by omega);clear F GP2 CO2 B2 BZ2 G2 s2 g8;refine zbl rfl rfl (fun K hK=>?_);go_simp
   refine hK _ _ (.inr (.inr (Turns.of_new ((Below.refl _ _).alloc (Nat.le_refl _) _)))) ?_;clear hK;have RL:=Reads.litR w8 53 #[.slice A8 pl.length c8] 1 1 [.slice A8 pl.length c8] rfl rfl;have hb8:New w8 (w8.alloc (.cells #[.slice A8 pl.length c8] 53)):=(Below.refl _ _).alloc (Nat.le_refl _) _;have CO9:=CO8.later hb8;have o9:=zav o8 hb8;have s9:=s8.below hb8;have B9:=B8.below hb8 B8.lt;have BZ9:=BZ8.below hb8 BZ8.lt;have G9:=ze7 G8 (zdg (row:=none) hb8) (by simp);have hz9:=hb8.size;clear CO8 o8 s8 B8 BZ8 G8 hb8;obtain⟨wb,hwb⟩:∃wb,wb=w8.alloc (.cells #[.slice A8 pl.length c8] 53):=⟨_,rfl⟩;rw[<-hwb] at RL CO9 o9 s9 B9 BZ9 G9 hz9⊢;have hbk:(Value.ownBlock (.slice (some ⟨w8.heap.size,0,none⟩) 1 1))=some w8.heap.size:=rfl;clear hwb hbk;refine zbl rfl rfl (fun K hK=>?_);refine z7n qi8 (.tmp 21) (.tmp 28) rfl (W:=w) (B:=0) (base:=w.heap.size) CO9.row RL rfl rfl (zlc G9) (Nat.zero_le _) (by omega) (by simp[Value.oneCell']) (by omega) (by simp only[maxLen];omega) ?_;intro A10 c10 w10 _ _ o10 g10 _;refine hK _ _ (.inr (.inr ((Turns.row g10).more (fun x hx=>List.mem_cons_of_mem _ hx)))) ?_;clear hK;have B10:=B9.touch (Turns.row g10) (ziq CO9.row B9 (by decide));have BZ10:=BZ9.touch (Turns.row g10) (ziq CO9.row BZ9 (by decide));have s10:=s9.pushRow CO9.row g10 (by decide) (by decide);have G10:=ze7 G9 g10 (fun b e=>(World.ownsRow.lt CO9.row b e).1);have P10:∀x∈D,w10.ownsRow w.heap.size 65 14 (.slice x.1 x.2.2.length x.2.1) x.2.2.length (recs zf7 x.2.2):=fun x hx=>(CO9.pages x hx).kept g10 (zd4 (CO9.pages x hx) CO9.row (by decide))
   have o11:=o9.kept g10 (zd4 o9 CO9.row (by decide));have x0:=B10.cell 1;have y0:=B10.frozen 1;simp at x0;have gS:w10.grownBy (w10.setCell ⟨gq,1,none⟩ (.slice A10 (D.length+1) c10)) (some gq):=zar;clear CO9 o9 s9 B9 BZ9 G9 g10 RL;refine zcv rfl rfl (v:=?_) (fun W=>?_) ?_;rotate_left
   ·go_simp<;> with_reducible rfl
   simp only[Act.put,List.setIfInBounds_toArray,List.set_cons_zero,List.set_cons_succ];refine zbl rfl rfl (fun K hK=>?_);go_simp
   refine hK _ _ (.inr (.inl rfl)) ?_;clear hK x0 y0;refine zht ?_;have CO12:ChOwn (w10.setCell ⟨gq,1,none⟩ (.slice A10 (D.length+1) c10)) w.heap.size A10 c10 (D++[(A8,c8,pl)]):=by
    constructor
    ·rw[ztb,List.length_append]
     exact o10.kept gS (.inr (zao o10 B10 (by decide)))
    ·intro x hx
     rcases List.mem_append.1 hx with hx|hx
     ·exact(P10 x hx).kept gS (.inr (zao (P10 x hx) B10 (by decide)))
     ·rw[List.mem_singleton.1 hx]
      exact o11.kept gS (.inr (zao o11 B10 (by decide)))
   have B12:=B10.set_ 1 (.slice A10 (D.length+1) c10);simp only[List.setIfInBounds_toArray,List.set_cons_zero,List.set_cons_succ] at B12;have BZ12:=BZ10.grown gS (by intro e;injection e with e;omega);have s12:=s10.keep gS B10 (by omega) (by decide);have G12:=zbd G10 gS (by omega);have HD12:Hid ((D++[(A8,c8,pl)]).map (fun x:ChD=>x.2.2)=(zbi (N:Int) (L.take (k+1)) S1).1):=Hz (by rw[HSN.out,List.map_append];rfl);have hs12:(zbi (N:Int) (L.take (k+1)) S1).2=S5:=by rw[HSN.out]
   have HS12:=Hz hs12;clear gS P10 o10 o11 s10 G10 BZ10 B10 HSN hs12;go_wp2_with fail
   go_roundw
   case rel=>exact⟨k+1,c10,A10,D++[(A8,c8,pl)],by omega,by go_num,by rw[List.length_append];exact B12,BZ12,CO12,HD12,Hz (by rw[List.length_append,hDk.out];rfl),by rw[HS12.out];exact s12,by rw[HS12.out];omega,G12⟩
   case measure=>simp[intOf];omega
  ·obtain rfl:k=L.length:=by omega
   obtain⟨z0,z1⟩:=za7 B;have hX:=HX.out;rw[List.take_length] at s;have HD2:=HD.out;rw[List.take_length] at HD2;have HXX:=Hz hX;have HS:=Hz s;have HDD:=Hz HD2;have HG:=Hz G;have HCO:=Hz CO;clear hX s HD HD2 G CO
   go_wp2_with (refine zah rfl 56 (.tmp 6) (.tmp 32) rfl w.heap.size _ rfl rfl BZ (by kernel_rfl) rfl (by simp[Value.oneCell']) ?_
                intro W9 BR G9;obtain⟨s0,s1⟩:=za7 BR)
   have hX:=HXX.out;subst hX;exact bodyPost_ret (v:= .agg #[.int .i64 (N:Int),.slice A D.length d]) (by simp[results,Tryz.results81,go_sem,s0,s1]) rfl ⟨A,d,D,rfl,HDD.out,HCO.out.blk BZ G9 (by decide) (by decide),HS.out.keep G9 BZ (by omega) (by decide),zbd HG.out G9 (Nat.le_refl _)⟩
end Go.Proofs.Y
namespace Go.Hm
open Go Go.RowKit
abbrev zfp:=Option Addr × Nat × List zh6
def zpl(d:zfp):List Value:=[.slice d.1 d.2.2.length d.2.1]
def RowBIn(w:World)(d:zfp):Prop:=Reads w w.heap.size 1 d.1 d.2.2.length (recs zja d.2.2)
theorem RowBIn.later{w w':World}{d:zfp}(h:RowBIn w d)(hb:New w w'):RowBIn w' d:=Reads.later h hb
def zc1(D:List zfp):List zh6:=D.flatMap fun d=>d.2.2
theorem z3m(D:List zfp)(d:zfp):zc1 (D++[d])=zc1 D++d.2.2:=by simp[zc1]
theorem zrx{D:List zfp}{k:Nat}(hk:k<D.length):zc1 (D.take (k+1))=zc1 (D.take k)++(D.getD k (none,0,[])).2.2:=by rw[zae _ k (none,0,[]) hk,z3m]
theorem zk2(D:List zfp)(k:Nat):(zc1 (D.take k)).length<=(zc1 D).length:=by
 have e:zc1 D=zc1 (D.take k)++zc1 (D.drop k):=by unfold zc1;rw[<-List.flatMap_append,List.take_append_drop]
 rw[e,List.length_append];omega
theorem z8u{w:World}{B:Nat}{A:Option Addr}{n:Nat}{D:List zfp}(h:Reads w B 1 A n (recs zpl D)){k:Nat}(hk:k<D.length):
 ∃ad,A=some ad/\ad.block<B/\w.cell? (ad.add k)=some (.slice (D.getD k (none,0,[])).1 (D.getD k (none,0,[])).2.2.length (D.getD k (none,0,[])).2.1):=by
 have hn:n=D.length:=by have:=h.1;rw[zat (sz:=1) (fun _=>rfl)] at this;omega
 obtain⟨ad,u,e,hb,hu,hc⟩:=h.at_ (k:=k) (by omega);have:=zn0 (f:=zpl) (sz:=1) (fun _=>rfl) D (none,0,[]) k 0 hk (by omega);rw[Nat.mul_one,Nat.add_zero] at this;rw[this] at hu;obtain rfl:=Option.some.inj hu;exact⟨ad,e,hb,hc⟩
theorem zgb(D:List zh6):(recs zja D).length=D.length:=by rw[zat (sz:=1) (fun _=>rfl)];omega
theorem zpm(D:List zh6):∀u∈recs zja D,u.oneCell'=true:=by intro u hu;unfold recs at hu;obtain⟨d,_,hd⟩:=List.mem_flatMap.1 hu;obtain rfl:=List.mem_singleton.1 hd;rfl
end Go.Hm
namespace Go.Proofs.Y
open Go.RowKit Go.Hm
theorem qin:ElT Tryz.prog 52 31 (.slice none 0 0) 1 24:=⟨by kernel_rfl,by kernel_rfl,rfl,by omega⟩
def qc9(l:List zh6)(w:World)(e:Ending)(w':World):Prop:=
 ∃A c,e= .returned (.slice A l.length c)/\w'.ownsRow w.heap.size 31 1 (.slice A l.length c) l.length (recs zja l)/\New w w'
theorem z8v{w:World}{n:Nat}(hn:n<=5000000000000):
 Calls Tryz.prog 89 #[.slice none 0 0,.int .i64 (n:Int)] w (fun e w'=>∃A c,e= .returned (.slice A 0 c)/\w'.ownsRow w.heap.size 31 1 (.slice A 0 c) 0 []/\New w w'):=by
 by_cases h0:n=0
 ·subst h0
  go_enter Tryz.func89,Tryz.ntmps89
  go_wp2_with fail
  go_ret
  exact⟨none,0,rfl,World.ownsRow_nil _ _ _ _,New.refl _⟩
 ·have h1: ¬((n:Int)<0):=by omega
  have h2:(0:Int)<(n:Int):=by omega
  have h3:wrap64 ((n:Int)-0)=(n:Int):=by unfold wrap64;omega
  have h4:wrap64 (n:Int)=(n:Int):=by unfold wrap64;omega
  go_enter Tryz.func89,Tryz.ntmps89
  go_wp2_with (refine zmi qin rfl (.tmp 20) (.tmp 21) rfl qi2 rfl rfl n rfl (by omega) (by omega) (by simp only[maxLen];omega) ?_
               intro w1 cap hc1 hc2 o1 b1)
  go_ret
  exact⟨_,cap,rfl,o1,b1⟩
set_option maxRecDepth 100000 in
theorem zyi{w:World}{A:Option Addr}{n c:Nat}{D:List zfp}(h:Reads w w.heap.size 1 A n (recs zpl D))(hD:∀d∈D,RowBIn w d)(hn:n<=5000000000000)(hl:(zc1 D).length<=5000000000000):
 Calls Tryz.prog 47 #[.slice A n c] w (qc9 (zc1 D) w):=by
 have hlen:n=D.length:=by have:=h.1;rw[zat (sz:=1) (fun _=>rfl)] at this;omega
 subst hlen;have HR:=Hz h;have HD:=Hz hD;clear h hD;go_enter Tryz.func47,Tryz.ntmps47
 go_wp2_with fail
 go_loopw [3,11] (fun s i wr=>∃k:Nat,k<=D.length/\i= .int .i64 (k:Int)/\s= .int .i64 ((zc1 (D.take k)).length:Int)/\wr=w) (fun _ i _=>D.length-(intOf i).toNat)
 case atStart=>exact⟨0,Nat.zero_le _,rfl,rfl,rfl⟩
 case round=>
  obtain⟨k,hk,rfl,rfl,rfl⟩:=hrel;by_cases hlt:k<D.length
  ·obtain⟨ad,rfl,_,hc⟩:=z8u HR.out hlt
   have e1:=zrx hlt;have e2:=zk2 D (k+1);have E1:=Hz e1;have e3:(zc1 (D.take (k+1))).length=(zc1 (D.take k)).length+(D.getD k (none,0,[])).2.2.length:=by rw[e1,List.length_append]
   clear e1;generalize D.getD k (none,0,[])=d at*;obtain⟨da,dc,dl⟩:=d;have i1:(k:Int)<(D.length:Int):=by omega
   have i2:wrap64 (((zc1 (D.take k)).length:Int)+(dl.length:Int))=((zc1 (D.take (k+1))).length:Int):=by rw[e3];dsimp only;unfold wrap64;dsimp only at e3;omega
   have i3: ¬(((zc1 (D.take (k+1))).length:Int)<0):=by omega
   have E3:=Hz e3;clear e3;generalize(zc1 (D.take k)).length=s0 at*;generalize hs1:(zc1 (D.take (k+1))).length=s1 at*;have HS:=Hz hs1;clear hs1;go_wp2_with fail
   go_roundw
   case rel=>exact⟨k+1,by omega,by go_num,by rw[HS.out,i2],by trivial⟩
   case measure=>simp[intOf];omega
  ·obtain rfl:k=D.length:=by omega
   rw[List.take_length];generalize wr=w0 at*;have G:=Hz (z8v (w:=w0) (n:=(zc1 D).length) hl);generalize hs1:(zc1 D).length=s1 at*;have HS:=Hz hs1;clear hs1;go_wp2_with fail
   refine G.out.mono ?_;rintro e W1 ⟨A1,c1,rfl,o1,b1⟩;clear G;go_wp2_with fail
   go_loopw [6,27] (fun s i wr=>∃(k:Nat) (A2:Option Addr) (c2:Nat),k<=D.length/\i= .int .i64 (k:Int)/\s= .slice A2 (zc1 (D.take k)).length c2/\Go.Hm.Own wr w0.heap.size 31 (.slice A2 (zc1 (D.take k)).length c2) (recs zja (zc1 (D.take k)))/\New w0 wr) (fun _ i _=>D.length-(intOf i).toNat)
   case atStart=>exact⟨0,A1,c1,Nat.zero_le _,rfl,rfl,o1,b1⟩
   case round=>
    clear o1 b1;obtain⟨k,A2,c2,hk,rfl,rfl,o,b⟩:=hrel;by_cases hlt:k<D.length
    ·obtain⟨ad,rfl,_,hc⟩:=z8u (Reads.later HR.out b) hlt
     have hrd:=RowBIn.later (HD.out _ (zc5 (none,0,[]) hlt)) b;have e1:=zrx hlt;have e2:=zk2 D (k+1);rw[HS.out] at e2;have E1:=Hz e1;have e3:(zc1 (D.take (k+1))).length=(zc1 (D.take k)).length+(D.getD k (none,0,[])).2.2.length:=by rw[e1,List.length_append]
     have e4:(zc1 (D.take (k+1))).length<=5000000000000:=by omega
     clear e1;generalize D.getD k (none,0,[])=d at*;obtain⟨da,dc,dl⟩:=d;have i1:(k:Int)<(D.length:Int):=by omega
     have hrd:Reads _ _ 1 da dl.length (recs zja dl):=hrd;have hsz:=b.size;generalize zc1 (D.take k)=F at*;generalize hF1:zc1 (D.take (k+1))=F1 at*;have HF:=Hz hF1;have e5:F.length+dl.length<=5000000000000:=by have e6:F1.length=F.length+dl.length:=e3;omega
     clear e3;clear hF1;have hFl:=zgb F
     go_wp2_with (refine zek qin rfl (.tmp 31) (.tmp 32) rfl (W:=w0) (B:=w0.heap.size) (news:=recs zja dl) o hrd rfl rfl b (Nat.le_refl _) hsz (zpm dl) (by rw[hFl];omega) (by rw[hFl];simp only[maxLen];omega) ?_
                  intro A3 c3 w3 hq1 hq2 o3 g3 b3 hq3;rw[hFl] at o3)
     rw[<-zas] at o3;go_roundw
     case rel=>exact⟨k+1,A3,c3,by omega,by go_num,by rw[HF.out,E1.out,List.length_append],by rw[HF.out,E1.out,List.length_append];exact o3,b3⟩
     case measure=>simp[intOf];omega
    ·obtain rfl:k=D.length:=by omega
     rw[List.take_length] at o⊢;go_wp2_with fail
     go_ret
     exact⟨A2,c2,rfl,by have:=o;unfold Go.Hm.Own at this;rw[zgb] at this;exact this,b⟩
end Go.Proofs.Y
namespace Go.Hm
open Go Go.RowKit
abbrev zlt:=Option Addr × Nat × List zfp
def zyj(d:zlt):List Value:=[.slice d.1 d.2.2.length d.2.1]
def byP(d:zh6):List Nat:=d.2.2
def rwP(r:zfp):List (List Nat):=r.2.2.map byP
def gpP(g:zlt):List (List (List Nat)):=g.2.2.map rwP
def PieceIn(w:World)(d:zh6):Prop:=BytIn w d/\d.2.2.length<=d.2.1/\d.2.1<=9223372036854775807
theorem PieceIn.later{w w':World}{d:zh6}(h:PieceIn w d)(hb:New w w'):PieceIn w' d:=⟨h.1.later hb,h.2⟩
theorem zpn{α:Type}{f:α->List Value}(hf:∀x,(f x).length=1)(X:List α)(x:α)(k m:Nat)(h:X.length=k){z v:Value}(hv:f x=[v]):
 (recs f X++List.replicate (m+1) z).toArray.setIfInBounds k v=(recs f (X++[x])++List.replicate m z).toArray:=by
 have h2:(recs f X).length=k:=by rw[zat (sz:=1) hf];omega
 rw[List.setIfInBounds_toArray,List.set_append_right _ _ (by omega),h2,Nat.sub_self,List.replicate_succ,List.set_cons_zero,zas,List.append_assoc];congr 2
 simp[recs,hv]
theorem zhd{α:Type}{f:α->List Value}(hf:∀x,(f x).length=1)(X:List α)(m:Nat)(z:Value):(recs f X++List.replicate m z).toArray.size=X.length+m:=by rw[List.size_toArray,List.length_append,zat (sz:=1) hf,List.length_replicate,Nat.mul_one]
end Go.Hm
namespace Go.Proofs.Y
open Go.RowKit Go.Hm
def RowBAt(W:World)(lo:Nat)(r:zfp):Prop:=∃k,lo<k/\r.1=some ⟨k,0,none⟩/\r.2.1=r.2.2.length/\Blk W k 31 (recs zja r.2.2).toArray
def RowRAt(W:World)(lo:Nat)(g:zlt):Prop:=∃k,lo<k/\g.1=some ⟨k,0,none⟩/\g.2.1=g.2.2.length/\Blk W k 52 (recs zpl g.2.2).toArray/\ ∀r∈g.2.2,RowBAt W k r
theorem RowBAt.below{W W':World}{lo B:Nat}{r:zfp}(h:RowBAt W lo r)(hb:Below B W W')(hB:W.heap.size<=B):RowBAt W' lo r:=by obtain⟨k,h1,h2,h3,h4⟩:=h;exact⟨k,h1,h2,h3,h4.below hb (by have:=h4.lt;omega)⟩
theorem RowRAt.below{W W':World}{lo B:Nat}{g:zlt}(h:RowRAt W lo g)(hb:Below B W W')(hB:W.heap.size<=B):RowRAt W' lo g:=by obtain⟨k,h1,h2,h3,h4,h5⟩:=h;exact⟨k,h1,h2,h3,h4.below hb (by have:=h4.lt;omega),fun r hr=>(h5 r hr).below hb hB⟩
theorem RowBAt.far{W W':World}{lo g:Nat}{r:zfp}(h:RowBAt W lo r)(hg:W.grownBy W' (some g))(hl:g<=lo):RowBAt W' lo r:=by obtain⟨k,h1,h2,h3,h4⟩:=h;exact⟨k,h1,h2,h3,h4.grown hg (by intro e;injection e with e;omega)⟩
theorem RowRAt.far{W W':World}{lo g:Nat}{r:zlt}(h:RowRAt W lo r)(hg:W.grownBy W' (some g))(hl:g<=lo):RowRAt W' lo r:=by obtain⟨k,h1,h2,h3,h4,h5⟩:=h;exact⟨k,h1,h2,h3,h4.grown hg (by intro e;injection e with e;omega),fun r hr=>(h5 r hr).far hg (by omega)⟩
theorem RowBAt.mv{W W':World}{lo hi:Nat}{r:zfp}(h:RowBAt W lo r)(hw:W.heap.size<=hi)(kp:∀k,lo<k->k<hi->W'.heap[k]? =W.heap[k]?):RowBAt W' lo r:=by obtain⟨k,h1,h2,h3,h4⟩:=h;exact⟨k,h1,h2,h3,(kp k h1 (by have:=h4.lt;omega)).trans h4⟩
theorem RowRAt.mv{W W':World}{lo hi:Nat}{g:zlt}(h:RowRAt W lo g)(hw:W.heap.size<=hi)(kp:∀k,lo<k->k<hi->W'.heap[k]? =W.heap[k]?):RowRAt W' lo g:=by obtain⟨k,h1,h2,h3,h4,h5⟩:=h;exact⟨k,h1,h2,h3,(kp k h1 (by have:=h4.lt;omega)).trans h4,fun r hr=>(h5 r hr).mv hw (fun j hj=>kp j (by omega))⟩
theorem zgu{W:World}{k:Nat}{t:TypeId}{cs:List Value}{n:Nat}(h:Blk W k t cs.toArray)(hn:n=cs.length):Reads W W.heap.size 1 (some ⟨k,0,none⟩) n cs:=by subst hn;refine⟨by simp,fun _=>⟨_,rfl,h.lt,fun j u hu=>?_⟩⟩;rw[Addr.add_mid,Nat.zero_add,h.cell,List.getElem?_toArray,hu]
theorem RowBAt.inn{W:World}{lo:Nat}{r:zfp}(h:RowBAt W lo r):RowBIn W r:=by obtain⟨k,h1,h2,h3,h4⟩:=h;unfold RowBIn;rw[h2];exact zgu h4 (by rw[zat (sz:=1) (fun _=>rfl),Nat.mul_one])
theorem RowRAt.inn{W:World}{lo:Nat}{g:zlt}(h:RowRAt W lo g):Reads W W.heap.size 1 g.1 g.2.2.length (recs zpl g.2.2)/\ ∀r∈g.2.2,RowBIn W r:=by obtain⟨k,h1,h2,h3,h4,h5⟩:=h;rw[h2];exact⟨zgu h4 (by rw[zat (sz:=1) (fun _=>rfl),Nat.mul_one]),fun r hr=>(h5 r hr).inn⟩
def zlu(G:List za5)(b:List Nat)(w:World)(e:Ending)(w':World):Prop:=
 ∃A X,e= .returned (.slice A X.length X.length)/\New w w'/\Reads w' w'.heap.size 1 A X.length (recs zyj X)/\(∀g∈X,g.2.1=g.2.2.length/\Reads w' w'.heap.size 1 g.1 g.2.2.length (recs zpl g.2.2)/\ ∀r∈g.2.2,r.2.1=r.2.2.length/\RowBIn w' r/\ ∀d∈r.2.2,PieceIn w' d)/\X.map gpP=zh7 G (b.drop 4)
def znh(G:List za5)(k j q:Nat):Nat:=4+szG (G.take k)+szC ((G.getD k zaj).2.take j)+szL ((zaw G k j).take q)
theorem z8x(G:List za5):znh G 0 0 0=4:=by simp[znh,szG,szC,szL]
theorem zv6{F:FootS}{b:List Nat}(hs:4+szG F.groups<=b.length){k j q:Nat}(hk:k<F.groups.length)(hj:j<(F.groups.getD k zaj).2.length)(hq:q<(zaw F.groups k j).length):
 znh F.groups k j (q+1)=znh F.groups k j q+((zaw F.groups k j).getD q za9).1.toNat/\znh F.groups k j (q+1)<=b.length
  /\(((zh7 F.groups (b.drop 4)).getD k []).getD j []).getD q []=(b.drop (znh F.groups k j q)).take ((zaw F.groups k j).getD q za9).1.toNat:=by
 have h1:=z0g hq;have h2:=qd1 (zaw F.groups k j) (q+1);have h3:=zs7 hj;have h4:=qd2 (F.groups.getD k zaj).2 (j+1);have h5:=zs8 hk;have h6:=qd3 F.groups (k+1);refine⟨by unfold znh;omega,?_,?_⟩
 ·unfold znh
  have e:szL ((F.groups.getD k zaj).2.getD j [])=szL (zaw F.groups k j):=rfl;omega
 ·rw[zim _ _ _ hk,cutC_at _ _ _ hj]
  have hq':q<((F.groups.getD k zaj).2.getD j []).length:=hq;rw[zxr _ _ _ hq',List.drop_drop,List.drop_drop,List.drop_drop];unfold znh zaw;congr 2
  omega
theorem z3o{G:List za5}{k j:Nat}(hj:j<(G.getD k zaj).2.length):znh G k j (zaw G k j).length=znh G k (j+1) 0:=by have h3:=zs7 hj;unfold znh;rw[List.take_length,List.take_zero,show szL []=0 from rfl,h3];unfold zaw;omega
theorem z3p{G:List za5}{k:Nat}(hk:k<G.length):znh G k (G.getD k zaj).2.length 0=znh G (k+1) 0 0:=by have h5:=zs8 hk;unfold znh;rw[List.take_length,List.take_zero,List.take_zero,List.take_zero,show szL []=0 from rfl,show szC []=0 from rfl,h5];omega
theorem zni{F:FootS}(h:zbj F):F.groups.length<=65536/\F.cols.length<=64/\ ∀k,k<F.groups.length->(F.groups.getD k zaj).2.length=F.cols.length/\ ∀j,j<F.cols.length->(zaw F.groups k j).length<=65536:=by obtain⟨r1,r2⟩:=zne h.2.1;have h3:=h.2.2.1;have h4:=h.2.2.2.1;refine⟨by omega,h.1.1,fun k hk=>⟨(zcr h hk).2.1,fun j hj=>?_⟩⟩;obtain⟨hc,_⟩:=zln h hk hj;have a:=zeo hc.1;have b:=hc.2;have c:=r2 _ (zal zaj hk);omega
end Go.Proofs.Y
