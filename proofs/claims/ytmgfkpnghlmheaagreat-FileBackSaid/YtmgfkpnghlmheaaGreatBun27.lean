/- Texts merged and made short: FooD, FooE, StaC, ConR. -/
import Derived.Test.YtmgfkpnghlmheaaGreatBun1
import Derived.Test.YtmgfkpnghlmheaaGreatBun15
import Derived.Test.YtmgfkpnghlmheaaGreatBun20
import Derived.Test.YtmgfkpnghlmheaaGreatBun23
import Derived.Test.YtmgfkpnghlmheaaGreatBun24
import Derived.Test.YtmgfkpnghlmheaaGreatBun25
import Derived.Test.YtmgfkpnghlmheaaGreatBun3
set_option maxHeartbeats 4000000
namespace Go.Hm
open Go Go.RowKit
def Grows(w w':World)(v v':Value):Prop:=w.grownBy w' v.ownBlock∧(v'.ownBlock=v.ownBlock∨∃g,v'.ownBlock=some g∧w.heap.size≤g)
theorem Grows.trans{a b c:World}{u v x:Value}(h:Grows a b u v)(k:Grows b c v x):Grows a c u x:=by
 obtain⟨h1,h2⟩:=h;obtain⟨k1,k2⟩:=k;refine⟨⟨k1.os.trans h1.os,k1.tape.trans h1.tape,k1.output.trans h1.output,Nat.le_trans h1.size k1.size,fun i hi hne=>?_⟩,?_⟩
 ·refine(k1.block i (Nat.lt_of_lt_of_le hi h1.size) fun e=>?_).trans (h1.block i hi hne)
  rcases h2 with h2|⟨g,h2,hg⟩
  ·rw[h2] at e;exact hne e
  ·rw[h2] at e;injection e with e;omega
 ·rcases k2 with k2|⟨g,k2,hg⟩
  ·rw[k2];exact h2
  ·exact .inr ⟨g,k2,Nat.le_trans h1.size hg⟩
theorem zde{w w':World}{row:Option Nat}(h:New w w'):w.grownBy w' row:=⟨h.os,h.tape,h.output,h.size,fun k hk _=>h.block k hk⟩
theorem Grows.of_new{w w':World}{v:Value}(h:New w w'):Grows w w' v v:=⟨zde h,.inl rfl⟩
theorem Grows.size{w w':World}{v v':Value}(h:Grows w w' v v'):w.heap.size≤w'.heap.size:=h.1.size
theorem Grows.blk{w w':World}{v v':Value}{g:Nat}{t e:TypeId}{cs:Array Value}{base:Nat}{xs:List Value}(h:Grows w w' v v')(o:Own w base e v xs)(B:Blk w g t cs)(hne:e≠t):Blk w' g t cs:=
 B.grown h.1 (fun he=>o.blk_ne B hne he.symm)
theorem Grows.below{w0 w w':World}{v v':Value}{base B:Nat}{e:TypeId}{xs:List Value}(h:Grows w w' v v')(o:Own w base e v xs)(b:Below B w0 w)(hB:B≤base)(hBw:B≤w.heap.size):Below B w0 w':=by
 refine b.trans ⟨h.1.os,h.1.tape,h.1.output,h.1.size,fun k hk=>h.1.block k (by omega) fun he=>?_⟩;have:=(o.lt k he.symm).1;omega
end Go.Hm
namespace Go.Proofs.YtmgfkpnghlmheaaGreat
open Go.RowKit Go.Hm
def z63(base:Nat)(v:Value)(l:List Nat)(w:World)(e:Ending)(w':World):Prop:=
 ∃A n c,e= .returned (.slice A n c)∧Go.Hm.Own w' base 5 (.slice A n c) (za3 .u8 l)∧Grows w w' v (.slice A n c)
set_option maxRecDepth 100000 in
theorem zdv{w:World}{base n c N:Nat}{A:Option Addr}{l:List Nat}(o:Go.Hm.Own w base 5 (.slice A n c) (za3 .u8 l))(hb:base≤w.heap.size)(hn:n≤100000000000000)(hN:N≤9223372036854775807):
 Calls Tryz.prog 57 #[.slice A n c,.int .i64 (N:Int)] w (z63 base (.slice A n c) (l++vp N) w):=by
 have P:=Hz (zcx none 0 0 [] N w Reads.none_ (by omega) (by omega));have V:=zaj (n:=N) (by omega)
 have hw:IntKind.u64.wrap (N:Int)=(N:Int):=by rw[IntKind.wrap_u64];omega
 have HO:=Hz o;clear o
 go_enter Tryz.func57,Tryz.ntmps57
 go_wp2_with fail
 refine P.out.mono ?_;rintro e w1 ⟨A2,n2,c2,rfl,k2,b2⟩;rw[List.nil_append] at k2
 have hq:n2≤10:=by have:=k2.len;rw[zaa] at this;omega
 have o1:=HO.out.later b2;have hz:=b2.size
 go_wp2_with (refine zas elB rfl (.tmp 5) (.tmp 8) rfl (W:=w) (B:=base) o1 k2.reads rfl rfl (Below.mono b2 hb) (Nat.le_refl _) (by omega) (by omega) (by simp only[maxLen];omega) ?_
              intro A5 c5 w5 _ _ o5 g5 _ d5)
 go_ret
 exact⟨_,_,_,rfl,o5,(Grows.of_new b2).trans ⟨g5,d5⟩⟩
theorem zo0{t:Int}{p:zax}(h1:p.1.toNat<18446744073709551616)(h2:p.2.1.toNat<18446744073709551616):(zeu t p).length≤140020:=by
 have a:=zaj (n:=p.1.toNat) h1;have b:=zaj (n:=p.2.1.toNat) h2;have c:=zzk (l:=[]) (t:=t) (s:=p.2.2);unfold zeu;simp only[List.length_append,List.length_nil] at c⊢;omega
theorem zlw{t:Int}:∀l:List zax,(∀p∈l,p.1.toNat<18446744073709551616∧p.2.1.toNat<18446744073709551616)→(l.flatMap (zeu t)).length≤l.length*140020
 | [],_=>by simp
 |p::l,h=>by
  have a:=zo0 (t:=t) (h p (by simp)).1 (h p (by simp)).2
  have b:=zlw (t:=t) l fun q hq=>h q (by simp[hq])
  rw[List.flatMap_cons,List.length_append,List.length_cons];omega
def zxq(p:zax):Prop:=(0≤p.1∧p.1≤9223372036854775807)∧(0≤p.2.1∧p.2.1≤9223372036854775807)∧statData p.2.2
set_option maxRecDepth 100000 in
theorem zvh{w:World}{base n c np cp:Nat}{A Ap:Option Addr}{t:Int}{l:List Nat}{ps:List zax}(o:Go.Hm.Own w base 5 (.slice A n c) (za3 .u8 l))(hb:base≤w.heap.size)(h:Reads w base 14 Ap np (recs zg5 ps))(hp:∀p∈ps,zxq p)
 (hn:n+10+np*140020≤100000000000000):
 Calls Tryz.prog 58 #[.slice A n c,.int .i64 t,.slice Ap np cp] w (z63 base (.slice A n c) (l++zgk t ps) w):=by
 obtain rfl:=h.lenPage
 have hln:l.length=n:=by have:=o.len;rw[zaa] at this;exact this.symm
 have V:=zaj (n:=ps.length) (by omega);have PN:=Hz (zdv (N:=ps.length) o hb (by omega) (by omega))
 have hfl:=fun k=>zlw (t:=t) (ps.take k) (fun p hpm=>by
  have:=hp p (List.mem_of_mem_take hpm);have h1:=this.1;have h2:=this.2.1
  omega)
 have HF:=Hz (fun k=>by have:=hfl k;rw[List.length_take] at this;exact this);have HR:=Hz h;have HP:=Hz hp;have HO:=Hz o;have HLN:=Hz hln;clear h hp o hln hfl
 go_enter Tryz.func58,Tryz.ntmps58
 go_wp2_with fail
 refine PN.out.mono ?_;rintro e w1 ⟨A1,n1,c1,rfl,o1,g1⟩;have hb1:=g1.size;have b1:Below base w w1:=g1.below HO.out (Below.refl _ _) (Nat.le_refl _) hb;clear PN
 go_wp2_with fail
 go_loopw [0,15] (fun v i wr=>∃(k:Nat) (B:Option Addr) (m d:Nat),k≤ps.length∧i= .int .i64 (k:Int)∧v= .slice B m d∧Go.Hm.Own wr base 5 (.slice B m d) (za3 .u8 (l++vp ps.length++(ps.take k).flatMap (zeu t)))∧Grows w wr (.slice A n c) (.slice B m d)∧Below base w wr) (fun _ i _=>ps.length-(intOf i).toNat)
 case atStart=>exact⟨0,A1,n1,c1,Nat.zero_le _,rfl,rfl,by simpa using o1,g1,b1⟩
 case round=>
  obtain⟨k,B,m,d,hk,rfl,rfl,o,g,b⟩:=hrel;clear o1 g1 b1 hb1
  have hml:m≤n+10+k*140020:=by
   have h1:=o.len;rw[zaa,List.length_append,List.length_append] at h1;have h2:=HF.out k;have h3:=HLN.out;omega
  have hsz:=g.size;by_cases hlt:k<ps.length
  ·obtain⟨ad,rfl,hbd,d0,d1,d2,d3,d4,d5,d6,d7,d8,d9,d10,d11,d12,d13⟩:=(HR.out.below b).page14 hlt
   have htk:=zad ps k zbs hlt;have hpn:=HP.out _ (zan zbs hlt)
   have hpl:(ps.take (k+1)).flatMap (zeu t)=(ps.take k).flatMap (zeu t)++zeu t (ps.getD k zbs):=by rw[htk,List.flatMap_append];simp
   rw[show zeu t (ps.getD k zbs)=vp (ps.getD k zbs).1.toNat++vp (ps.getD k zbs).2.1.toNat++Go.Hm.putS [] t (ps.getD k zbs).2.2 from rfl] at hpl;have HPL:=Hz hpl;clear htk hpl hbd;generalize ps.getD k zbs=p at*;obtain⟨hp1,hp2,hp3⟩:=hpn
   have SP:=fun(W:World)=>z50 (w:=W) (c:=0) (t:=t) (l:=[]) (n:=0) (A:=none) Reads.none_ (by omega) hp3
   have hspl:=zzk (l:=[]) (t:=t) (s:=p.2.2);obtain⟨szI,rwI,nn,bb,⟨p1,p2,p3,p4,p5⟩,⟨q1,q2,q3,q4,q5⟩⟩:=p;dsimp only at hp1 hp2 hp3 SP hspl HPL d0 d1 d2 d3 d4 d5 d6 d7 d8 d9 d10 d11 d12 d13;obtain⟨sz,rfl⟩:=Int.eq_ofNat_of_zero_le hp1.1;obtain⟨rw,rfl⟩:=Int.eq_ofNat_of_zero_le hp2.1;simp only[Int.toNat_natCast] at HPL;generalize Go.Hm.putS [] t (nn,bb,(p1,p2,p3,p4,p5),(q1,q2,q3,q4,q5))=SB at*;have SP:Hid (∀W,Calls Tryz.prog 95 #[.slice none 0 0,.int .i64 t,.agg #[.int .i64 nn,.bool bb,.bool p1,.int .i64 p2,.string (zae p3),.int .i64 p4,.int .i64 p5,.bool q1,.int .i64 q2,.string (zae q3),.int .i64 q4,.int .i64 q5]] W (zc4 SB W)):=Hz SP;have V1:=zaj (n:=sz) (by omega);have V2:=zaj (n:=rw) (by omega);simp only[List.length_nil] at hspl
   have hspl:SB.length≤140000:=by omega
   have ha:New wr (wr.alloc (.cells #[.int .i64 (sz:Int),.int .i64 (rw:Int),.int .i64 nn,.bool bb,.bool p1,.int .i64 p2,.string (zae p3),.int .i64 p4,.int .i64 p5,.bool q1,.int .i64 q2,.string (zae q3),.int .i64 q4,.int .i64 q5] 65)):=(Below.refl _ _).alloc (Nat.le_refl _) _;have BP:=Blk.new wr 65 #[.int .i64 (sz:Int),.int .i64 (rw:Int),.int .i64 nn,.bool bb,.bool p1,.int .i64 p2,.string (zae p3),.int .i64 p4,.int .i64 p5,.bool q1,.int .i64 q2,.string (zae q3),.int .i64 q4,.int .i64 q5];have o2:=o.later ha;have g2:=g.trans (Grows.of_new ha);have hsz2:=g2.size;have N1:=Hz (zdv (N:=sz) o2 (by omega) (by omega) (by omega));obtain⟨e0,e1,e2,e3,e4,e5,e6,e7,e8,e9,e10,e11,e12,e13⟩:=zcj BP
   have hmq:m+140020≤100000000000000:=by omega
   clear o g ha hp3
   go_wp2_with fail
   refine N1.out.mono ?_;rintro e w3 ⟨A3,n3,c3,rfl,o3,g3⟩;have BP3:=g3.blk o2 BP (by decide);have g03:=g2.trans g3
   have hq3:n3≤m+10:=by have h1:=o3.len;have h2:=o2.len;rw[zaa,List.length_append] at h1;rw[zaa] at h2;omega
   have hsz3:=g03.size;have N2:=Hz (zdv (N:=rw) o3 (by omega) (by omega) (by omega));clear N1 o2 g2 g3 BP e0 e1 e2 e3 e4 e5 e6 e7 e8 e9 e10 e11 e12 e13 d0 d1 d2 d3 d4 d5 d6 d7 d8 d9 d10 d11 d12 d13;obtain⟨e0,e1,e2,e3,e4,e5,e6,e7,e8,e9,e10,e11,e12,e13⟩:=zcj BP3
   go_wp2_with fail
   refine N2.out.mono ?_;rintro e w4 ⟨A4,n4,c4,rfl,o4,g4⟩;have BP4:=g4.blk o3 BP3 (by decide);have g04:=g03.trans g4
   have hq4:n4≤m+20:=by have h1:=o4.len;have h2:=o3.len;rw[zaa,List.length_append] at h1;rw[zaa] at h2;omega
   have hsz4:=g04.size;clear N2 o3 g03 g4 BP3 e0 e1 e2 e3 e4 e5 e6 e7 e8 e9 e10 e11 e12 e13;obtain⟨e0,e1,e2,e3,e4,e5,e6,e7,e8,e9,e10,e11,e12,e13⟩:=zcj BP4
   go_wp2_with fail
   refine(SP.out _).mono ?_;rintro e w5 ⟨A5,n5,c5,rfl,k5,b5⟩
   have hq5:n5≤140000:=by have:=k5.len;rw[zaa] at this;omega
   have o5:=o4.later b5;have g05:=g04.trans (Grows.of_new b5);have hsz5:=g05.size;have bb5:Below base w w5:=g05.below HO.out (Below.refl _ _) (Nat.le_refl _) hb;clear SP o4 g04 BP4 e0 e1 e2 e3 e4 e5 e6 e7 e8 e9 e10 e11 e12 e13 b5
   go_wp2_with (refine zas elB rfl (.tmp 27) (.tmp 31) rfl (W:=w) (B:=base) o5 k5.reads rfl rfl bb5 (Nat.le_refl _) (by omega) (by omega) (by simp only[maxLen];omega) ?_
                intro A6 c6 w6 _ _ o6 g6 b6 d6)
   go_roundw
   case rel=>exact⟨k+1,A6,_,c6,by omega,by go_num,rfl,by rw[HPL.out];simpa using o6,g05.trans ⟨g6,d6⟩,b6⟩
   case measure=>simp[intOf];omega
  ·obtain rfl:k=ps.length:=by omega
   rw[List.take_length] at o;have HO2:=Hz o;clear o
   go_wp2_with fail
   go_ret
   refine⟨_,_,_,rfl,?_,g⟩;have:=HO2.out;rw[List.append_assoc] at this;exact this
end Go.Proofs.YtmgfkpnghlmheaaGreat
namespace Go.Hm
open Go Go.RowKit
open Classical in
noncomputable def zp3(F:FootS):Option (List Nat):=if zbp F then some (zd9 F) else none
theorem zmm:∀(c:Nat) (cs:List za0) (ls:List (List zax)),c<cs.length→c<ls.length→zbr (cs.take (c+1)) (ls.take (c+1))=zbr (cs.take c) (ls.take c)++zgk (cs.getD c zdj).2.1 (ls.getD c [])
 |0,x::cs,l::ls,_,_=>by simp[zbr]
 |c+1,x::cs,l::ls,h1,h2=>by
  have:=zmm c cs ls (by simpa using h1) (by simpa using h2);simp only[List.take_succ_cons,zbr,List.getD_cons_succ] at this⊢;rw[this,List.append_assoc]
 |_,[],_,h,_=>by simp at h
 |_,_::_,[],_,h=>by simp at h
theorem zmn{cols:List za0}:∀{gs:List za4},(∀g∈gs,GroupOk cols g)→0≤(gs.map (·.1)).sum
 | [],_=>by simp
 |g::gs,h=>by
  have:=zmn (gs:=gs) fun q hq=>h q (by simp[hq])
  have:=(h g (by simp)).1;rw[List.map_cons,List.sum_cons];omega
end Go.Hm
namespace Go.Proofs.YtmgfkpnghlmheaaGreat
open Go.RowKit Go.Hm
theorem PageFine.num{p:zax}(h:PageFine p){t:Int}{nu:Bool}{m:Int}(hb:zh8 t nu p m=true):zxq p:=by
 have h1:=(pageB_most.1 hb).1;exact⟨by omega,⟨by omega,h.2.2.2⟩,CellFine.data h.1.1.1,CellFine.data h.1.1.2⟩
theorem zz1{L:List za0}(h:zoo L):(putC [] L).length≤8000:=by
 unfold putC;split
 ·have h1:=zzw L (fun x hx=>(h.2.1 x hx).2.1)
  have h2:=zaj (n:=L.length) (by have:=h.1;omega);have:=h.1;simp only[List.length_append,List.length_nil];omega
 ·simp
set_option maxRecDepth 100000 in
theorem zxr{w:World}{Ac:Option Addr}{cc:Nat}{L:List za0}{r:Int}{Ag:Option Addr}{cg:Nat}{G:List GrD}(h:FootIn w Ac cc L Ag G)(hp:∀g∈G,∀x∈g.2.2.2,∀p∈x.2.2,PageFine p):
 Calls Tryz.prog 21 #[ziq Ac cc L r Ag cg G] w (OptB (zp3 (za9 L r G)) w):=by
 have RT:=Hz (fun(W:World) (hW:New w W)=>zi7 (cg:=cg) (r:=r) (h.later hW) (fun g hg x hx p hpm=>(hp g hg x hx p hpm).stat));have HG:=Hz h.groups;have HL:=Hz h.cols;have hfew:=h.few;have hfew2:=h.few2;have hfine:=h.fine;have hcap:=h.cap;have HCH:=Hz h.chunks;have HPG:=Hz h.pages;have HP:=Hz hp;clear h hp;obtain⟨M,hM⟩:∃M,M=zp3 (za9 L r G):=⟨_,rfl⟩;rw[←hM];unfold zp3 at hM;show Calls Tryz.prog 21 #[.agg #[.slice Ac L.length cc,.int .i64 r,.slice Ag G.length cg]] w (OptB M w);have B0:=Blk.new w 38 #[.slice Ac L.length cc,.int .i64 r,.slice Ag G.length cg];have b0:New w (w.alloc (.cells #[.slice Ac L.length cc,.int .i64 r,.slice Ag G.length cg] 38)):=(Below.refl _ _).alloc (Nat.le_refl _) _;obtain⟨x0,x1,x2⟩:=zaf B0;by_cases hok:zbp (za9 L r G)
 ·rw[if_pos hok] at hM
  rw[zls hok] at RT;have RT:Hid (∀W,New w W→Calls Tryz.prog 55 #[.agg #[.slice Ac L.length cc,.int .i64 r,.slice Ag G.length cg]] W (zap (.bool true) W)):=RT;have hok2:=hok;obtain⟨hcok,hgok,hsum,hr,-⟩:=hok;unfold za9 at hok2 hgok hsum hM;dsimp only[za9] at hcok hr;dsimp only at hgok hsum;have hr0:=zmn hgok;rw[hsum] at hr0;obtain⟨rN,rfl⟩:=Int.eq_ofNat_of_zero_le hr0;unfold zd9 at hM;dsimp only at hM;rw[Int.toNat_natCast,List.length_map] at hM;have hcl:=zz1 hcok;have SPt:=Hz (fun(W:World) (hW:New w W)=>qbs (A:=none) (n:=0) (c:=0) (b:=[]) (c2:=cc) Reads.none_ (by omega) (Reads.later HL.out hW) hfine hcap hfew);have HMap:=Hz (fun(k:Nat) (hk:k<G.length)=>zbj grP G (k:=k) grZ zam hk);have HLen:=Hz (show(G.map grP).length=G.length from List.length_map ..);have HOK:=Hz hok2;have HL64:L.length≤64:=hcok.1
  have hGl:G.length≤65536:=by
   have:=(znj hgok).1;rw[List.length_map,hsum] at this;omega
  have HM:=Hz hM;clear hM hgok hsum hr0 hok2 hcok hfine;generalize G.map grP=GP at*;generalize putC [] L=PC at*
  go_enter Tryz.func21,Tryz.ntmps21
  go_wp2_with fail
  refine(RT.out _ b0).mono ?_;rintro e w1 ⟨rfl,b1⟩;have B1:=B0.below b1 B0.lt;have b01:=New.trans b0 b1;clear B0 b0 b1 x0 x1 x2 RT;obtain⟨x0,x1,x2⟩:=zaf B1
  go_wp2_with fail
  refine(SPt.out _ b01).mono ?_;rintro e w2 ⟨A2,n2,c2,rfl,o2,b2⟩
  have hq2:n2≤8000:=by have:=o2.len;rw[zaa] at this;omega
  have hbase:w.heap.size≤w1.heap.size:=b01.size;have B2:=B1.below b2 B1.lt;have hB1:w.heap.size<w1.heap.size:=B1.lt;have hz2:=b2.size;have N1:=Hz (zdv (N:=rN) o2 hz2 (by omega) (by omega));have VR:=zaj (n:=rN) (by omega);have VG:=zaj (n:=G.length) (by omega);clear SPt B1 x0 x1 x2;obtain⟨x0,x1,x2⟩:=zaf B2
  go_wp2_with fail
  refine N1.out.mono ?_;rintro e w3 ⟨A3,n3,c3,rfl,o3,g3⟩
  have hq3:n3≤8010:=by have h1:=o3.len;have h2:=o2.len;rw[zaa,List.length_append] at h1;rw[zaa] at h2;omega
  have bb3:=g3.below o2 b2 (Nat.le_refl _) hz2;have hz3:=g3.size;have N2:=Hz (zdv (N:=G.length) o3 (by omega) (by omega) (by omega));have B3:=g3.blk o2 B2 (by decide);clear N1 o2 g3 B2 x0 x1 x2 b2;obtain⟨x0,x1,x2⟩:=zaf B3
  go_wp2_with fail
  refine N2.out.mono ?_;rintro e w4 ⟨A4,n4,c4,rfl,o4,g4⟩
  have hq4:n4≤8020:=by have h1:=o4.len;have h2:=o3.len;rw[zaa,List.length_append] at h1;rw[zaa] at h2;omega
  have bb4:=g4.below o3 bb3 (Nat.le_refl _) (by omega);have hz4:=g4.size;have B4:=g4.blk o3 B3 (by decide)
  have hz14:w1.heap.size≤w4.heap.size:=by omega
  clear N2 o3 g4 B3 x0 x1 x2 bb3;obtain⟨x0,x1,x2⟩:=zaf B4
  go_wp2_with fail
  clear x0 x1 x2
  go_loopw [4,27] (fun v i wr=>∃(k:Nat) (B:Option Addr) (m d R:Nat),k≤G.length∧i= .int .i64 (k:Int)∧v= .slice B m d∧Go.Hm.Own wr w1.heap.size 5 (.slice B m d) (za3 .u8 (PC++vp rN++vp G.length++(GP.take k).flatMap (zco L)))
   ∧(R:Int)=((GP.take k).map (·.1)).sum∧m≤9000+700*k+8961280*R∧Blk wr w.heap.size 38 #[.slice Ac L.length cc,.int .i64 (rN:Int),.slice Ag G.length cg]∧Below w1.heap.size w1 wr∧w1.heap.size≤wr.heap.size) (fun _ i _=>G.length-(intOf i).toNat)
  case atStart=>exact⟨0,A4,n4,c4,0,Nat.zero_le _,rfl,rfl,by simpa using o4,by simp,by omega,B4,bb4,hz14⟩
  case round=>
   obtain⟨k,Bv,m,d,R,hk,rfl,rfl,o,hR,hml,B,bb,hzw⟩:=hrel;clear o4 B4 bb4 hq4;have bw:New w wr:=New.trans b01 bb;by_cases hlt:k<G.length
   ·obtain⟨ad,rfl,hb,d0,d1⟩:=(Reads.later HG.out bw).gr2 hlt
    have hgm:=zan grZ hlt;have hch:=HCH.out _ hgm;have hpg:=HPG.out _ hgm;have hpp:=HP.out _ hgm;have hmap:=HMap.out k hlt
    have hltP:k<GP.length:=by rw[HLen.out];exact hlt
    have hgok:=HOK.out.2.1 (GP.getD k zam) (zan zam hltP);have hrows:=zu4 HOK.out hltP;have hts:=zby (fun g:za4=>g.1) GP k zam hltP
    have hfm:(GP.take (k+1)).flatMap (zco L)=(GP.take k).flatMap (zco L)++zco L (GP.getD k zam):=by rw[zad GP k zam hltP,List.flatMap_append];simp
    dsimp only at hgok hrows hts;rw[hmap] at hgok hrows hts hfm;generalize G.getD k grZ=g at*;obtain⟨gI,Ach,cch,D⟩:=g;unfold grP at hgok hrows hts hfm;dsimp only at d0 d1 hch hpg hpp hgok hrows hts hfm;obtain⟨hg1,hg2,hg3⟩:=hgok;dsimp only at hg1 hg2 hg3;obtain⟨gr,rfl⟩:=Int.eq_ofNat_of_zero_le (show 0≤gI by omega);rw[List.length_map] at hg2;rw[show zco L ((gr:Int),D.map fun x:ChD=>x.2.2)=vp gr++zbr L (D.map fun x:ChD=>x.2.2) from rfl] at hfm
    have hgr:gr+R≤65536:=by omega
    have hRR:((R+gr:Nat):Int)=((GP.take (k+1)).map (·.1)).sum:=by rw[hts,←hR];simp
    have HRR:=Hz hRR;have HFM:=Hz hfm;have HG3:=Hz hg3;have HCHk:=Hz hch.1;have HPGk:=Hz hpg;have HPPk:=Hz hpp
    have hDL:D.length≤L.length:=by omega
    have HG2:=Hz hg2;clear hmap hltP hgm hb hch hpg hpp hts hrows hR hRR hfm hg3 hg2;have ha:New wr (wr.alloc (.cells #[.int .i64 (gr:Int),.slice Ach D.length cch] 56)):=(Below.refl _ _).alloc (Nat.le_refl _) _;have BG:=Blk.new wr 56 #[.int .i64 (gr:Int),.slice Ach D.length cch];have B5:=B.below ha B.lt;have o5:=o.later ha;have bb5:Below w1.heap.size w1 (wr.alloc (.cells #[.int .i64 (gr:Int),.slice Ach D.length cch] 56)):=bb.trans (Below.mono ha hzw);obtain⟨z0,z1⟩:=zbe BG;have N1:=Hz (zdv (N:=gr) o5 (by simp;omega) (by omega) (by omega));have VGr:=zaj (n:=gr) (by omega);have HML:=Hz hml
    have hmq:m≤700000000000:=by omega
    clear B o bb ha
    go_wp2_with fail
    refine N1.out.mono ?_;rintro e w6 ⟨A6,n6,c6,rfl,o6,g6⟩
    have hq6:n6≤m+10:=by have h1:=o6.len;have h2:=o5.len;rw[zaa,List.length_append] at h1;rw[zaa] at h2;omega
    have bb6:=g6.below o5 bb5 (Nat.le_refl _) (by simp;omega);have hz6:=g6.size;simp only[World.size_alloc] at hz6;have B6:=g6.blk o5 B5 (by decide);have BG6:=g6.blk o5 BG (by decide)
    have hz16:w1.heap.size≤w6.heap.size:=by omega
    clear N1 o5 g6 B5 BG z0 z1 bb5;obtain⟨z0,z1⟩:=zbe BG6;have hY:∃Y,Y=10+gr*140020:=⟨_,rfl⟩;obtain⟨Y,hY⟩:=hY;have HYY:=Hz hY;clear d0 d1 hY
    go_wp2_with fail
    clear z0 z1 BG6
    go_loopw [4,38] (fun v i wr=>∃(c:Nat) (Bq:Option Addr) (m2 d2:Nat),c≤D.length∧i= .int .i64 (c:Int)∧v= .slice Bq m2 d2
     ∧Go.Hm.Own wr w1.heap.size 5 (.slice Bq m2 d2) (za3 .u8 (PC++vp rN++vp G.length++(GP.take k).flatMap (zco L)++vp gr++zbr (L.take c) ((D.map (fun x:ChD=>x.2.2)).take c)))
     ∧m2≤m+10+c*Y∧Blk wr w.heap.size 38 #[.slice Ac L.length cc,.int .i64 (rN:Int),.slice (some ad) G.length cg]∧Below w1.heap.size w1 wr∧w1.heap.size≤wr.heap.size) (fun _ i _=>D.length-(intOf i).toNat)
    case atStart=>exact⟨0,A6,n6,c6,Nat.zero_le _,rfl,rfl,by simpa[zbr] using o6,by omega,B6,bb6,hz16⟩
    case round=>
     obtain⟨c,Bq,m2,d2,hc,rfl,rfl,oq,hmc,Bx,bbq,hzq⟩:=hrel;clear o6 hq6 B6 bb6 hz16 hz6;have bq:New w wr:=New.trans b01 bbq;have hcY:c*Y≤64*Y:=Nat.mul_le_mul_right _ (by omega);have hYv:=HYY.out
     have hm2q:m2≤90000000000000:=by omega
     by_cases hlc:c<D.length
     ·have hcL:c<L.length:=by omega
      obtain⟨ac,rfl,hbc,e0⟩:=(Reads.later HCHk.out bq).ch1 hlc;obtain⟨al,rfl,hbl,f0,f1,f2⟩:=(Reads.later HL.out bq).colT hcL;have hxm:=zan chZ hlc;have hpx:=HPGk.out _ hxm;have hsx:=HPPk.out _ hxm;have hco:=HG3.out c hcL;have hsn:=zmm c L (D.map fun x:ChD=>x.2.2) hcL (by rw[List.length_map];exact hlc);rw[zbj (fun x:ChD=>x.2.2) D chZ [] hlc] at hco hsn;generalize D.getD c chZ=x at*;obtain⟨Ax,cx,pl⟩:=x;dsimp only at e0 hpx hsx hco hsn
      have hpn:∀p∈pl,zxq p:=fun p hpm=>(hsx p hpm).num (hco.1 p hpm)
      have hpl:=ze6 hco.1;have hcr:=hco.2
      have hnp:pl.length≤gr:=by omega
      have rP:Reads wr w1.heap.size 14 Ax pl.length (recs zg5 pl):=(hpx.1.below bq).more hbase;generalize L.getD c zdj=col at*;obtain⟨nm,t,nu⟩:=col;dsimp only at f0 f1 f2 hsn
      have hnp2:pl.length≤65536:=by omega
      have hnn:m2+10+pl.length*140020≤100000000000000:=by clear hcY hmc;omega
      have PPG:=Hz (zvh (t:=t) (cp:=cx) oq hzq rP hpn hnn)
      have hlch:(zgk t pl).length≤10+pl.length*140020:=by
       have h1:=zlw (t:=t) pl (fun p hpm=>by
        have:=hpn p hpm;have h1:=this.1;have h2:=this.2.1
        omega)
       have h2:=zaj (n:=pl.length) (by omega);unfold zgk;rw[List.length_append];omega
      have hchY:(zgk t pl).length≤Y:=by omega
      have HSN:=Hz hsn;obtain⟨x0,x1,x2⟩:=zaf Bx;clear hsn hco hcr hpl hpn hpx hsx hxm hbc hbl rP hlch hYv
      go_wp2_with fail
      refine PPG.out.mono ?_;rintro e w7 ⟨A7,n7,c7,rfl,o7,g7⟩
      have hq7:n7≤m2+Y:=by have h1:=o7.len;have h2:=oq.len;rw[zaa,List.length_append] at h1;rw[zaa] at h2;omega
      have bb7:=g7.below oq bbq (Nat.le_refl _) hzq;have hz7:=g7.size;have B7:=g7.blk oq Bx (by decide);have hsm:(c+1)*Y=c*Y+Y:=Nat.succ_mul c Y
      have o7:Go.Hm.Own w7 w1.heap.size 5 (.slice A7 n7 c7) (za3 .u8 (PC++vp rN++vp G.length++(GP.take k).flatMap (zco L)++vp gr++zbr (L.take (c+1)) ((D.map (fun x:ChD=>x.2.2)).take (c+1)))):=by
       rw[HSN.out];simpa using o7
      have hq8:n7≤m+10+(c+1)*Y:=by omega
      have hz8:w1.heap.size≤w7.heap.size:=by omega
      clear PPG oq g7 Bx x0 x1 x2 hsm hq7 hmc
      go_wp2_with fail
      go_roundw
      case rel=>exact⟨c+1,A7,n7,c7,by omega,by go_num,rfl,o7,hq8,B7,bb7,hz8⟩
      case measure=>simp[intOf];omega
     ·obtain rfl:c=D.length:=by omega
      have hfin:PC++vp rN++vp G.length++(GP.take k).flatMap (zco L)++vp gr++zbr (L.take D.length) ((D.map (fun x:ChD=>x.2.2)).take D.length)=PC++vp rN++vp G.length++(GP.take (k+1)).flatMap (zco L):=by
       rw[HFM.out,HG2.out,List.take_length,show(D.map fun x:ChD=>x.2.2).take L.length=D.map fun x:ChD=>x.2.2 from List.take_of_length_le (by rw[List.length_map,HG2.out];exact Nat.le_refl _)];simp
      rw[hfin] at oq
      have hml2:m2≤9000+700*(k+1)+8961280*(R+gr):=by have:=HML.out;omega
      clear hfin hmc
      go_wp2_with fail
      go_roundw
      case rel=>exact⟨k+1,Bq,m2,d2,R+gr,by omega,by go_num,rfl,oq,HRR.out,hml2,Bx,bbq,hzq⟩
      case measure=>simp[intOf];omega
   ·obtain rfl:k=G.length:=by omega
    have HO2:=Hz o;clear o hR
    go_wp2_with fail
    go_ret2
    rw[HM.out];have:=HO2.out;rw[←HLen.out,List.take_length,HLen.out] at this;exact⟨_,_,_,rfl,this.base_le hbase,bw⟩
 ·rw[if_neg hok] at hM
  rw[zoq hok] at RT;have RT:Hid (∀W,New w W→Calls Tryz.prog 55 #[.agg #[.slice Ac L.length cc,.int .i64 r,.slice Ag G.length cg]] W (zap (.bool false) W)):=RT;have HM:=Hz hM;clear hM hok
  go_enter Tryz.func21,Tryz.ntmps21
  go_wp2_with fail
  refine(RT.out _ b0).mono ?_;rintro e w1 ⟨rfl,b1⟩
  go_wp2_with fail
  go_ret2
  rw[HM.out];exact⟨rfl,New.trans b0 b1⟩
end Go.Proofs.YtmgfkpnghlmheaaGreat
namespace Go.Hm
open Go Go.RowKit
theorem IsStat.near{t:Int}{l:List zab}{s:zc9}(h:IsStat t l s)(hl:∀c∈l,near c):near s.2.2.1∧near s.2.2.2:=by
 cases hh:s.2.1 with
 |false=>
  obtain⟨e1,e2⟩:=h.none hh;rw[e1,e2];exact⟨qhf,qhf⟩
 |true=>exact⟨hl _ (h.least hh).1.1,hl _ (h.most hh).1.1⟩
end Go.Hm
namespace Go.Proofs.YtmgfkpnghlmheaaGreat
open Go.RowKit Go.Hm
def qcm(t:Int)(L:List zab)(w:World)(e:Ending)(w':World):Prop:=∃s,e= .returned (zb4 s)∧IsStat t L s∧New w w'
set_option maxRecDepth 100000 in
theorem qd3{w:World}{t:Int}{A:Option Addr}{n c:Nat}{L:List zab}(h:Reads w w.heap.size 5 A n (recs zak L))(hL:∀y∈L,near y)(hn:n≤100000):
 Calls Tryz.prog 98 #[.int .i64 t,.slice A n c] w (qcm t L w):=by
 obtain rfl:=h.lenCell;have HR:=Hz h;have HN:=Hz hL;clear h hL;have B0:Blk ((w.alloc (.cells (zb6 zbw).toArray 63)).alloc (.cells (zb6 zbw).toArray 63)) w.heap.size 63 (zb6 zbw).toArray:=(Blk.new _ _ _).alloc _
 have B1:Blk ((w.alloc (.cells (zb6 zbw).toArray 63)).alloc (.cells (zb6 zbw).toArray 63)) (w.heap.size+1) 63 (zb6 zbw).toArray:=by
  have:=Blk.new (w.alloc (.cells (zb6 zbw).toArray 63)) 63 (zb6 zbw).toArray;simpa using this
 have hb0:=zwx w (.cells (zb6 zbw).toArray 63) (.cells (zb6 zbw).toArray 63);have HB0:=Hz B0;have HB1:=Hz B1;have Hb0:=Hz hb0;clear B0 B1 hb0
 go_enter Tryz.func98,Tryz.ntmps98
 go_wp2_with fail
 go_loopw [10] (fun i wr=>∃(k:Nat) (s:zc9),k≤L.length∧i= .int .i64 (k:Int)∧Blk wr (w.heap.size+1) 63 (zb6 s).toArray∧Blk wr w.heap.size 63 (zb6 zbw).toArray∧New w wr∧Hid (IsStat t (L.take k) s)) (fun i _=>L.length-(intOf i).toNat)
 case atStart=>exact⟨0,zbw,Nat.zero_le _,rfl,HB1.out,HB0.out,Hb0.out,Hz (zqq t)⟩
 case round=>
  obtain⟨k,s,hk,rfl,B1,B0,hW,hs⟩:=hrel;clear HB0 HB1 Hb0;by_cases hlt:k<L.length
  ·obtain⟨ad,rfl,hb,d0,d1,d2,d3,d4⟩:=(Reads.later HR.out hW).cell5 hlt
   have hst:=hs.out;have htk:=zad L k (false,0,[],0,0) hlt;have hnr:=hst.near (fun c hc=>HN.out c (List.mem_of_mem_take hc));have hnl:=hst.nulls;have hnl2:=zij (L.take k);rw[List.length_take] at hnl2;have hy:near (L.getD k (false,0,[],0,0)):=HN.out _ (by rw[List.getD_eq_getElem?_getD,List.getElem?_eq_getElem hlt];exact List.getElem_mem hlt);have hone:=zqr t (L.getD k (false,0,[],0,0));have hnx:=hst.merge hone;rw[←htk] at hnx;have hnr2:=hone.near (fun c hc=>by rw[List.mem_singleton.1 hc];exact hy);have hno:=hone.nulls;have hno2:=zij [L.getD k (false,0,[],0,0)];rw[List.length_singleton] at hno2
   have M:=fun(W:World)=>z5y (w:=W) (t:=t) hnr.1 hnr.2 hnr2.1 hnr2.2 (by omega) (by omega)
   clear htk hy hone hnl hnl2 hno hno2 hnr hnr2 hst hs;generalize L.getD k (false,0,[],0,0)=y at*;obtain⟨y0,y1,y2,y3,y4⟩:=y;dsimp only at d0 d1 d2 d3 d4;obtain⟨V1,hV⟩:∃V,V=zb4 (zjx (y0,y1,y2,y3,y4)):=⟨_,rfl⟩
   have S1:Hid (∀W,Calls Tryz.prog 129 #[.agg #[.bool y0,.int .i64 y1,.string (zae y2),.int .i64 y3,.int .i64 y4]] W (zap V1 W)):=Hz fun W=>by rw[hV];exact z1w (y0,y1,y2,y3,y4)
   rw[←hV] at M;generalize zmd t s (zjx (y0,y1,y2,y3,y4))=s2 at*;obtain⟨n,b,⟨p1,p2,p3,p4,p5⟩,⟨q1,q2,q3,q4,q5⟩⟩:=s;obtain⟨n',b',⟨p1',p2',p3',p4',p5'⟩,⟨q1',q2',q3',q4',q5'⟩⟩:=s2
   have M1:Hid (∀W,Calls Tryz.prog 128 #[.int .i64 t,.agg #[.int .i64 n,.bool b,.bool p1,.int .i64 p2,.string (zae p3),.int .i64 p4,.int .i64 p5,.bool q1,.int .i64 q2,.string (zae q3),.int .i64 q4,.int .i64 q5],V1] W
    (zap (.agg #[.int .i64 n',.bool b',.bool p1',.int .i64 p2',.string (zae p3'),.int .i64 p4',.int .i64 p5',.bool q1',.int .i64 q2',.string (zae q3'),.int .i64 q4',.int .i64 q5']) W)):=Hz M
   clear M hV;have HNX:=Hz hnx;clear hnx;have hsz:=hW.size
   have F:Hid (∀W,New (wr.alloc (.cells #[.bool y0,.int .i64 y1,.string (zae y2),.int .i64 y3,.int .i64 y4] 61)) W→Blk W (w.heap.size+1) 63 #[.int .i64 n,.bool b,.bool p1,.int .i64 p2,.string (zae p3),.int .i64 p4,.int .i64 p5,.bool q1,.int .i64 q2,.string (zae q3),.int .i64 q4,.int .i64 q5]
    ∧Blk W w.heap.size 63 (zb6 zbw).toArray∧New w W∧Blk W wr.heap.size 61 #[.bool y0,.int .i64 y1,.string (zae y2),.int .i64 y3,.int .i64 y4]):=Hz fun W hN=>
    ⟨(B1.alloc _).below hN (by have:=B1.lt;simp;omega),(B0.alloc _).below hN (by have:=B0.lt;simp;omega),New.trans hW (New.trans ((Below.refl _ _).alloc (Nat.le_refl _) _) hN),(Blk.new _ _ _).below hN (by simp)⟩
   clear B0 B1
   go_wp2_with fail
   refine zdu New 5 [(1,0),(0,1),(0,2),(2,3),(2,4),(2,5)] New.refl New.trans (by kernel_rfl) (by kernel_rfl) (by kernel_rfl) (by kernel_rfl) ?_;have hU:=New.drew (wr.alloc (.cells #[.bool y0,.int .i64 y1,.string (zae y2),.int .i64 y3,.int .i64 y4] 61))
   repeat(first
    |(refine zbk rfl rfl (fun K hK=>?_);go_simp
      (with_reducible refine(S1.out _).mono ?_);rintro e w6 ⟨rfl,b6⟩
      refine hK _ _ (.inr (.inr b6)) ?_;clear hK
      replace hU:=New.trans hU b6)
    |(refine zbk rfl rfl (fun K hK=>?_);go_simp
      (with_reducible refine(M1.out _).mono ?_);rintro e w7 ⟨rfl,b7⟩
      refine hK _ _ (.inr (.inr b7)) ?_;clear hK
      replace hU:=New.trans hU b7)
    |(refine zbk rfl rfl (fun K hK=>?_)
      obtain⟨B1,B0,hl,-⟩:=F.out _ hU;refine z4n 63 (.tmp 5) (.tmp 18) rfl (w.heap.size+1) _ rfl rfl B1 (by kernel_rfl) (by simp) (by simp[Value.oneCell']) ?_;intro W5 B1 hlow hfar;replace B0:=hfar _ _ _ (by omega) B0;replace hl:=hlow _ _ hl (by omega);refine hK _ _ (.inr (.inl rfl)) ?_
      clear hK hlow hfar)
    |(refine zct rfl rfl (v:=?_) (fun W=>?_) ?_;rotate_left;(go_simp<;> with_reducible rfl);simp only[Act.put,List.setIfInBounds_toArray,List.set_cons_zero,List.set_cons_succ])
    |(refine zd4 rfl rfl (v:=?_) (fun W hQ=>?_) ?_;rotate_left;(obtain⟨B1,-,-,BY⟩:=F.out W (New.trans hU hQ);obtain⟨x0,x1,x2,x3,x4,x5,x6,x7,x8,x9,x10,x11⟩:=za6 B1;obtain⟨z0,z1,z2,z3,z4⟩:=zcm BY;clear B1 BY;go_simp<;> with_reducible rfl);simp only[Act.put,List.setIfInBounds_toArray,List.set_cons_zero,List.set_cons_succ]))
   refine zhw ?_
   go_wp2_with fail
   go_roundw
   case rel=>exact⟨k+1,(n',b',(p1',p2',p3',p4',p5'),(q1',q2',q3',q4',q5')),by omega,by go_num,B1,B0,hl,HNX⟩
   case measure=>simp[intOf];omega
  ·obtain rfl:k=L.length:=by omega
   have hs2:=hs.out;rw[List.take_length] at hs2;have HS:=Hz hs2;clear hs hs2;obtain⟨n,b,⟨p1,p2,p3,p4,p5⟩,⟨q1,q2,q3,q4,q5⟩⟩:=s;obtain⟨x0,x1,x2,x3,x4,x5,x6,x7,x8,x9,x10,x11⟩:=za6 B1
   go_wp2_with (refine zht rfl 63 (.tmp 4) (.tmp 20) rfl w.heap.size _ rfl rfl B0 (by kernel_rfl) (by simp[zb6,zbw,zak]) (by simp[Value.oneCell']) ?_
                intro W5 BR hlow hfar;have hl:=hlow _ _ hW (Nat.le_refl _);clear hfar hlow
                obtain⟨s0,s1,s2,s3,s4,s5,s6,s7,s8,s9,s10,s11⟩:=za6 BR)
   exact bodyPost_ret (v:=zb4 (n,b,(p1,p2,p3,p4,p5),(q1,q2,q3,q4,q5))) (by simp[results,Tryz.results98,go_sem,s0,s1,s2,s3,s4,s5,s6,s7,s8,s9,s10,s11,zb4,zb6,zak]) rfl ⟨_,rfl,HS.out,hl⟩
end Go.Proofs.YtmgfkpnghlmheaaGreat
namespace Go.Hm
open Go Go.RowKit
abbrev zfe:=Option Addr × Nat × List zk2
def zpi(d:zfe):List Value:=[.slice d.1 d.2.2.length d.2.1]
def RowBIn(w:World)(d:zfe):Prop:=Reads w w.heap.size 1 d.1 d.2.2.length (recs zje d.2.2)
theorem RowBIn.later{w w':World}{d:zfe}(h:RowBIn w d)(hb:New w w'):RowBIn w' d:=Reads.later h hb
def zc0(D:List zfe):List zk2:=D.flatMap fun d=>d.2.2
theorem z27(D:List zfe)(d:zfe):zc0 (D++[d])=zc0 D++d.2.2:=by simp[zc0]
theorem zrp{D:List zfe}{k:Nat}(hk:k<D.length):zc0 (D.take (k+1))=zc0 (D.take k)++(D.getD k (none,0,[])).2.2:=by
 rw[zad _ k (none,0,[]) hk,z27]
theorem zk4(D:List zfe)(k:Nat):(zc0 (D.take k)).length≤(zc0 D).length:=by
 have e:zc0 D=zc0 (D.take k)++zc0 (D.drop k):=by
  unfold zc0;rw[←List.flatMap_append,List.take_append_drop]
 rw[e,List.length_append];omega
theorem z8b{w:World}{B:Nat}{A:Option Addr}{n:Nat}{D:List zfe}(h:Reads w B 1 A n (recs zpi D)){k:Nat}(hk:k<D.length):
 ∃ad,A=some ad∧ad.block<B∧w.cell? (ad.add k)=some (.slice (D.getD k (none,0,[])).1 (D.getD k (none,0,[])).2.2.length (D.getD k (none,0,[])).2.1):=by
 have hn:n=D.length:=by
  have:=h.1;rw[zar (sz:=1) (fun _=>rfl)] at this;omega
 obtain⟨ad,u,e,hb,hu,hc⟩:=h.at_ (k:=k) (by omega);have:=zn1 (f:=zpi) (sz:=1) (fun _=>rfl) D (none,0,[]) k 0 hk (by omega);rw[Nat.mul_one,Nat.add_zero] at this;rw[this] at hu;obtain rfl:=Option.some.inj hu;exact⟨ad,e,hb,hc⟩
theorem zhd(D:List zk2):(recs zje D).length=D.length:=by rw[zar (sz:=1) (fun _=>rfl)];omega
theorem zpj(D:List zk2):∀u∈recs zje D,u.oneCell'=true:=by
 intro u hu;unfold recs at hu;obtain⟨d,_,hd⟩:=List.mem_flatMap.1 hu;obtain rfl:=List.mem_singleton.1 hd;rfl
end Go.Hm
namespace Go.Proofs.YtmgfkpnghlmheaaGreat
open Go.RowKit Go.Hm
theorem qim:ElT Tryz.prog 52 31 (.slice none 0 0) 1 24:=⟨by kernel_rfl,by kernel_rfl,rfl,by omega⟩
def qct(l:List zk2)(w:World)(e:Ending)(w':World):Prop:=
 ∃A c,e= .returned (.slice A l.length c)∧w'.ownsRow w.heap.size 31 1 (.slice A l.length c) l.length (recs zje l)∧New w w'
theorem z8c{w:World}{n:Nat}(hn:n≤5000000000000):
 Calls Tryz.prog 89 #[.slice none 0 0,.int .i64 (n:Int)] w (fun e w'=>∃A c,e= .returned (.slice A 0 c)∧w'.ownsRow w.heap.size 31 1 (.slice A 0 c) 0 []∧New w w'):=by
 by_cases h0:n=0
 ·subst h0
  go_enter Tryz.func89,Tryz.ntmps89
  go_wp2_with fail
  go_ret
  exact⟨none,0,rfl,World.ownsRow_nil _ _ _ _,New.refl _⟩
 ·have h1: ¬((n:Int)<0):=by omega
  have h2:(0:Int)<(n:Int):=by omega
  have h3:wrap64 ((n:Int)-0)=(n:Int):=by unfold wrap64;omega
  have h4:wrap64 (n:Int)=(n:Int):=by unfold wrap64;omega
  go_enter Tryz.func89,Tryz.ntmps89
  go_wp2_with (refine zmr qim rfl (.tmp 20) (.tmp 21) rfl qi1 rfl rfl n rfl (by omega) (by omega) (by simp only[maxLen];omega) ?_
               intro w1 cap hc1 hc2 o1 b1)
  go_ret
  exact⟨_,cap,rfl,o1,b1⟩
set_option maxRecDepth 100000 in
theorem zx9{w:World}{A:Option Addr}{n c:Nat}{D:List zfe}(h:Reads w w.heap.size 1 A n (recs zpi D))(hD:∀d∈D,RowBIn w d)(hn:n≤5000000000000)(hl:(zc0 D).length≤5000000000000):
 Calls Tryz.prog 47 #[.slice A n c] w (qct (zc0 D) w):=by
 have hlen:n=D.length:=by
  have:=h.1;rw[zar (sz:=1) (fun _=>rfl)] at this;omega
 subst hlen;have HR:=Hz h;have HD:=Hz hD;clear h hD
 go_enter Tryz.func47,Tryz.ntmps47
 go_wp2_with fail
 go_loopw [3,11] (fun s i wr=>∃k:Nat,k≤D.length∧i= .int .i64 (k:Int)∧s= .int .i64 ((zc0 (D.take k)).length:Int)∧wr=w) (fun _ i _=>D.length-(intOf i).toNat)
 case atStart=>exact⟨0,Nat.zero_le _,rfl,rfl,rfl⟩
 case round=>
  obtain⟨k,hk,rfl,rfl,rfl⟩:=hrel;by_cases hlt:k<D.length
  ·obtain⟨ad,rfl,_,hc⟩:=z8b HR.out hlt
   have e1:=zrp hlt;have e2:=zk4 D (k+1);have E1:=Hz e1
   have e3:(zc0 (D.take (k+1))).length=(zc0 (D.take k)).length+(D.getD k (none,0,[])).2.2.length:=by rw[e1,List.length_append]
   clear e1;generalize D.getD k (none,0,[])=d at*;obtain⟨da,dc,dl⟩:=d
   have i1:(k:Int)<(D.length:Int):=by omega
   have i2:wrap64 (((zc0 (D.take k)).length:Int)+(dl.length:Int))=((zc0 (D.take (k+1))).length:Int):=by rw[e3];dsimp only;unfold wrap64;dsimp only at e3;omega
   have i3: ¬(((zc0 (D.take (k+1))).length:Int)<0):=by omega
   have E3:=Hz e3;clear e3;generalize(zc0 (D.take k)).length=s0 at*;generalize hs1:(zc0 (D.take (k+1))).length=s1 at*;have HS:=Hz hs1;clear hs1
   go_wp2_with fail
   go_roundw
   case rel=>exact⟨k+1,by omega,by go_num,by rw[HS.out,i2],by trivial⟩
   case measure=>simp[intOf];omega
  ·obtain rfl:k=D.length:=by omega
   rw[List.take_length];generalize wr=w0 at*;have G:=Hz (z8c (w:=w0) (n:=(zc0 D).length) hl);generalize hs1:(zc0 D).length=s1 at*;have HS:=Hz hs1;clear hs1
   go_wp2_with fail
   refine G.out.mono ?_;rintro e W1 ⟨A1,c1,rfl,o1,b1⟩;clear G
   go_wp2_with fail
   go_loopw [6,27] (fun s i wr=>∃(k:Nat) (A2:Option Addr) (c2:Nat),k≤D.length∧i= .int .i64 (k:Int)∧s= .slice A2 (zc0 (D.take k)).length c2∧Go.Hm.Own wr w0.heap.size 31 (.slice A2 (zc0 (D.take k)).length c2) (recs zje (zc0 (D.take k)))∧New w0 wr) (fun _ i _=>D.length-(intOf i).toNat)
   case atStart=>exact⟨0,A1,c1,Nat.zero_le _,rfl,rfl,o1,b1⟩
   case round=>
    clear o1 b1;obtain⟨k,A2,c2,hk,rfl,rfl,o,b⟩:=hrel;by_cases hlt:k<D.length
    ·obtain⟨ad,rfl,_,hc⟩:=z8b (Reads.later HR.out b) hlt
     have hrd:=RowBIn.later (HD.out _ (zc5 (none,0,[]) hlt)) b;have e1:=zrp hlt;have e2:=zk4 D (k+1);rw[HS.out] at e2;have E1:=Hz e1
     have e3:(zc0 (D.take (k+1))).length=(zc0 (D.take k)).length+(D.getD k (none,0,[])).2.2.length:=by rw[e1,List.length_append]
     have e4:(zc0 (D.take (k+1))).length≤5000000000000:=by omega
     clear e1;generalize D.getD k (none,0,[])=d at*;obtain⟨da,dc,dl⟩:=d
     have i1:(k:Int)<(D.length:Int):=by omega
     have hrd:Reads _ _ 1 da dl.length (recs zje dl):=hrd;have hsz:=b.size;generalize zc0 (D.take k)=F at*;generalize hF1:zc0 (D.take (k+1))=F1 at*;have HF:=Hz hF1
     have e5:F.length+dl.length≤5000000000000:=by have e6:F1.length=F.length+dl.length:=e3;omega
     clear e3;clear hF1;have hFl:=zhd F
     go_wp2_with (refine zei qim rfl (.tmp 31) (.tmp 32) rfl (W:=w0) (B:=w0.heap.size) (news:=recs zje dl) o hrd rfl rfl b (Nat.le_refl _) hsz (zpj dl) (by rw[hFl];omega) (by rw[hFl];simp only[maxLen];omega) ?_
                  intro A3 c3 w3 hq1 hq2 o3 g3 b3 hq3
                  rw[hFl] at o3)
     rw[←zav] at o3
     go_roundw
     case rel=>exact⟨k+1,A3,c3,by omega,by go_num,by rw[HF.out,E1.out,List.length_append],by rw[HF.out,E1.out,List.length_append];exact o3,b3⟩
     case measure=>simp[intOf];omega
    ·obtain rfl:k=D.length:=by omega
     rw[List.take_length] at o⊢
     go_wp2_with fail
     go_ret
     exact⟨A2,c2,rfl,by have:=o;unfold Go.Hm.Own at this;rw[zhd] at this;exact this,b⟩
end Go.Proofs.YtmgfkpnghlmheaaGreat
