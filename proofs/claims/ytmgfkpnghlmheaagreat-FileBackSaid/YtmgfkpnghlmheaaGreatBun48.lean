/- Texts merged and made short: FilSq. -/
import Derived.Lib.SlBytesConst
import Derived.Lib.SmallJoins
import Derived.Test.YtmgfkpnghlmheaaGreatBun1
import Derived.Test.YtmgfkpnghlmheaaGreatBun23
import Derived.Test.YtmgfkpnghlmheaaGreatBun30
import Derived.Test.YtmgfkpnghlmheaaGreatBun41
import Derived.Test.YtmgfkpnghlmheaaGreatBun47
import Derived.Test.YtmgfkpnghlmheaaGreatBun5
import Derived.Test.YtmgfkpnghlmheaaGreatBun7
set_option maxHeartbeats 2000000
namespace Go.Proofs.YtmgfkpnghlmheaaGreat
open Go Go.RowKit Go.Hm
def qeb(n:Nat):List zdo:=[(some ⟨n+1,0,none⟩,3,smA),(some ⟨n+1+1,0,none⟩,3,smB)]
theorem qgj(n:Nat):(qeb n).map (·.2.2)=smD:=rfl
theorem qjh:Tryz.prog.underlying 31=some (.slice (Tryz.prog.elem 31)):=by kernel_rfl
theorem qji(w:World):(sizeOf (Tryz.prog.elem 31)).run Tryz.prog w= .ok 1 w:=by kernel_rfl
theorem z3j(A:Option Addr)(n c:Nat)(h1:1≤n)(w:World):(Instr.sliceAt 31 (.slice A n c) (some (.int .i64 1)) none none).run Tryz.prog w= .ok (.slice (if c=1 then A else A.map (·.add (1*1))) (n-1) (c-1)) w:=zsp qjh qji A n c 1 h1 w
theorem qh7(W:World):TabIn W none 0 [] none []:=⟨Reads.none_,by simp,by simp,by simp,Reads.none_,by simp,by intro d hd;cases hd⟩
theorem z8z:∀l∈smD,∀y∈l,CellFine y:=by
 intro l hl y hy
 have:y∈[zil 5,nullC,zil 7,zfk [97],zfk [98],zfk [98]]:=by
  simp only[smD,smA,smB,List.mem_cons,List.not_mem_nil,or_false] at hl;rcases hl with rfl|rfl
  ·simp only[List.mem_cons,List.not_mem_nil,or_false] at hy⊢
   rcases hy with rfl|rfl|rfl<;> simp
  ·simp only[List.mem_cons,List.not_mem_nil,or_false] at hy⊢
   rcases hy with rfl|rfl|rfl<;> simp
 simp only[List.mem_cons,List.not_mem_nil,or_false] at this;unfold CellFine;rcases this with rfl|rfl|rfl|rfl|rfl|rfl<;> simp[zil,nullC,zfk]
set_option maxRecDepth 100000 in
theorem qiv(w:World):TabIn (((((w.alloc (.cells #[.string ⟨#[110]⟩,.int .i64 0,.bool true,.string ⟨#[115]⟩,.int .i64 2,.bool false] 70)).alloc (.cells #[.bool false,.int .i64 5,.string ⟨#[]⟩,.int .i64 0,.int .i64 0,.bool true,.int .i64 0,.string ⟨#[]⟩,.int .i64 0,.int .i64 0,.bool false,.int .i64 7,.string ⟨#[]⟩,.int .i64 0,.int .i64 0] 61)).alloc (.cells #[.bool false,.int .i64 0,.string ⟨#[97]⟩,.int .i64 0,.int .i64 0,.bool false,.int .i64 0,.string ⟨#[98]⟩,.int .i64 0,.int .i64 0,.bool false,.int .i64 0,.string ⟨#[98]⟩,.int .i64 0,.int .i64 0] 61)).alloc (.cells #[.slice (some ⟨w.heap.size+1,0,none⟩) 3 3,.slice (some ⟨w.heap.size+1+1,0,none⟩) 3 3] 71)).alloc (.cells #[.slice (some ⟨w.heap.size,0,none⟩) 2 2,.int .i64 3,.slice (some ⟨w.heap.size+1+1+1,0,none⟩) 2 2] 25)) (some ⟨w.heap.size,0,none⟩) 2 smL_filsp (some ⟨w.heap.size+1+1+1,0,none⟩) (qeb w.heap.size)∧New w (((((w.alloc (.cells #[.string ⟨#[110]⟩,.int .i64 0,.bool true,.string ⟨#[115]⟩,.int .i64 2,.bool false] 70)).alloc (.cells #[.bool false,.int .i64 5,.string ⟨#[]⟩,.int .i64 0,.int .i64 0,.bool true,.int .i64 0,.string ⟨#[]⟩,.int .i64 0,.int .i64 0,.bool false,.int .i64 7,.string ⟨#[]⟩,.int .i64 0,.int .i64 0] 61)).alloc (.cells #[.bool false,.int .i64 0,.string ⟨#[97]⟩,.int .i64 0,.int .i64 0,.bool false,.int .i64 0,.string ⟨#[98]⟩,.int .i64 0,.int .i64 0,.bool false,.int .i64 0,.string ⟨#[98]⟩,.int .i64 0,.int .i64 0] 61)).alloc (.cells #[.slice (some ⟨w.heap.size+1,0,none⟩) 3 3,.slice (some ⟨w.heap.size+1+1,0,none⟩) 3 3] 71)).alloc (.cells #[.slice (some ⟨w.heap.size,0,none⟩) 2 2,.int .i64 3,.slice (some ⟨w.heap.size+1+1+1,0,none⟩) 2 2] 25))∧Blk (((((w.alloc (.cells #[.string ⟨#[110]⟩,.int .i64 0,.bool true,.string ⟨#[115]⟩,.int .i64 2,.bool false] 70)).alloc (.cells #[.bool false,.int .i64 5,.string ⟨#[]⟩,.int .i64 0,.int .i64 0,.bool true,.int .i64 0,.string ⟨#[]⟩,.int .i64 0,.int .i64 0,.bool false,.int .i64 7,.string ⟨#[]⟩,.int .i64 0,.int .i64 0] 61)).alloc (.cells #[.bool false,.int .i64 0,.string ⟨#[97]⟩,.int .i64 0,.int .i64 0,.bool false,.int .i64 0,.string ⟨#[98]⟩,.int .i64 0,.int .i64 0,.bool false,.int .i64 0,.string ⟨#[98]⟩,.int .i64 0,.int .i64 0] 61)).alloc (.cells #[.slice (some ⟨w.heap.size+1,0,none⟩) 3 3,.slice (some ⟨w.heap.size+1+1,0,none⟩) 3 3] 71)).alloc (.cells #[.slice (some ⟨w.heap.size,0,none⟩) 2 2,.int .i64 3,.slice (some ⟨w.heap.size+1+1+1,0,none⟩) 2 2] 25)) (w.heap.size+1+1+1+1) 25 #[.slice (some ⟨w.heap.size,0,none⟩) 2 2,.int .i64 3,.slice (some ⟨w.heap.size+1+1+1,0,none⟩) 2 2]:=by
 obtain⟨W1,h1⟩:∃W,W=w.alloc (.cells #[.string ⟨#[110]⟩,.int .i64 0,.bool true,.string ⟨#[115]⟩,.int .i64 2,.bool false] 70):=⟨_,rfl⟩;obtain⟨W2,h2⟩:∃W,W=W1.alloc (.cells #[.bool false,.int .i64 5,.string ⟨#[]⟩,.int .i64 0,.int .i64 0,.bool true,.int .i64 0,.string ⟨#[]⟩,.int .i64 0,.int .i64 0,.bool false,.int .i64 7,.string ⟨#[]⟩,.int .i64 0,.int .i64 0] 61):=⟨_,rfl⟩;obtain⟨W3,h3⟩:∃W,W=W2.alloc (.cells #[.bool false,.int .i64 0,.string ⟨#[97]⟩,.int .i64 0,.int .i64 0,.bool false,.int .i64 0,.string ⟨#[98]⟩,.int .i64 0,.int .i64 0,.bool false,.int .i64 0,.string ⟨#[98]⟩,.int .i64 0,.int .i64 0] 61):=⟨_,rfl⟩;obtain⟨W4,h4⟩:∃W,W=W3.alloc (.cells #[.slice (some ⟨w.heap.size+1,0,none⟩) 3 3,.slice (some ⟨w.heap.size+1+1,0,none⟩) 3 3] 71):=⟨_,rfl⟩;obtain⟨W5,h5⟩:∃W,W=W4.alloc (.cells #[.slice (some ⟨w.heap.size,0,none⟩) 2 2,.int .i64 3,.slice (some ⟨w.heap.size+1+1+1,0,none⟩) 2 2] 25):=⟨_,rfl⟩
 have e5:(((((w.alloc (.cells #[.string ⟨#[110]⟩,.int .i64 0,.bool true,.string ⟨#[115]⟩,.int .i64 2,.bool false] 70)).alloc (.cells #[.bool false,.int .i64 5,.string ⟨#[]⟩,.int .i64 0,.int .i64 0,.bool true,.int .i64 0,.string ⟨#[]⟩,.int .i64 0,.int .i64 0,.bool false,.int .i64 7,.string ⟨#[]⟩,.int .i64 0,.int .i64 0] 61)).alloc (.cells #[.bool false,.int .i64 0,.string ⟨#[97]⟩,.int .i64 0,.int .i64 0,.bool false,.int .i64 0,.string ⟨#[98]⟩,.int .i64 0,.int .i64 0,.bool false,.int .i64 0,.string ⟨#[98]⟩,.int .i64 0,.int .i64 0] 61)).alloc (.cells #[.slice (some ⟨w.heap.size+1,0,none⟩) 3 3,.slice (some ⟨w.heap.size+1+1,0,none⟩) 3 3] 71)).alloc (.cells #[.slice (some ⟨w.heap.size,0,none⟩) 2 2,.int .i64 3,.slice (some ⟨w.heap.size+1+1+1,0,none⟩) 2 2] 25))=W5:=by rw[h5,h4,h3,h2,h1]
 rw[e5]
 have s1:W1.heap.size=w.heap.size+1:=by rw[h1,World.size_alloc]
 have s2:W2.heap.size=w.heap.size+1+1:=by rw[h2,World.size_alloc,s1]
 have s3:W3.heap.size=w.heap.size+1+1+1:=by rw[h3,World.size_alloc,s2]
 have s4:W4.heap.size=w.heap.size+1+1+1+1:=by rw[h4,World.size_alloc,s3]
 have b1:New w W1:=by rw[h1];exact(Below.refl _ _).alloc (Nat.le_refl _) _
 have b2:New W1 W2:=by rw[h2];exact(Below.refl _ _).alloc (Nat.le_refl _) _
 have b3:New W2 W3:=by rw[h3];exact(Below.refl _ _).alloc (Nat.le_refl _) _
 have b4:New W3 W4:=by rw[h4];exact(Below.refl _ _).alloc (Nat.le_refl _) _
 have b5:New W4 W5:=by rw[h5];exact(Below.refl _ _).alloc (Nat.le_refl _) _
 have b35:=New.trans b4 b5;have b25:=New.trans b3 b35;have b15:=New.trans b2 b25
 have r1:Reads W1 W1.heap.size 3 (some ⟨w.heap.size,0,none⟩) 2 (recs zh4 smL_filsp):=by
  have:=Reads.litR w 70 #[.string ⟨#[110]⟩,.int .i64 0,.bool true,.string ⟨#[115]⟩,.int .i64 2,.bool false] 2 3 (recs zh4 smL_filsp) rfl rfl;rw[←h1] at this;exact this
 have r2:Reads W2 W2.heap.size 5 (some ⟨w.heap.size+1,0,none⟩) 3 (recs zak smA):=by
  have:=Reads.litR W1 61 #[.bool false,.int .i64 5,.string ⟨#[]⟩,.int .i64 0,.int .i64 0,.bool true,.int .i64 0,.string ⟨#[]⟩,.int .i64 0,.int .i64 0,.bool false,.int .i64 7,.string ⟨#[]⟩,.int .i64 0,.int .i64 0] 3 5 (recs zak smA) rfl rfl;rw[s1,←h2] at this;exact this
 have r3:Reads W3 W3.heap.size 5 (some ⟨w.heap.size+1+1,0,none⟩) 3 (recs zak smB):=by
  have:=Reads.litR W2 61 #[.bool false,.int .i64 0,.string ⟨#[97]⟩,.int .i64 0,.int .i64 0,.bool false,.int .i64 0,.string ⟨#[98]⟩,.int .i64 0,.int .i64 0,.bool false,.int .i64 0,.string ⟨#[98]⟩,.int .i64 0,.int .i64 0] 3 5 (recs zak smB) rfl rfl;rw[s2,←h3] at this;exact this
 have r4:Reads W4 W4.heap.size 1 (some ⟨w.heap.size+1+1+1,0,none⟩) 2 (recs zf4 (qeb w.heap.size)):=by
  have:=Reads.litR W3 71 #[.slice (some ⟨w.heap.size+1,0,none⟩) 3 3,.slice (some ⟨w.heap.size+1+1,0,none⟩) 3 3] 2 1 (recs zf4 (qeb w.heap.size)) rfl rfl;rw[s3,←h4] at this;exact this
 refine⟨⟨Reads.later r1 b15,by decide,by decide,by decide,Reads.later r4 b5,by simp[qeb],?_⟩,New.trans b1 b15,?_⟩
 ·intro d hd
  simp only[qeb,List.mem_cons,List.not_mem_nil,or_false] at hd;rcases hd with rfl|rfl
  ·exact⟨Reads.later r2 b25,show∀x∈smA,x.2.2.1.length≤140737488351232∧∀z∈x.2.2.1,z<256 from by decide,by simp[smA],by simp,by simp⟩
  ·exact⟨Reads.later r3 b35,show∀x∈smB,x.2.2.1.length≤140737488351232∧∀z∈x.2.2.1,z<256 from by decide,by simp[smB],by simp,by simp⟩
 ·have:=Blk.new W4 25 #[.slice (some ⟨w.heap.size,0,none⟩) 2 2,.int .i64 3,.slice (some ⟨w.heap.size+1+1+1,0,none⟩) 2 2]
  rw[s4,←h5] at this;exact this
set_option maxRecDepth 100000 in
theorem zyh(w:World):Calls Tryz.prog 9 #[] w (zt7 w):=by
 obtain⟨TI,b05,BT⟩:=qiv w;replace TI:=Hz TI;replace b05:=Hz b05;replace BT:=Hz BT
 go_enter Tryz.func9,Tryz.ntmps9
 go_upto_region 2 with fail
 generalize hW5:(((((w.alloc (.cells #[.string ⟨#[110]⟩,.int .i64 0,.bool true,.string ⟨#[115]⟩,.int .i64 2,.bool false] 70)).alloc (.cells #[.bool false,.int .i64 5,.string ⟨#[]⟩,.int .i64 0,.int .i64 0,.bool true,.int .i64 0,.string ⟨#[]⟩,.int .i64 0,.int .i64 0,.bool false,.int .i64 7,.string ⟨#[]⟩,.int .i64 0,.int .i64 0] 61)).alloc (.cells #[.bool false,.int .i64 0,.string ⟨#[97]⟩,.int .i64 0,.int .i64 0,.bool false,.int .i64 0,.string ⟨#[98]⟩,.int .i64 0,.int .i64 0,.bool false,.int .i64 0,.string ⟨#[98]⟩,.int .i64 0,.int .i64 0] 61)).alloc (.cells #[.slice (some ⟨w.heap.size+1,0,none⟩) 3 3,.slice (some ⟨w.heap.size+1+1,0,none⟩) 3 3] 71)).alloc (.cells #[.slice (some ⟨w.heap.size,0,none⟩) 2 2,.int .i64 3,.slice (some ⟨w.heap.size+1+1+1,0,none⟩) 2 2] 25))=W5 at*;have hDl:(qeb w.heap.size).length=2:=rfl;have hDD:=qgj w.heap.size;generalize qeb w.heap.size=D0 at*;generalize hgt:w.heap.size+1+1+1+1=gt at*;generalize hac:(some ⟨w.heap.size,0,none⟩:Option Addr)=Ac at*;generalize had:(some ⟨w.heap.size+1+1+1,0,none⟩:Option Addr)=Ad at*;clear hW5
 have hgtw:w.heap.size<gt:=by omega
 clear hgt hac had;obtain⟨b,hb,hop,hrd,hb8,hbl,hcg,hFo⟩:=qc9 hDD;have HDL:=Hz hDl;have HDD:=Hz hDD;have HB:=Hz (And.intro hop (And.intro hrd (And.intro hb8 (And.intro hcg hFo))));have HW0:=Hz hb;have HFN:Hid (∀d∈D0,∀y∈d.2.2,CellFine y):=Hz (fun d hd=>z8z _ (by rw[←hDD];exact List.mem_map.2 ⟨d,hd,rfl⟩));clear hDl hDD hop hrd hb8 hcg hFo hb;have b56:New W5 (W5.alloc (.cells #[.int .i64 0,.int .i64 (-1)] 3)):=(Below.refl _ _).alloc (Nat.le_refl _) _;have RE:Reads (W5.alloc (.cells #[.int .i64 0,.int .i64 (-1)] 3)) (W5.alloc (.cells #[.int .i64 0,.int .i64 (-1)] 3)).heap.size 1 (some ⟨W5.heap.size,0,none⟩) 2 (zep .i64 smE):=Reads.litR W5 3 #[.int .i64 0,.int .i64 (-1)] 2 1 (zep .i64 smE) rfl rfl
 have P1:=Hz (show Calls Tryz.prog 11 #[.agg #[.slice Ac 2 2,.int .i64 3,.slice Ad 2 2],.agg #[.int .i64 2,.int .i64 1,.slice (some ⟨W5.heap.size,0,none⟩) 2 2]] (W5.alloc (.cells #[.int .i64 0,.int .i64 (-1)] 3)) (zh0 (0,b) (W5.alloc (.cells #[.int .i64 0,.int .i64 (-1)] 3))) from by
  have:=zjb ⟨Ac,2,smL_filsp,3,Ad,2,D0,2,1,some ⟨W5.heap.size,0,none⟩,2,smE⟩ (TI.out.later b56) RE HFN.out (by simp[smE]);dsimp only at this;rw[HW0.out,HDL.out] at this
  exact this)
 have BT6:=Hz (BT.out.below b56 BT.out.lt);have TI6:=Hz (TI.out.later b56);have n6:=Hz (New.trans b05.out b56);obtain⟨x0,x1,x2⟩:=zaf BT.out;clear RE b56 BT TI b05
 go_wp2_with fail
 refine P1.out.mono ?_;rintro e w1 ⟨A1,m1,c1,rfl,o1,b1⟩;have n1:=Hz (New.trans n6.out b1);have BT1:=Hz (BT6.out.below b1 BT6.out.lt);have TI1:=Hz (TI6.out.later b1)
 obtain rfl:m1=b.length:=by have:=o1.len;rwa[zaa] at this
 have hcap:=o1.cap;have P2:=Hz (zz4 (c:=c1) o1.reads HB.out.2.2.1 (by omega) hcap.1 (by have:=hcap.2;simp only[maxLen] at this;omega));have O1:=Hz o1;clear x0 x1 x2 P1 b1 BT6 TI6 n6 o1;obtain⟨hF1,hF2,-,-,hsz,-,hs8⟩:=zs4 HB.out.2.2.1 (by omega) HB.out.1
 have hb12:12≤b.length:=by omega
 have HSZ:=Hz (And.intro hsz (And.intro hF1 hF2));clear hsz hF1 hF2 hs8 hcap
 go_wp2_with fail
 refine P2.out.mono ?_;rintro e w2 ⟨b2,hq⟩;rw[HB.out.1] at hq;obtain⟨Ac2,cc2,L2,r2,Ag2,cg2,G2,A2,m2,c2,rfl,hP2,FI2,hcg2,o2⟩:=hq;clear P2;unfold ziq;have HP2:=Hz hP2;have n2:=Hz (New.trans n1.out b2);have BT2:=Hz (BT1.out.below b2 BT1.out.lt);have TI2:=Hz (TI1.out.later b2);have O12:=Hz (O1.out.later b2);have O2:=Hz o2;have FI2:=Hz FI2;clear n1 BT1 TI1 O1 b2 hP2 o2
 go_upto_region 4 with fail
 have b23:New w2 (w2.alloc (.cells #[.slice Ac2 L2.length cc2,.int .i64 r2,.slice Ag2 G2.length cg2] 38)):=(Below.refl _ _).alloc (Nat.le_refl _) _;have BF3:=Blk.new w2 38 #[.slice Ac2 L2.length cc2,.int .i64 r2,.slice Ag2 G2.length cg2];obtain⟨w3,hw3⟩:∃w3,w3=w2.alloc (.cells #[.slice Ac2 L2.length cc2,.int .i64 r2,.slice Ag2 G2.length cg2] 38):=⟨_,rfl⟩;rw[←hw3] at b23 BF3⊢;obtain⟨gF,hgF⟩:∃gF,gF=w2.heap.size:=⟨_,rfl⟩;rw[←hgF] at BF3⊢;have n3:=Hz (New.trans n2.out b23);have BT3:=Hz (BT2.out.below b23 BT2.out.lt);have TI3:=Hz (TI2.out.later b23);have O13:=O12.out.later b23;have O3:=Hz (O2.out.later b23);have FI3:=Hz (FI2.out.later b23);have hcap:=O13.cap;have P3:=Hz (zpn (c:=c1) O13.reads HB.out.2.2.1 (by omega) hcap.1 (by have:=hcap.2;simp only[maxLen] at this;omega));have O13:=Hz O13;have BF3:=Hz BF3;clear n2 BT2 TI2 O12 O2 FI2 b23 hw3 hgF hcap
 go_wp2_with fail
 refine P3.out.mono ?_;intro e w4 hq;unfold zk7 at hq;rw[HB.out.2.1] at hq;obtain⟨Ac4,Ad4,cc4,cd4,D4,rfl,TO4,hD4,b4⟩:=(show TabPost 0 smL_filsp 3 smD w3 e w4 from hq).own;clear P3 hq
 have hD4l:D4.length=2:=by have:=congrArg List.length hD4;rwa[List.length_map] at this
 have hf4:∀d∈D4,∀y∈d.2.2,CellFine y:=fun d hd=>z8z _ (by rw[←hD4];exact List.mem_map.2 ⟨d,hd,rfl⟩)
 have TI4:=Hz (TO4.tabIn (by decide) (by omega) (by unfold z0m;decide) (fun d hd y hy=>(hf4 d hd y hy).1));have HD4:=Hz hD4;have HD4l:=Hz hD4l;have n4:=Hz (New.trans n3.out b4);have BT4:=Hz (BT3.out.below b4 BT3.out.lt);have TJ4:=Hz (TI3.out.later b4);have O14:=Hz (O13.out.later b4);have O4:=Hz (O3.out.later b4);have FI4:=Hz (FI3.out.later b4);have BF4:=Hz (BF3.out.below b4 BF3.out.lt);clear n3 BT3 TI3 O13 O3 FI3 BF3 b4 TO4 hD4 hD4l hf4
 go_upto_region 5 with fail
 have b45:New w4 (w4.alloc (.cells #[.slice Ac4 smL_filsp.length cc4,.int .i64 3,.slice Ad4 D4.length cd4] 25)):=(Below.refl _ _).alloc (Nat.le_refl _) _;have BR5:=Blk.new w4 25 #[.slice Ac4 smL_filsp.length cc4,.int .i64 3,.slice Ad4 D4.length cd4];obtain⟨w5,hw5⟩:∃w5,w5=w4.alloc (.cells #[.slice Ac4 smL_filsp.length cc4,.int .i64 3,.slice Ad4 D4.length cd4] 25):=⟨_,rfl⟩;rw[←hw5] at b45 BR5⊢;obtain⟨gR,hgR⟩:∃gR,gR=w4.heap.size:=⟨_,rfl⟩;rw[←hgR] at BR5⊢
 have LW0:=Hz (show Calls Tryz.prog 11 #[.agg #[.slice none 0 0,.int .i64 0,.slice none 0 0],.agg #[.int .i64 1,.int .i64 1,.slice none 0 0]] w5 (zh0 (0,[72,89,80,79,0,0,0,3,0,0,0,79,80,89,72]) w5) from by
  have:=zjb (w:=w5) ⟨none,0,[],0,none,0,[],1,1,none,0,[]⟩ (qh7 w5) Reads.none_ (by intro d hd;cases hd) (by simp);dsimp only at this;rw[qde] at this
  exact this)
 have n5:=Hz (New.trans n4.out b45);have BT5:=Hz (BT4.out.below b45 BT4.out.lt);have TJ5:=Hz (TJ4.out.later b45);have TI5:=Hz (TI4.out.later b45);have O15:=Hz (O14.out.later b45);have O5:=Hz (O4.out.later b45);have FI5:=Hz (FI4.out.later b45);have BF5:=Hz (BF4.out.below b45 BF4.out.lt);have BR5:=Hz BR5;clear n4 BT4 TJ4 TI4 O14 O4 FI4 BF4 b45 hw5 hgR
 go_wp2_with fail
 refine LW0.out.mono ?_;rintro e w6 ⟨A6,m6,c6,rfl,o6,b6⟩
 obtain rfl:m6=15:=by have:=o6.len;rw[zaa] at this;simpa using this
 have n6:=Hz (New.trans n5.out b6);have BT6:=Hz (BT5.out.below b6 BT5.out.lt);have TJ6:=Hz (TJ5.out.later b6);have TI6:=Hz (TI5.out.later b6);have O16:=O15.out.later b6;have O6:=Hz (O5.out.later b6);have FI6:=Hz (FI5.out.later b6);have BF6:=Hz (BF5.out.below b6 BF5.out.lt);have BR6:=Hz (BR5.out.below b6 BR5.out.lt);have OE6:=Hz o6;clear n5 BT5 TJ5 TI5 O15 O5 FI5 BF5 BR5 LW0 b6 o6;have hcap:=O16.cap;have hcm:=hcap.2;simp only[maxLen] at hcm
 obtain⟨A7,c7,d7,SL,hd7,R7,k7⟩:∃(A7:Option Addr) (c7:Nat) (d7:List Nat),(∀W,(Instr.sliceAt 31 (.slice A1 b.length c1) (some (.int .i64 1)) none none).run Tryz.prog W= .ok (.slice A7 d7.length c7) W)∧d7=b.drop 1∧Reads w6 w6.heap.size 1 A7 d7.length (za3 .u8 d7)∧d7.length≤c7∧c7≤9223372036854775807:=by
  refine⟨if c1=1 then A1 else A1.map (·.add (1*1)),c1-1,b.drop 1,fun W=>?_,rfl,?_,?_⟩
  ·rw[List.length_drop]
   exact z3j A1 b.length c1 (by omega) W
  ·have:=O16.reads.cut (k:=1) (cap:=c1) (by omega) hcap.1
   rw[List.length_drop];rw[zez] at this;exact this
  ·rw[List.length_drop]
   omega
 have hmin:min (b.length:Int) 1=1:=by omega
 have P7:=Hz (zpn (c:=c7) R7 (by rw[hd7];exact fun x hx=>HB.out.2.2.1 x (List.mem_of_mem_drop hx)) (by rw[hd7,List.length_drop];omega) k7.1 k7.2)
 have hN7:readO d7=none:=by
  obtain⟨_,_,_,hbf,_,_,_⟩:=zs4 HB.out.2.2.1 (by omega) HB.out.1;rw[hd7,hbf];exact qgi _ _
 have HN7:=Hz hN7;have O16:=Hz O16;clear hcap hcm hd7 R7 k7 hN7
 go_wp2_with fail
 refine P7.out.mono ?_;intro e w7 hq;unfold zk7 at hq;rw[HN7.out] at hq;obtain⟨Ac7,Ad7,cc7,cd7,D7,rfl,-,-,b7⟩:=(show TabPost 2 [] 0 [] w6 e w7 from hq).own;clear P7 hq SL hmin HN7;have n7:=Hz (New.trans n6.out b7);have BT7:=Hz (BT6.out.below b7 BT6.out.lt);have TJ7:=Hz (TJ6.out.later b7);have TI7:=Hz (TI6.out.later b7);have O17:=Hz (O16.out.later b7);have O7:=Hz (O6.out.later b7);have FI7:=Hz (FI6.out.later b7);have BF7:=Hz (BF6.out.below b7 BF6.out.lt);have BR7:=Hz (BR6.out.below b7 BR6.out.lt);have OE7:=Hz (OE6.out.later b7);clear n6 BT6 TJ6 TI6 O16 O6 FI6 BF6 BR6 OE6 b7
 go_upto_region 7 with fail
 have b78:New w7 (w7.alloc (.cells #[.slice Ac7 0 cc7,.int .i64 0,.slice Ad7 D7.length cd7] 25)):=(Below.refl _ _).alloc (Nat.le_refl _) _;obtain⟨w8,hw8⟩:∃w8,w8=w7.alloc (.cells #[.slice Ac7 0 cc7,.int .i64 0,.slice Ad7 D7.length cd7] 25):=⟨_,rfl⟩;rw[←hw8] at b78⊢;have n8:=Hz (New.trans n7.out b78);have BT8:=Hz (BT7.out.below b78 BT7.out.lt);have TJ8:=TJ7.out.later b78;have TI8:=Hz (TI7.out.later b78);have O18:=Hz (O17.out.later b78);have O8:=Hz (O7.out.later b78);have FI8:=Hz (FI7.out.later b78);have BF8:=Hz (BF7.out.below b78 BF7.out.lt);have BR8:=Hz (BR7.out.below b78 BR7.out.lt);have OE8:=Hz (OE7.out.later b78)
 have P8:=Hz (show Calls Tryz.prog 11 #[.agg #[.slice Ac 2 2,.int .i64 3,.slice Ad 2 2],.agg #[.int .i64 0,.int .i64 0,.slice none 0 0]] w8 (zh0 (1,[]) w8) from by
  have:=zjb (w:=w8) ⟨Ac,2,smL_filsp,3,Ad,2,D0,0,0,none,0,[]⟩ TJ8 Reads.none_ HFN.out (by simp);dsimp only at this;rw[qh6 HDD.out,HDL.out] at this
  exact this)
 have TJ8:=Hz TJ8;clear n7 BT7 TJ7 TI7 O17 O7 FI7 BF7 BR7 OE7 b78 hw8;obtain⟨x0,x1,x2⟩:=zaf BT8.out
 go_wp2_with fail
 refine P8.out.mono ?_;rintro e w9 ⟨A9,m9,c9,rfl,-,b9⟩;clear P8 x0 x1 x2;have n9:=Hz (New.trans n8.out b9);have BT9:=Hz (BT8.out.below b9 BT8.out.lt);have TJ9:=Hz (TJ8.out.later b9);have TI9:=Hz (TI8.out.later b9);have O19:=O18.out.later b9;have O9:=Hz (O8.out.later b9);have FI9:=FI8.out.later b9;have BF9:=Hz (BF8.out.below b9 BF8.out.lt);have BR9:=Hz (BR8.out.below b9 BR8.out.lt);have OE9:=Hz (OE8.out.later b9);have hsF:∀g∈G2,∀x∈g.2.2.2,∀p∈x.2.2,zdk p.2.2:=zo5 (L:=L2) (r:=r2) (by rw[HP2.out];exact HSZ.out.2.2);have HSF:=Hz hsF;have P9:=zz6 (cb:=c1) (cc:=cc2) (r:=r2) (cg:=cg2) (g:=0) (c:=1) (p:=1) O19.reads O19.cap.1 FI9 hsF;rw[HP2.out,qdb HSZ.out.2.1 (by have:=HSZ.out.1;omega) HB.out.2.2.2.1] at P9;unfold ziq at P9;have P9:=Hz P9;have O19:=Hz O19;have FI9:=Hz FI9;clear n8 BT8 TJ8 TI8 O18 O8 FI8 BF8 BR8 OE8 b9 hsF;obtain⟨x0,x1,x2⟩:=zaf BF9.out
 go_wp2_with fail
 refine P9.out.mono ?_;rintro e wa ⟨ba,Aa,ma,ca,rfl,oa⟩
 obtain rfl:ma=4:=by have:=oa.len;rw[zaa] at this;simpa using this
 clear P9 x0 x1 x2;have na:=Hz (New.trans n9.out ba);have BTa:=Hz (BT9.out.below ba BT9.out.lt);have TJa:=Hz (TJ9.out.later ba);have TIa:=Hz (TI9.out.later ba);have O1a:=O19.out.later ba;have O2a:=Hz (O9.out.later ba);have FIa:=FI9.out.later ba;have BFa:=Hz (BF9.out.below ba BF9.out.lt);have BRa:=Hz (BR9.out.below ba BR9.out.lt);have OEa:=Hz (OE9.out.later ba);have Pa:=zz6 (cb:=c1) (cc:=cc2) (r:=r2) (cg:=cg2) (g:=0) (c:=1) (p:=2) O1a.reads O1a.cap.1 FIa HSF.out;rw[HP2.out,qdc] at Pa;unfold ziq at Pa;have Pa:=Hz Pa;have FIa:=Hz FIa;have OPa:=Hz oa;clear n9 BT9 TJ9 TI9 O19 O9 FI9 BF9 BR9 OE9 ba O1a oa;obtain⟨x0,x1,x2⟩:=zaf BFa.out
 go_wp2_with fail
 refine Pa.out.mono ?_;rintro e wb ⟨bb,rfl⟩;clear Pa x0 x1 x2;have nb:=Hz (New.trans na.out bb);have BTb:=Hz (BTa.out.below bb BTa.out.lt);have TJb:=Hz (TJa.out.later bb);have TIb:=Hz (TIa.out.later bb);have O2b:=Hz (O2a.out.later bb);have FIb:=FIa.out.later bb;have BFb:=BFa.out.below bb BFa.out.lt;have BRb:=Hz (BRa.out.below bb BRa.out.lt);have OEb:=Hz (OEa.out.later bb);have OPb:=Hz (OPa.out.later bb);clear na BTa TJa TIa O2a FIa BFa BRa OEa OPa bb
 have hm2:m2=(zd9 (zbu smL_filsp 3 smE smD 2 1)).length:=by have:=O2b.out.len;rwa[zaa] at this
 have hm2p:=z8x (zbu smL_filsp 3 smE smD 2 1)
 have hm3: ¬((m2:Int)=0):=by omega
 clear hm2 hm2p;obtain⟨n0,A0,c0,x0',x1',g1,rfl,hx0⟩:=qdd HP2.out;obtain⟨adG,rfl,-,hcG⟩:=FIb.groups.2 (by simp);have f0:wb.cell? ⟨adG.block,adG.off+1,none⟩=some (.slice A0 2 c0):=hcG 1 _ rfl;obtain⟨adC,rfl,-,hcC⟩:=(FIb.chunks _ (List.mem_cons_self)).1.2 (by simp);have f1:wb.cell? adC=some (.slice x0'.1 x0'.2.2.length x0'.2.1):=hcC 0 _ rfl;rw[hx0] at f1
 have LS:=Hz (show Calls Tryz.prog 18 #[.agg #[.slice Ac4 smL_filsp.length cc4,.int .i64 3,.slice Ad4 D4.length cd4],.agg #[.slice Ac 2 2,.int .i64 3,.slice Ad 2 2]] wb (zap (.bool true) wb) from by
  have:=zjm (r:=3) (c1:=cc4) (k1:=cd4) (c2:=2) (k2:=2) TIb.out TJb.out (by rw[HD4.out,HDD.out]);rw[HDL.out] at this
  exact this)
 obtain⟨x0,x1,x2⟩:=zaf BFb;obtain⟨y0,y1,y2⟩:=zaf BTb.out;obtain⟨z0,z1,z2⟩:=zaf BRb.out;have FIb:=Hz FIb;have BFb:=Hz BFb
 go_wp2_with fail
 refine LS.out.mono ?_;rintro e wc ⟨rfl,bc⟩;have FIc:=FIb.out.later bc;have BFc:=BFb.out.below bc BFb.out.lt;obtain⟨ad,e1,-,hcG⟩:=FIc.groups.2 (by simp);injection e1 with e1;subst e1;obtain⟨ad,e1,-,hcC⟩:=(FIc.chunks _ (List.mem_cons_self)).1.2 (by simp);injection e1 with e1;subst e1;have f0:wc.cell? ⟨adG.block,adG.off+1,none⟩=some (.slice (some adC) 2 c0):=hcG 1 _ rfl;have f1:wc.cell? adC=some (.slice x0'.1 x0'.2.2.length x0'.2.1):=hcC 0 _ rfl;rw[hx0] at f1;have X1:=zf5 (c:=c6) (OEb.out.later bc).reads;have X2:=zf5 (c:=ca) (OPb.out.later bc).reads;have HS1:=qh4;have HS2:=qh5;have N:=Hz (New.trans nb.out bc);clear x0 x1 x2 y0 y1 y2 z0 z1 z2 LS BFb FIb OEb OPb nb bc hcG hcC FIc;obtain⟨x0,x1,x2⟩:=zaf BFc
 go_wp2
 go_ret
 exact⟨rfl,N.out⟩
end Go.Proofs.YtmgfkpnghlmheaaGreat
