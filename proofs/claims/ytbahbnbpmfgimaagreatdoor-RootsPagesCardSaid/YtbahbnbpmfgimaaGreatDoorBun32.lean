/- Merged. -/
import Derived.Test.YtbahbnbpmfgimaaGreatDoorBun27
set_option maxHeartbeats 4000000
namespace Go.Hm
open Go Go.RowKit
theorem zpz{P:Program}{ops:Array Oper}{rest:List Oper}{op:Oper}{a:Act}{w:World}{Q:Exit->Act->World->Prop}(hgd:op.guard=none)(ty:TypeId)(x y:Operand)(ho:op.op= .store ty x y)
 (g o:Nat){v0 v1 v2 v3 v4 v5 v6 v7 v8 v9 v10 v11:Value}(hx:a.eval x= .pointer (some ⟨g,o,none⟩))(hy:a.eval y= .agg #[v0,v1,v2,v3,v4,v5,v6,v7,v8,v9,v10,v11]){t:TypeId}{cs:Array Value}(hB:Blk w g t cs)(hsz:o+12<=cs.size)
 (hi:(P.info? ty).map (·.size)=some 12)(h1:(#[v0,v1,v2,v3,v4,v5,v6,v7,v8,v9,v10,v11]:Array Value).all (·.oneCell')=true)
 (h:∀W,Blk W g t ((((((((((((cs.setIfInBounds (o) v0).setIfInBounds (o+1) v1).setIfInBounds (o+1+1) v2).setIfInBounds (o+1+1+1) v3).setIfInBounds (o+1+1+1+1) v4).setIfInBounds (o+1+1+1+1+1) v5).setIfInBounds (o+1+1+1+1+1+1) v6).setIfInBounds (o+1+1+1+1+1+1+1) v7).setIfInBounds (o+1+1+1+1+1+1+1+1) v8).setIfInBounds (o+1+1+1+1+1+1+1+1+1) v9).setIfInBounds (o+1+1+1+1+1+1+1+1+1+1) v10).setIfInBounds (o+1+1+1+1+1+1+1+1+1+1+1) v11)->w.grownBy W (some g)->wpList P ops Q rest (a.put op.dst undef) W):wpList P ops Q (op::rest) a w:=by
 have ht:w.there g o (#[v0,v1,v2,v3,v4,v5,v6,v7,v8,v9,v10,v11]:Array Value).size:=by intro j hj;have hj:j<12:=hj;refine⟨?_,hB.frozen _⟩;rw[hB.cell,qqh (by omega)];rfl
 refine wpList_store_mid hgd ty x y ho g o #[v0,v1,v2,v3,v4,v5,v6,v7,v8,v9,v10,v11] hx hy ht hi h1 ?_;exact h _ ((((((((((((hB.set_ (o) v0).set_ (o+1) v1).set_ (o+1+1) v2).set_ (o+1+1+1) v3).set_ (o+1+1+1+1) v4).set_ (o+1+1+1+1+1) v5).set_ (o+1+1+1+1+1+1) v6).set_ (o+1+1+1+1+1+1+1) v7).set_ (o+1+1+1+1+1+1+1+1) v8).set_ (o+1+1+1+1+1+1+1+1+1) v9).set_ (o+1+1+1+1+1+1+1+1+1+1) v10).set_ (o+1+1+1+1+1+1+1+1+1+1+1) v11) ((((((((((((zaz (w:=w) (g:=g) (i:=o) (x:=v0)).trans zaz).trans zaz).trans zaz).trans zaz).trans zaz).trans zaz).trans zaz).trans zaz).trans zaz).trans zaz).trans zaz)
end Go.Hm
namespace Go.Proofs.Y
open Go.RowKit Go.Hm
theorem z1s{t:Int}{S:St}(hS:S.ok):((getA t S).2.getD []).length<=(S.getD []).length:=by
 cases h:(getA t S).2 with
 |none=>simp
 |some r=>
  have:=(zpj hS (show getA t S=((getA t S).1,some r) by rw[<-h])).1;rw[this];simp
def z91(l:List za6)(g:Nat)(S:St)(w:World)(e:Ending)(w':World):Prop:=∃A n c,e= .returned (.slice A n c)/\w'.ownsRow w.heap.size 135 14 (.slice A n c) n (recs zhb l)/\CurS w' g S/\w.grownBy w' (some g)
theorem qmb:ElT Tryz.prog 136 135 (.agg #[.int .i64 0,.int .i64 0,.int .i64 0,.bool false,.bool false,.int .i64 0,.string ⟨#[]⟩,.int .i64 0,.int .i64 0,.bool false,.int .i64 0,.string ⟨#[]⟩,.int .i64 0,.int .i64 0]) 14 128:=⟨by kernel_rfl,by kernel_rfl,rfl,by omega⟩
theorem zzn{t m:Int}{j:Nat}{b:List Nat}:zcp t m (j+1) (some b)=((zgy t m (some b)).1::(zcp t m j (zgy t m (some b)).2).1,(zcp t m j (zgy t m (some b)).2).2):=rfl
set_option maxRecDepth 100000 in
theorem zwr{w:World}{g:Nat}{S:St}{t m:Int}(h:CurS w g S)(hl:(S.getD []).length<=140737488351232)(hm:0<=m/\m<=65536):
 Calls Tryz.prog 118 #[.pointer (some ⟨g,0,none⟩),.int .i64 t,.int .i64 m] w (z91 (zc8 t m S).1 g (zc8 t m S).2 w):=by
 obtain⟨X,hX⟩:∃X,X=zc8 t m S:=⟨_,rfl⟩;rw[<-hX];unfold zc8 at hX;have hle:=zdg (m:=m) S hm.1 h.ok;have hok:=zb4 (m:=m) h.ok;have hsub:=zer (m:=m) h.ok;have hgw:=h.lt;have L1:=Hz (zdt (m:=m) h (by omega) (by omega));generalize lenS m S=H at*;obtain⟨N,S1⟩:=H;dsimp only at*;have HX:=Hz (show X=([]++(zcp t m N S1).1,(zcp t m N S1).2) from hX);clear hX h;go_enter Tryz.func118,Tryz.ntmps118
 go_wp2_with fail
 refine L1.out.mono ?_;rintro e w1 ⟨rfl,s1,g1⟩;clear L1;go_wp2_with fail
 go_loopw [7,8] (fun v i wr=>∃(j q c:Nat) (A:Option Addr) (pre:List za6) (Sj:St),i= .int .i64 (j:Int)/\v= .slice A q c/\wr.ownsRow w.heap.size 135 14 (.slice A q c) q (recs zhb pre)/\q+j=N/\CurS wr g Sj/\(Sj.getD []).length<=140737488351232
  /\w.grownBy wr (some g)/\Hid (X=(pre++(zcp t m j Sj).1,(zcp t m j Sj).2))) (fun _ i _=>(intOf i).toNat)
 case atStart=>exact⟨N,0,0,none,[],S1,rfl,rfl,zc3,by omega,s1,by omega,g1,HX⟩
 case round=>
  obtain⟨j,q,c,A,pre,Sj,rfl,rfl,o,hqj,s,hsl,G,HXj⟩:=hrel;clear HX s1 g1 hok hsub;have BD:=Hz (qfq s);have hgr:=G.size;by_cases hj:0<j
  ·cases Sj with
   |none=>
    simp only[Option.isNone_none] at BD;have hX:=HXj.out;rw[zy4,qm3] at hX;have HX:=Hz hX;clear hX HXj;go_wp2_with fail
    refine BD.out.mono ?_;rintro e w2 ⟨rfl,rfl⟩;go_wp2_with fail
    go_ret
    rw[HX.out];exact⟨_,_,_,rfl,o,s,G⟩
   |some b=>
    simp only[qqw] at BD;obtain⟨j,rfl⟩:∃k,j=k+1:=⟨j-1,by omega⟩;have hX:=HXj.out;rw[zzn] at hX;have hokb:=s.ok;have hokp:=znw (t:=t) (m:=m) hokb;unfold zgy at hX hokp;have b1:=zer (m:=268435456) hokb;have b2:=zb4 (m:=268435456) hokb;have b3:=zdg (m:=268435456) (some b) (by omega) hokb;have hap:=fun b e=>(World.ownsRow.lt o b e).2
    have ha:New wr (wr.alloc (.cells #[.int .i64 0,.int .i64 0,.int .i64 0,.bool false,.bool false,.int .i64 0,.string ⟨#[]⟩,.int .i64 0,.int .i64 0,.bool false,.int .i64 0,.string ⟨#[]⟩,.int .i64 0,.int .i64 0] 135)):=(Below.refl _ _).alloc (qmt _) _;have BP:=Blk.new wr 135 #[.int .i64 0,.int .i64 0,.int .i64 0,.bool false,.bool false,.int .i64 0,.string ⟨#[]⟩,.int .i64 0,.int .i64 0,.bool false,.int .i64 0,.string ⟨#[]⟩,.int .i64 0,.int .i64 0];have s2:=s.below ha;have o2:=za1 o ha;have G2:=zf9 G (zdd (row:=none) ha) (by simp);have hgl:=s.lt;have L2:=Hz (zdt (m:=268435456) s2 (by omega) (by omega));generalize lenS 268435456 (some b)=H2 at*;obtain⟨sz,S2⟩:=H2;dsimp only at hX hokp b1 b2 b3 L2;have b4:=zer (m:=m) b2;have b5:=zb4 (m:=m) b2;have b6:=zdg (m:=m) S2 hm.1 b2;clear HXj o G s;go_wp2_with fail
    refine BD.out.mono ?_;rintro e w2 ⟨rfl,rfl⟩;go_wp2_with fail
    refine L2.out.mono ?_;rintro e w3 ⟨rfl,s3,g3⟩;have hz3:=g3.size;simp only[World.size_alloc] at hz3;have BP3:=BP.grown g3 (by intro e;injection e with e;omega);have o3:=o2.kept g3 (.inr (fun e=>by have:=(World.ownsRow.lt o2 _ e).1;omega));have G3:=G2.trans g3;obtain⟨x0,x1,x2,x3,x4,x5,x6,x7,x8,x9,x10,x11,x12,x13⟩:=zdq BP3;have f0:=BP3.frozen 0;have gS:w3.grownBy (w3.setCell ⟨wr.heap.size,0,none⟩ (.int .i64 (sz:Int))) (some wr.heap.size):=zaz;have hzS:w3.heap.size<=(w3.setCell ⟨wr.heap.size,0,none⟩ (.int .i64 (sz:Int))).heap.size:=gS.size;have s4:=s3.keep gS BP3 (by omega) (by decide);have o4:=o3.kept gS (.inr (fun e=>by have:=hap _ e;omega));have BP4:=BP3.set_ 0 (.int .i64 (sz:Int));simp only[qo6,qou] at BP4;have G4:=zbc G3 gS (by omega);have L4:=Hz (zdt (m:=m) s4 (by omega) (by omega));generalize lenS m S2=H4 at*;obtain⟨rw,S4⟩:=H4;dsimp only at hX hokp b4 b5 b6 L4;clear L2 o2 G2 g3 BP s2 s3 o3 G3 BP3 gS BD;go_wp2_with fail
    refine L4.out.mono ?_;rintro e w5 ⟨rfl,s5,g5⟩;have hz5:=g5.size;have BP5:=BP4.grown g5 (by intro e;injection e with e;omega);have o5:=o4.kept g5 (.inr (fun e=>by have:=(World.ownsRow.lt o4 _ e).1;omega));have G5:=G4.trans g5;clear x0 x1 x2 x3 x4 x5 x6 x7 x8 x9 x10 x11 x12 x13 f0 L4 o4 G4 g5 BP4 s4;obtain⟨x0,x1,x2,x3,x4,x5,x6,x7,x8,x9,x10,x11,x12,x13⟩:=zdq BP5;have f1:=BP5.frozen 1;have gS:w5.grownBy (w5.setCell ⟨wr.heap.size,1,none⟩ (.int .i64 (rw:Int))) (some wr.heap.size):=zaz;have hzS5:w5.heap.size<=(w5.setCell ⟨wr.heap.size,1,none⟩ (.int .i64 (rw:Int))).heap.size:=gS.size;have s6:=s5.keep gS BP5 (by omega) (by decide);have o6:=o5.kept gS (.inr (fun e=>by have:=hap _ e;omega));have BP6:=BP5.set_ 1 (.int .i64 (rw:Int));simp only[qo6,qou,qo7] at BP6;have G6:=zbc G5 gS (by omega);have L6:=Hz (z8l (t:=t) s6 (by simp only[qob] at hsl b1;omega));have hsA:=z1s (t:=t) b5;generalize getA t S4=H6 at*;obtain⟨⟨nn,bb,⟨p1,p2,p3,p4,p5⟩,⟨q1,q2,q3,q4,q5⟩⟩,S6⟩:=H6;dsimp only at hX hokp L6 hsA;have HX:=Hz hX;clear s5 o5 gS BP5 G5 hX;go_wp2_with fail
    refine L6.out.mono ?_;rintro e w7 ⟨rfl,s7,g7⟩;rw[show zcg (nn,bb,(p1,p2,p3,p4,p5),(q1,q2,q3,q4,q5))= .agg #[.int .i64 nn,.bool bb,.bool p1,.int .i64 p2,.string (zae p3),.int .i64 p4,.int .i64 p5,.bool q1,.int .i64 q2,.string (zae q3),.int .i64 q4,.int .i64 q5] from rfl];have hz7:=g7.size;have BP7:=BP6.grown g7 (by intro e;injection e with e;omega);have o7:=o6.kept g7 (.inr (fun e=>by have:=(World.ownsRow.lt o6 _ e).1;omega));have G7:=G6.trans g7;clear x0 x1 x2 x3 x4 x5 x6 x7 x8 x9 x10 x11 x12 x13 f1 L6 o6 G6 g7 BP6 s6;go_wp2_with (first
     |(refine zpz rfl 133 (.tmp 32) (.tmp 31) rfl wr.heap.size 2 rfl rfl BP7 (by simp) (by kernel_rfl) (by simp[Value.oneCell']) ?_
       intro w8 BP8 g8;simp only[qo6,qou,qo7] at BP8;have s8:=s7.keep g8 BP7 (by omega) (by decide);have o8:=o7.kept g8 (.inr (fun e=>by have:=hap _ e;omega));have hz8:=g8.size;have G8:=zbc G7 g8 (by omega);obtain⟨x0,x1,x2,x3,x4,x5,x6,x7,x8,x9,x10,x11,x12,x13⟩:=zdq BP8;clear BP7 s7 o7 G7 g8)
     |(refine zdo qmb rfl (.tmp 33) (.tmp 35) rfl (W:=w) (B:=0) (base:=w.heap.size) (n:=q) o8 rfl rfl (zrk G8) (qmu _) (by omega) rfl (by simp[Value.oneCell']) (by omega) (by simp only[maxLen];omega) ?_
       intro A9 c9 w9 hc9 _ o9 g9 _ hz9 _;have s9:=s8.pushRow o8 g9 (by decide) (by decide);have G9:=zf9 G8 g9 (fun b e=>(World.ownsRow.lt o8 b e).1);have o9:w9.ownsRow w.heap.size 135 14 (.slice A9 (q+1) c9) (q+1) (recs zhb (pre++[((sz:Int),(rw:Int),(nn,bb,(p1,p2,p3,p4,p5),(q1,q2,q3,q4,q5)))])):=by rw[za2];exact o9
       have HX2:Hid (X=((pre++[((sz:Int),(rw:Int),(nn,bb,(p1,p2,p3,p4,p5),(q1,q2,q3,q4,q5)))])++(zcp t m j S6).1,(zcp t m j S6).2)):=Hz (by rw[HX.out];simp);clear o8 s8 G8 g9 HX BP8))
    go_roundw
    case rel=>exact⟨j,q+1,c9,A9,_,S6,by go_num,rfl,o9,by omega,s9,by simp only[qob] at hsl b1;omega,G9,HX2⟩
    case measure=>simp[intOf]
  ·obtain rfl:j=0:=by omega
   have hX:=HXj.out;have e0:zcp t m 0 Sj=([],Sj):=rfl;rw[e0,qm3] at hX;have HX:=Hz hX;clear hX HXj e0;go_wp2_with fail
   go_ret
   rw[HX.out];exact⟨_,_,_,rfl,o,s,G⟩
end Go.Proofs.Y
namespace Go.Hm
open Go Go.RowKit
theorem zdx{w:World}{base base2 sz sz2 n n2:Nat}{e e2:TypeId}{v v2:Value}{xs xs2:List Value}(h:w.ownsRow base e sz v n xs)(h2:w.ownsRow base2 e2 sz2 v2 n2 xs2)(hne:e≠e2):v.ownBlock=none\/v.ownBlock≠v2.ownBlock:=by
 rcases hu:v.ownBlock with _|k
 ·exact .inl rfl
 ·refine .inr fun he=>zj5 h h2 hne k ?_ hu
  unfold zbi;rw[<-he];simp
theorem zt0(D:List ChD)(x:ChD):recs chV (D++[x])=recs chV D++[.slice x.1 x.2.2.length x.2.1]:=by rw[za2];rfl
end Go.Hm
namespace Go.Proofs.Y
open Go.RowKit Go.Hm
theorem znc{m:Int}:∀(cs:List zbb) (c:zbb) (S:St),zbk m (cs++[c]) S=((zbk m cs S).1++[(zc8 c.2.1 m (zbk m cs S).2).1],(zc8 c.2.1 m (zbk m cs S).2).2)
 | [],_,_=>rfl
 |x::cs,c,S=>by
  have:=znc (m:=m) cs c (zc8 x.2.1 m S).2;simp only[qnt,zbk,this]
theorem zr8{t m:Int}:∀(k:Nat) {S:St},S.ok->((zcp t m k S).2.getD []).length<=(S.getD []).length
 |0,_,_=>qmt _
 |_+1,none,_=>qmt _
 |k+1,some b,h=>by
  have h1:=zr8 (t:=t) (m:=m) k (znw (t:=t) (m:=m) h);have h2:((zgy t m (some b)).2.getD []).length<=((some b:St).getD []).length:=by unfold zgy;have a:=zer (m:=268435456) h;have b':=zer (m:=m) (zb4 (m:=268435456) h);have c:=z1s (t:=t) (zb4 (m:=m) (zb4 (m:=268435456) h));dsimp only;omega
  simp only[zcp];omega
theorem zr9{t m:Int}{S:St}(h:S.ok):((zc8 t m S).2.getD []).length<=(S.getD []).length:=by have a:=zer (m:=m) h;have b:=zr8 (t:=t) (m:=m) (lenS m S).1 (zb4 (m:=m) h);unfold zc8;omega
structure ChOwn(w:World)(B:Nat)(A:Option Addr)(d:Nat)(D:List ChD):Prop where
 row:w.ownsRow B 136 1 (.slice A D.length d) D.length (recs chV D)
 pages:∀x∈D,w.ownsRow B 135 14 (.slice x.1 x.2.2.length x.2.1) x.2.2.length (recs zhb x.2.2)
theorem ChOwn.later{w w':World}{B:Nat}{A:Option Addr}{d:Nat}{D:List ChD}(h:ChOwn w B A d D)(b:New w w'):ChOwn w' B A d D:=⟨za1 h.row b,fun x hx=>za1 (h.pages x hx) b⟩
theorem ChOwn.far{w w':World}{B g:Nat}{A:Option Addr}{d:Nat}{D:List ChD}(h:ChOwn w B A d D)(hg:w.grownBy w' (some g))(hne:g<B):ChOwn w' B A d D:=
 ⟨h.row.kept hg (.inr (fun e=>by have:=(World.ownsRow.lt h.row _ e).1;omega)),fun x hx=>(h.pages x hx).kept hg (.inr (fun e=>by have:=(World.ownsRow.lt (h.pages x hx) _ e).1;omega))⟩
theorem ChOwn.blk{w w':World}{B g:Nat}{A:Option Addr}{d:Nat}{D:List ChD}{t:TypeId}{cs:Array Value}(h:ChOwn w B A d D)(hB:Blk w g t cs)(hg:w.grownBy w' (some g))(h1:136≠t)(h2:135≠t):ChOwn w' B A d D:=
 ⟨h.row.kept hg (.inr (zaj h.row hB h1)),fun x hx=>(h.pages x hx).kept hg (.inr (zaj (h.pages x hx) hB h2))⟩
def z92(G:za4)(g:Nat)(S:St)(w:World)(e:Ending)(w':World):Prop:=
 ∃A d D,e= .returned (.agg #[.int .i64 G.1,.slice A D.length d])/\D.map (·.2.2)=G.2/\ChOwn w' w.heap.size A d D/\CurS w' g S/\w.grownBy w' (some g)
theorem qmc:ElT Tryz.prog 112 136 (.slice none 0 0) 1 24:=⟨by kernel_rfl,by kernel_rfl,rfl,by omega⟩
set_option maxRecDepth 100000 in
theorem zws{w:World}{g base cc:Nat}{S:St}{m:Int}{Ac:Option Addr}{L:List zbb}(h:CurS w g S)(hl:(S.getD []).length<=140737488351232)(hm:0<=m/\m<=65536)
 (hL:w.ownsRow base 71 3 (.slice Ac L.length cc) L.length (recs zly L))(hlen:L.length<=100000):
 Calls Tryz.prog 99 #[.pointer (some ⟨g,0,none⟩),.slice Ac L.length cc,.int .i64 m] w (z92 (zdj (fun r=>r) L m S).1 g (zdj (fun r=>r) L m S).2 w):=by
 obtain⟨X,hX⟩:∃X,X=zdj (fun r=>r) L m S:=⟨_,rfl⟩;rw[<-hX];unfold zdj at hX;have hgw:=h.lt;have hle:=zdg (m:=m) S hm.1 h.ok;have hok:=zb4 (m:=m) h.ok;have hsub:=zer (m:=m) h.ok;obtain⟨cb,hcb⟩:=h.blk;have hLne:=zaj hL hcb (by decide);have HLK:=Hz (fun(W:World) (G:w.grownBy W (some g))=>hL.kept G (.inr hLne));have ha:New w (w.alloc (.cells #[.int .i64 0,.slice none 0 0] 114)):=(Below.refl _ _).alloc (qmt _) _;have BZ:=Blk.new w 114 #[.int .i64 0,.slice none 0 0];have s0:=h.below ha;have L1:=Hz (zdt (m:=m) s0 (by omega) (by omega));generalize lenS m S=H at*;obtain⟨N,S1⟩:=H;dsimp only at*;have HX:=Hz hX;clear hX h hL hcb hLne s0;go_enter Tryz.func99,Tryz.ntmps99
 go_wp2_with fail
 refine L1.out.mono ?_;rintro e w1 ⟨rfl,s1,g1⟩;have hz1:=g1.size;simp only[World.size_alloc] at hz1;have BZ1:=BZ.grown g1 (by intro e;injection e with e;omega);have ha2:New w1 (w1.alloc (.cells #[.int .i64 (N:Int),.slice none 0 0] 114)):=(Below.refl _ _).alloc (qmt _) _;have BQ:=Blk.new w1 114 #[.int .i64 (N:Int),.slice none 0 0];have BZ2:=BZ1.below ha2 BZ1.lt;have s2:=s1.below ha2;have G2:=zf9 ((zdd (row:=some g) ha).trans g1) (zdd (row:=none) ha2) (by simp);have hgz:w.heap.size<w1.heap.size:=by omega
 clear L1 BZ BZ1 s1 g1 ha ha2;go_wp2_with fail
 generalize w1.heap.size=gq at*;go_loopw [16] (fun i wr=>∃(k d:Nat) (A:Option Addr) (D:List ChD),k<=L.length/\i= .int .i64 (k:Int)/\Blk wr gq 114 #[.int .i64 (N:Int),.slice A D.length d]/\Blk wr w.heap.size 114 #[.int .i64 0,.slice none 0 0]
  /\ChOwn wr w.heap.size A d D/\Hid (D.map (·.2.2)=(zbk (N:Int) (L.take k) S1).1)/\Hid (D.length=k)/\CurS wr g (zbk (N:Int) (L.take k) S1).2/\((zbk (N:Int) (L.take k) S1).2.getD []).length<=140737488351232/\w.grownBy wr (some g)) (fun i _=>L.length-(intOf i).toNat)
 case atStart=>exact⟨0,0,none,[],qmu _,rfl,BQ,BZ2,⟨zc3,by simp⟩,Hz rfl,Hz rfl,s2,by simp only[qnj,zbk];omega,G2⟩
 case round=>
  obtain⟨k,d,A,D,hk,rfl,B,BZ,CO,HD,hDk,s,hsl,G⟩:=hrel;clear BQ BZ2 s2 G2 hok hsub;have hDl:D.length<=100000:=by have:=hDk.out;omega
  have hgr:=G.size;by_cases hlt:k<L.length
  ·have oL:=HLK.out wr G
   obtain⟨al,rfl,hbl,f0,f1,f2⟩:=(Reads.of_own oL).colT hlt;have htk:=zad L k zfv hlt;have hsn:=znc (m:=(N:Int)) (L.take k) (L.getD k zfv) S1;rw[<-htk] at hsn;have hok:=s.ok;generalize(zbk (N:Int) (L.take k) S1).2=Sk at*;have hcs:=zr9 (t:=(L.getD k zfv).2.1) (m:=(N:Int)) hok;have GPg:=fun(W:World) (hs:CurS W g Sk)=>zwr (t:=(L.getD k zfv).2.1) (m:=(N:Int)) hs hsl (by omega)
   rw[<-HD.out] at hsn;generalize L.getD k zfv=col at*;obtain⟨nm,t,nu⟩:=col;dsimp only at f0 f1 f2 hsn hcs GPg;generalize zc8 t (N:Int) Sk=H at*;obtain⟨pl,S5⟩:=H;dsimp only at hsn hcs GPg;have ha:New wr (wr.alloc (.cells #[.string (zae nm),.int .i64 t,.bool nu] 71)):=(Below.refl _ _).alloc (qmt _) _;have BC:=Blk.new wr 71 #[.string (zae nm),.int .i64 t,.bool nu];have B1:=B.below ha B.lt;have BZ1:=BZ.below ha BZ.lt;have CO1:=CO.later ha;have s1:=s.below ha;have G1:=zf9 G (zdd (row:=none) ha) (by simp);have HSN:=Hz hsn;have hgl:=s.lt;have hap:=fun b e=>(World.ownsRow.lt CO.row b e).2
   clear B BZ CO s G hbl htk hsn HD oL hok ha;have hza:wr.heap.size<(wr.alloc (.cells #[.string (zae nm),.int .i64 t,.bool nu] 71)).heap.size:=by simp
   obtain⟨y0,y1,y2⟩:=zao BC;obtain⟨z0,z1⟩:=zbz B1;have hne1:gq∉(g::zbi (.slice A D.length d)):=by
    intro hm;rcases qof.1 hm with e|e
    ·omega
    ·exact zda CO1.row B1 (by decide) e
   have hne2:wr.heap.size∉(g::zbi (.slice A D.length d)):=by
    intro hm;rcases qof.1 hm with e|e
    ·omega
    ·exact zda CO1.row BC (by decide) e
   go_wp2_with fail
   refine zb2 (Turns (g::zbi (.slice A D.length d))) 11 [(1,0),(0,1),(1,2),(1,3),(0,4),(1,5),(0,6),(2,7),(2,8),(2,9),(1,10),(2,11)]
    (Turns.refl _) Turns.trans (by kernel_rfl) (by kernel_rfl) (by kernel_rfl) (by kernel_rfl) ?_
   have F:=Hz (fun(W:World) (hW:Turns (g::zbi (.slice A D.length d)) (wr.alloc (.cells #[.string (zae nm),.int .i64 t,.bool nu] 71)).drew W)=>qo8 (B1.drew.touch hW hne1) (BC.drew.touch hW hne2));have s2:=s1.below (New.drew _);have CO2:=CO1.later (New.drew _);have B2:=B1.drew;have BZ2:=BZ1.drew;have G2:=zf9 G1 (zdd (row:=none) (New.drew _)) (by simp);have GP2:=Hz (GPg _ s2);clear y0 y1 y2 z0 z1 B1 BZ1 CO1 s1 G1 GPg;obtain⟨wa,hwa⟩:∃wa,wa=(wr.alloc (.cells #[.string (zae nm),.int .i64 t,.bool nu] 71)).drew:=⟨_,rfl⟩;have hza2:wr.heap.size<wa.heap.size:=by rw[hwa];exact hza
   rw[<-hwa] at F s2 CO2 B2 BZ2 G2 GP2⊢;clear hwa BC hza;repeat(first
    |(refine zbm rfl rfl (v:=?_) (fun W hW=>?_) ?_;rotate_left;(obtain⟨F1,F2⟩:=F.out W hW;obtain⟨y0,y1,y2⟩:=zao F2;obtain⟨z0,z1⟩:=zbz F1;clear F1 F2;go_simp<;> with_reducible rfl);simp only[Act.put,qo6,qou,qo7])
    |(refine zbh rfl rfl (v:=?_) (fun W=>?_) ?_;rotate_left;(go_simp<;> with_reducible rfl);simp only[Act.put,qo6,qou,qo7]))
   refine zav rfl rfl (fun K hK=>?_);go_simp
   (with_reducible refine GP2.out.mono ?_)
   rintro e w8 ⟨A8,n8,c8,rfl,o8,s8,g8⟩;refine hK _ _ (.inr (.inr (Turns.of_far g8 (by simp)))) ?_;clear hK;obtain rfl:n8=pl.length:=(Reads.of_own o8).lenPage;have hz8:=g8.size;have CO8:=CO2.far g8 hgw;have B8:=B2.grown g8 (by intro e;injection e with e;omega);have BZ8:=BZ2.grown g8 (by intro e;injection e with e;omega);have G8:=G2.trans g8;have o8:=zeo o8 (show w.heap.size<=wa.heap.size by omega);clear F GP2 CO2 B2 BZ2 G2 s2 g8;refine zav rfl rfl (fun K hK=>?_);go_simp
   refine hK _ _ (.inr (.inr (Turns.of_new ((Below.refl _ _).alloc (qmt _) _)))) ?_;clear hK;have RL:=Reads.litR w8 136 #[.slice A8 pl.length c8] 1 1 [.slice A8 pl.length c8] rfl rfl;have hb8:New w8 (w8.alloc (.cells #[.slice A8 pl.length c8] 136)):=(Below.refl _ _).alloc (qmt _) _;have CO9:=CO8.later hb8;have o9:=za1 o8 hb8;have s9:=s8.below hb8;have B9:=B8.below hb8 B8.lt;have BZ9:=BZ8.below hb8 BZ8.lt;have G9:=zf9 G8 (zdd (row:=none) hb8) (by simp);have hz9:=hb8.size;clear CO8 o8 s8 B8 BZ8 G8 hb8;obtain⟨wb,hwb⟩:∃wb,wb=w8.alloc (.cells #[.slice A8 pl.length c8] 136):=⟨_,rfl⟩;rw[<-hwb] at RL CO9 o9 s9 B9 BZ9 G9 hz9⊢;have hbk:(Value.ownBlock (.slice (some ⟨w8.heap.size,0,none⟩) 1 1))=some w8.heap.size:=rfl;clear hwb hbk;refine zav rfl rfl (fun K hK=>?_);refine zj3 qmc (.tmp 21) (.tmp 28) rfl (W:=w) (B:=0) (base:=w.heap.size) CO9.row RL rfl rfl (zrk G9) (qmu _) (by omega) (by simp[Value.oneCell']) (by omega) (by simp only[maxLen];omega) ?_;intro A10 c10 w10 _ _ o10 g10 _;refine hK _ _ (.inr (.inr ((Turns.row g10).more (fun x hx=>qqf _ hx)))) ?_;clear hK;have B10:=B9.touch (Turns.row g10) (zda CO9.row B9 (by decide));have BZ10:=BZ9.touch (Turns.row g10) (zda CO9.row BZ9 (by decide));have s10:=s9.pushRow CO9.row g10 (by decide) (by decide);have G10:=zf9 G9 g10 (fun b e=>(World.ownsRow.lt CO9.row b e).1);have P10:∀x∈D,w10.ownsRow w.heap.size 135 14 (.slice x.1 x.2.2.length x.2.1) x.2.2.length (recs zhb x.2.2):=fun x hx=>(CO9.pages x hx).kept g10 (zdx (CO9.pages x hx) CO9.row (by decide))
   have o11:=o9.kept g10 (zdx o9 CO9.row (by decide));have x0:=B10.cell 1;have y0:=B10.frozen 1;simp at x0;have gS:w10.grownBy (w10.setCell ⟨gq,1,none⟩ (.slice A10 (D.length+1) c10)) (some gq):=zaz;clear CO9 o9 s9 B9 BZ9 G9 g10 RL;refine zbh rfl rfl (v:=?_) (fun W=>?_) ?_;rotate_left
   ·go_simp<;> with_reducible rfl
   simp only[Act.put,qo6,qou,qo7];refine zav rfl rfl (fun K hK=>?_);go_simp
   refine hK _ _ (.inr (.inl rfl)) ?_;clear hK x0 y0;refine zed ?_;have CO12:ChOwn (w10.setCell ⟨gq,1,none⟩ (.slice A10 (D.length+1) c10)) w.heap.size A10 c10 (D++[(A8,c8,pl)]):=by
    constructor
    ·rw[zt0,qni]
     exact o10.kept gS (.inr (zaj o10 B10 (by decide)))
    ·intro x hx
     rcases qny.1 hx with hx|hx
     ·exact(P10 x hx).kept gS (.inr (zaj (P10 x hx) B10 (by decide)))
     ·rw[qnz.1 hx]
      exact o11.kept gS (.inr (zaj o11 B10 (by decide)))
   have B12:=B10.set_ 1 (.slice A10 (D.length+1) c10);simp only[qo6,qou,qo7] at B12;have BZ12:=BZ10.grown gS (by intro e;injection e with e;omega);have s12:=s10.keep gS B10 (by omega) (by decide);have G12:=zbc G10 gS (by omega);have HD12:Hid ((D++[(A8,c8,pl)]).map (fun x:ChD=>x.2.2)=(zbk (N:Int) (L.take (k+1)) S1).1):=Hz (by rw[HSN.out,qp6];rfl);have hs12:(zbk (N:Int) (L.take (k+1)) S1).2=S5:=by rw[HSN.out]
   have HS12:=Hz hs12;clear gS P10 o10 o11 s10 G10 BZ10 B10 HSN hs12;go_wp2_with fail
   go_roundw
   case rel=>exact⟨k+1,c10,A10,D++[(A8,c8,pl)],by omega,by go_num,by rw[qni];exact B12,BZ12,CO12,HD12,Hz (by rw[qni,hDk.out];rfl),by rw[HS12.out];exact s12,by rw[HS12.out];omega,G12⟩
   case measure=>simp[intOf];omega
  ·obtain rfl:k=L.length:=by omega
   obtain⟨z0,z1⟩:=zbz B;have hX:=HX.out;rw[qql] at s;have HD2:=HD.out;rw[qql] at HD2;have HXX:=Hz hX;have HS:=Hz s;have HDD:=Hz HD2;have HG:=Hz G;have HCO:=Hz CO;clear hX s HD HD2 G CO
   go_wp2_with (refine zah rfl 114 (.tmp 6) (.tmp 32) rfl w.heap.size _ rfl rfl BZ (by kernel_rfl) rfl (by simp[Value.oneCell']) ?_
                intro W9 BR G9;obtain⟨s0,s1⟩:=zbz BR)
   have hX:=HXX.out;subst hX;exact bodyPost_ret (v:= .agg #[.int .i64 (N:Int),.slice A D.length d]) (by simp[results,Tryz.results99,go_sem,s0,s1]) rfl ⟨A,d,D,rfl,HDD.out,HCO.out.blk BZ G9 (by decide) (by decide),HS.out.keep G9 BZ (by omega) (by decide),zbc HG.out G9 (qmt _)⟩
end Go.Proofs.Y
