/- Texts merged and made short: ValD, ValQ, DicD. -/
import Derived.StillTailTactics
import Derived.Test.YtmgfkpnghlmheaaGreatBun1
import Derived.Test.YtmgfkpnghlmheaaGreatBun14
import Derived.Test.YtmgfkpnghlmheaaGreatBun31
import Derived.Test.YtmgfkpnghlmheaaGreatBun34
import Derived.Test.YtmgfkpnghlmheaaGreatBun35
set_option maxHeartbeats 8000000
namespace Go.Proofs.YtmgfkpnghlmheaaGreat
open Go.RowKit Go.Hm
theorem zvq{A B:List zab}{z:Int}:(recs zak (A++zay::B)).set (A.length*5+1) (.int .i64 z)=recs zak (A++zil z::B):=by
 have l:(recs zak A).length=A.length*5:=zar (sz:=5) (fun _=>rfl) A;rw[zav,zav,List.set_append_right _ _ (by omega),l,show A.length*5+1-A.length*5=1 by omega]
 congr 1
theorem z7o{A B:List zab}{s:List Nat}:(recs zak (A++zay::B)).set (A.length*5+2) (.string (zae s))=recs zak (A++zfk s::B):=by
 have l:(recs zak A).length=A.length*5:=zar (sz:=5) (fun _=>rfl) A;rw[zav,zav,List.set_append_right _ _ (by omega),l,show A.length*5+2-A.length*5=2 by omega]
 congr 1
def OptCX(o:Option (List zab))(w:World)(e:Ending)(w':World):Prop:=
 match o with
 |none=>(∃v,e= .returned (.tuple #[v,.bool false]))∧New w w'
 |some l=>∃A n c,e= .returned (.tuple #[.slice A n c,.bool true])∧w'.ownsRow w.heap.size 61 5 (.slice A n c) n (recs zak l)∧New w w'
theorem OptC.x{o:Option (List zab)}{w w':World}{e:Ending}(h:OptC o w e w'):OptCX o w e w':=by
 cases o with
 |none=>exact⟨⟨_,h.1⟩,h.2⟩
 |some l=>exact h
def z2w(t e:Int)(b:List Nat)(n:Int)(w:World)(en:Ending)(w':World):Prop:=∃o,IsVal t e b n o∧OptCX o w en w'
theorem z7p{l:List Nat}{i:Nat}(h:i<l.length):l.getD i 0∈l:=by
 rw[List.getD_eq_getElem?_getD,List.getElem?_eq_getElem h];exact List.getElem_mem h
set_option maxRecDepth 100000 in
theorem zp7{w:World}{t:Int}{A:Option Addr}{c:Nat}{b:List Nat}{n:Int}(ht:t=0∨t=1)(h:Reads w w.heap.size 1 A b.length (za3 .u8 b))(h8:∀x∈b,x<256)(hb:b.length≤140737488355200):
 Calls Tryz.prog 185 #[.int .i64 t,.slice A b.length c,.int .i64 n] w (z2w t 2 b n w):=by
 have D:Hid (Calls Tryz.prog 208 #[.slice A b.length c,.int .i64 n] w (DecPost b n w)):=Hz (by
  by_cases hf:n<0∨65536<n
  ·exact zqm hf
  ·obtain⟨n,rfl⟩:=Int.eq_ofNat_of_zero_le (show 0≤n by omega)
   exact zqn h h8 hb (by omega))
 have IV:=Hz (fun o (q:IsDec b n o)=>zqv ht q);have HD:Hid (∀m,IsDec b n (some m)→(m.length:Int)=n∧m.length≤65536∧∀x∈m,x≤18446744073709551615):=Hz (fun m q=>by obtain⟨q1,q2,q3,-⟩:=(q m).1 rfl;exact⟨q1,q2,q3⟩);clear h h8
 go_enter Tryz.func185,Tryz.ntmps185
 go_wp2_with fail
 refine D.out.mono ?_;rintro e w1 ⟨o,hI,hO⟩;have HV:=Hz (IV.out o hI);clear D IV
 cases o with
 |none=>
  obtain⟨rfl,b1⟩:=hO
  go_wp2
  go_ret2
  exact⟨none,HV.out,⟨_,rfl⟩,b1⟩
 |some l=>
  obtain⟨hln,hl6,hw⟩:=HD.out l hI;obtain⟨A1,n1,c1,rfl,k1,b1⟩:=hO
  obtain rfl:n1=l.length:=by have:=k1.len;rwa[zaa] at this
  have R1:=Hz k1.reads;have HW:=Hz hw;subst hln;clear k1 hI HD hw;have hz1:=b1.size
  go_wp2_with (refine zet qff rfl (.tmp 21) (.tmp 21) rfl (W:=w) (B:=w.heap.size) l.length rfl rfl rfl rfl b1 hz1 (by omega) (by simp only[maxLen];omega) ?_
               intro w2 o2 g2 b2 hs2)
  rw[zg3] at o2;have b12:New w1 w2:=(Turns.of_none (T:=[]) g2).new (by simp)
  go_loopw [25] (fun i wr=>∃k:Nat,k≤l.length∧i= .int .i64 (k:Int)∧wr.ownsRow w1.heap.size 61 5 (.slice (some ⟨w1.heap.size,0,none⟩) l.length l.length) l.length (recs zak ((l.take k).map (fun x=>zil (zag x))++List.replicate (l.length-k) zay))∧New w1 wr) (fun i _=>l.length-(intOf i).toNat)
  case atStart=>exact⟨0,Nat.zero_le _,rfl,by simpa using o2,b12⟩
  case round=>
   obtain⟨k,hk,rfl,o,hb⟩:=hrel;clear o2 g2 b2 b12 hs2;by_cases hlt:k<l.length
   ·obtain⟨ax,rfl,hbx,qx⟩:=(Reads.later R1.out hb).num (i:=k) hlt
    have htk:=zad l k 0 hlt;have hx8:=HW.out _ (z7p hlt);generalize l.getD k 0=x at*;have ZG:=Hz (fun W=>znw x W (by omega));obtain⟨ad,ea,_,p0,p1,p2,p3,p4⟩:=(Reads.of_own o).cell5 (i:=k) hlt;injection ea with ea;subst ea;obtain⟨cs,BR⟩:=zie o;have f1:=BR.frozen (k*5+1)
    have ead:(⟨w1.heap.size,0,none⟩:Addr).add (k*5)=⟨w1.heap.size,k*5,none⟩:=by
     unfold Addr.add;split<;> simp_all
    rw[ead] at p1;dsimp only at p1
    have hA:((l.take k).map (fun x=>zil (zag x))).length=k:=by rw[List.length_map,List.length_take];omega
    obtain⟨o',-⟩:=World.ownsRow.stored o (k*5+1) (.int .i64 (zag x));have ers:=zvq (A:=(l.take k).map (fun x=>zil (zag x))) (B:=List.replicate (l.length-(k+1)) zay) (z:=zag x);rw[hA] at ers;rw[show l.length-k=(l.length-(k+1))+1 by omega,List.replicate_succ,ers] at o'
    have o':(wr.setCell ⟨w1.heap.size,k*5+1,none⟩ (.int .i64 (zag x))).ownsRow w1.heap.size 61 5 (.slice (some ⟨w1.heap.size,0,none⟩) l.length l.length) l.length (recs zak ((l.take (k+1)).map (fun x=>zil (zag x))++List.replicate (l.length-(k+1)) zay)):=by
     rw[htk,List.map_append,List.append_assoc];exact o'
    have O':=Hz o';have HB:=Hz (hb.setCell (p:=⟨w1.heap.size,k*5+1,none⟩) (Nat.le_refl _) (.int .i64 (zag x)));clear o' ers o htk hA BR
    go_wp2_with fail
    refine(ZG.out _).mono ?_;rintro e w5 ⟨rfl,rfl⟩
    go_wp2_with fail
    go_roundw
    case rel=>exact⟨k+1,by omega,by go_num,O'.out,HB.out⟩
    case measure=>simp[intOf];omega
   ·obtain rfl:k=l.length:=by omega
    rw[Nat.sub_self,List.replicate_zero,List.append_nil,List.take_length] at o;have b00:=New.trans b1 hb;have hcz:l.map (fun x=>zil (zag x))=zh6 l:=rfl;rw[hcz] at o
    have HCD:Hid (∀c∈zh6 l,zai c):=Hz (fun c hc=>by
     obtain⟨x,hx,rfl⟩:=List.mem_map.1 hc
     exact⟨⟨by simp[zil],by simp[zil]⟩,zys (by have:=HW.out x hx;omega)⟩)
    have RI:=Hz (zhb (t:=t) (c:=l.length) (Reads.of_own o) HCD.out (by omega))
    have hpo:zhs t (zh6 l)=(zh6 l).all fun c=>zac c t false:=by
     unfold zhs
     have h3:(zh6 l).length=l.length:=by unfold zh6;rw[List.length_map]
     rw[h3,decide_eq_true (by omega),Bool.true_and]
    rw[hpo] at RI;have hV:=HV.out;unfold qie at hV;dsimp only at hV;have HV2:=Hz hV;generalize(zh6 l).all (fun c=>zac c t false)=rb at*;clear hV HV hcz hpo HCD
    go_wp2_with fail
    refine RI.out.mono ?_;rintro e w7 ⟨rfl,b7⟩;have o7:=zau o b7
    cases rb with
    |false=>
     go_wp2_with fail
     go_ret2
     exact⟨none,HV2.out,⟨_,rfl⟩,New.trans b00 b7⟩
    |true=>
     go_wp2_with fail
     go_ret2
     exact⟨some (zh6 l),HV2.out,_,_,_,rfl,zbd o7 hz1,New.trans b00 b7⟩
set_option maxRecDepth 100000 in
theorem zp8{w:World}{A:Option Addr}{c:Nat}{b:List Nat}{n:Int}(h:Reads w w.heap.size 1 A b.length (za3 .u8 b))(h8:∀x∈b,x<256)(hb:b.length≤140737488355200):
 Calls Tryz.prog 187 #[.int .i64 0,.slice A b.length c,.int .i64 n] w (z2w 0 3 b n w):=by
 have D:=Hz (ziv (c:=c) (n:=n) h h8 hb);have IV:=Hz (fun o (q:IsDel b n o)=>zqw q);have HD:Hid (∀m,IsDel b n (some m)→(m.length:Int)=n∧m.length≤65536):=Hz (fun m q=>by obtain⟨q1,q2,-⟩:=q.sound m rfl;exact⟨q1,zf7 q2⟩);clear h h8
 go_enter Tryz.func187,Tryz.ntmps187
 go_wp2_with fail
 refine D.out.mono ?_;rintro e w1 ⟨o,hI,hO⟩;have HV:=Hz (IV.out o hI);clear D IV
 cases o with
 |none=>
  obtain⟨rfl,b1⟩:=hO
  go_wp2
  go_ret2
  exact⟨none,HV.out,⟨_,rfl⟩,b1⟩
 |some l=>
  obtain⟨hln,hl6⟩:=HD.out l hI;obtain⟨A1,n1,c1,rfl,k1,b1⟩:=hO
  obtain rfl:n1=l.length:=by have:=k1.len;rwa[zcw] at this
  have R1:=Hz k1.reads;subst hln;clear k1 hI HD;have hz1:=b1.size
  go_wp2_with (refine zet qff rfl (.tmp 28) (.tmp 28) rfl (W:=w) (B:=w.heap.size) l.length rfl rfl rfl rfl b1 hz1 (by omega) (by simp only[maxLen];omega) ?_
               intro w2 o2 g2 b2 hs2)
  rw[zg3] at o2;have b12:New w1 w2:=(Turns.of_none (T:=[]) g2).new (by simp)
  go_loopw [32] (fun i wr=>∃k:Nat,k≤l.length∧i= .int .i64 (k:Int)∧wr.ownsRow w1.heap.size 61 5 (.slice (some ⟨w1.heap.size,0,none⟩) l.length l.length) l.length (recs zak ((l.take k).map zil++List.replicate (l.length-k) zay))∧New w1 wr) (fun i _=>l.length-(intOf i).toNat)
  case atStart=>exact⟨0,Nat.zero_le _,rfl,by simpa using o2,b12⟩
  case round=>
   obtain⟨k,hk,rfl,o,hb⟩:=hrel;clear o2 g2 b2 b12 hs2;by_cases hlt:k<l.length
   ·obtain⟨ax,rfl,hbx,qx⟩:=(Reads.later R1.out hb).int (i:=k) hlt
    have htk:=zad l k 0 hlt;generalize l.getD k 0=x at*;obtain⟨ad,ea,_,p0,p1,p2,p3,p4⟩:=(Reads.of_own o).cell5 (i:=k) hlt;injection ea with ea;subst ea;obtain⟨cs,BR⟩:=zie o;have f1:=BR.frozen (k*5+1)
    have ead:(⟨w1.heap.size,0,none⟩:Addr).add (k*5)=⟨w1.heap.size,k*5,none⟩:=by
     unfold Addr.add;split<;> simp_all
    rw[ead] at p1;dsimp only at p1
    have hA:((l.take k).map zil).length=k:=by rw[List.length_map,List.length_take];omega
    obtain⟨o',-⟩:=World.ownsRow.stored o (k*5+1) (.int .i64 x);have ers:=zvq (A:=(l.take k).map zil) (B:=List.replicate (l.length-(k+1)) zay) (z:=x);rw[hA] at ers;rw[show l.length-k=(l.length-(k+1))+1 by omega,List.replicate_succ,ers] at o'
    have o':(wr.setCell ⟨w1.heap.size,k*5+1,none⟩ (.int .i64 x)).ownsRow w1.heap.size 61 5 (.slice (some ⟨w1.heap.size,0,none⟩) l.length l.length) l.length (recs zak ((l.take (k+1)).map zil++List.replicate (l.length-(k+1)) zay)):=by
     rw[htk,List.map_append,List.append_assoc];exact o'
    have O':=Hz o';have HB:=Hz (hb.setCell (p:=⟨w1.heap.size,k*5+1,none⟩) (Nat.le_refl _) (.int .i64 x));clear o' ers o htk hA BR
    go_wp2_with fail
    go_roundw
    case rel=>exact⟨k+1,by omega,by go_num,O'.out,HB.out⟩
    case measure=>simp[intOf];omega
   ·obtain rfl:k=l.length:=by omega
    rw[Nat.sub_self,List.replicate_zero,List.append_nil,List.take_length] at o;have b00:=New.trans b1 hb
    go_wp2_with fail
    go_ret2
    exact⟨some (l.map zil),HV.out,_,_,_,rfl,zbd o hz1,b00⟩
set_option maxRecDepth 100000 in
theorem zpd{w:World}{A:Option Addr}{c:Nat}{b:List Nat}{n:Int}(h:Reads w w.heap.size 1 A b.length (za3 .u8 b))(h8:∀x∈b,x<256)(hb:b.length≤140737488355200)(hn:zex n):
 Calls Tryz.prog 189 #[.int .i64 2,.slice A b.length c,.int .i64 n] w (z2w 2 4 b n w):=by
 have D:=Hz (qce (c:=c) (m:=n) h h8 (by omega) hn.1 hn.2);have IV:=Hz (zqx (n:=n) h8)
 have HD:Hid (∀m,ztp b n=some m→(m.length:Int)=n∧m.length≤65536):=Hz (fun m q=>by
  have h3:=qdr (n:=n) h8;rw[q] at h3
  exact⟨((zm7 h8).1 q).1,h3.2.1⟩)
 clear h h8;generalize ztp b n=o at*
 go_enter Tryz.func189,Tryz.ntmps189
 go_wp2_with fail
 refine D.out.mono ?_;intro e w1 hO;clear D
 cases o with
 |none=>
  obtain⟨rfl,b1⟩:=hO
  go_wp2
  go_ret2
  exact⟨none,IV.out,⟨_,rfl⟩,b1⟩
 |some l=>
  obtain⟨hln,hl6⟩:=HD.out l rfl;obtain⟨A1,n1,c1,rfl,k1,b1⟩:=hO
  obtain rfl:n1=l.length:=by have:=k1.len;rwa[zer] at this
  have R1:=Hz k1.reads;subst hln;clear k1 HD;have hz1:=b1.size
  go_wp2_with (refine zet qff rfl (.tmp 21) (.tmp 21) rfl (W:=w) (B:=w.heap.size) l.length rfl rfl rfl rfl b1 hz1 (by omega) (by simp only[maxLen];omega) ?_
               intro w2 o2 g2 b2 hs2)
  rw[zg3] at o2;have b12:New w1 w2:=(Turns.of_none (T:=[]) g2).new (by simp)
  go_loopw [25] (fun i wr=>∃k:Nat,k≤l.length∧i= .int .i64 (k:Int)∧wr.ownsRow w1.heap.size 61 5 (.slice (some ⟨w1.heap.size,0,none⟩) l.length l.length) l.length (recs zak ((l.take k).map zfk++List.replicate (l.length-k) zay))∧New w1 wr) (fun i _=>l.length-(intOf i).toNat)
  case atStart=>exact⟨0,Nat.zero_le _,rfl,by simpa using o2,b12⟩
  case round=>
   obtain⟨k,hk,rfl,o,hb⟩:=hrel;clear o2 g2 b2 b12 hs2;by_cases hlt:k<l.length
   ·obtain⟨ax,rfl,hbx,qx⟩:=(Reads.later R1.out hb).str (i:=k) hlt
    have htk:=zad l k [] hlt;generalize l.getD k []=x at*;obtain⟨ad,ea,_,p0,p1,p2,p3,p4⟩:=(Reads.of_own o).cell5 (i:=k) hlt;injection ea with ea;subst ea;obtain⟨cs,BR⟩:=zie o;have f1:=BR.frozen (k*5+2)
    have ead:(⟨w1.heap.size,0,none⟩:Addr).add (k*5)=⟨w1.heap.size,k*5,none⟩:=by
     unfold Addr.add;split<;> simp_all
    rw[ead] at p2;dsimp only at p2
    have hA:((l.take k).map zfk).length=k:=by rw[List.length_map,List.length_take];omega
    obtain⟨o',-⟩:=World.ownsRow.stored o (k*5+2) (.string (zae x));have ers:=z7o (A:=(l.take k).map zfk) (B:=List.replicate (l.length-(k+1)) zay) (s:=x);rw[hA] at ers;rw[show l.length-k=(l.length-(k+1))+1 by omega,List.replicate_succ,ers] at o'
    have o':(wr.setCell ⟨w1.heap.size,k*5+2,none⟩ (.string (zae x))).ownsRow w1.heap.size 61 5 (.slice (some ⟨w1.heap.size,0,none⟩) l.length l.length) l.length (recs zak ((l.take (k+1)).map zfk++List.replicate (l.length-(k+1)) zay)):=by
     rw[htk,List.map_append,List.append_assoc];exact o'
    have O':=Hz o';have HB:=Hz (hb.setCell (p:=⟨w1.heap.size,k*5+2,none⟩) (Nat.le_refl _) (.string (zae x)));clear o' ers o htk hA BR
    go_wp2_with fail
    go_roundw
    case rel=>exact⟨k+1,by omega,by go_num,O'.out,HB.out⟩
    case measure=>simp[intOf];omega
   ·obtain rfl:k=l.length:=by omega
    rw[Nat.sub_self,List.replicate_zero,List.append_nil,List.take_length] at o;have b00:=New.trans b1 hb
    go_wp2_with fail
    go_ret2
    exact⟨some (l.map zfk),IV.out,_,_,_,rfl,zbd o hz1,b00⟩
end Go.Proofs.YtmgfkpnghlmheaaGreat
namespace Go.Hm
open Go Go.RowKit
section
variable{P:Program}{ops:Array Oper}{rest:List Oper}{o:Oper}{a:Act}{Q:Exit→Act→World→Prop}
theorem zvr{w:World}(hgd:o.guard=none)(ty:TypeId)(x y:Operand)(ho:o.op= .store ty x y)
 {base:Nat}{e:TypeId}{g n m:Nat}{A B:List zab}{s:Int × Int}(hown:w.ownsRow base e 5 (.slice (some ⟨g,0,none⟩) n n) n (recs zak (A++zay::B)))(hm:A.length=m)(hmn:m<n)
 (hx:a.eval x= .pointer (some ⟨g,m*5+3,none⟩))(hy:a.eval y= .agg #[.int .i64 s.1,.int .i64 s.2])(hi:(P.info? ty).map (·.size)=some 2)
 (h:∀W,W.ownsRow base e 5 (.slice (some ⟨g,0,none⟩) n n) n (recs zak (A++(false,0,[],s.1,s.2)::B))→w.grownBy W (some g)→wpList P ops Q rest (a.put o.dst undef) W):wpList P ops Q (o::rest) a w:=by
 obtain⟨cs,hB⟩:=zie hown;obtain⟨ad,ea,-,c0,c1,c2,c3,c4⟩:=(Reads.of_own hown).cell5 (i:=m) hmn;injection ea with ea;subst ea
 have ead:(⟨g,0,none⟩:Addr).add (m*5)=⟨g,m*5,none⟩:=by
  unfold Addr.add;split<;> simp_all
 rw[ead] at c3 c4;dsimp only at c3 c4
 have ht:w.there g (m*5+3) (#[Value.int .i64 s.1,.int .i64 s.2]:Array Value).size:=by
  intro j hj;have hj:j<2:=hj;refine⟨?_,hB.frozen _⟩
  have:j=0∨j=1:=by omega
  rcases this with rfl|rfl
  ·rw[Nat.add_zero,c3];rfl
  ·rw[Nat.add_assoc,c4];rfl
 refine wpList_store_mid hgd ty x y ho g (m*5+3) #[.int .i64 s.1,.int .i64 s.2] hx hy ht hi (by simp[Value.oneCell']) ?_;obtain⟨o1,g1⟩:=World.ownsRow.stored hown (m*5+3) (.int .i64 s.1);obtain⟨o2,g2⟩:=World.ownsRow.stored o1 (m*5+3+1) (.int .i64 s.2)
 have hl:(recs zak A).length=m*5:=by rw[zar (sz:=5) (fun _=>rfl) A,hm]
 have e2:((recs zak (A++zay::B)).set (m*5+3) (.int .i64 s.1)).set (m*5+3+1) (.int .i64 s.2)=recs zak (A++(false,0,[],s.1,s.2)::B):=by
  rw[zav,zav,List.set_append_right _ _ (by omega),List.set_append_right _ _ (by omega),hl,show m*5+3-m*5=3 by omega,show m*5+3+1-m*5=4 by omega];rfl
 rw[e2] at o2;exact h _ o2 (g1.trans g2)
end
end Go.Hm
namespace Go.Proofs.YtmgfkpnghlmheaaGreat
open Go.RowKit Go.Hm
theorem OptI.u{o:Option (List Int)}{w w':World}{e:Ending}(h:OptI o w e w'):
 ∃A n c,e= .returned (.tuple #[.slice A n c,.bool o.isSome])∧Go.Hm.Own w' w.heap.size 3 (.slice A n c) (zep .i64 (o.getD []))∧New w w':=by
 cases o with
 |none=>exact⟨none,0,0,h.1,Own.nil_,h.2⟩
 |some l=>exact h
theorem zpe(S:St):(zbv ((S.getD []).length:Int) S).1=S.getD []∧(zbv ((S.getD []).length:Int) S).2.isNone=S.isNone:=by
 cases S with
 |none=>exact⟨rfl,rfl⟩
 |some r=>
  have:=zdf r [];rw[List.append_nil] at this;simp only[Option.getD_some];rw[this];exact⟨rfl,rfl⟩
set_option maxRecDepth 100000 in
theorem zmz{w:World}{A:Option Addr}{c:Nat}{b:List Nat}{n:Int}(h:Reads w w.heap.size 1 A b.length (za3 .u8 b))(h8:∀x∈b,x<256)(hb:b.length≤140737488351232):
 Calls Tryz.prog 214 #[.slice A b.length c,.int .i64 n] w (z2w 3 3 b n w):=by
 have C:=Hz (zfb (c:=c) h (by omega) h8);have hok:St.ok (some b):=St.ok_some h8;obtain⟨sz,S1,k1⟩:∃sz S1,lenS (b.length:Int) (some b)=(sz,S1):=⟨_,_,rfl⟩
 have hok1:S1.ok:=by have:=za5 (m:=(b.length:Int)) hok;rwa[k1] at this
 obtain⟨x,S2,k2⟩:∃x S2,zbv (sz:Int) S1=(x,S2):=⟨_,_,rfl⟩;have htk:=zcr (n:=(sz:Int)) hok1;rw[k2] at htk;obtain⟨hy1,hy2⟩:=zpe S2
 have hs1:(S1.getD []).length≤b.length:=by have:=zc3 (m:=(b.length:Int)) hok;rwa[k1] at this
 have hs2:(S2.getD []).length≤(S1.getD []).length:=by have:=zg0 (n:=(sz:Int)) S1;rwa[k2] at this
 have hszl:(sz:Int)≤(b.length:Int):=by have:=zb0 (m:=(b.length:Int)) (some b) (by omega) hok;rwa[k1] at this
 have hxl:x.length≤b.length:=by have:=zej (n:=(sz:Int)) (S:=S1) (by omega);rw[k2] at this;dsimp only at this;omega
 have MK:=Hz (fun ox oy (hx:IsDel x n ox) (hy:IsDel (S2.getD []) n oy)=>zuv h8 (by omega) k1 k2 rfl hx hy);have HX8:=Hz htk.2;have hok2:S2.ok:=htk.1
 have HY8:Hid (∀z∈S2.getD [],z<256):=Hz (fun z hz=>by
  cases S2 with
  |none=>cases hz
  |some r=>exact hok2 r rfl z hz)
 have HWS:=Hz (fun(X Y:List Int) P (e:X.length=Y.length) (q:zfu (0,0) (X.zip Y)=some P)=>(zlm X Y (0,0) P e q).1);clear hok hok1 htk h h8 hok2
 go_enter Tryz.func214,Tryz.ntmps214
 go_wp2_with fail
 refine C.out.mono ?_;rintro e w1 ⟨g,rfl,hg,C1,b1⟩;have s1:=CurS.of C1;have LF:=Hz (zt8 s1);have L1:=zb8 (m:=(b.length:Int)) s1 (by omega) (by omega);rw[k1] at L1;replace L1:=Hz L1;unfold zfa at LF;simp only[Option.getD_some] at LF;clear C C1 s1
 go_wp2_with fail
 refine LF.out.mono ?_;rintro e w1' ⟨rfl,rfl⟩
 go_wp2_with fail
 refine L1.out.mono ?_;rintro e w2 ⟨rfl,s2,g2⟩;have b2:=Far.below b1 g2 hg (Nat.le_refl _);have T1:=zc6 (n:=(sz:Int)) s2 (by omega) (by omega);rw[k2] at T1;replace T1:=Hz T1;clear L1 LF g2 b1 s2
 go_wp2_with fail
 refine T1.out.mono ?_;rintro e w3 ⟨A3,n3,c3,rfl,rfl,o3,s3,g3⟩;have b3:=Far.below b2 g3 hg (Nat.le_refl _);have D1:=Hz (ziv (c:=c3) (n:=n) o3.reads HX8.out (by omega));clear T1 g3 b2 o3
 go_wp2_with fail
 refine D1.out.mono ?_;rintro e w4 ⟨ox,hx,h4⟩;obtain⟨A4,n4,c4,rfl,o4,b4⟩:=h4.u
 obtain rfl:n4=(ox.getD []).length:=by have:=o4.len;rwa[zcw] at this
 have s4:=s3.below b4;have hz4:=b3.size;have o4:=o4.base_le (b':=w.heap.size) hz4;have b04:=New.trans b3 b4;have LF:=Hz (zt8 s4);have T2:=zc6 (n:=((S2.getD []).length:Int)) s4 (by omega) (by omega);rw[hy1] at T2;obtain⟨S3,hS3⟩:∃S3,S3=(zbv ((S2.getD []).length:Int) S2).2:=⟨_,rfl⟩;rw[←hS3] at T2 hy2;replace T2:=Hz T2;unfold zfa at LF;have HMK:=Hz (fun oy hy=>MK.out ox oy hx hy);have HXX:=Hz hx;clear D1 s3 b3 b4 hS3 hy1 h4 MK hx;generalize hY:S2.getD []=y at*
 have hYl:y.length≤b.length:=by omega
 clear hY
 go_wp2_with fail
 refine LF.out.mono ?_;rintro e w4' ⟨rfl,rfl⟩
 go_wp2_with fail
 refine T2.out.mono ?_;rintro e w5 ⟨A5,n5,c5,rfl,rfl,o5,s5,g5⟩;have b5:=Far.below b04 g5 hg (Nat.le_refl _);have o4:=o4.kept g5 (.inr (zal o4 s4.blk.choose_spec (by decide)));have D2:=Hz (ziv (c:=c5) (n:=n) o5.reads HY8.out (by omega));clear T2 g5 b04 o5 LF s4
 go_wp2_with fail
 refine D2.out.mono ?_;rintro e w6 ⟨oy,hy,h6⟩;obtain⟨A6,n6,c6,rfl,o6,b6⟩:=h6.u
 obtain rfl:n6=(oy.getD []).length:=by have:=o6.len;rwa[zcw] at this
 have HV:=Hz (HMK.out oy hy);have s6:=s5.below b6;have BD:=Hz (zy4 s6);have o4:=o4.later b6;have b06:=New.trans b5 b6;rw[hy2] at BD;clear D2 HMK s5 b5 b6 h6 hy2
 go_wp2_with fail
 refine BD.out.mono ?_;rintro e w6' ⟨rfl,rfl⟩;clear BD s6
 cases S2 with
 |none=>
  have HN:Hid (IsVal 3 3 b n none):=Hz (by simpa[qfv] using HV.out);simp only[Option.isNone_none]
  go_wp2
  go_ret2
  exact⟨none,HN.out,⟨_,rfl⟩,b06⟩
 |some R=>
  simp only[Option.isNone_some]
  cases ox with
  |none=>
   have HN:Hid (IsVal 3 3 b n none):=Hz (by simpa[qfv] using HV.out);simp only[Option.isSome_none]
   go_wp2
   go_ret2
   exact⟨none,HN.out,⟨_,rfl⟩,b06⟩
  |some X=>
   cases oy with
   |none=>
    have HN:Hid (IsVal 3 3 b n none):=Hz (by simpa[qfv] using HV.out);simp only[Option.isSome_none,Option.isSome_some]
    go_wp2
    go_ret2
    exact⟨none,HN.out,⟨_,rfl⟩,b06⟩
   |some Y=>
    obtain⟨x1,x2,-⟩:=HXX.out.sound X rfl;obtain⟨y1,-,-⟩:=hy.sound Y rfl;have hX6:=zf7 x2;subst x1
    have hYX:Y.length=X.length:=by omega
    simp only[Option.getD_some] at o4 o6;have hV:=HV.out;unfold qfv at hV;dsimp only at hV;have HV2:=Hz hV;have RX:=Hz o4.reads;have RY:=Hz o6.reads;simp only[Option.isSome_some,Option.getD_some];have hz6:=b06.size;clear HXX HV hy hV x2 y1 o4 o6
    have hzl:(X.zip Y).length=X.length:=by rw[List.length_zip];omega
    have hzat:∀k,k<X.length→(X.zip Y).getD k (0,0)=(X.getD k 0,Y.getD k 0):=fun k hk=>by
     simp only[List.getD_eq_getElem?_getD];rw[List.getElem?_eq_getElem (by omega),List.getElem_zip,List.getElem?_eq_getElem hk,List.getElem?_eq_getElem (by omega)];rfl
    have HZ:=Hz hzat;have HZL:=Hz hzl;have HWS2:=Hz (HWS.out X Y);have HYX:=Hz hYX;clear hzat hzl HWS hYX
    go_wp2_with (refine zpa qgr rfl (.tmp 52) (.tmp 52) rfl (W:=w) (B:=w.heap.size) X.length rfl rfl rfl rfl b06 hz6 (by omega) (by simp only[maxLen];omega) ?_
                 intro w7 o7 g7 b7 hs7)
    rw[zrk] at o7;have b67:New w6 w7:=(Turns.of_none (T:=[]) g7).new (by simp)
    go_loopw [56] (fun i wr=>∃k:Nat,k≤X.length∧i= .int .i64 (k:Int)∧wr.ownsRow w6.heap.size 59 2 (.slice (some ⟨w6.heap.size,0,none⟩) X.length X.length) X.length (zcy ((X.zip Y).take k++List.replicate (X.length-k) (0,0)))∧New w6 wr) (fun i _=>X.length-(intOf i).toNat)
    case atStart=>exact⟨0,Nat.zero_le _,rfl,by simpa using o7,b67⟩
    case round=>
     clear o7 g7 b7 hs7 b67;obtain⟨k,hk,rfl,o,bw⟩:=hrel;by_cases hlt:k<X.length
     ·obtain⟨ax,hax,_,c0⟩:=(Reads.later RX.out bw).int hlt
      have hyx:=HYX.out;obtain⟨ay,hay,_,c1⟩:=(Reads.later RY.out bw).int (i:=k) (by omega);subst hax hay;have htk:=zad (X.zip Y) k (0,0) (by rw[HZL.out];exact hlt);rw[HZ.out k hlt] at htk
      have hll:((X.zip Y).take k).length=k:=by rw[List.length_take,HZL.out];omega
      generalize X.getD k 0=px at*;generalize Y.getD k 0=py at*;rw[show X.length-k=(X.length-(k+1))+1 by omega,List.replicate_succ] at o
      have ead:(⟨w6.heap.size,0,none⟩:Addr).add (k*2)=⟨w6.heap.size,k*2,none⟩:=by
       unfold Addr.add;split<;> simp_all
      have i1:(k:Int)<(X.length:Int):=by omega
      have i2:(k:Int)<(Y.length:Int):=by omega
      have HTK:=Hz htk;have HLL:=Hz hll;have HO:=Hz (show wr.drew.ownsRow w6.heap.size 59 2 (.slice (some ⟨w6.heap.size,0,none⟩) X.length X.length) X.length (zcy ((X.zip Y).take k++(0,0)::List.replicate (X.length-(k+1)) (0,0))) from o);have bw2:=New.trans bw (New.drew wr);have HBW:=Hz bw2;clear o bw bw2 htk hll hyx
      go_wp2
      go_still_tail 12,(by kernel_rfl)
      change wpList _ _ _ _ _ wr.drew
      generalize wr.drew=wd at*
      go_wp2_with (refine zmq rfl 59 (.tmp 70) (.tmp 69) rfl (new:=(px,py)) HO.out HLL.out hlt rfl rfl (by kernel_rfl) ?_
                   intro w9 o9 g9)
      have b9:=Far.below HBW.out g9 (Nat.le_refl _) (Nat.le_refl _)
      have o9:w9.ownsRow w6.heap.size 59 2 (.slice (some ⟨w6.heap.size,0,none⟩) X.length X.length) X.length (zcy ((X.zip Y).take (k+1)++List.replicate (X.length-(k+1)) (0,0))):=by
       rw[HTK.out,List.append_assoc];exact o9
      go_roundw
      case rel=>exact⟨k+1,by omega,by go_num,o9,b9⟩
      case measure=>simp[intOf];omega
     ·obtain rfl:k=X.length:=by omega
      rw[List.take_of_length_le (by rw[HZL.out];exact Nat.le_refl _),Nat.sub_self,List.replicate_zero,List.append_nil] at o;have PW:=Hz (z7h (c:=X.length) (Reads.of_own o) (by omega));have hws:=HWS2.out;have b0w:=New.trans b06 bw;generalize zfu (0,0) (X.zip Y)=O at*;clear o bw RX RY b06 hlt HWS2
      go_wp2_with fail
      refine PW.out.mono ?_;rintro e w8 ⟨A8,n8,c8,rfl,o8,b8⟩;have b08:=New.trans b0w b8;have hz8:=b0w.size
      cases O with
      |none=>
       have HN:Hid (IsVal 3 3 b (X.length:Int) none):=Hz HV2.out;simp only[Option.isSome_none]
       go_wp2
       go_ret2
       exact⟨none,HN.out,⟨_,rfl⟩,b08⟩
      |some p=>
       have hpl:p.length=X.length:=hws p HYX.out.symm rfl;simp only[Option.getD_some] at o8;obtain rfl:n8=p.length:=(Reads.of_own o8).lenP;rw[←hpl];have R8:=Hz (Reads.of_own o8)
       have hp6:p.length≤65536:=by omega
       have hzz:=b08.size;simp only[Option.isSome_some];clear hws o8 PW HZ HZL HYX hpl b8 b0w
       go_wp2_with (refine zet qff rfl (.tmp 79) (.tmp 79) rfl (W:=w) (B:=w.heap.size) p.length rfl rfl rfl rfl b08 hzz (by omega) (by simp only[maxLen];omega) ?_
                    intro w9 o9 g9 b9 hs9)
       rw[zg3] at o9;have b89:New w8 w9:=(Turns.of_none (T:=[]) g9).new (by simp)
       go_loopw [83] (fun i wr=>∃k:Nat,k≤p.length∧i= .int .i64 (k:Int)∧wr.ownsRow w8.heap.size 61 5 (.slice (some ⟨w8.heap.size,0,none⟩) p.length p.length) p.length (recs zak ((p.take k).map cPt++List.replicate (p.length-k) zay))∧New w8 wr) (fun i _=>p.length-(intOf i).toNat)
       case atStart=>exact⟨0,Nat.zero_le _,rfl,by simpa using o9,b89⟩
       case round=>
        clear o9 g9 b9 hs9 b89;obtain⟨k,hk,rfl,o,bw⟩:=hrel;by_cases hlt:k<p.length
        ·obtain⟨ax,hax,_,d0,d1⟩:=(Reads.later R8.out bw).pair hlt
         subst hax
         have d2:wr.cell? ⟨(ax.add (k*2)).block,(ax.add (k*2)).off+1,none⟩=some (.int .i64 (p.getD k (0,0)).2):=by rw[←za7] at d1;exact d1
         have htk:=zad p k (0,0) hlt
         have hll:((p.take k).map cPt).length=k:=by rw[List.length_map,List.length_take];omega
         generalize p.getD k (0,0)=q at*;obtain⟨qx,qy⟩:=q;dsimp only at d0 d1 d2;rw[show p.length-k=(p.length-(k+1))+1 by omega,List.replicate_succ] at o
         have ead:(⟨w8.heap.size,0,none⟩:Addr).add (k*5)=⟨w8.heap.size,k*5,none⟩:=by
          unfold Addr.add;split<;> simp_all
         have i1:(k:Int)<(p.length:Int):=by omega
         have b2:New wr (wr.alloc (.cells #[.int .i64 qx,.int .i64 qy] 59)):=(Below.refl _ _).alloc (Nat.le_refl _) _;have B2:=Blk.new wr 59 #[.int .i64 qx,.int .i64 qy];have HO:=Hz (zau o b2);have HBW:=Hz (New.trans bw b2);obtain⟨p0,p1⟩:=zbe B2;have HTK:=Hz htk;have HLL:=Hz hll;clear o bw b2 B2 htk hll d1
         go_wp2_with (refine zvr rfl 59 (.tmp 92) (.tmp 90) rfl (s:=(qx,qy)) HO.out HLL.out hlt rfl rfl (by kernel_rfl) ?_
                      intro w9 o9 g9)
         have b9:=Far.below HBW.out g9 (Nat.le_refl _) (Nat.le_refl _)
         have o9:w9.ownsRow w8.heap.size 61 5 (.slice (some ⟨w8.heap.size,0,none⟩) p.length p.length) p.length (recs zak ((p.take (k+1)).map cPt++List.replicate (p.length-(k+1)) zay)):=by
          rw[HTK.out,List.map_append,List.append_assoc];exact o9
         go_roundw
         case rel=>exact⟨k+1,by omega,by go_num,o9,b9⟩
         case measure=>simp[intOf];omega
        ·obtain rfl:k=p.length:=by omega
         rw[List.take_length,Nat.sub_self,List.replicate_zero,List.append_nil] at o
         go_wp2_with fail
         go_ret2
         exact⟨some (p.map cPt),HV2.out,_,_,_,rfl,zbd o hzz,New.trans b08 bw⟩
end Go.Proofs.YtmgfkpnghlmheaaGreat
namespace Go.Hm
open Go Go.RowKit
theorem qcf{A B:List Value}{x y z u v a b c d e:Value}{m:Nat}(h:A.length=m):
 (((((A++([x,y,z,u,v]++B)).set m a).set (m+1) b).set (m+1+1) c).set (m+1+1+1) d).set (m+1+1+1+1) e=A++([a,b,c,d,e]++B):=by
 subst h
 rw[List.set_append_right _ _ (Nat.le_refl _),Nat.sub_self,List.set_append_right _ _ (by omega),List.set_append_right _ _ (by omega),List.set_append_right _ _ (by omega),List.set_append_right _ _ (by omega),
  show A.length+1-A.length=1 by omega,show A.length+1+1-A.length=2 by omega,show A.length+1+1+1-A.length=3 by omega,show A.length+1+1+1+1-A.length=4 by omega]
 rfl
section
variable{P:Program}
theorem zvs{ops:Array Oper}{rest:List Oper}{op:Oper}{a:Act}{w:World}{Q:Exit→Act→World→Prop}(hgd:op.guard=none)(ty:TypeId)(x y:Operand)(ho:op.op= .store ty x y)
 {base:Nat}{e:TypeId}{g n m:Nat}{A B:List zab}{old new:zab}(hown:w.ownsRow base e 5 (.slice (some ⟨g,0,none⟩) n n) n (recs zak (A++old::B)))(hm:A.length=m)(hmn:m<n)
 (hx:a.eval x= .pointer (some ⟨g,m*5,none⟩))(hy:a.eval y=zcz new)(hi:(P.info? ty).map (·.size)=some 5)
 (h:∀W,W.ownsRow base e 5 (.slice (some ⟨g,0,none⟩) n n) n (recs zak (A++new::B))→w.grownBy W (some g)→wpList P ops Q rest (a.put op.dst undef) W):wpList P ops Q (op::rest) a w:=by
 obtain⟨cs,hB⟩:=zie hown;obtain⟨ad,ea,-,c0,c1,c2,c3,c4⟩:=(Reads.of_own hown).cell5 (i:=m) hmn;injection ea with ea;subst ea
 have ead:(⟨g,0,none⟩:Addr).add (m*5)=⟨g,m*5,none⟩:=by
  unfold Addr.add;split<;> simp_all
 rw[ead] at c0 c1 c2 c3 c4;dsimp only at c0 c1 c2 c3 c4;obtain⟨v0,v1,v2,v3,v4⟩:=new
 have ht:w.there g (m*5) (#[Value.bool v0,.int .i64 v1,.string (zae v2),.int .i64 v3,.int .i64 v4]:Array Value).size:=by
  intro j hj;have hj:j<5:=hj;refine⟨?_,hB.frozen _⟩
  have:j=0∨j=1∨j=2∨j=3∨j=4:=by omega
  rcases this with rfl|rfl|rfl|rfl|rfl
  ·rw[Nat.add_zero,c0];rfl
  ·rw[c1];rfl
  ·rw[c2];rfl
  ·rw[c3];rfl
  ·rw[c4];rfl
 refine wpList_store_mid hgd ty x y ho g (m*5) #[.bool v0,.int .i64 v1,.string (zae v2),.int .i64 v3,.int .i64 v4] hx hy ht hi (by simp[Value.oneCell']) ?_;obtain⟨o1,-⟩:=World.ownsRow.stored hown (m*5) (.bool v0);obtain⟨o2,-⟩:=World.ownsRow.stored o1 (m*5+1) (.int .i64 v1);obtain⟨o3,-⟩:=World.ownsRow.stored o2 (m*5+1+1) (.string (zae v2));obtain⟨o4,-⟩:=World.ownsRow.stored o3 (m*5+1+1+1) (.int .i64 v3);obtain⟨o5,-⟩:=World.ownsRow.stored o4 (m*5+1+1+1+1) (.int .i64 v4)
 have l:(recs zak A).length=m*5:=by rw[zar (sz:=5) (fun _=>rfl) A,hm]
 rw[zav,show recs zak (old::B)=[Value.bool old.1,.int .i64 old.2.1,.string (zae old.2.2.1),.int .i64 old.2.2.2.1,.int .i64 old.2.2.2.2]++recs zak B from rfl,qcf l] at o5;rw[zav,show recs zak ((v0,v1,v2,v3,v4)::B)=[Value.bool v0,.int .i64 v1,.string (zae v2),.int .i64 v3,.int .i64 v4]++recs zak B from rfl] at h;exact h _ o5 (((((zaq (w:=w) (g:=g)).trans zaq).trans zaq).trans zaq).trans zaq)
end
end Go.Hm
namespace Go.Proofs.YtmgfkpnghlmheaaGreat
open Go.RowKit Go.Hm
theorem zkz{b:List Nat}{n:Int}:∃o,IsDec b n o:=by
 by_cases h:∃l:List Nat,(l.length:Int)=n∧l.length≤65536∧(∀x∈l,x≤18446744073709551615)∧encL l=b
 ·obtain⟨l,hl⟩:=h
  refine⟨some l,fun l'=>⟨fun e=>by injection e with e;subst e;exact hl,fun h'=>?_⟩⟩;rw[zy9 hl.2.1 h'.2.1 hl.2.2.1 h'.2.2.1 (by rw[hl.2.2.2,h'.2.2.2])]
 ·exact⟨none,isDec_none fun l h1 h2 h3 h4=>h ⟨l,h1,h2,h3,h4⟩⟩
def qjd(t:Int)(b:List Nat)(n:Int)(w:World)(e:Ending)(w':World):Prop:=∃o,IsDic t b n o∧OptC o w e w'
theorem qhl{t:Int}{l:List zab}{b:List Nat}(hd:∀c∈l,zai c)(h:plO t l=some b):∀c∈l,CellFine c:=fun c hc=>by
 have hr:=(plOk_iff.1 (plO_iff.1 h).1).2 c hc
 have hn:(-1048576≤c.2.2.2.1∧c.2.2.2.1≤1048576)∧ -1048576≤c.2.2.2.2∧c.2.2.2.2≤1048576:=by
  have h0:=zgc hr;unfold zac at hr;rw[h0] at hr;rcases zm5 ((plOk_iff.1 (plO_iff.1 h).1).2 c hc) with rfl|rfl|rfl|rfl
  ·simp at hr;omega
  ·simp at hr;omega
  ·simp at hr;omega
  ·simp[inBox] at hr;omega
 exact⟨(hd c hc).1,(hd c hc).2,by omega,by omega⟩
theorem z2x{w:World}{g base sz n:Nat}{S:St}{v:Value}{xs:List Value}(o:w.ownsRow base 61 sz v n xs)(h:CurS w g S):v.ownBlock≠some g:=by
 obtain⟨cs,hB⟩:=h.blk;exact zal o hB (by decide)
set_option maxRecDepth 100000 in
theorem zxz{w:World}{A:Option Addr}{c m:Nat}{b:List Nat}{t n:Int}(h:Reads w w.heap.size 1 A m (za3 .u8 b))(h8:∀x∈b,x<256)(hm:m≤140737488351232)(hn0: -9223372036854775808≤n)(hn1:n≤9223372036854775807):
 Calls Tryz.prog 183 #[.int .i64 t,.slice A m c,.int .i64 n] w (qjd t b n w):=by
 obtain rfl:m=b.length:=h.len;have C:=Hz (zfb (c:=c) h (by omega) h8);have hok:St.ok (some b):=St.ok_some h8;obtain⟨cnt,S1,k1⟩:∃cnt S1,lenS n (some b)=(cnt,S1):=⟨_,_,rfl⟩
 have hok1:S1.ok:=by have:=za5 (m:=n) hok;rwa[k1] at this
 obtain⟨sz,S2,k2⟩:∃sz S2,lenS ((S1.getD []).length:Int) S1=(sz,S2):=⟨_,_,rfl⟩
 have hok2:S2.ok:=by have:=za5 (m:=((S1.getD []).length:Int)) hok1;rwa[k2] at this
 obtain⟨x,S3,k3⟩:∃x S3,zbv (sz:Int) S2=(x,S3):=⟨_,_,rfl⟩;have htk:=zcr (n:=(sz:Int)) hok2;rw[k3] at htk;obtain⟨y,S4,k4⟩:∃y S4,zbv ((S3.getD []).length:Int) S3=(y,S4):=⟨_,_,rfl⟩;have hty:=zcr (n:=((S3.getD []).length:Int)) htk.1;rw[k4] at hty
 have hs1:(S1.getD []).length≤b.length:=by have:=zc3 (m:=n) hok;rwa[k1] at this
 have hs2:(S2.getD []).length≤(S1.getD []).length:=by have:=zc3 (m:=((S1.getD []).length:Int)) hok1;rwa[k2] at this
 have hs3:(S3.getD []).length≤(S2.getD []).length:=by have:=zg0 (n:=(sz:Int)) S2;rwa[k3] at this
 have hszl:(sz:Int)≤((S1.getD []).length:Int):=by have:=zb0 (m:=((S1.getD []).length:Int)) S1 (by omega) hok1;rwa[k2] at this
 have hxl:x.length≤b.length:=by have:=zej (n:=(sz:Int)) (S:=S2) (by omega);rw[k3] at this;dsimp only at this;omega
 have hyl:y.length≤b.length:=by have:=zej (n:=((S3.getD []).length:Int)) (S:=S3) (by omega);rw[k4] at this;dsimp only at this;omega
 have MK:=Hz (fun o1 o2 (hp:IsPl zai t x (cnt:Int) o1) (hd:IsDec y n o2)=>zza h8 (by omega) hn1 k1 k2 k3 hp k4 hd);have HX8:=Hz htk.2;have HY8:=Hz hty.2;clear hok hok1 hok2 htk hty h h8
 go_enter Tryz.func183,Tryz.ntmps183
 go_wp2_with fail
 refine C.out.mono ?_;rintro e w1 ⟨g,rfl,hg,C1,b1⟩;have L1:=zb8 (m:=n) (CurS.of C1) hn0 hn1;rw[k1] at L1;have L1:=Hz L1;clear C C1
 go_wp2_with fail
 refine L1.out.mono ?_;rintro e w2 ⟨rfl,s2,g2⟩;have b2:=Far.below b1 g2 hg (Nat.le_refl _);have LF:=Hz (zt8 s2);have L2:=zb8 (m:=((S1.getD []).length:Int)) s2 (by omega) (by omega);rw[k2] at L2;have L2:=Hz L2;clear L1 g2 b1;unfold zfa at LF;generalize(S1.getD []).length=q1 at*
 go_wp2_with fail
 refine LF.out.mono ?_;rintro e w2' ⟨rfl,rfl⟩
 go_wp2_with fail
 refine L2.out.mono ?_;rintro e w3 ⟨rfl,s3,g3⟩;have b3:=Far.below b2 g3 hg (Nat.le_refl _);have T1:=zc6 (n:=(sz:Int)) s3 (by omega) (by omega);rw[k3] at T1;have T1:=Hz T1;clear L2 g3 b2 LF s2
 go_wp2_with fail
 refine T1.out.mono ?_;rintro e w4 ⟨A4,n4,c4,rfl,rfl,o4,s4,g4⟩;have b4:=Far.below b3 g4 hg (Nat.le_refl _);have PD:=Hz (zjz (t:=t) (n:=(cnt:Int)) (c:=c4) o4.reads HX8.out (by omega));clear T1 g4 b3 o4 s3
 go_wp2_with fail
 refine PD.out.mono ?_;rintro e w5 ⟨o1,hp,h5⟩;have MK:=Hz (fun o2 hd=>MK.out o1 o2 hp hd)
 cases o1 with
 |none=>
  obtain⟨rfl,b5⟩:=h5;have b05:=New.trans b4 b5;clear PD hp
  go_wp2_with fail
  go_ret2
  obtain⟨o2,hd⟩:=zkz (b:=y) (n:=n);have:=MK.out o2 hd;refine⟨none,?_,rfl,b05⟩;simpa[qas] using this
 |some E=>
  obtain⟨A5,n5,c5,rfl,o5,b5⟩:=h5;obtain⟨hE1,hE2,hE3⟩:=hp.sound E rfl;have hfine:=qhl hE3 hE2
  have hcnt:cnt≤65536:=by have:=(plOk_iff.1 (plO_iff.1 hE2).1).1;omega
  have hEl:E.length=cnt:=by omega
  obtain rfl:cnt=n5:=by have:=(Reads.of_own o5).lenCell;omega
  have HEl:=Hz hEl;clear hEl;have b05:=New.trans b4 b5;have s5:=s4.below b5;have BD:=Hz (zy4 s5);have HF:=Hz hfine;clear PD hp b4 b5 s4 hE1 hE2 hE3 hfine
  cases S3 with
  |none=>
   go_wp2_with fail
   refine BD.out.mono ?_;rintro e w5' ⟨rfl,rfl⟩
   go_wp2_with fail
   go_ret2
   obtain⟨o2,hd⟩:=zkz (b:=y) (n:=n);have:=MK.out o2 hd;refine⟨none,?_,rfl,b05⟩;simpa[qas] using this
  |some R=>
   have UL:=Hz (z1e (c:=c5) (Reads.of_own o5) HF.out (by omega));simp only[Option.isNone_some] at BD
   go_wp2_with fail
   refine BD.out.mono ?_;rintro e w5' ⟨rfl,rfl⟩
   go_wp2_with fail
   refine UL.out.mono ?_;rintro e w6 ⟨rfl,b6⟩;have b06:=New.trans b05 b6;have s6:=s5.below b6;have o6:=zau o5 b6;clear UL BD b05 s5 b6 o5;by_cases hnd:E.Nodup
   ·have e1:decide E.Nodup=true:=decide_eq_true hnd
    have LF:=Hz (zt8 s6);have T2:=zc6 (n:=(((some R:St).getD []).length:Int)) s6 (by omega) (by omega);rw[k4] at T2;have T2:=Hz T2;have RG:=s6.lt;have HND:=Hz hnd;clear hnd;unfold zfa at LF;generalize((some R:St).getD []).length=q2 at*;rw[e1]
    go_wp2_with fail
    refine LF.out.mono ?_;rintro e w6' ⟨rfl,rfl⟩
    go_wp2_with fail
    refine T2.out.mono ?_;rintro e w7 ⟨A7,n7,c7,rfl,rfl,o7,s7,g7⟩;have b07:=Far.below b06 g7 hg (Nat.le_refl _);have RD:=Hz (z1r (c:=c7) (n:=n) o7.reads HY8.out (by omega));have r6:=o6.kept g7 (.inr (z2x o6 s6));clear T2 LF g7 b06 o7 s6 s7 o6
    go_wp2_with fail
    refine RD.out.mono ?_;rintro e w8 ⟨o2,hd,h8⟩;have HK:=MK.out o2 hd
    cases o2 with
    |none=>
     obtain⟨rfl,b8⟩:=h8
     go_wp2_with fail
     go_ret2
     refine⟨none,?_,rfl,New.trans b07 b8⟩;simpa[qas] using HK
    |some P=>
     obtain⟨A8,n8,c8,rfl,o8,b8⟩:=h8;have b08:=New.trans b07 b8;have r8:=zau r6 b8;obtain⟨d1,d2,d3,-⟩:=(hd P).1 rfl
     have hn8:n8=P.length:=by have:=o8.len;rwa[zaa] at this
     have IO:=Hz (zwz (c:=c8) (m:=cnt) o8.reads d3 (by omega) (by omega));have HN8:=Hz hn8;have HD1:=Hz d1;have HD2:=Hz d2;clear RD b07 b8 r6 hd hn8 d1 d2
     go_wp2_with fail
     refine IO.out.mono ?_;rintro e w8' ⟨rfl,rfl⟩;by_cases hor:ordL P=some cnt
     ·have e2:decide (ordL P=some cnt)=true:=decide_eq_true hor
      have HK:Hid (IsDic t b n (some (P.map fun p=>E.getD p zfo))):=Hz (by
       have:=HK;unfold qas at this;dsimp only at this
       rwa[if_pos ⟨HND.out,hor⟩] at this)
      have hlt:=zr4 P cnt hor;have HLT:=Hz hlt;have hz8:=b08.size;have hn8:=HN8.out;have d1:=HD1.out;have d2:=HD2.out;obtain⟨N,rfl⟩:∃N:Nat,n=(N:Int):=⟨P.length,d1.symm⟩
      obtain rfl:n8=N:=by omega
      have RE:=Hz (Reads.of_own r8);have RP:=Hz o8.reads;have HPl:=Hz hn8.symm
      have hn8b:n8≤65536:=by omega
      clear IO hor hlt r8 o8 d1 d2 d3 hn8 MK HN8 HD1 HD2;rw[e2]
      go_wp2_with (refine zet qff rfl (.tmp 63) (.tmp 63) rfl (W:=w) (B:=w.heap.size) n8 rfl rfl rfl rfl b08 hz8 (by omega) (by simp only[maxLen];omega) ?_
                   intro w9 o9 g9 b9 hs9)
      rw[zg3] at o9;have b89:New w8 w9:=(Turns.of_none (T:=[]) g9).new (by simp)
      go_loopw [67] (fun i wr=>∃k:Nat,k≤n8∧i= .int .i64 (k:Int)∧wr.ownsRow w8.heap.size 61 5 (.slice (some ⟨w8.heap.size,0,none⟩) n8 n8) n8 (recs zak ((P.take k).map (fun p=>E.getD p zfo)++List.replicate (n8-k) zay))∧New w8 wr) (fun i _=>n8-(intOf i).toNat)
      case atStart=>exact⟨0,Nat.zero_le _,rfl,by simpa using o9,b89⟩
      case round=>
       obtain⟨k,hk,rfl,o,hb⟩:=hrel;clear o9 g9 b9 b89 hs9;by_cases hlt:k<n8
       ·obtain⟨ax,rfl,hbx,qx⟩:=(Reads.later RP.out hb).num (i:=k) hlt
        have hxl:=HLT.out (P.getD k 0) (by rw[List.getD_eq_getElem?_getD,List.getElem?_eq_getElem (by rw[HPl.out];exact hlt)];exact List.getElem_mem _);have htk:=zad P k 0 (by rw[HPl.out];exact hlt)
        have hA:((P.take k).map (fun p=>E.getD p zfo)).length=k:=by rw[List.length_map,List.length_take,HPl.out];omega
        rw[show n8-k=(n8-(k+1))+1 by omega,List.replicate_succ] at o
        have enx:recs zak ((P.take k).map (fun p=>E.getD p zfo)++E.getD (P.getD k 0) zfo::List.replicate (n8-(k+1)) zay)=recs zak ((P.take (k+1)).map (fun p=>E.getD p zfo)++List.replicate (n8-(k+1)) zay):=by
         rw[htk,List.map_append,List.append_assoc];rfl
        obtain⟨ae,rfl,hbe,q0,q1,q2,q3,q4⟩:=(Reads.later RE.out hb).cell5 (i:=P.getD k 0) hxl;have HN:=Hz enx;clear enx htk;generalize P.getD k 0=x at*;generalize E.getD x zfo=y at*;obtain⟨y0,y1,y2,y3,y4⟩:=y;dsimp only at q0 q1 q2 q3 q4
        have ead:(⟨w8.heap.size,0,none⟩:Addr).add (k*5)=⟨w8.heap.size,k*5,none⟩:=by
         unfold Addr.add;split<;> simp_all
        have HO:=Hz o;have HA:=Hz hA;clear o hA
        go_wp2_with (refine zvs rfl 61 (.tmp 78) (.tmp 77) rfl (new:=(y0,y1,y2,y3,y4)) HO.out HA.out hlt rfl rfl (by kernel_rfl) ?_
                     intro W5 o5 g5;rw[HN.out] at o5
                     have hb5:=Far.below hb g5 (Nat.le_refl _) (Nat.le_refl _))
        go_roundw
        case rel=>exact⟨k+1,by omega,by go_num,o5,hb5⟩
        case measure=>simp[intOf];omega
       ·have hkk:k=n8:=by omega
        subst hkk;rw[Nat.sub_self,List.replicate_zero,List.append_nil,show P.take k=P from List.take_of_length_le (by rw[HPl.out];exact Nat.le_refl _)] at o
        go_wp2_with fail
        go_ret2
        exact⟨_,HK.out,_,_,_,rfl,zbd o hz8,New.trans b08 hb⟩
     ·have e2:decide (ordL P=some cnt)=false:=decide_eq_false hor
      rw[e2]
      go_wp2_with fail
      go_ret2
      refine⟨none,?_,rfl,b08⟩;unfold qas at HK;dsimp only at HK;rwa[if_neg (fun h=>hor h.2)] at HK
   ·have e1:decide E.Nodup=false:=decide_eq_false hnd
    rw[e1]
    go_wp2_with fail
    go_ret2
    obtain⟨o2,hd⟩:=zkz (b:=y) (n:=n);have HK:=MK.out o2 hd;refine⟨none,?_,rfl,b06⟩;unfold qas at HK
    cases o2 with
    |none=>exact HK
    |some P=>
     dsimp only at HK;rwa[if_neg (fun h=>hnd h.1)] at HK
end Go.Proofs.YtmgfkpnghlmheaaGreat
