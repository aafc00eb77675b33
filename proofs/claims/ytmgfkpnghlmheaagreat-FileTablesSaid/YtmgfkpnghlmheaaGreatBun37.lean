/- Merged. -/
import Derived.Test.YtmgfkpnghlmheaaGreatBun24
import Derived.Test.YtmgfkpnghlmheaaGreatBun35
set_option maxHeartbeats 8000000
namespace Go.Proofs.Y
open Go.RowKit Go.Hm
theorem zvv{A B:List zab}{z:Int}:(recs zam (A++zaz::B)).set (A.length*5+1) (.int .i64 z)=recs zam (A++zin z::B):=by have l:(recs zam A).length=A.length*5:=zar (sz:=5) (fun _=>rfl) A;rw[zaw,zaw,List.set_append_right _ _ (by omega),l,show A.length*5+1-A.length*5=1 by omega];congr 1
theorem z7s{A B:List zab}{s:List Nat}:(recs zam (A++zaz::B)).set (A.length*5+2) (.string (zad s))=recs zam (A++zfl s::B):=by have l:(recs zam A).length=A.length*5:=zar (sz:=5) (fun _=>rfl) A;rw[zaw,zaw,List.set_append_right _ _ (by omega),l,show A.length*5+2-A.length*5=2 by omega];congr 1
def OptCX(o:Option (List zab))(w:World)(e:Ending)(w':World):Prop:=
 match o with
 |none=>(∃v,e= .returned (.tuple #[v,.bool false]))/\New w w'
 |some l=>∃A n c,e= .returned (.tuple #[.slice A n c,.bool true])/\w'.ownsRow w.heap.size 61 5 (.slice A n c) n (recs zam l)/\New w w'
theorem OptC.x{o:Option (List zab)}{w w':World}{e:Ending}(h:OptC o w e w'):OptCX o w e w':=by
 cases o with
 |none=>exact⟨⟨_,h.1⟩,h.2⟩
 |some l=>exact h
def z2y(t e:Int)(b:List Nat)(n:Int)(w:World)(en:Ending)(w':World):Prop:=∃o,IsVal t e b n o/\OptCX o w en w'
theorem z7t{l:List Nat}{i:Nat}(h:i<l.length):l.getD i 0∈l:=by rw[List.getD_eq_getElem?_getD,List.getElem?_eq_getElem h];exact List.getElem_mem h
set_option maxRecDepth 100000 in
theorem zqk{w:World}{t:Int}{A:Option Addr}{c:Nat}{b:List Nat}{n:Int}(ht:t=0\/t=1)(h:Reads w w.heap.size 1 A b.length (za3 .u8 b))(h8:∀x∈b,x<256)(hb:b.length<=140737488355200):
 Calls Tryz.prog 185 #[.int .i64 t,.slice A b.length c,.int .i64 n] w (z2y t 2 b n w):=by
 have D:Hid (Calls Tryz.prog 208 #[.slice A b.length c,.int .i64 n] w (DecPost b n w)):=Hz (by
  by_cases hf:n<0\/65536<n
  ·exact zqy hf
  ·obtain⟨n,rfl⟩:=Int.eq_ofNat_of_zero_le (show 0<=n by omega)
   exact zqz h h8 hb (by omega))
 have IV:=Hz (fun o (q:IsDec b n o)=>zq6 ht q);have HD:Hid (∀m,IsDec b n (some m)->(m.length:Int)=n/\m.length<=65536/\ ∀x∈m,x<=18446744073709551615):=Hz (fun m q=>by obtain⟨q1,q2,q3,-⟩:=(q m).1 rfl;exact⟨q1,q2,q3⟩);clear h h8;go_enter Tryz.func185,Tryz.ntmps185
 go_wp2_with fail
 refine D.out.mono ?_;rintro e w1 ⟨o,hI,hO⟩;have HV:=Hz (IV.out o hI);clear D IV;cases o with
 |none=>
  obtain⟨rfl,b1⟩:=hO;go_wp2
  go_ret2
  exact⟨none,HV.out,⟨_,rfl⟩,b1⟩
 |some l=>
  obtain⟨hln,hl6,hw⟩:=HD.out l hI;obtain⟨A1,n1,c1,rfl,k1,b1⟩:=hO;obtain rfl:n1=l.length:=by have:=k1.len;rwa[zaa] at this
  have R1:=Hz k1.reads;have HW:=Hz hw;subst hln;clear k1 hI HD hw;have hz1:=b1.size
  go_wp2_with (refine zes qfi rfl (.tmp 21) (.tmp 21) rfl (W:=w) (B:=w.heap.size) l.length rfl rfl rfl rfl b1 hz1 (by omega) (by simp only[maxLen];omega) ?_
               intro w2 o2 g2 b2 hs2)
  rw[zg6] at o2;have b12:New w1 w2:=(Turns.of_none (T:=[]) g2).new (by simp);go_loopw [25] (fun i wr=>∃k:Nat,k<=l.length/\i= .int .i64 (k:Int)/\wr.ownsRow w1.heap.size 61 5 (.slice (some ⟨w1.heap.size,0,none⟩) l.length l.length) l.length (recs zam ((l.take k).map (fun x=>zin (zag x))++List.replicate (l.length-k) zaz))/\New w1 wr) (fun i _=>l.length-(intOf i).toNat)
  case atStart=>exact⟨0,Nat.zero_le _,rfl,by simpa using o2,b12⟩
  case round=>
   obtain⟨k,hk,rfl,o,hb⟩:=hrel;clear o2 g2 b2 b12 hs2;by_cases hlt:k<l.length
   ·obtain⟨ax,rfl,hbx,qx⟩:=(Reads.later R1.out hb).num (i:=k) hlt
    have htk:=zae l k 0 hlt;have hx8:=HW.out _ (z7t hlt);generalize l.getD k 0=x at*;have ZG:=Hz (fun W=>zn7 x W (by omega));obtain⟨ad,ea,_,p0,p1,p2,p3,p4⟩:=(Reads.of_own o).cell5 (i:=k) hlt;injection ea with ea;subst ea;obtain⟨cs,BR⟩:=zih o;have f1:=BR.frozen (k*5+1);have ead:(⟨w1.heap.size,0,none⟩:Addr).add (k*5)=⟨w1.heap.size,k*5,none⟩:=by unfold Addr.add;split<;> simp_all
    rw[ead] at p1;dsimp only at p1;have hA:((l.take k).map (fun x=>zin (zag x))).length=k:=by rw[List.length_map,List.length_take];omega
    obtain⟨o',-⟩:=World.ownsRow.stored o (k*5+1) (.int .i64 (zag x));have ers:=zvv (A:=(l.take k).map (fun x=>zin (zag x))) (B:=List.replicate (l.length-(k+1)) zaz) (z:=zag x);rw[hA] at ers;rw[show l.length-k=(l.length-(k+1))+1 by omega,List.replicate_succ,ers] at o';have o':(wr.setCell ⟨w1.heap.size,k*5+1,none⟩ (.int .i64 (zag x))).ownsRow w1.heap.size 61 5 (.slice (some ⟨w1.heap.size,0,none⟩) l.length l.length) l.length (recs zam ((l.take (k+1)).map (fun x=>zin (zag x))++List.replicate (l.length-(k+1)) zaz)):=by rw[htk,List.map_append,List.append_assoc];exact o'
    have O':=Hz o';have HB:=Hz (hb.setCell (p:=⟨w1.heap.size,k*5+1,none⟩) (Nat.le_refl _) (.int .i64 (zag x)));clear o' ers o htk hA BR;go_wp2_with fail
    refine(ZG.out _).mono ?_;rintro e w5 ⟨rfl,rfl⟩;go_wp2_with fail
    go_roundw
    case rel=>exact⟨k+1,by omega,by go_num,O'.out,HB.out⟩
    case measure=>simp[intOf];omega
   ·obtain rfl:k=l.length:=by omega
    rw[Nat.sub_self,List.replicate_zero,List.append_nil,List.take_length] at o;have b00:=New.trans b1 hb;have hcz:l.map (fun x=>zin (zag x))=zh6 l:=rfl;rw[hcz] at o;have HCD:Hid (∀c∈zh6 l,zai c):=Hz (fun c hc=>by obtain⟨x,hx,rfl⟩:=List.mem_map.1 hc;exact⟨⟨by simp[zin],by simp[zin]⟩,zyu (by have:=HW.out x hx;omega)⟩)
    have RI:=Hz (zhd (t:=t) (c:=l.length) (Reads.of_own o) HCD.out (by omega));have hpo:zhs t (zh6 l)=(zh6 l).all fun c=>zac c t false:=by
     unfold zhs;have h3:(zh6 l).length=l.length:=by unfold zh6;rw[List.length_map]
     rw[h3,decide_eq_true (by omega),Bool.true_and]
    rw[hpo] at RI;have hV:=HV.out;unfold qif at hV;dsimp only at hV;have HV2:=Hz hV;generalize(zh6 l).all (fun c=>zac c t false)=rb at*;clear hV HV hcz hpo HCD;go_wp2_with fail
    refine RI.out.mono ?_;rintro e w7 ⟨rfl,b7⟩;have o7:=zau o b7;cases rb with
    |false=>
     go_wp2_with fail
     go_ret2
     exact⟨none,HV2.out,⟨_,rfl⟩,New.trans b00 b7⟩
    |true=>
     go_wp2_with fail
     go_ret2
     exact⟨some (zh6 l),HV2.out,_,_,_,rfl,zbd o7 hz1,New.trans b00 b7⟩
set_option maxRecDepth 100000 in
theorem zql{w:World}{A:Option Addr}{c:Nat}{b:List Nat}{n:Int}(h:Reads w w.heap.size 1 A b.length (za3 .u8 b))(h8:∀x∈b,x<256)(hb:b.length<=140737488355200):
 Calls Tryz.prog 187 #[.int .i64 0,.slice A b.length c,.int .i64 n] w (z2y 0 3 b n w):=by
 have D:=Hz (ziy (c:=c) (n:=n) h h8 hb);have IV:=Hz (fun o (q:IsDel b n o)=>zq7 q);have HD:Hid (∀m,IsDel b n (some m)->(m.length:Int)=n/\m.length<=65536):=Hz (fun m q=>by obtain⟨q1,q2,-⟩:=q.sound m rfl;exact⟨q1,zf8 q2⟩);clear h h8;go_enter Tryz.func187,Tryz.ntmps187
 go_wp2_with fail
 refine D.out.mono ?_;rintro e w1 ⟨o,hI,hO⟩;have HV:=Hz (IV.out o hI);clear D IV;cases o with
 |none=>
  obtain⟨rfl,b1⟩:=hO;go_wp2
  go_ret2
  exact⟨none,HV.out,⟨_,rfl⟩,b1⟩
 |some l=>
  obtain⟨hln,hl6⟩:=HD.out l hI;obtain⟨A1,n1,c1,rfl,k1,b1⟩:=hO;obtain rfl:n1=l.length:=by have:=k1.len;rwa[zcw] at this
  have R1:=Hz k1.reads;subst hln;clear k1 hI HD;have hz1:=b1.size
  go_wp2_with (refine zes qfi rfl (.tmp 28) (.tmp 28) rfl (W:=w) (B:=w.heap.size) l.length rfl rfl rfl rfl b1 hz1 (by omega) (by simp only[maxLen];omega) ?_
               intro w2 o2 g2 b2 hs2)
  rw[zg6] at o2;have b12:New w1 w2:=(Turns.of_none (T:=[]) g2).new (by simp);go_loopw [32] (fun i wr=>∃k:Nat,k<=l.length/\i= .int .i64 (k:Int)/\wr.ownsRow w1.heap.size 61 5 (.slice (some ⟨w1.heap.size,0,none⟩) l.length l.length) l.length (recs zam ((l.take k).map zin++List.replicate (l.length-k) zaz))/\New w1 wr) (fun i _=>l.length-(intOf i).toNat)
  case atStart=>exact⟨0,Nat.zero_le _,rfl,by simpa using o2,b12⟩
  case round=>
   obtain⟨k,hk,rfl,o,hb⟩:=hrel;clear o2 g2 b2 b12 hs2;by_cases hlt:k<l.length
   ·obtain⟨ax,rfl,hbx,qx⟩:=(Reads.later R1.out hb).int (i:=k) hlt
    have htk:=zae l k 0 hlt;generalize l.getD k 0=x at*;obtain⟨ad,ea,_,p0,p1,p2,p3,p4⟩:=(Reads.of_own o).cell5 (i:=k) hlt;injection ea with ea;subst ea;obtain⟨cs,BR⟩:=zih o;have f1:=BR.frozen (k*5+1);have ead:(⟨w1.heap.size,0,none⟩:Addr).add (k*5)=⟨w1.heap.size,k*5,none⟩:=by unfold Addr.add;split<;> simp_all
    rw[ead] at p1;dsimp only at p1;have hA:((l.take k).map zin).length=k:=by rw[List.length_map,List.length_take];omega
    obtain⟨o',-⟩:=World.ownsRow.stored o (k*5+1) (.int .i64 x);have ers:=zvv (A:=(l.take k).map zin) (B:=List.replicate (l.length-(k+1)) zaz) (z:=x);rw[hA] at ers;rw[show l.length-k=(l.length-(k+1))+1 by omega,List.replicate_succ,ers] at o';have o':(wr.setCell ⟨w1.heap.size,k*5+1,none⟩ (.int .i64 x)).ownsRow w1.heap.size 61 5 (.slice (some ⟨w1.heap.size,0,none⟩) l.length l.length) l.length (recs zam ((l.take (k+1)).map zin++List.replicate (l.length-(k+1)) zaz)):=by rw[htk,List.map_append,List.append_assoc];exact o'
    have O':=Hz o';have HB:=Hz (hb.setCell (p:=⟨w1.heap.size,k*5+1,none⟩) (Nat.le_refl _) (.int .i64 x));clear o' ers o htk hA BR;go_wp2_with fail
    go_roundw
    case rel=>exact⟨k+1,by omega,by go_num,O'.out,HB.out⟩
    case measure=>simp[intOf];omega
   ·obtain rfl:k=l.length:=by omega
    rw[Nat.sub_self,List.replicate_zero,List.append_nil,List.take_length] at o;have b00:=New.trans b1 hb;go_wp2_with fail
    go_ret2
    exact⟨some (l.map zin),HV.out,_,_,_,rfl,zbd o hz1,b00⟩
set_option maxRecDepth 100000 in
theorem zpp{w:World}{A:Option Addr}{c:Nat}{b:List Nat}{n:Int}(h:Reads w w.heap.size 1 A b.length (za3 .u8 b))(h8:∀x∈b,x<256)(hb:b.length<=140737488355200)(hn:zew n):
 Calls Tryz.prog 189 #[.int .i64 2,.slice A b.length c,.int .i64 n] w (z2y 2 4 b n w):=by
 have D:=Hz (qcj (c:=c) (m:=n) h h8 (by omega) hn.1 hn.2);have IV:=Hz (zq8 (n:=n) h8);have HD:Hid (∀m,ztu b n=some m->(m.length:Int)=n/\m.length<=65536):=Hz (fun m q=>by have h3:=qdv (n:=n) h8;rw[q] at h3;exact⟨((znd h8).1 q).1,h3.2.1⟩)
 clear h h8;generalize ztu b n=o at*;go_enter Tryz.func189,Tryz.ntmps189
 go_wp2_with fail
 refine D.out.mono ?_;intro e w1 hO;clear D;cases o with
 |none=>
  obtain⟨rfl,b1⟩:=hO;go_wp2
  go_ret2
  exact⟨none,IV.out,⟨_,rfl⟩,b1⟩
 |some l=>
  obtain⟨hln,hl6⟩:=HD.out l rfl;obtain⟨A1,n1,c1,rfl,k1,b1⟩:=hO;obtain rfl:n1=l.length:=by have:=k1.len;rwa[zeq] at this
  have R1:=Hz k1.reads;subst hln;clear k1 HD;have hz1:=b1.size
  go_wp2_with (refine zes qfi rfl (.tmp 21) (.tmp 21) rfl (W:=w) (B:=w.heap.size) l.length rfl rfl rfl rfl b1 hz1 (by omega) (by simp only[maxLen];omega) ?_
               intro w2 o2 g2 b2 hs2)
  rw[zg6] at o2;have b12:New w1 w2:=(Turns.of_none (T:=[]) g2).new (by simp);go_loopw [25] (fun i wr=>∃k:Nat,k<=l.length/\i= .int .i64 (k:Int)/\wr.ownsRow w1.heap.size 61 5 (.slice (some ⟨w1.heap.size,0,none⟩) l.length l.length) l.length (recs zam ((l.take k).map zfl++List.replicate (l.length-k) zaz))/\New w1 wr) (fun i _=>l.length-(intOf i).toNat)
  case atStart=>exact⟨0,Nat.zero_le _,rfl,by simpa using o2,b12⟩
  case round=>
   obtain⟨k,hk,rfl,o,hb⟩:=hrel;clear o2 g2 b2 b12 hs2;by_cases hlt:k<l.length
   ·obtain⟨ax,rfl,hbx,qx⟩:=(Reads.later R1.out hb).str (i:=k) hlt
    have htk:=zae l k [] hlt;generalize l.getD k []=x at*;obtain⟨ad,ea,_,p0,p1,p2,p3,p4⟩:=(Reads.of_own o).cell5 (i:=k) hlt;injection ea with ea;subst ea;obtain⟨cs,BR⟩:=zih o;have f1:=BR.frozen (k*5+2);have ead:(⟨w1.heap.size,0,none⟩:Addr).add (k*5)=⟨w1.heap.size,k*5,none⟩:=by unfold Addr.add;split<;> simp_all
    rw[ead] at p2;dsimp only at p2;have hA:((l.take k).map zfl).length=k:=by rw[List.length_map,List.length_take];omega
    obtain⟨o',-⟩:=World.ownsRow.stored o (k*5+2) (.string (zad x));have ers:=z7s (A:=(l.take k).map zfl) (B:=List.replicate (l.length-(k+1)) zaz) (s:=x);rw[hA] at ers;rw[show l.length-k=(l.length-(k+1))+1 by omega,List.replicate_succ,ers] at o';have o':(wr.setCell ⟨w1.heap.size,k*5+2,none⟩ (.string (zad x))).ownsRow w1.heap.size 61 5 (.slice (some ⟨w1.heap.size,0,none⟩) l.length l.length) l.length (recs zam ((l.take (k+1)).map zfl++List.replicate (l.length-(k+1)) zaz)):=by rw[htk,List.map_append,List.append_assoc];exact o'
    have O':=Hz o';have HB:=Hz (hb.setCell (p:=⟨w1.heap.size,k*5+2,none⟩) (Nat.le_refl _) (.string (zad x)));clear o' ers o htk hA BR;go_wp2_with fail
    go_roundw
    case rel=>exact⟨k+1,by omega,by go_num,O'.out,HB.out⟩
    case measure=>simp[intOf];omega
   ·obtain rfl:k=l.length:=by omega
    rw[Nat.sub_self,List.replicate_zero,List.append_nil,List.take_length] at o;have b00:=New.trans b1 hb;go_wp2_with fail
    go_ret2
    exact⟨some (l.map zfl),IV.out,_,_,_,rfl,zbd o hz1,b00⟩
end Go.Proofs.Y
namespace Go.Hm
open Go Go.RowKit
section
variable{P:Program}{ops:Array Oper}{rest:List Oper}{o:Oper}{a:Act}{Q:Exit->Act->World->Prop}
theorem zvw{w:World}(hgd:o.guard=none)(ty:TypeId)(x y:Operand)(ho:o.op= .store ty x y)
 {base:Nat}{e:TypeId}{g n m:Nat}{A B:List zab}{s:Int × Int}(hown:w.ownsRow base e 5 (.slice (some ⟨g,0,none⟩) n n) n (recs zam (A++zaz::B)))(hm:A.length=m)(hmn:m<n)
 (hx:a.eval x= .pointer (some ⟨g,m*5+3,none⟩))(hy:a.eval y= .agg #[.int .i64 s.1,.int .i64 s.2])(hi:(P.info? ty).map (·.size)=some 2)
 (h:∀W,W.ownsRow base e 5 (.slice (some ⟨g,0,none⟩) n n) n (recs zam (A++(false,0,[],s.1,s.2)::B))->w.grownBy W (some g)->wpList P ops Q rest (a.put o.dst undef) W):wpList P ops Q (o::rest) a w:=by
 obtain⟨cs,hB⟩:=zih hown;obtain⟨ad,ea,-,c0,c1,c2,c3,c4⟩:=(Reads.of_own hown).cell5 (i:=m) hmn;injection ea with ea;subst ea;have ead:(⟨g,0,none⟩:Addr).add (m*5)=⟨g,m*5,none⟩:=by unfold Addr.add;split<;> simp_all
 rw[ead] at c3 c4;dsimp only at c3 c4;have ht:w.there g (m*5+3) (#[Value.int .i64 s.1,.int .i64 s.2]:Array Value).size:=by
  intro j hj;have hj:j<2:=hj;refine⟨?_,hB.frozen _⟩;have:j=0\/j=1:=by omega
  rcases this with rfl|rfl
  ·rw[Nat.add_zero,c3];rfl
  ·rw[Nat.add_assoc,c4];rfl
 refine wpList_store_mid hgd ty x y ho g (m*5+3) #[.int .i64 s.1,.int .i64 s.2] hx hy ht hi (by simp[Value.oneCell']) ?_;obtain⟨o1,g1⟩:=World.ownsRow.stored hown (m*5+3) (.int .i64 s.1);obtain⟨o2,g2⟩:=World.ownsRow.stored o1 (m*5+3+1) (.int .i64 s.2);have hl:(recs zam A).length=m*5:=by rw[zar (sz:=5) (fun _=>rfl) A,hm]
 have e2:((recs zam (A++zaz::B)).set (m*5+3) (.int .i64 s.1)).set (m*5+3+1) (.int .i64 s.2)=recs zam (A++(false,0,[],s.1,s.2)::B):=by rw[zaw,zaw,List.set_append_right _ _ (by omega),List.set_append_right _ _ (by omega),hl,show m*5+3-m*5=3 by omega,show m*5+3+1-m*5=4 by omega];rfl
 rw[e2] at o2;exact h _ o2 (g1.trans g2)
end
end Go.Hm
namespace Go.Proofs.Y
open Go.RowKit Go.Hm
theorem OptI.u{o:Option (List Int)}{w w':World}{e:Ending}(h:OptI o w e w'):
 ∃A n c,e= .returned (.tuple #[.slice A n c,.bool o.isSome])/\Go.Hm.Own w' w.heap.size 3 (.slice A n c) (zep .i64 (o.getD []))/\New w w':=by
 cases o with
 |none=>exact⟨none,0,0,h.1,Own.nil_,h.2⟩
 |some l=>exact h
theorem zpq(S:St):(zbt ((S.getD []).length:Int) S).1=S.getD []/\(zbt ((S.getD []).length:Int) S).2.isNone=S.isNone:=by
 cases S with
 |none=>exact⟨rfl,rfl⟩
 |some r=>
  have:=zdf r [];rw[List.append_nil] at this;simp only[Option.getD_some];rw[this];exact⟨rfl,rfl⟩
set_option maxRecDepth 100000 in
theorem zm5{w:World}{A:Option Addr}{c:Nat}{b:List Nat}{n:Int}(h:Reads w w.heap.size 1 A b.length (za3 .u8 b))(h8:∀x∈b,x<256)(hb:b.length<=140737488351232):
 Calls Tryz.prog 214 #[.slice A b.length c,.int .i64 n] w (z2y 3 3 b n w):=by
 have C:=Hz (zfa (c:=c) h (by omega) h8);have hok:St.ok (some b):=St.ok_some h8;obtain⟨sz,S1,k1⟩:∃sz S1,lenS (b.length:Int) (some b)=(sz,S1):=⟨_,_,rfl⟩;have hok1:S1.ok:=by have:=za6 (m:=(b.length:Int)) hok;rwa[k1] at this
 obtain⟨x,S2,k2⟩:∃x S2,zbt (sz:Int) S1=(x,S2):=⟨_,_,rfl⟩;have htk:=zcq (n:=(sz:Int)) hok1;rw[k2] at htk;obtain⟨hy1,hy2⟩:=zpq S2;have hs1:(S1.getD []).length<=b.length:=by have:=zc5 (m:=(b.length:Int)) hok;rwa[k1] at this
 have hs2:(S2.getD []).length<=(S1.getD []).length:=by have:=zg3 (n:=(sz:Int)) S1;rwa[k2] at this
 have hszl:(sz:Int)<=(b.length:Int):=by have:=zb1 (m:=(b.length:Int)) (some b) (by omega) hok;rwa[k1] at this
 have hxl:x.length<=b.length:=by have:=zeh (n:=(sz:Int)) (S:=S1) (by omega);rw[k2] at this;dsimp only at this;omega
 have MK:=Hz (fun ox oy (hx:IsDel x n ox) (hy:IsDel (S2.getD []) n oy)=>zuz h8 (by omega) k1 k2 rfl hx hy);have HX8:=Hz htk.2;have hok2:S2.ok:=htk.1;have HY8:Hid (∀z∈S2.getD [],z<256):=Hz (fun z hz=>by
  cases S2 with
  |none=>cases hz
  |some r=>exact hok2 r rfl z hz)
 have HWS:=Hz (fun(X Y:List Int) P (e:X.length=Y.length) (q:zfy (0,0) (X.zip Y)=some P)=>(zlv X Y (0,0) P e q).1);clear hok hok1 htk h h8 hok2;go_enter Tryz.func214,Tryz.ntmps214
 go_wp2_with fail
 refine C.out.mono ?_;rintro e w1 ⟨g,rfl,hg,C1,b1⟩;have s1:=CurS.of C1;have LF:=Hz (zud s1);have L1:=zb9 (m:=(b.length:Int)) s1 (by omega) (by omega);rw[k1] at L1;replace L1:=Hz L1;unfold ze9 at LF;simp only[Option.getD_some] at LF;clear C C1 s1;go_wp2_with fail
 refine LF.out.mono ?_;rintro e w1' ⟨rfl,rfl⟩;go_wp2_with fail
 refine L1.out.mono ?_;rintro e w2 ⟨rfl,s2,g2⟩;have b2:=Far.below b1 g2 hg (Nat.le_refl _);have T1:=zc8 (n:=(sz:Int)) s2 (by omega) (by omega);rw[k2] at T1;replace T1:=Hz T1;clear L1 LF g2 b1 s2;go_wp2_with fail
 refine T1.out.mono ?_;rintro e w3 ⟨A3,n3,c3,rfl,rfl,o3,s3,g3⟩;have b3:=Far.below b2 g3 hg (Nat.le_refl _);have D1:=Hz (ziy (c:=c3) (n:=n) o3.reads HX8.out (by omega));clear T1 g3 b2 o3;go_wp2_with fail
 refine D1.out.mono ?_;rintro e w4 ⟨ox,hx,h4⟩;obtain⟨A4,n4,c4,rfl,o4,b4⟩:=h4.u;obtain rfl:n4=(ox.getD []).length:=by have:=o4.len;rwa[zcw] at this
 have s4:=s3.below b4;have hz4:=b3.size;have o4:=o4.base_le (b':=w.heap.size) hz4;have b04:=New.trans b3 b4;have LF:=Hz (zud s4);have T2:=zc8 (n:=((S2.getD []).length:Int)) s4 (by omega) (by omega);rw[hy1] at T2;obtain⟨S3,hS3⟩:∃S3,S3=(zbt ((S2.getD []).length:Int) S2).2:=⟨_,rfl⟩;rw[<-hS3] at T2 hy2;replace T2:=Hz T2;unfold ze9 at LF;have HMK:=Hz (fun oy hy=>MK.out ox oy hx hy);have HXX:=Hz hx;clear D1 s3 b3 b4 hS3 hy1 h4 MK hx;generalize hY:S2.getD []=y at*;have hYl:y.length<=b.length:=by omega
 clear hY;go_wp2_with fail
 refine LF.out.mono ?_;rintro e w4' ⟨rfl,rfl⟩;go_wp2_with fail
 refine T2.out.mono ?_;rintro e w5 ⟨A5,n5,c5,rfl,rfl,o5,s5,g5⟩;have b5:=Far.below b04 g5 hg (Nat.le_refl _);have o4:=o4.kept g5 (.inr (zal o4 s4.blk.choose_spec (by decide)));have D2:=Hz (ziy (c:=c5) (n:=n) o5.reads HY8.out (by omega));clear T2 g5 b04 o5 LF s4;go_wp2_with fail
 refine D2.out.mono ?_;rintro e w6 ⟨oy,hy,h6⟩;obtain⟨A6,n6,c6,rfl,o6,b6⟩:=h6.u;obtain rfl:n6=(oy.getD []).length:=by have:=o6.len;rwa[zcw] at this
 have HV:=Hz (HMK.out oy hy);have s6:=s5.below b6;have BD:=Hz (zy5 s6);have o4:=o4.later b6;have b06:=New.trans b5 b6;rw[hy2] at BD;clear D2 HMK s5 b5 b6 h6 hy2;go_wp2_with fail
 refine BD.out.mono ?_;rintro e w6' ⟨rfl,rfl⟩;clear BD s6;cases S2 with
 |none=>
  have HN:Hid (IsVal 3 3 b n none):=Hz (by simpa[qfy] using HV.out);simp only[Option.isNone_none];go_wp2
  go_ret2
  exact⟨none,HN.out,⟨_,rfl⟩,b06⟩
 |some R=>
  simp only[Option.isNone_some];cases ox with
  |none=>
   have HN:Hid (IsVal 3 3 b n none):=Hz (by simpa[qfy] using HV.out);simp only[Option.isSome_none];go_wp2
   go_ret2
   exact⟨none,HN.out,⟨_,rfl⟩,b06⟩
  |some X=>
   cases oy with
   |none=>
    have HN:Hid (IsVal 3 3 b n none):=Hz (by simpa[qfy] using HV.out);simp only[Option.isSome_none,Option.isSome_some];go_wp2
    go_ret2
    exact⟨none,HN.out,⟨_,rfl⟩,b06⟩
   |some Y=>
    obtain⟨x1,x2,-⟩:=HXX.out.sound X rfl;obtain⟨y1,-,-⟩:=hy.sound Y rfl;have hX6:=zf8 x2;subst x1;have hYX:Y.length=X.length:=by omega
    simp only[Option.getD_some] at o4 o6;have hV:=HV.out;unfold qfy at hV;dsimp only at hV;have HV2:=Hz hV;have RX:=Hz o4.reads;have RY:=Hz o6.reads;simp only[Option.isSome_some,Option.getD_some];have hz6:=b06.size;clear HXX HV hy hV x2 y1 o4 o6;have hzl:(X.zip Y).length=X.length:=by rw[List.length_zip];omega
    have hzat:∀k,k<X.length->(X.zip Y).getD k (0,0)=(X.getD k 0,Y.getD k 0):=fun k hk=>by simp only[List.getD_eq_getElem?_getD];rw[List.getElem?_eq_getElem (by omega),List.getElem_zip,List.getElem?_eq_getElem hk,List.getElem?_eq_getElem (by omega)];rfl
    have HZ:=Hz hzat;have HZL:=Hz hzl;have HWS2:=Hz (HWS.out X Y);have HYX:=Hz hYX;clear hzat hzl HWS hYX
    go_wp2_with (refine zpm qgs rfl (.tmp 52) (.tmp 52) rfl (W:=w) (B:=w.heap.size) X.length rfl rfl rfl rfl b06 hz6 (by omega) (by simp only[maxLen];omega) ?_
                 intro w7 o7 g7 b7 hs7)
    rw[zrv] at o7;have b67:New w6 w7:=(Turns.of_none (T:=[]) g7).new (by simp);go_loopw [56] (fun i wr=>∃k:Nat,k<=X.length/\i= .int .i64 (k:Int)/\wr.ownsRow w6.heap.size 59 2 (.slice (some ⟨w6.heap.size,0,none⟩) X.length X.length) X.length (zcy ((X.zip Y).take k++List.replicate (X.length-k) (0,0)))/\New w6 wr) (fun i _=>X.length-(intOf i).toNat)
    case atStart=>exact⟨0,Nat.zero_le _,rfl,by simpa using o7,b67⟩
    case round=>
     clear o7 g7 b7 hs7 b67;obtain⟨k,hk,rfl,o,bw⟩:=hrel;by_cases hlt:k<X.length
     ·obtain⟨ax,hax,_,c0⟩:=(Reads.later RX.out bw).int hlt
      have hyx:=HYX.out;obtain⟨ay,hay,_,c1⟩:=(Reads.later RY.out bw).int (i:=k) (by omega);subst hax hay;have htk:=zae (X.zip Y) k (0,0) (by rw[HZL.out];exact hlt);rw[HZ.out k hlt] at htk;have hll:((X.zip Y).take k).length=k:=by rw[List.length_take,HZL.out];omega
      generalize X.getD k 0=px at*;generalize Y.getD k 0=py at*;rw[show X.length-k=(X.length-(k+1))+1 by omega,List.replicate_succ] at o;have ead:(⟨w6.heap.size,0,none⟩:Addr).add (k*2)=⟨w6.heap.size,k*2,none⟩:=by unfold Addr.add;split<;> simp_all
      have i1:(k:Int)<(X.length:Int):=by omega
      have i2:(k:Int)<(Y.length:Int):=by omega
      have HTK:=Hz htk;have HLL:=Hz hll;have HO:=Hz (show wr.drew.ownsRow w6.heap.size 59 2 (.slice (some ⟨w6.heap.size,0,none⟩) X.length X.length) X.length (zcy ((X.zip Y).take k++(0,0)::List.replicate (X.length-(k+1)) (0,0))) from o);have bw2:=New.trans bw (New.drew wr);have HBW:=Hz bw2;clear o bw bw2 htk hll hyx;go_wp2
      go_still_tail 12,(by kernel_rfl)
      change wpList _ _ _ _ _ wr.drew
      generalize wr.drew=wd at*
      go_wp2_with (refine zmw rfl 59 (.tmp 70) (.tmp 69) rfl (new:=(px,py)) HO.out HLL.out hlt rfl rfl (by kernel_rfl) ?_
                   intro w9 o9 g9)
      have b9:=Far.below HBW.out g9 (Nat.le_refl _) (Nat.le_refl _);have o9:w9.ownsRow w6.heap.size 59 2 (.slice (some ⟨w6.heap.size,0,none⟩) X.length X.length) X.length (zcy ((X.zip Y).take (k+1)++List.replicate (X.length-(k+1)) (0,0))):=by rw[HTK.out,List.append_assoc];exact o9
      go_roundw
      case rel=>exact⟨k+1,by omega,by go_num,o9,b9⟩
      case measure=>simp[intOf];omega
     ·obtain rfl:k=X.length:=by omega
      rw[List.take_of_length_le (by rw[HZL.out];exact Nat.le_refl _),Nat.sub_self,List.replicate_zero,List.append_nil] at o;have PW:=Hz (z7l (c:=X.length) (Reads.of_own o) (by omega));have hws:=HWS2.out;have b0w:=New.trans b06 bw;generalize zfy (0,0) (X.zip Y)=O at*;clear o bw RX RY b06 hlt HWS2;go_wp2_with fail
      refine PW.out.mono ?_;rintro e w8 ⟨A8,n8,c8,rfl,o8,b8⟩;have b08:=New.trans b0w b8;have hz8:=b0w.size;cases O with
      |none=>
       have HN:Hid (IsVal 3 3 b (X.length:Int) none):=Hz HV2.out;simp only[Option.isSome_none];go_wp2
       go_ret2
       exact⟨none,HN.out,⟨_,rfl⟩,b08⟩
      |some p=>
       have hpl:p.length=X.length:=hws p HYX.out.symm rfl;simp only[Option.getD_some] at o8;obtain rfl:n8=p.length:=(Reads.of_own o8).lenP;rw[<-hpl];have R8:=Hz (Reads.of_own o8);have hp6:p.length<=65536:=by omega
       have hzz:=b08.size;simp only[Option.isSome_some];clear hws o8 PW HZ HZL HYX hpl b8 b0w
       go_wp2_with (refine zes qfi rfl (.tmp 79) (.tmp 79) rfl (W:=w) (B:=w.heap.size) p.length rfl rfl rfl rfl b08 hzz (by omega) (by simp only[maxLen];omega) ?_
                    intro w9 o9 g9 b9 hs9)
       rw[zg6] at o9;have b89:New w8 w9:=(Turns.of_none (T:=[]) g9).new (by simp);go_loopw [83] (fun i wr=>∃k:Nat,k<=p.length/\i= .int .i64 (k:Int)/\wr.ownsRow w8.heap.size 61 5 (.slice (some ⟨w8.heap.size,0,none⟩) p.length p.length) p.length (recs zam ((p.take k).map cPt++List.replicate (p.length-k) zaz))/\New w8 wr) (fun i _=>p.length-(intOf i).toNat)
       case atStart=>exact⟨0,Nat.zero_le _,rfl,by simpa using o9,b89⟩
       case round=>
        clear o9 g9 b9 hs9 b89;obtain⟨k,hk,rfl,o,bw⟩:=hrel;by_cases hlt:k<p.length
        ·obtain⟨ax,hax,_,d0,d1⟩:=(Reads.later R8.out bw).pair hlt
         subst hax;have d2:wr.cell? ⟨(ax.add (k*2)).block,(ax.add (k*2)).off+1,none⟩=some (.int .i64 (p.getD k (0,0)).2):=by rw[<-za8] at d1;exact d1
         have htk:=zae p k (0,0) hlt;have hll:((p.take k).map cPt).length=k:=by rw[List.length_map,List.length_take];omega
         generalize p.getD k (0,0)=q at*;obtain⟨qx,qy⟩:=q;dsimp only at d0 d1 d2;rw[show p.length-k=(p.length-(k+1))+1 by omega,List.replicate_succ] at o;have ead:(⟨w8.heap.size,0,none⟩:Addr).add (k*5)=⟨w8.heap.size,k*5,none⟩:=by unfold Addr.add;split<;> simp_all
         have i1:(k:Int)<(p.length:Int):=by omega
         have b2:New wr (wr.alloc (.cells #[.int .i64 qx,.int .i64 qy] 59)):=(Below.refl _ _).alloc (Nat.le_refl _) _;have B2:=Blk.new wr 59 #[.int .i64 qx,.int .i64 qy];have HO:=Hz (zau o b2);have HBW:=Hz (New.trans bw b2);obtain⟨p0,p1⟩:=zbe B2;have HTK:=Hz htk;have HLL:=Hz hll;clear o bw b2 B2 htk hll d1
         go_wp2_with (refine zvw rfl 59 (.tmp 92) (.tmp 90) rfl (s:=(qx,qy)) HO.out HLL.out hlt rfl rfl (by kernel_rfl) ?_
                      intro w9 o9 g9)
         have b9:=Far.below HBW.out g9 (Nat.le_refl _) (Nat.le_refl _);have o9:w9.ownsRow w8.heap.size 61 5 (.slice (some ⟨w8.heap.size,0,none⟩) p.length p.length) p.length (recs zam ((p.take (k+1)).map cPt++List.replicate (p.length-(k+1)) zaz)):=by rw[HTK.out,List.map_append,List.append_assoc];exact o9
         go_roundw
         case rel=>exact⟨k+1,by omega,by go_num,o9,b9⟩
         case measure=>simp[intOf];omega
        ·obtain rfl:k=p.length:=by omega
         rw[List.take_length,Nat.sub_self,List.replicate_zero,List.append_nil] at o;go_wp2_with fail
         go_ret2
         exact⟨some (p.map cPt),HV2.out,_,_,_,rfl,zbd o hzz,New.trans b08 bw⟩
end Go.Proofs.Y
