/- Merged. -/
import Derived.Lib.AppendZeros
import Derived.Test.YtbahbnbpmfgimaaGreatDoorBun20
import Derived.Test.YtbahbnbpmfgimaaGreatDoorBun22
import Derived.Test.YtbahbnbpmfgimaaGreatDoorBun24
set_option maxHeartbeats 4000000
namespace Go.Hm
open Go Go.RowKit
def qax(s:List Nat)(n:Nat):List Nat:=s.length::(s++[n])
def upL(s:List Nat)(L:List (List Nat))(k:Nat):List Nat:=qax s L.length++(L.take k).flatMap zif
theorem qay(s:List Nat)(L:List (List Nat)):upL s L 0=qax s L.length:=by simp[upL]
theorem qft(s:List Nat)(L:List (List Nat)):upL s L L.length=zbv s L:=by simp[upL,qax,zbv]
theorem qaz(s:List Nat)(L:List (List Nat)){k:Nat}(hk:k<L.length):upL s L (k+1)=upL s L k++zif (L.getD k []):=by rw[upL,upL,zac _ k [] hk,List.flatMap_append,List.append_assoc];simp
end Go.Hm
namespace Go.Proofs.Y
open Go.RowKit Go.Hm
set_option maxRecDepth 100000 in
theorem zug{w:World}{s:List Nat}{A:Option Addr}{n c:Nat}{D:List zdd}(h:RowsAt w A n c D)(hn:n<=9223372036854775806)(hs8:∀x∈s,x<256)(hs:s.length<=140737488351232)(ht:zhq (bytesOf D)<=1099511627776):
 Calls Tryz.prog 66 #[.string (zad s),.slice A n c] w (OptB (za4 s (bytesOf D)) w):=by
 obtain rfl:=h.len;have hz:=zbn s;have hB:=zdm D;have HR:=Hz h;have H8:=Hz hs8;have HT:=Hz ht;by_cases h1:s.length=0
 ·have hO:za4 s (bytesOf D)=none:=by unfold za4;exact if_neg (by omega)
  rw[hO];obtain rfl:=List.eq_nil_of_length_eq_zero h1;clear h hs8 ht hO;go_enter Tryz.func66,Tryz.ntmps66
  go_wp2
  go_ret2
  exact⟨rfl,Below.refl _ _⟩
 by_cases h2:255<s.length
 ·have hO:za4 s (bytesOf D)=none:=by unfold za4;exact if_neg (by omega)
  rw[hO];have d0:((s.length:Int)==0)=false:=by rw[beq_eq_false_iff_ne];omega
  have d1:decide ((255:Int)<(s.length:Int))=true:=by simp;omega
  clear h hs8 ht hO;go_enter Tryz.func66,Tryz.ntmps66
  go_wp2
  go_ret2
  exact⟨rfl,Below.refl _ _⟩
 by_cases h3:255<D.length
 ·have hO:za4 s (bytesOf D)=none:=by unfold za4;exact if_neg (by omega)
  rw[hO];have d0:((s.length:Int)==0)=false:=by rw[beq_eq_false_iff_ne];omega
  have d1:decide ((255:Int)<(s.length:Int))=false:=by simp;omega
  have d2:decide ((255:Int)<(D.length:Int))=true:=by simp;omega
  clear h hs8 ht hO;go_enter Tryz.func66,Tryz.ntmps66
  go_wp2
  go_ret2
  exact⟨rfl,Below.refl _ _⟩
 have hO:za4 s (bytesOf D)=some (zbv s (bytesOf D)):=by unfold za4;exact if_pos (by omega)
 rw[hO];have d0:((s.length:Int)==0)=false:=by rw[beq_eq_false_iff_ne];omega
 have d1:decide ((255:Int)<(s.length:Int))=false:=by simp;omega
 have d2:decide ((255:Int)<(D.length:Int))=false:=by simp;omega
 have hD:D.length<=255:=by omega
 have hs2:s.length<=255:=by omega
 have HB:=Hz hB;have a1:IntKind.u8.wrap (s.length:Int)=(s.length:Int):=by simp[IntKind.wrap,IntKind.bits,IntKind.signed];omega
 clear h hs8 ht hO h1 h2 h3 hB;go_enter Tryz.func66,Tryz.ntmps66
 go_wp2
 go_loop [6,31] (fun z i=>∃(k m:Nat),k<=D.length/\i= .int .i64 (k:Int)/\z= .int .i64 (m:Int)/\m<=1099511640000/\Hid (m=2+s.length+8*k+zhq ((bytesOf D).take k))) (fun _ i=>D.length-(intOf i).toNat)
 case atStart=>exact⟨0,2+s.length,by omega,rfl,by go_num,by omega,Hz (by simp[zhq])⟩
 case round=>
  obtain⟨k,m,hk,rfl,rfl,hm,HM⟩:=hrel;by_cases hlt:k<D.length
  ·obtain⟨ad,rfl,hb,hc⟩:=HR.out.at_ hlt
   have e1:=zeh D k;generalize D.getD k (none,0,[])=d at*;have h4:=zuf (L:=bytesOf D) (k:=k) (by rw[HB.out];exact hlt);rw[e1] at h4;have h6:=zmv (bytesOf D) (k+1);have hm3:m+(8+d.2.2.length)=2+s.length+8*(k+1)+zhq ((bytesOf D).take (k+1)):=by rw[h4,HM.out];omega
   have hd:d.2.2.length<=1099511627776:=by have:=HT.out;omega
   have hm4:m+(8+d.2.2.length)<=1099511640000:=by have:=HT.out;omega
   have HM3:=Hz hm3;clear e1 h4 h6 hm3;obtain⟨m2,hm2⟩:∃x,x=m+(8+d.2.2.length):=⟨_,rfl⟩;have i1:(m:Int)+(8+(d.2.2.length:Int))=(m2:Int):=by omega
   rw[<-hm2] at HM3 hm4;clear hm2;go_wp2
   go_round
   case rel=>exact⟨k+1,m2,by omega,by go_num,by go_num,hm4,HM3⟩
   case measure=>simp[intOf];omega
  ·obtain rfl:k=D.length:=by omega
   clear HM;have a1:(s.length:Int)%256=(s.length:Int):=by omega
   have a2:(D.length:Int)%256=(D.length:Int):=by omega
   go_wp2_with (first
    |(refine zb6 elB rfl (.const (.int .i64 0)) (.tmp 41) rfl (W:=w) (B:=w.heap.size) 0 m rfl rfl rfl rfl (by omega) (Below.refl _ _) (Nat.le_refl _) rfl (by omega) (by simp only[maxLen];omega) ?_
      intro w1 o1 g1 b1 s1;have z1:=b1.size;clear g1 s1)
    |(refine zci elB rfl (.tmp 43) (.tmp 47) rfl (W:=w) (B:=w.heap.size) (k:= .u8) (l:=[]) o1 rfl rfl s.length rfl b1 (Nat.le_refl _) z1 (by omega) (by simp only[maxLen];omega) ?_
      intro A2 c2 w2 _ _ o2 _ b2 _ _;have z2:=b2.size)
    |(refine zd7 elB qd9 rfl (.tmp 49) (.tmp 50) rfl (W:=w) (B:=w.heap.size) o2 H8.out rfl rfl b2 (Nat.le_refl _) z2 (by omega) ?_
      intro A3 c3 w3 _ _ o3 _ b3;have z3:=b3.size)
    |(refine zci elB rfl (.tmp 52) (.tmp 56) rfl (W:=w) (B:=w.heap.size) o3 rfl rfl D.length rfl b3 (Nat.le_refl _) z3 (by omega) (by simp only[maxLen];omega) ?_
      intro A4 c4 w4 _ _ o4 _ b4 _ _))
   have B4:=Hz b4;have O4:=Hz (show Own w4 w.heap.size 5 (.slice A4 (0+1+s.length+1) c4) (zao .u8 (upL s (bytesOf D) 0)) by rw[qay,qax,HB.out];simpa using o4);clear o1 b1 z1 o2 b2 z2 o3 b3 z3 o4 b4;have R4:=Hz (HR.out);obtain⟨q4,hq4⟩:∃q,q=0+1+s.length+1:=⟨_,rfl⟩;rw[<-hq4] at O4⊢;have HQ4:=Hz (show q4=2+s.length+8*0+zhq ((bytesOf D).take 0) by rw[hq4];simp[zhq];omega);clear hq4;go_loopw [9,60] (fun v i wr=>∃(k q c:Nat) (A:Option Addr),k<=D.length/\i= .int .i64 (k:Int)/\v= .slice A q c/\Hid (q=2+s.length+8*k+zhq ((bytesOf D).take k))/\Hid (Own wr w.heap.size 5 (.slice A q c) (zao .u8 (upL s (bytesOf D) k)))/\Hid (New w wr)) (fun _ i _=>D.length-(intOf i).toNat)
   case atStart=>exact⟨0,q4,c4,A4,by omega,rfl,rfl,HQ4,O4,B4⟩
   case round=>
    clear HQ4 O4 B4;obtain⟨k,q,cq,Aq,hk,rfl,rfl,HQ,O,b⟩:=hrel;by_cases hlt:k<D.length
    ·obtain⟨ad,rfl,hb,hc⟩:=(HR.out.later b.out).at_ hlt
     have RD:=Hz (fun(W:World) (hW:New w W)=>((HR.out.later hW).parts.at_ hlt).1);have e1:=zeh D k;have US:=qaz s (bytesOf D) (k:=k) (by rw[HB.out];exact hlt);have h4:=zuf (L:=bytesOf D) (k:=k) (by rw[HB.out];exact hlt);have h6:=zmv (bytesOf D) (k+1);rw[e1] at h4 US;generalize D.getD k (none,0,[])=d at*;have hp:d.2.2.length<=1099511627776:=by have:=HT.out;omega
     have hq:q<=1099511640000:=by have:=HT.out;have:=HQ.out;omega
     have HQ2:=Hz (show q+8+d.2.2.length=2+s.length+8*(k+1)+zhq ((bytesOf D).take (k+1)) by rw[h4,HQ.out];omega);have HUS:=Hz US;have O2:=Hz (show Own wr w.heap.size 5 (.slice Aq (q+0) cq) (zao .u8 (upL s (bytesOf D) k++low d.2.2.length 0)) by simpa[low] using O.out);have hlow:=Hz (fun j=>show(upL s (bytesOf D) k++low d.2.2.length j).length=(upL s (bytesOf D) k).length+j by rw[List.length_append,za6]);clear e1 US h4 h6 HQ O;go_wp2
     go_loopw [9,64] (fun v i wr=>∃(j c:Nat) (A:Option Addr),j<=8/\i= .int .i64 (j:Int)/\v= .slice A (q+j) c/\Hid (Own wr w.heap.size 5 (.slice A (q+j) c) (zao .u8 (upL s (bytesOf D) k++low d.2.2.length j)))/\Hid (New w wr)) (fun _ i _=>8-(intOf i).toNat)
     case atStart=>exact⟨0,cq,Aq,by omega,rfl,rfl,O2,b⟩
     case round=>
      clear O2 b hc hb;obtain⟨j,cj,Aj,hj,rfl,rfl,O,b⟩:=hrel;by_cases hlj:j<8
      ·have S:=Hz (zw0 d.2.2.length j)
       have j1:(8:Int)*(j:Int)<64:=by omega
       have o:=O.out;have b0:=b.out;have hz:=b0.size;clear O b
       go_wp2_with (refine zci elB rfl (.tmp 67) (.tmp 75) rfl (W:=w) (B:=w.heap.size) o rfl rfl (d.2.2.length/256^j%256) (by rw[S.out]) b0 (Nat.le_refl _) (by omega) (by omega) (by simp only[maxLen];omega) ?_
                    intro A3 c3 w3 _ _ o3 _ b3 _ _)
       have O3:=Hz (show Own w3 w.heap.size 5 (.slice A3 (q+(j+1)) c3) (zao .u8 (upL s (bytesOf D) k++low d.2.2.length (j+1))) by rw[List.append_assoc] at o3;exact o3);have B3:=Hz b3;clear o o3 b0 b3;go_roundw
       case rel=>exact⟨j+1,c3,A3,by omega,by go_num,rfl,O3,B3⟩
       case measure=>simp[intOf];omega
      ·obtain rfl:j=8:=by omega
       have o:=O.out;have b0:=b.out;have r0:=RD.out _ b0;have hz:=b0.size;clear O b
       go_wp2_with (refine zam elB rfl (.tmp 78) (.tmp 79) rfl (W:=w) (B:=w.heap.size) (base:=w.heap.size) o r0 rfl rfl b0 (Nat.le_refl _) (by omega) (by omega) (by simp only[maxLen];omega) ?_
                    intro A3 c3 w3 _ _ o3 _ b3 _)
       have O3:=Hz (show Own w3 w.heap.size 5 (.slice A3 (q+8+d.2.2.length) c3) (zao .u8 (upL s (bytesOf D) (k+1))) by rw[HUS.out,zif,<-List.append_assoc];exact o3);have B3:=Hz b3;clear o o3 b0 b3 r0;go_roundw
       case rel=>exact⟨k+1,q+8+d.2.2.length,c3,A3,by omega,by go_num,rfl,HQ2,O3,B3⟩
       case measure=>simp[intOf];omega
    ·obtain rfl:k=D.length:=by omega
     have o:=O.out;rw[<-HB.out,qft] at o;have O5:=Hz o;clear o O;go_wp2
     go_ret2
     exact⟨_,_,_,rfl,O5.out,b.out⟩
end Go.Proofs.Y
namespace Go.Hm
open Go Go.RowKit
theorem RowsAt.cells{w:World}{ad:Addr}{n c:Nat}{D:List zdd}(h:RowsAt w (some ad) n c D){k:Nat}(hk:k<D.length)(W:World)(hW:New w W):W.cell? (ad.add k)=some (.slice (D.getD k (none,0,[])).1 (D.getD k (none,0,[])).2.2.length (D.getD k (none,0,[])).2.1):=by obtain⟨ad2,e2,_,h2⟩:=(h.later hW).at_ hk;obtain rfl:=Option.some.inj e2;exact h2
end Go.Hm
namespace Go.Proofs.Y
open Go.RowKit Go.Hm
end Go.Proofs.Y
namespace Go.Hm
open Go Go.RowKit
end Go.Hm
namespace Go.Proofs.Y
open Go.RowKit Go.Hm
set_option maxRecDepth 100000 in
theorem zi3{w:World}{A:Option Addr}{n c:Nat}{l:List Nat}(h:Reads w w.heap.size 1 A n (zao .u8 l))(hl:n<=140737488355328):
 Calls Tryz.prog 42 #[.slice A n c] w (zck l w):=by
 obtain rfl:=h.len;rcases A with _|ad
 ·have hl0:l.length=0:=by
   rcases Nat.eq_zero_or_pos l.length with h0|h0
   ·exact h0
   ·obtain⟨ad,h',_⟩:=h.2 h0
    cases h'
  obtain rfl:l=[]:=List.eq_nil_of_length_eq_zero hl0;have hq:=fun W:World=>Lib.run_eql_slice_nil (P:=Tryz.prog) W 24 5 none 0 c 0 0 elB.ht
  go_enter Tryz.func42,Tryz.ntmps42
  go_wp2
  go_ret
  exact⟨none,0,0,rfl,Own.nil_,Below.refl _ _⟩
 ·have hq:=fun W:World=>Lib.run_eql_slice_nil (P:=Tryz.prog) W 24 5 (some ad) l.length c 0 0 elB.ht
  go_enter Tryz.func42,Tryz.ntmps42
  go_wp2_with (first
   |(refine zam elB rfl (.tmp 5) (.tmp 6) rfl (W:=w) (B:=w.heap.size) (k:= .u8) (l:=[]) (l2:=l) (c2:=c) (Own.empty _ _) ((h.alloc (Nat.le_refl _) _).more (by simp)) rfl rfl ((Below.refl _ _).alloc (Nat.le_refl _) _) (Nat.le_refl _) (by simp) (by omega) (by simp only[maxLen];omega) ?_
     simp only[Nat.zero_add,List.nil_append];intro A' c' w' k1 k2 k3 k4 k5 k6))
  go_ret
  exact⟨A',_,c',rfl,k3,k5⟩
end Go.Proofs.Y
namespace Go.Hm
open Go Go.RowKit
theorem TR.push{w w':World}{e t:TypeId}{A:Option Addr}{n base:Nat}{xs ys:List Value}{v:Value}(h:TR w e A n xs)(o:Own w base t v ys)(hg:w.grownBy w' v.ownBlock)(hne:e≠t):TR w' e A n xs:=by
 rcases o.2 with⟨rfl,_⟩|⟨g,cap,cur,rfl,_,hh,_⟩
 ·exact h.grown hg (fun ad g _ hr=>by cases hr)
 ·exact h.keep (g:=g) hg hh hne
def PartsT(e:TypeId)(w:World)(D:List zdd):Prop:=∀d∈D,TR w e d.1 d.2.2.length (zao .u8 d.2.2)/\d.2.2.length<=d.2.1/\d.2.1<=9223372036854775807
theorem PartsT.ins{e:TypeId}{w:World}{D:List zdd}(h:PartsT e w D):PartsIn w D:=fun d hd=>⟨(h d hd).1.1,(h d hd).2⟩
theorem PartsT.below{e:TypeId}{w w':World}{D:List zdd}(h:PartsT e w D)(hb:New w w'):PartsT e w' D:=fun d hd=>⟨(h d hd).1.below hb,(h d hd).2⟩
theorem PartsT.push{e t:TypeId}{w w':World}{D:List zdd}{base:Nat}{v:Value}{ys:List Value}(h:PartsT e w D)(o:Own w base t v ys)(hg:w.grownBy w' v.ownBlock)(hne:e≠t):PartsT e w' D:=fun d hd=>⟨(h d hd).1.push o hg hne,(h d hd).2⟩
theorem PartsT.snoc{e:TypeId}{w:World}{D:List zdd}{d:zdd}(h:PartsT e w D)(k:TR w e d.1 d.2.2.length (zao .u8 d.2.2))(h1:d.2.2.length<=d.2.1)(h2:d.2.1<=9223372036854775807):PartsT e w (D++[d]):=by
 intro x hx;rcases List.mem_append.1 hx with hx|hx
 ·exact h x hx
 ·obtain rfl:=List.mem_singleton.1 hx
  exact⟨k,h1,h2⟩
theorem zmw(D:List zdd)(d:zdd):bytesOf (D++[d])=bytesOf D++[d.2.2]:=by simp[bytesOf]
theorem zii(D:List zdd):(recs zfo D).length=D.length:=by rw[zau (sz:=1) (fun _=>rfl),Nat.mul_one]
theorem zq0(D:List zdd)(d:zdd):recs zfo (D++[d])=recs zfo D++[.slice d.1 d.2.2.length d.2.1]:=by rw[zbb];rfl
end Go.Hm
namespace Go.Proofs.Y
open Go.RowKit Go.Hm
theorem elR:ElT Tryz.prog 22 24 (.slice none 0 0) 1 24:=⟨by kernel_rfl,by kernel_rfl,rfl,by omega⟩
def ParsePost(o:Option (List Nat × List (List Nat)))(w:World)(e:Ending)(w':World):Prop:=
 ∃A n c D,e= .returned (.tuple #[.string (zad ((o.map Prod.fst).getD [])),.slice A n c,.bool o.isSome])/\RowsAt w' A n c D/\bytesOf D=(o.map Prod.snd).getD []/\New w w'
theorem ParsePost.none_{w w':World}(h:New w w'):ParsePost none w (.returned (.tuple #[.string (zad []),.slice none 0 0,.bool false])) w':=
 ⟨none,0,0,[],rfl,⟨⟨by simp[recs],fun h=>absurd h (by omega)⟩,(fun d hd=>nomatch hd),Nat.le_refl _⟩,rfl,h⟩
end Go.Proofs.Y
namespace Go.Hm
open Go Go.RowKit
theorem z12{L:List (List Nat)}(h:Digs L):(zcw L).2.length=if L.length=0 then 1 else L.length-1:=by
 by_cases h0:L.length=0
 ·obtain rfl:=List.eq_nil_of_length_eq_zero h0
  rw[zih];rfl
 ·rw[if_neg h0]
  exact(zhp L h (by omega)).1
theorem z50{L:List (List Nat)}(h:Digs L):(zcw L).2.length<=L.length+1:=by rw[z12 h];split<;> omega
end Go.Hm
set_option maxRecDepth 100000
namespace Go.Hm
open Go Go.RowKit
structure FootIn(w:World)(Ac:Option Addr)(cc:Nat)(L:List zbc)(Ag:Option Addr)(G:List GrD):Prop where
 cols:Reads w w.heap.size 3 Ac L.length (recs zls L)
 fine:∀x∈L,(∀z∈x.1,z<256)/\x.1.length<=140737488351232
 cap:L.length<=cc
 few:L.length<=4611686018427387903
 groups:Reads w w.heap.size 2 Ag G.length (recs grV G)
 few2:G.length<=4611686018427387903
 chunks:∀g∈G,Reads w w.heap.size 1 g.2.1 g.2.2.2.length (recs chV g.2.2.2)/\g.2.2.2.length<=4611686018427387903
 pages:∀g∈G,∀x∈g.2.2.2,Reads w w.heap.size 14 x.1 x.2.2.length (recs zg7 x.2.2)/\x.2.2.length<=4611686018427387903
theorem FootIn.later{w w':World}{Ac:Option Addr}{cc:Nat}{L:List zbc}{Ag:Option Addr}{G:List GrD}(h:FootIn w Ac cc L Ag G)(hb:New w w'):FootIn w' Ac cc L Ag G:=
 ⟨Reads.later h.cols hb,h.fine,h.cap,h.few,Reads.later h.groups hb,h.few2,fun g hg=>⟨Reads.later (h.chunks g hg).1 hb,(h.chunks g hg).2⟩,fun g hg x hx=>⟨Reads.later (h.pages g hg x hx).1 hb,(h.pages g hg x hx).2⟩⟩
def zlb(Ac:Option Addr)(cc:Nat)(L:List zbc)(rows:Int)(Ag:Option Addr)(cg:Nat)(G:List GrD):Value:= .agg #[.slice Ac L.length cc,.int .i64 rows,.slice Ag G.length cg]
def zbt(L:List zbc)(rows:Int)(G:List GrD):FootS:=⟨L,rows,G.map grP⟩
end Go.Hm
namespace Go.Proofs.Y
open Go.RowKit Go.Hm Go.WideShapes Go.ChangeShapes
section
variable{H:Type}{enc:TypeId × Value->H}{W:World}{base:Nat}{v:Value}{d:DataW H}{ps:List MemPlace}
end
end Go.Proofs.Y
namespace Go.Hm
open Go Go.RowKit
theorem zb0{α:Type}(f:α->Int)(l:List α)(k:Nat)(d:α)(h:k<l.length):((l.take (k+1)).map f).sum=((l.take k).map f).sum+f (l.getD k d):=by rw[zac l k d h,List.map_append,List.sum_append];simp
theorem ze5{α:Type}(f:α->Int):∀(l:List α) (k:Nat),(∀x∈l,0<=f x)->((l.take k).map f).sum<=(l.map f).sum
 | [],_,_=>by simp
 |x::l,0,h=>by
  have h1:=h x (by simp);have:=ze5 f l 0 fun y hy=>h y (by simp[hy])
  simp at this⊢;omega
 |x::l,k+1,h=>by
  have:=ze5 f l k fun y hy=>h y (by simp[hy])
  simp only[List.take_succ_cons,List.map_cons,List.sum_cons];omega
theorem zg9{α:Type}(f:α->Int):∀(l:List α),(∀x∈l,0<=f x)->0<=(l.map f).sum
 | [],_=>by simp
 |x::l,h=>by
  have h1:=h x (by simp);have:=zg9 f l fun y hy=>h y (by simp[hy])
  simp only[List.map_cons,List.sum_cons];omega
abbrev zak:za1:=(0,[])
abbrev zfr:zbc:=([],0,false)
theorem zm1{t:Int}{nu:Bool}{l:List za2}{r:Int}(h:zef t nu l r):0<=zcm l/\0<=r:=by have:=zfe h.1;have:=h.2;omega
theorem GroupOk.sizes{cols:List zbc}{g:za1}(h:GroupOk cols g):∀l∈g.2,0<=zcm l:=fun l hl=>by obtain⟨i,hi,rfl⟩:=List.getElem_of_mem hl;have:=h.2.2 i (by rw[<-h.2.1];exact hi);rw[List.getD_eq_getElem?_getD (l:=g.2),List.getElem?_eq_getElem hi] at this;exact(zm1 this).1
theorem GroupOk.nonneg{cols:List zbc}{g:za1}(h:GroupOk cols g):0<=zcf g:=zg9 _ _ h.sizes
theorem zvl{F:FootS}(h:zbq F){k:Nat}(hk:k<F.groups.length):((F.groups.take k).map (·.1)).sum+(F.groups.getD k zak).1<=65536:=by have h1:=zb0 (fun g:za1=>g.1) F.groups k zak hk;have h2:=ze5 (fun g:za1=>g.1) F.groups (k+1) (fun g hg=>by have:=(h.2.1 g hg).1;omega);have:=h.2.2.1;have:=h.2.2.2.1;omega
theorem zvm{F:FootS}(h:zbq F){k c:Nat}(hk:k<F.groups.length):((F.groups.take k).map zcf).sum+(((F.groups.getD k zak).2.take c).map zcm).sum<=1073741824:=by have hg:F.groups.getD k zak∈F.groups:=zai zak hk;have h1:=zb0 zcf F.groups k zak hk;have h2:=ze5 zcf F.groups (k+1) (fun g hg=>(h.2.1 g hg).nonneg);have h3:=ze5 zcm (F.groups.getD k zak).2 c (h.2.1 _ hg).sizes;have h4:=h.2.2.2.2;have h5:zcf (F.groups.getD k zak)=((F.groups.getD k zak).2.map zcm).sum:=rfl;omega
theorem zm2{t:Int}{nu:Bool}:∀(l:List za2) (rows size:Int),0<=rows->0<=size->0<=(zez t nu l rows size).1/\(zez t nu l rows size).1<=size+rows*268435456
 | [],rows,size,h1,h2=>by simp only[zez];omega
 |p::l,rows,size,h1,h2=>by
  unfold zez;split
  ·rename_i hp
   have h3:=(pageB_most.1 hp).1;have:=zm2 (t:=t) (nu:=nu) l (rows-p.2.1) (size+p.1) (by omega) (by omega);omega
  ·dsimp only;omega
structure FootTo(L:List zbc)(G:List za1)(k:Nat)(rows size:Int):Prop where
 ok:∀g∈G.take k,GroupOk L g
 rows_:rows=((G.take k).map (·.1)).sum
 size_:size=((G.take k).map zcf).sum
 most:0<=rows/\rows<=65536
 few:0<=size/\size<=1073741824
theorem FootTo.zero(L:List zbc)(G:List za1):FootTo L G 0 0 0:=⟨by simp,by simp,by simp,by omega,by omega⟩
structure ChunkTo(L:List zbc)(G:List za1)(k c:Nat)(rows size:Int):Prop where
 ok:∀g∈G.take k,GroupOk L g
 rows_:rows=((G.take k).map (·.1)).sum+(G.getD k zak).1
 size_:size=((G.take k).map zcf).sum+(((G.getD k zak).2.take c).map zcm).sum
 here:1<=(G.getD k zak).1/\(G.getD k zak).2.length=L.length/\ ∀i,i<c->zef (L.getD i zfr).2.1 (L.getD i zfr).2.2 ((G.getD k zak).2.getD i []) (G.getD k zak).1
 most:(G.getD k zak).1<=rows/\rows<=65536
 few:0<=size/\size<=1073741824
theorem FootTo.enter{L:List zbc}{G:List za1}{k:Nat}{rows size:Int}(h:FootTo L G k rows size)(h1:1<=(G.getD k zak).1)(h2:(G.getD k zak).1<=65536-rows)(h3:(G.getD k zak).2.length=L.length):
 ChunkTo L G k 0 (rows+(G.getD k zak).1) size:=by
 have:=h.most;exact⟨h.ok,by rw[h.rows_],by rw[h.size_];simp,⟨h1,h3,fun i hi=>by omega⟩,by omega,h.few⟩
theorem ChunkTo.next{L:List zbc}{G:List za1}{k c:Nat}{rows size:Int}(h:ChunkTo L G k c rows size)(hc:c<(G.getD k zak).2.length)(h1:zef (L.getD c zfr).2.1 (L.getD c zfr).2.2 ((G.getD k zak).2.getD c []) (G.getD k zak).1)
 (h2:size+zcm ((G.getD k zak).2.getD c [])<=1073741824):ChunkTo L G k (c+1) rows (size+zcm ((G.getD k zak).2.getD c [])):=by
 have h3:=(zm1 h1).1;have h4:=h.few;refine⟨h.ok,h.rows_,?_,⟨h.here.1,h.here.2.1,fun i hi=>?_⟩,h.most,by omega⟩
 ·rw[zb0 zcm _ c [] hc,h.size_];omega
 ·by_cases e:i=c
  ·subst e;exact h1
  ·exact h.here.2.2 i (by omega)
theorem ChunkTo.leave{L:List zbc}{G:List za1}{k c:Nat}{rows size:Int}(h:ChunkTo L G k c rows size)(hc:c=(G.getD k zak).2.length)(hk:k<G.length):FootTo L G (k+1) rows size:=by
 subst hc;have hm:=h.most;have h1:=h.here.1;refine⟨fun g hg=>?_,by rw[h.rows_,zb0 (fun g:za1=>g.1) G k zak hk],?_,by omega,h.few⟩
 ·rw[zac G k zak hk] at hg
  rcases List.mem_append.1 hg with hg|hg
  ·exact h.ok g hg
  ·rw[List.mem_singleton.1 hg]
   exact⟨h.here.1,h.here.2.1,fun i hi=>h.here.2.2 i (by rw[h.here.2.1];exact hi)⟩
 ·rw[zb0 zcf G k zak hk,h.size_,List.take_length]
  rfl
theorem FootTo.no_rows{L:List zbc}{G:List za1}{k:Nat}{rows size r:Int}(h:FootTo L G k rows size)(hk:k<G.length)(hb:(G.getD k zak).1<1\/65536-rows<(G.getD k zak).1\/(G.getD k zak).2.length≠L.length): ¬zbq ⟨L,r,G⟩:=fun hF=>by
 have hg:=hF.2.1 (G.getD k zak) (zai zak hk);have h1:=zvl hF hk;have h2:=h.rows_;dsimp only at h1;rcases hb with hb|hb|hb
 ·have:=hg.1;omega
 ·omega
 ·exact hb hg.2.1
theorem ChunkTo.no_chunk{L:List zbc}{G:List za1}{k c:Nat}{rows size r:Int}(h:ChunkTo L G k c rows size)(hk:k<G.length)(hc:c<(G.getD k zak).2.length)
 (hb: ¬zef (L.getD c zfr).2.1 (L.getD c zfr).2.2 ((G.getD k zak).2.getD c []) (G.getD k zak).1\/1073741824<size+zcm ((G.getD k zak).2.getD c [])): ¬zbq ⟨L,r,G⟩:=fun hF=>by
 have hg:=hF.2.1 (G.getD k zak) (zai zak hk);rcases hb with hb|hb
 ·exact hb (hg.2.2 c (by dsimp only;rw[<-h.here.2.1];exact hc))
 ·have h1:=zvm hF (k:=k) (c:=c+1) hk
  dsimp only at h1;rw[zb0 zcm _ c [] hc] at h1;have:=h.size_;omega
theorem FootTo.yes{L:List zbc}{G:List za1}{rows size r:Int}(h:FootTo L G G.length rows size)(hc:zpi L):zbq ⟨L,r,G⟩↔rows=r:=by
 have h1:=h.rows_;have h2:=h.size_;rw[List.take_length] at h1 h2;have h3:=h.most;have h4:=h.few;have hok:=h.ok;rw[List.take_length] at hok;constructor
 ·intro hF
  have:=hF.2.2.1;dsimp only at this;omega
 ·intro e
  exact⟨hc,hok,by dsimp only;omega,by dsimp only;omega,by dsimp only;omega⟩
theorem Reads.gr2{w:World}{B n i:Nat}{A:Option Addr}{l:List GrD}(h:Reads w B 2 A n (recs grV l))(hi:i<n):
 ∃ad,A=some ad/\ad.block<B/\w.cell? (ad.add (i*2))=some (.int .i64 (l.getD i (0,none,0,[])).1)/\w.cell? ⟨(ad.add (i*2)).block,(ad.add (i*2)).off+1,none⟩=some (.slice (l.getD i (0,none,0,[])).2.1 (l.getD i (0,none,0,[])).2.2.2.length (l.getD i (0,none,0,[])).2.2.1):=by
 obtain⟨ad,h1,h2,_,h3⟩:=h.rec_ (f:=grV) (sz:=2) (fun _=>rfl) (0,none,0,[]) hi (by omega);refine⟨ad,h1,h2,h3 0 _ rfl,?_⟩;have:=h3 1 _ rfl;rw[<-za9] at this;exact this
theorem Reads.ch1{w:World}{B n i:Nat}{A:Option Addr}{l:List ChD}(h:Reads w B 1 A n (recs chV l))(hi:i<n):
 ∃ad,A=some ad/\ad.block<B/\w.cell? (ad.add i)=some (.slice (l.getD i (none,0,[])).1 (l.getD i (none,0,[])).2.2.length (l.getD i (none,0,[])).2.1):=by
 obtain⟨ad,h1,h2,_,h3⟩:=h.rec_ (f:=chV) (sz:=1) (fun _=>rfl) (none,0,[]) hi (by omega);refine⟨ad,h1,h2,?_⟩;have:=h3 0 _ rfl;rw[Nat.mul_one] at this;exact this
open Go Go.RowKit
abbrev grZ:GrD:=(0,none,0,[])
abbrev chZ:ChD:=(none,0,[])
open Classical in
noncomputable def zff(F:FootS):Bool:=decide (zbq F)
theorem zmd{F:FootS}(h:zbq F):zff F=true:=by unfold zff;simp[h]
theorem zpj{F:FootS}(h: ¬zbq F):zff F=false:=by unfold zff;simp[h]
theorem zbk{α β:Type}(f:α->β)(l:List α){k:Nat}(d:α)(e:β)(hk:k<l.length):(l.map f).getD k e=f (l.getD k d):=by rw[List.getD_eq_getElem?_getD,List.getElem?_map,List.getElem?_eq_getElem hk,List.getD_eq_getElem?_getD,List.getElem?_eq_getElem hk];rfl
end Go.Hm
namespace Go.Proofs.Y
open Go.RowKit Go.Hm
set_option maxRecDepth 100000 in
theorem zme{w:World}{Ac:Option Addr}{cc:Nat}{L:List zbc}{r:Int}{Ag:Option Addr}{cg:Nat}{G:List GrD}(h:FootIn w Ac cc L Ag G)(hp:∀g∈G,∀x∈g.2.2.2,∀p∈x.2.2,zec p.2.2):
 Calls Tryz.prog 87 #[zlb Ac cc L r Ag cg G] w (zal (.bool (zff (zbt L r G))) w):=by
 have CK:=Hz (fun(W:World) (hW:New w W)=>znq (c:=cc) (Reads.later h.cols hW) h.fine h.cap h.few);have HG:=Hz h.groups;have HL:=Hz h.cols;have hfew:=h.few;have hfew2:=h.few2;have HCH:=Hz h.chunks;have HPG:=Hz h.pages;have HP:=Hz hp;have HY:=Hz (fun e:zbq (zbt L r G)=>zmd e);have HN:=Hz (fun e: ¬zbq (zbt L r G)=>zpj e);have hz:FootTo L (G.map grP) 0 0 0:=FootTo.zero _ _;have HZ:=Hz hz;clear h hp hz;generalize zff (zbt L r G)=M at*;unfold zbt at HY HN;have HMap:=Hz (fun(k:Nat) (hk:k<G.length)=>zbk grP G (k:=k) grZ zak hk);have HLen:=Hz (show(G.map grP).length=G.length from List.length_map ..);generalize hGP:G.map grP=GP at*;have hck:=zek L;clear hGP;show Calls Tryz.prog 87 #[.agg #[.slice Ac L.length cc,.int .i64 r,.slice Ag G.length cg]] w (zal (.bool M) w);have B0:=Blk.new w 79 #[.slice Ac L.length cc,.int .i64 r,.slice Ag G.length cg];have b0:New w (w.alloc (.cells #[.slice Ac L.length cc,.int .i64 r,.slice Ag G.length cg] 79)):=(Below.refl _ _).alloc (Nat.le_refl _) _;obtain⟨x0,x1,x2⟩:=zan B0;go_enter Tryz.func87,Tryz.ntmps87
 go_wp2_with fail
 refine(CK.out _ b0).mono ?_;rintro e w1 ⟨rfl,b1⟩;have B1:=B0.below b1 B0.lt;have b01:=New.trans b0 b1;clear CK B0 b0 b1 x0 x1 x2;obtain⟨x0,x1,x2⟩:=zan B1;by_cases hk0:zcy L=0
 ·have hcok:=hck.1 hk0
  have HCO:=Hz hcok;rw[hk0];clear hck hk0 hcok;go_wp2_with fail
  clear x0 x1 x2;go_loopw [3,4,18] (fun a s i wr=>∃(k:Nat) (rows size:Int),k<=G.length/\i= .int .i64 (k:Int)/\a= .int .i64 rows/\s= .int .i64 size/\Hid (FootTo L GP k rows size)/\(0<=rows/\rows<=65536)/\(0<=size/\size<=1073741824)
   /\Blk wr w.heap.size 79 #[.slice Ac L.length cc,.int .i64 r,.slice Ag G.length cg]/\New w wr) (fun _ _ i _=>G.length-(intOf i).toNat)
  case atStart=>exact⟨0,0,0,Nat.zero_le _,rfl,rfl,rfl,HZ,by omega,by omega,B1,b01⟩
  case round=>
   obtain⟨k,rows,size,hk,rfl,rfl,rfl,H,hrw,hsz,B,b⟩:=hrel;clear HZ B1 b01;by_cases hlt:k<G.length
   ·obtain⟨ad,rfl,hb,d0,d1⟩:=(Reads.later HG.out b).gr2 hlt
    have hgm:=zai grZ hlt;have hch:=HCH.out _ hgm;have hpg:=HPG.out _ hgm;have hpp:=HP.out _ hgm;have hmap:=HMap.out k hlt;have hltP:k<GP.length:=by rw[HLen.out];exact hlt
    generalize G.getD k grZ=g at*;obtain⟨gr,Ach,cch,D⟩:=g;dsimp only at d0 d1 hch hpg hpp;unfold grP at hmap;dsimp only at hmap;have hl2:(GP.getD k zak).2.length=D.length:=by rw[hmap];exact List.length_map ..
    have hg1:(GP.getD k zak).1=gr:=by rw[hmap]
    have HM2:=Hz (fun(c:Nat) (hc:c<D.length)=>show(GP.getD k zak).2.getD c []=(D.getD c chZ).2.2 by rw[hmap];exact zbk (fun x:ChD=>x.2.2) D chZ [] hc);have NR:=Hz (fun hb=>HN.out (H.out.no_rows (r:=r) hltP hb));have EN:=Hz (fun h1 h2 h3=>H.out.enter h1 h2 h3);rw[hl2,hg1] at NR EN;have HL2:=Hz hl2;have HG1:=Hz hg1;have HCHk:=Hz hch.1;have hchl:=hch.2;have HPGk:=Hz hpg;have HPPk:=Hz hpp;have HLTP:=Hz hltP;clear hmap hl2 hg1 hch hpg hpp hgm hb H hltP;have ha:New wr (wr.alloc (.cells #[.int .i64 gr,.slice Ach D.length cch] 114)):=(Below.refl _ _).alloc (Nat.le_refl _) _;have BG:=Blk.new wr 114 #[.int .i64 gr,.slice Ach D.length cch];have B2:=B.below ha B.lt;have b2:=New.trans b ha;obtain⟨y0,y1,y2⟩:=zan B2;obtain⟨z0,z1⟩:=zbw BG;clear B b ha;by_cases h1:gr<1
    ·have hM:=Hz (NR.out (.inl h1))
     clear NR EN;go_wp2
     go_ret
     exact⟨by rw[hM.out];rfl,b2⟩
    by_cases h2:65536-rows<gr
    ·have hM:=Hz (NR.out (.inr (.inl h2)))
     clear NR EN;go_wp2
     go_ret
     exact⟨by rw[hM.out];rfl,b2⟩
    by_cases h3:D.length=L.length
    ·have t3:((D.length:Int) != (L.length:Int))=false:=by simp;omega
     have hE:=EN.out (by omega) (by omega) h3;have HE:=Hz hE;have hDL:D.length<=L.length:=by omega
     have H3:=Hz h3;clear NR EN hE h3;go_wp2_with fail
     clear y0 y1 y2 z0 z1 d0 d1 t3;generalize wr.heap.size=gB at*;go_loopw [4,48] (fun s i wr=>∃(c:Nat) (sz:Int),c<=D.length/\i= .int .i64 (c:Int)/\s= .int .i64 sz/\Hid (ChunkTo L GP k c (rows+gr) sz)/\(0<=sz/\sz<=1073741824)
      /\Blk wr w.heap.size 79 #[.slice Ac L.length cc,.int .i64 r,.slice (some ad) G.length cg]/\Blk wr gB 114 #[.int .i64 gr,.slice Ach D.length cch]/\New w wr) (fun _ i _=>D.length-(intOf i).toNat)
     case atStart=>exact⟨0,size,Nat.zero_le _,rfl,rfl,HE,hsz,B2,BG,b2⟩
     case round=>
      obtain⟨c,sz,hc,rfl,rfl,H,hsz2,B,BGq,bq⟩:=hrel;clear HE B2 BG b2;by_cases hlc:c<D.length
      ·have hcL:c<L.length:=by omega
       obtain⟨ac,rfl,hbc,e0⟩:=(Reads.later HCHk.out bq).ch1 hlc;obtain⟨al,rfl,hbl,-⟩:=(Reads.later HL.out bq).colT hcL;have hxm:=zai chZ hlc;have hpx:=HPGk.out _ hxm;have hsx:=HPPk.out _ hxm;have hm2:=HM2.out c hlc;have NC:=Hz (fun hb=>HN.out (H.out.no_chunk (r:=r) HLTP.out (by rw[HL2.out];exact hlc) hb));have NX:=Hz (fun h1 h2=>H.out.next (by rw[HL2.out];exact hlc) h1 h2);rw[hm2,HG1.out] at NC NX;have FC:=Hz (fun(W:World) (hW:New w W)=>show(W.cell? (al.add (c*3))=some (.string (zad (L.getD c zfr).1))/\W.cell? ⟨(al.add (c*3)).block,(al.add (c*3)).off+1,none⟩=some (.int .i64 (L.getD c zfr).2.1)/\W.cell? ⟨(al.add (c*3)).block,(al.add (c*3)).off+2,none⟩=some (.bool (L.getD c zfr).2.2)) from by obtain⟨al',e,_,f⟩:=(Reads.later HL.out hW).colT hcL;injection e with e;subst e;exact f)
       generalize D.getD c chZ=x at*;obtain⟨Ax,cx,pl⟩:=x;dsimp only at e0 hpx hsx NC NX;have CSZ:=fun(W:World) (hW:New w W)=>ztk (c:=L.getD c zfr) (cap:=cx) (rows:=gr) (Reads.later hpx.1 hW) hsx hpx.2 (by omega)
       have hiff:=zri (t:=(L.getD c zfr).2.1) (nu:=(L.getD c zfr).2.2) pl gr 0 (by omega);have hbd:=zm2 (t:=(L.getD c zfr).2.1) (nu:=(L.getD c zfr).2.2) pl gr 0 (by omega) (by omega);generalize L.getD c zfr=col at*;obtain⟨nm,t,nu⟩:=col;dsimp only at hiff hbd NC NX CSZ;unfold ztj at CSZ;generalize zez t nu pl gr 0=S at*;obtain⟨sn,so⟩:=S;dsimp only at hiff hbd CSZ;have CSZ:Hid (∀W,New w W->Calls Tryz.prog 110 #[.agg #[.string (zad nm),.int .i64 t,.bool nu],.slice Ax pl.length cx,.int .i64 gr] W (fun e w'=>e= .returned (.tuple #[.int .i64 sn,.bool so])/\New W w')):=Hz CSZ;have HIF:=Hz hiff;clear hiff hpx hsx hm2 hxm hbc hbl H;obtain⟨y0,y1,y2⟩:=zan B;obtain⟨z0,z1⟩:=zbw BGq;dsimp only at FC;go_wp2_with fail
       refine zaw New [(true,0),(true,1),(true,2),(true,3),(true,4),(true,5),(true,6),(true,7),(false,8),(true,9),(true,10),(true,11),(true,12),(true,13)]
        New.refl New.trans (by kernel_rfl) (by kernel_rfl) (by kernel_rfl) (by kernel_rfl) ?_
       have F:=Hz (fun(W:World) (hW:New wr W)=>And.intro (B.below hW B.lt) (BGq.below hW BGq.lt));have hU:=New.drew wr;clear y0 y1 y2 z0 z1 e0;repeat(first
        |(refine zar rfl rfl (v:=?_) (fun W hQ=>?_) ?_;rotate_left;(obtain⟨f0,f1,f2⟩:=FC.out W (New.trans bq (New.trans hU hQ));obtain⟨F1,F2⟩:=F.out W (New.trans hU hQ);obtain⟨y0,y1,y2⟩:=zan F1;obtain⟨z0,z1⟩:=zbw F2;clear F1 F2;go_simp<;> with_reducible rfl);simp only[Act.put,List.setIfInBounds_toArray,List.set_cons_zero,List.set_cons_succ]))
       refine za7 rfl rfl (fun K0 hK0=>?_);go_simp
       (with_reducible refine(CSZ.out _ (New.trans bq hU)).mono ?_)
       rintro e u ⟨rfl,bu⟩;refine hK0 _ _ bu ?_;replace hU:=New.trans hU bu;clear hK0 bu;repeat(first
        |(refine zar rfl rfl (v:=?_) (fun W hQ=>?_) ?_;rotate_left;(go_simp<;> with_reducible rfl);simp only[Act.put,List.setIfInBounds_toArray,List.set_cons_zero,List.set_cons_succ]))
       refine zdh ?_;obtain⟨B3,BG3⟩:=F.out _ hU;have b3:=New.trans bq hU;clear F FC CSZ hU B BGq bq;cases so with
       |false=>
        have hM:=Hz (NC.out (.inl (fun hh=>by have:=HIF.out.1.2 hh;simp at this)));clear NC NX HIF;go_wp2
        go_ret
        exact⟨by rw[hM.out];rfl,b3⟩
       |true=>
        have hco:=HIF.out.1.1 (by trivial);have hsn:=HIF.out.2 hco;rw[Int.zero_add] at hsn;by_cases hbig:1073741824<sz+sn
        ·have hM:=Hz (NC.out (.inr (by rw[<-hsn];exact hbig)))
         clear NC NX HIF hco hsn;go_wp2
         go_ret
         exact⟨by rw[hM.out];rfl,b3⟩
        ·have hN:=Hz (NX.out hco (by rw[<-hsn];omega))
         rw[<-hsn] at hN;clear NC NX HIF hco hsn;go_wp2
         go_roundw
         case rel=>exact⟨c+1,sz+sn,by omega,by go_num,rfl,hN,by omega,B3,BG3,b3⟩
         case measure=>simp[intOf];omega
      ·obtain rfl:c=D.length:=by omega
       have hLv:=Hz (H.out.leave (by rw[HL2.out]) HLTP.out);have hrr:=H.out.most;rw[HG1.out] at hrr;clear H;go_wp2
       go_roundw
       case rel=>exact⟨k+1,rows+gr,sz,by omega,by go_num,rfl,rfl,hLv,by omega,hsz2,B,bq⟩
       case measure=>simp[intOf];omega
    ·have t3:((D.length:Int) != (L.length:Int))=true:=by simp;omega
     have hM:=Hz (NR.out (.inr (.inr h3)));clear NR EN h3;go_wp2
     go_ret
     exact⟨by rw[hM.out];rfl,b2⟩
   ·obtain rfl:k=G.length:=by omega
    have hY:=H.out;rw[<-HLen.out] at hY;have hY:=hY.yes (r:=r) HCO.out;obtain⟨x0,x1,x2⟩:=zan B;by_cases he:rows=r
    ·have hM:=Hz (HY.out (hY.2 he))
     have t1:(rows==r)=true:=by simpa using he
     clear hY HY HN H he;go_wp2
     go_ret
     exact⟨by rw[hM.out];rfl,b⟩
    ·have hM:=Hz (HN.out (fun hF=>he (hY.1 hF)))
     have t1:(rows==r)=false:=by simpa using he
     clear hY HY HN H he;go_wp2
     go_ret
     exact⟨by rw[hM.out];rfl,b⟩
 ·have hM:=Hz (HN.out (fun hF=>hk0 (hck.2 hF.1)))
  have t1:(zcy L != 0)=true:=by simpa using hk0
  clear HY HN hck hk0;generalize zcy L=ck at*;go_wp2
  go_ret
  exact⟨by rw[hM.out];rfl,b01⟩
end Go.Proofs.Y
namespace Go.Hm
open Go Go.RowKit
def inB(nl ng:Nat)(g c:Int):Bool:=decide (0<=g/\g<(ng:Int)/\0<=c/\c<(nl:Int))
def zav(G:List za1)(g c:Nat):List za2:=(G.getD g zak).2.getD c []
theorem zcr{F:FootS}(h:zbq F){k:Nat}(hk:k<F.groups.length):GroupOk F.cols (F.groups.getD k zak):=h.2.1 _ (zai zak hk)
end Go.Hm
namespace Go.Proofs.Y
open Go.RowKit Go.Hm
set_option maxRecDepth 100000 in
theorem zm3{w:World}{Ac Ag:Option Addr}{nl cc ng cg:Nat}{r g c:Int}:
 Calls Tryz.prog 101 #[.agg #[.slice Ac nl cc,.int .i64 r,.slice Ag ng cg],.int .i64 g,.int .i64 c] w (zal (.bool (inB nl ng g c)) w):=by
 have B0:=Blk.new w 79 #[.slice Ac nl cc,.int .i64 r,.slice Ag ng cg];have b0:New w (w.alloc (.cells #[.slice Ac nl cc,.int .i64 r,.slice Ag ng cg] 79)):=(Below.refl _ _).alloc (Nat.le_refl _) _;obtain⟨x0,x1,x2⟩:=zan B0;obtain⟨R,hR⟩:∃R,R=inB nl ng g c:=⟨_,rfl⟩;rw[<-hR];unfold inB at hR;by_cases h1:0<=g<;> by_cases h2:g<(ng:Int)<;> by_cases h3:0<=c<;> by_cases h4:c<(nl:Int);all_goals
  first
   |(have e:R=true:=by rw[hR];simp;omega)
   |(have e:R=false:=by rw[hR];simp;omega)
  subst e;clear hR;go_enter Tryz.func101,Tryz.ntmps101
  go_wp2
  all_goals
   first
    |(exfalso;omega)
    |(go_ret;exact⟨rfl,b0⟩)
theorem z78{nl ng:Nat}{g c:Int}(h:inB nl ng g c=true):∃gk ck:Nat,g=(gk:Int)/\c=(ck:Int)/\gk<ng/\ck<nl:=by unfold inB at h;simp only[decide_eq_true_eq] at h;exact⟨g.toNat,c.toNat,by omega,by omega,by omega,by omega⟩
theorem zjh{F:FootS}(h:zbq F){k c:Nat}(hk:k<F.groups.length)(hc:c<F.cols.length):zef (F.cols.getD c zfr).2.1 (F.cols.getD c zfr).2.2 (zav F.groups k c) (F.groups.getD k zak).1/\(F.groups.getD k zak).2.length=F.cols.length:=by have:=zcr h hk;exact⟨this.2.2 c hc,this.2.1⟩
end Go.Proofs.Y
namespace Go.Hm
open Go Go.RowKit
theorem zvy{P:Program}{w:World}{ops:Array Oper}{rest:List Oper}{o:Oper}{a:Act}{Q:Exit->Act->World->Prop}{t e tn:TypeId}{z:Value}{bytes:Nat}{kn:IntKind}(E:ElT P t e z 1 bytes)(hgd:o.guard=none)(s x:Operand)
 (ho:o.op= .call {callee:= .builtin .append,args:= #[s,x],argTypes:= #[t,tn]})(htn:P.underlying tn=some (.int kn))(hz1:z.oneCell'=true)(hs:a.eval s= .slice none 0 0)(n:Nat)(hx:a.eval x= .int .i64 (n:Int))(h0:0<n)(hn:n*bytes<=140737488355328)(hm:n<=maxLen)
 (h:∀w' cap,n<=cap->cap<=maxLen->w'.ownsRow w.heap.size e 1 (.slice (some ⟨w.heap.size,0,none⟩) 0 cap) 0 []->Below w.heap.size w w'->wpList P ops Q rest (a.put o.dst (.slice (some ⟨w.heap.size,0,none⟩) n cap)) w'):
 wpList P ops Q (o::rest) a w:=by
 obtain⟨i,hi,hz0,hs1,hb1⟩:=info_parts E.hi;have hzc:z.cells= #[z]:=by
  revert hz1;unfold Value.oneCell' Value.cells
  cases z<;> simp
 have hsm:n<=9223372036854775807:=by simp only[maxLen] at hm;omega
 refine Lib.wpList_append_run w hgd s x t tn ho _ _ hs hx _ _ (Lib.run_append_nil_zeros w t tn o.type e i z .i64 kn E.ht htn hi hz0 n h0 (by omega) (by omega) (by rw[hb1];omega)) ?_;refine h _ _ (grownCap_ge w n 0 e) (grownCap_le_maxLen w n 0 e hm) ⟨rfl,.inr ⟨w.heap.size,_,_,rfl,Nat.le_refl _,heap_alloc_new w.drew _,Nat.zero_le _,grownCap_le_maxLen w n 0 e hm,?_,by simp⟩⟩ ⟨rfl,rfl,rfl,by simp,fun k hk=>heap_alloc_old w.drew _ hk⟩;have:=grownCap_ge w n 0 e;simp only[Array.size_append,size_zeroCells,hzc];simp;omega
open Go Go.RowKit
abbrev zix:=Option Addr × Nat × List Nat
def zib(d:zix):List Value:=[.slice d.1 d.2.2.length d.2.1]
theorem z0s(d:zix):(zib d).length=1:=rfl
def BytIn(w:World)(d:zix):Prop:=Reads w w.heap.size 1 d.1 d.2.2.length (zao .u8 d.2.2)
theorem BytIn.later{w w':World}{d:zix}(h:BytIn w d)(hb:New w w'):BytIn w' d:=Reads.later h hb
def zc4(D:List zix):List Nat:=D.flatMap fun d=>d.2.2
theorem z3j(D:List zix)(d:zix):zc4 (D++[d])=zc4 D++d.2.2:=by simp[zc4]
theorem zrv{D:List zix}{k:Nat}(hk:k<D.length):zc4 (D.take (k+1))=zc4 (D.take k)++(D.getD k (none,0,[])).2.2:=by rw[zac _ k (none,0,[]) hk,z3j]
theorem zln(D:List zix)(k:Nat):(zc4 (D.take k)).length<=(zc4 D).length:=by
 have e:zc4 D=zc4 (D.take k)++zc4 (D.drop k):=by unfold zc4;rw[<-List.flatMap_append,List.take_append_drop]
 rw[e,List.length_append];omega
theorem z8l{w:World}{B:Nat}{A:Option Addr}{n:Nat}{D:List zix}(h:Reads w B 1 A n (recs zib D)){k:Nat}(hk:k<D.length):
 ∃ad,A=some ad/\ad.block<B/\w.cell? (ad.add k)=some (.slice (D.getD k (none,0,[])).1 (D.getD k (none,0,[])).2.2.length (D.getD k (none,0,[])).2.1):=by
 have hn:n=D.length:=by have:=h.1;rw[zau (sz:=1) (fun _=>rfl)] at this;omega
 obtain⟨ad,u,e,hb,hu,hc⟩:=h.at_ (k:=k) (by omega);have:=zn9 (f:=zib) (sz:=1) (fun _=>rfl) D (none,0,[]) k 0 hk (by omega);rw[Nat.mul_one,Nat.add_zero] at this;rw[this] at hu;obtain rfl:=Option.some.inj hu;exact⟨ad,e,hb,hc⟩
end Go.Hm
namespace Go.Proofs.Y
open Go.RowKit Go.Hm
theorem qkm:Tryz.prog.underlying 3=some (.int .i64):=by kernel_rfl
theorem z8m{w:World}{n:Nat}(hn:n<=140737488351232):
 Calls Tryz.prog 92 #[.slice none 0 0,.int .i64 (n:Int)] w (fun e w'=>∃A c,e= .returned (.slice A 0 c)/\w'.ownsRow w.heap.size 5 1 (.slice A 0 c) 0 []/\New w w'):=by
 by_cases h0:n=0
 ·subst h0
  go_enter Tryz.func92,Tryz.ntmps92
  go_wp2_with fail
  go_ret
  exact⟨none,0,rfl,World.ownsRow_nil _ _ _ _,New.refl _⟩
 ·have h1: ¬((n:Int)<0):=by omega
  have h2:(0:Int)<(n:Int):=by omega
  have h3:wrap64 ((n:Int)-0)=(n:Int):=by unfold wrap64;omega
  have h4:wrap64 (n:Int)=(n:Int):=by unfold wrap64;omega
  go_enter Tryz.func92,Tryz.ntmps92
  go_wp2_with (refine zvy elB rfl (.tmp 20) (.tmp 21) rfl qkm rfl rfl n rfl (by omega) (by omega) (by simp only[maxLen];omega) ?_
               intro w1 cap hc1 hc2 o1 b1)
  go_ret
  exact⟨_,cap,rfl,o1,b1⟩
open Go.RowKit Go.Hm
theorem RowsIn.touch{w w':World}{B base sz n:Nat}{e:TypeId}{v:Value}{xs:List Value}{D:List zex}(h:RowsIn w B D)(h2:w.ownsRow base e sz v n xs)(hne:75≠e)(k:Turns (zbm v) w w'):RowsIn w' B D:=fun d hd=>zoi (h d hd) k (zoj (h d hd) h2 hne)
end Go.Proofs.Y
