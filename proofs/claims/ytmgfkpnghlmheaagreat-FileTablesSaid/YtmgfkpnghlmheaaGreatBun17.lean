/- Merged. -/
import Derived.Lib.AppendZeros
import Derived.Test.YtmgfkpnghlmheaaGreatBun16
set_option maxHeartbeats 4000000
namespace Go.Proofs.Y
open Go.RowKit Go.Hm
set_option maxRecDepth 100000 in
theorem qe8{b b':Bool}{n n':Int}{s s':ByteArray}{x x' y y':Int}(W:World):
 (binOp .neq 61 (.agg #[.bool b,.int .i64 n,.string s,.int .i64 x,.int .i64 y]) (.agg #[.bool b',.int .i64 n',.string s',.int .i64 x',.int .i64 y'])).run Tryz.prog W= .ok (.bool (!(b==b'&&n==n'&&s.toList==s'.toList&&x==x'&&y==y'))) W:=by
 by_cases h1:b=b'<;> by_cases h2:n=n'<;> by_cases h3:s.toList=s'.toList<;> by_cases h4:x=x'<;> by_cases h5:y=y';all_goals go_simp
open Go.RowKit Go.Hm
theorem zc7{α:Type}{l:List α}{k:Nat}(d:α)(h:k<l.length):l.getD k d∈l:=by rw[List.getD_eq_getElem?_getD,List.getElem?_eq_getElem h];exact List.getElem_mem h
theorem qaq{x y:zab}(hx:∀z∈x.2.2.1,z<256)(hy:∀z∈y.2.2.1,z<256):
 (!(x.1==y.1&&x.2.1==y.2.1&&(zad x.2.2.1).toList==(zad y.2.2.1).toList&&x.2.2.2.1==y.2.2.2.1&&x.2.2.2.2==y.2.2.2.2))=decide (x≠y):=by
 rw[zhh hx hy];obtain⟨b,n,s,p,q⟩:=x;obtain⟨b2,n2,s2,p2,q2⟩:=y;rw[Bool.eq_iff_iff];simp[Prod.ext_iff,or_assoc]
set_option maxRecDepth 100000 in
theorem z1d{w:World}{A:Option Addr}{n c:Nat}{l:List zab}{A2:Option Addr}{n2 c2:Nat}{l2:List zab}(h:Reads w w.heap.size 5 A n (recs zam l))(h2:Reads w w.heap.size 5 A2 n2 (recs zam l2))(hn:n<=9223372036854775807)(hn2:n2<=9223372036854775807)
 (h8:∀x∈l,∀z∈x.2.2.1,z<256)(h28:∀x∈l2,∀z∈x.2.2.1,z<256):
 Calls Tryz.prog 49 #[.slice A n c,.slice A2 n2 c2] w (DrewPost (.bool (decide (l=l2))) w):=by
 obtain rfl:=h.lenCell;obtain rfl:=h2.lenCell;by_cases hl:l.length=l2.length
 ·have e1:((l.length:Int) != (l2.length:Int))=false:=by simp;omega
  have K1:=Hz (fun(k:Nat) (hk:k<l.length) (hh:l.getD k (false,0,[],0,0)≠l2.getD k (false,0,[],0,0))=>show decide (l=l2)=false from decide_eq_false (fun e=>hh (by rw[e])));have K2:=Hz (fun(hh:l.take l.length=l2.take l.length)=>show decide (l=l2)=true from decide_eq_true (by rw[List.take_length] at hh;rw[hh,hl,List.take_length]));generalize decide (l=l2)=O at*;have HL:=Hz hl;clear hl;go_enter Tryz.func49,Tryz.ntmps49
  go_wp2
  clear e1;go_loopw [5] (fun i wr=>∃k q:Nat,i= .int .i64 (k:Int)/\k<=l.length/\wr=w.drewN q/\Hid (l.take k=l2.take k)) (fun i _=>l.length-(intOf i).toNat)
  case atStart=>exact⟨0,0,rfl,by omega,rfl,Hz (by simp)⟩
  case round=>
   obtain⟨k,q,rfl,hk,rfl,H⟩:=hrel;by_cases hlt:k<l.length
   ·have hlt2:k<l2.length:=by rw[<-HL.out];exact hlt
    obtain⟨ad,rfl,_,c0,c1,c2,c3,c4⟩:=h.cell5 hlt;obtain⟨ad2,rfl,_,d0,d1,d2,d3,d4⟩:=h2.cell5 hlt2;have M1:=Hz (K1.out k hlt);have M2:=Hz (fun(hh:l.getD k (false,0,[],0,0)=l2.getD k (false,0,[],0,0))=>show l.take (k+1)=l2.take (k+1) by rw[zae l k (false,0,[],0,0) hlt,zae l2 k (false,0,[],0,0) hlt2,H.out,hh])
    have i1:(k:Int)<(l.length:Int):=by omega
    have i2:(k:Int)<(l2.length:Int):=by omega
    have NE:=Hz (qaq (h8 _ (zc7 (false,0,[],0,0) hlt)) (h28 _ (zc7 (false,0,[],0,0) hlt2)));clear H;generalize l.getD k (false,0,[],0,0)=x1 at*;generalize l2.getD k (false,0,[],0,0)=x2 at*;obtain⟨b1,n1,s1,px1,py1⟩:=x1;obtain⟨b2,n2,s2,px2,py2⟩:=x2;simp only at c0 c1 c2 c3 c4 d0 d1 d2 d3 d4;have QN:=fun W=>qe8 (b:=b1) (b':=b2) (n:=n1) (n':=n2) (s:=zad s1) (s':=zad s2) (x:=px1) (x':=px2) (y:=py1) (y':=py2) W
    have NE:=NE.out;simp only at NE;rw[NE] at QN;clear NE;generalize hR:decide ((b1,n1,s1,px1,py1)≠(b2,n2,s2,px2,py2))=R at QN;have HR:=Hz hR;clear hR;have M3:=Hz (fun(hh:R=true)=>M1.out (of_decide_eq_true (HR.out.trans hh)));have M4:=Hz (fun(hh:R=false)=>M2.out (Classical.not_not.1 (of_decide_eq_false (HR.out.trans hh))));clear M1 M2 HR;go_wp2
    go_quiet (fail)
    cases R with
    |true=>
     have O1:=Hz (M3.out rfl);go_wp2
     go_ret
     exact⟨by rw[O1.out];rfl,_,rfl⟩
    |false=>
     have O1:=Hz (M4.out rfl);go_wp2
     go_roundw
     case rel=>exact⟨k+1,_,by go_num,by omega,rfl,O1⟩
     case measure=>simp[intOf];omega
   ·obtain rfl:k=l.length:=by omega
    have O1:=Hz (K2.out H.out);clear K1 K2 H;go_wp2
    go_ret
    exact⟨by rw[O1.out];rfl,q,rfl⟩
 ·have e1:((l.length:Int) != (l2.length:Int))=true:=by simp;omega
  have e2:=Hz (show decide (l=l2)=false from decide_eq_false (fun e=>hl (by rw[e])));generalize decide (l=l2)=O at*;go_enter Tryz.func49,Tryz.ntmps49
  go_wp2
  go_ret
  exact⟨by rw[e2.out];rfl,0,rfl⟩
end Go.Proofs.Y
namespace Go.Hm
open Go Go.RowKit
def z9k(E:List zab)(c:zab):Option Nat:=if c∈E then some (E.idxOf c) else none
theorem z4u{E:List zab}{c d:zab}(h:c∉E):(if d=c then some E.length else z9k E d)=z9k (E++[c]) d:=by
 unfold z9k;by_cases e:d=c
 ·subst e
  rw[if_pos rfl,if_pos (by simp),List.idxOf_append,if_neg h];simp
 ·rw[if_neg e]
  by_cases hd:d∈E
  ·rw[if_pos hd,if_pos (by simp[hd]),List.idxOf_append,if_pos hd]
  ·rw[if_neg hd,if_neg (by simp[hd,e])]
theorem zy1{P:List Nat}{n k q:Nat}(hP:P.length=k)(hk:k<n):(P++List.replicate (n-k) 0).set k q=(P++[q])++List.replicate (n-(k+1)) 0:=by rw[List.set_append_right _ _ (by omega),hP,Nat.sub_self,show n-k=(n-(k+1))+1 by omega,List.replicate_succ,List.set_cons_zero,List.append_assoc];rfl
end Go.Hm
namespace Go.Proofs.Y
open Go.RowKit Go.Hm
theorem z1e(W:World):(Instr.makeMap 222 none).run Tryz.prog W= .ok (.map (some W.heap.size)) (W.alloc (.map #[] 0)):=by simp[Instr.makeMap,Result.andThen]
theorem qi5:ElT Tryz.prog 71 61 (.agg #[.bool false,.int .i64 0,.string ⟨#[]⟩,.int .i64 0,.int .i64 0]) 5 48:=⟨by kernel_rfl,by kernel_rfl,rfl,by omega⟩
def z4v(L:List zab)(w:World)(e:Ending)(w':World):Prop:=
 ∃A1 n1 c1 A2 c2,e= .returned (.tuple #[.slice A1 n1 c1,.slice A2 L.length c2])/\w'.ownsRow w.heap.size 61 5 (.slice A1 n1 c1) n1 (recs zam (ze7 L).1)/\Go.Hm.Own w' w.heap.size 87 (.slice A2 L.length c2) (za3 .u64 (ze7 L).2)/\New w w'
theorem qe9{c:zab}(h:CellFine c):∃kl,keyOf Tryz.prog 61 (zcz c)=some kl:=qal h.1.1 h.2.1 h.2.2.1 h.2.2.2
set_option maxRecDepth 100000 in
theorem zoe{w:World}{A:Option Addr}{n c:Nat}{L:List zab}(h:Reads w w.heap.size 5 A n (recs zam L))(hL:∀y∈L,CellFine y)(hn:n<=100000):
 Calls Tryz.prog 205 #[.slice A n c] w (z4v L w):=by
 obtain rfl:=h.lenCell;have HR:=Hz h;have HL:=Hz hL;clear h hL;have hmm:=z1e;have b0:New w (w.alloc (.map #[] 0)):=(Below.refl _ _).alloc (Nat.le_refl _) _;have M0:=MapC.made (P:=Tryz.prog) (k:=61) w;go_enter Tryz.func205,Tryz.ntmps205
 go_wp2_with (first
  |(refine zb7 elW rfl (.tmp 13) (.tmp 13) rfl (W:=w) (B:=w.heap.size) L.length L.length rfl rfl rfl rfl (by omega) b0 (by simp) rfl (by omega) (by simp only[maxLen];omega) ?_
    intro w3 hown3 hg3 hb3 hs3))
 have M3:=M0.kept hg3 (by simp);simp only[World.size_alloc] at hown3 hs3;clear M0 b0 hg3 hmm;go_loopw [5,17] (fun v i wr=>∃(k cE:Nat) (AE:Option Addr),k<=L.length/\i= .int .i64 (k:Int)/\v= .slice AE (ze7 (L.take k)).1.length cE
  /\wr.ownsRow (w.heap.size+2) 61 5 (.slice AE (ze7 (L.take k)).1.length cE) (ze7 (L.take k)).1.length (recs zam (ze7 (L.take k)).1)
  /\MapC Tryz.prog 61 wr w.heap.size (ze7 (L.take k)).1.length (z9k (ze7 (L.take k)).1)
  /\Go.Hm.Own wr (w.heap.size+1) 87 (.slice (some ⟨w.heap.size+1,0,none⟩) L.length L.length) (za3 .u64 ((ze7 (L.take k)).2++List.replicate (L.length-k) 0))
  /\New w wr/\w.heap.size+2<=wr.heap.size) (fun _ i _=>L.length-(intOf i).toNat)
 case atStart=>exact⟨0,0,none,Nat.zero_le _,rfl,rfl,by simpa[recs,ze7] using zcn,by simpa[ze7] using M3.eqf (f':=z9k []) (fun c _=>by simp[z9k]),by simpa[zbx,ze7] using hown3,hb3,by omega⟩
 case round=>
  obtain⟨k,cE,AE,hk,rfl,rfl,oE,M,oP,b,hz2⟩:=hrel;clear M3 hown3 hb3 hs3;by_cases hlt:k<L.length
  ·have htk:=zae L k (false,0,[],0,0) hlt
   have hst:=zfu (L.take k) (L.getD k (false,0,[],0,0));rw[<-htk] at hst;have hI:=zj1 (L.take k);have hle:=zii (L.take k);have hPl:=hI.len;rw[List.length_take,Nat.min_eq_left (by omega)] at hPl hle;have hfine:=HL.out _ (zc7 (false,0,[],0,0) hlt);obtain⟨ad,rfl,hb,d0,d1,d2,d3,d4⟩:=(Reads.later HR.out b).cell5 hlt;generalize ze7 (L.take k)=EP at*;obtain⟨E,P⟩:=EP;dsimp only at*;generalize L.getD k (false,0,[],0,0)=y at*;have hkey:=qe9 hfine;have hbok:Bok y:=hfine.1.2;unfold zft at hst;try dsimp only at hst
   have hidx:y∈E->E.idxOf y<E.length:=fun hm=>List.idxOf_lt_length_iff.2 hm
   obtain⟨y0,y1,y2,y3,y4⟩:=y;dsimp only at d0 d1 d2 d3 d4;have ha:New wr (wr.alloc (.cells #[.bool y0,.int .i64 y1,.string (zad y2),.int .i64 y3,.int .i64 y4] 61)):=(Below.refl _ _).alloc (Nat.le_refl _) _;have BC:=Blk.new wr 61 #[.bool y0,.int .i64 y1,.string (zad y2),.int .i64 y3,.int .i64 y4];obtain⟨q0,q1,q2,q3,q4⟩:=zcl BC;have M1:=M.kept (row:=none) ⟨ha.os,ha.tape,ha.output,ha.size,fun j hj _=>ha.block j hj⟩ (by simp);have oE1:=zau oE ha;have oP1:=oP.later ha;have b1:=New.trans b ha;have HF:=Hz hfine;clear oE M oP hfine hb;by_cases hm:(y0,y1,y2,y3,y4)∈E
   ·rw[if_pos hm] at hst
    have hq:=hidx hm;have hix:z9k E (y0,y1,y2,y3,y4)=some (E.idxOf (y0,y1,y2,y3,y4)):=by unfold z9k;rw[if_pos hm]
    generalize E.idxOf (y0,y1,y2,y3,y4)=q at*;obtain⟨hg0,hgl,hc,hf,hs⟩:=oP1.num0 (i:=k) hlt;have hs:=hs q;rw[zy1 hPl hlt] at hs;have gS:(wr.alloc (.cells #[.bool y0,.int .i64 y1,.string (zad y2),.int .i64 y3,.int .i64 y4] 61)).grownBy ((wr.alloc (.cells #[.bool y0,.int .i64 y1,.string (zad y2),.int .i64 y3,.int .i64 y4] 61)).setCell ⟨w.heap.size+1,k,none⟩ (.int .u64 (q:Int))) (some (w.heap.size+1)):=zb6;have HS:=Hz hs;have HM:=Hz (M1.kept gS (by simp));have HE:=Hz (oE1.kept gS (.inr (fun e=>by have:=(World.ownsRow.lt oE1 _ e).1;omega)));have HB:=Hz (b1.setCell (p:=⟨w.heap.size+1,k,none⟩) (by simp) (.int .u64 (q:Int)));have HST:=Hz hst;have HX:=Hz hix;clear hst hix hs oE1 gS hidx;go_wp2_with (first
     |(refine zme rfl (.tmp 23) (.tmp 24) 222 rfl z4q qe6 (qg3 _) M1 hbok hkey rfl rfl ?_
       rw[HX.out];simp only[Option.getD_some,Option.isSome_some,z9j]))
    go_roundw
    case rel=>exact⟨k+1,cE,AE,by omega,by go_num,by rw[HST.out],by rw[HST.out];exact HE.out,by rw[HST.out];exact HM.out,by rw[HST.out];exact HS.out,HB.out,by simp;omega⟩
    case measure=>simp[intOf];omega
   ·rw[if_neg hm] at hst
    have hix:z9k E (y0,y1,y2,y3,y4)=none:=by unfold z9k;rw[if_neg hm]
    have hwr:IntKind.u64.wrap (E.length:Int)=(E.length:Int):=by rw[IntKind.wrap_u64];omega
    have HST:=Hz hst;have HX:=Hz hix;have HN:=Hz hm;clear hst hix hidx hm;go_wp2_with (first
     |(refine zme rfl (.tmp 23) (.tmp 24) 222 rfl z4q qe6 (qg3 _) M1 hbok hkey rfl rfl ?_
       rw[HX.out];simp only[Option.getD_none,Option.isSome_none,z9j])
     |(refine zwz rfl (.tmp 33) (.tmp 34) (.tmp 35) 222 rfl z4q qe6 M1 (by simp only[maxLen];omega) hbok hkey E.length rfl rfl rfl ?_
       intro w4 M4 g4;have hz4:=g4.size;have BC4:=BC.grown g4 (by intro e;injection e with e;omega);obtain⟨q0,q1,q2,q3,q4⟩:=zcl BC4;have oE4:=oE1.kept g4 (.inr (fun e=>by have:=(World.ownsRow.lt oE1 _ e).1;omega));have oP4:=oP1.kept g4 (.inr (by simp[Value.ownBlock]));have b4:=Far.below b1 g4 (Nat.le_refl _) (Nat.le_refl _);simp only[World.size_alloc] at hz4;clear M1 oE1 oP1 BC g4)
     |(refine zdb qi5 rfl (.tmp 36) (.tmp 38) rfl (W:=w) (B:=w.heap.size) (base:=w.heap.size+2) (n:=E.length) oE4 rfl rfl b4 (by omega) (by omega) rfl (by simp[Value.oneCell']) (by omega) (by simp only[maxLen];omega) ?_
       intro A5 c5 w5 hc5 _ o5 g5 b5 hz5 _;have M5:=M4.kept g5 (fun e=>by have:=(World.ownsRow.lt oE4 _ e.symm).1;omega)
       have oP5:=oP4.kept g5 (.inr (fun e=>by have:=(World.ownsRow.lt oE4 _ (show _=some (w.heap.size+1) by rw[<-e];rfl)).1;omega))
       obtain⟨hg0,hgl,hc,hf,hs⟩:=oP5.num0 (i:=k) hlt;have hs:=hs E.length;rw[zy1 hPl hlt] at hs;have gS:w5.grownBy (w5.setCell ⟨w.heap.size+1,k,none⟩ (.int .u64 (E.length:Int))) (some (w.heap.size+1)):=zb6;have HS:=Hz hs;have HM:=Hz ((M5.kept gS (by simp)).eqf (fun d _=>z4u HN.out));have HE:=Hz (o5.kept gS (.inr (fun e=>by have:=(World.ownsRow.lt o5 _ e).1;omega)));have HB:=Hz (b5.setCell (p:=⟨w.heap.size+1,k,none⟩) (by simp) (.int .u64 (E.length:Int)));clear hs M4 oE4 oP4 M5 oP5 o5 gS g5 q0 q1 q2 q3 q4))
    go_roundw
    case rel=>exact⟨k+1,c5,A5,by omega,by go_num,by rw[HST.out];simp,by rw[HST.out];simpa[zaw,recs,zam] using HE.out,by rw[HST.out];simpa using HM.out,by rw[HST.out];exact HS.out,HB.out,by simp;omega⟩
    case measure=>simp[intOf];omega
  ·obtain rfl:k=L.length:=by omega
   rw[List.take_length] at oE oP;rw[Nat.sub_self,List.replicate_zero,List.append_nil] at oP;have oE:=zbd oE (show w.heap.size<=w.heap.size+2 by omega);have oP:=oP.base_le (show w.heap.size<=w.heap.size+1 by omega);have HE:=Hz oE;have HP:=Hz oP;clear oE oP M;go_wp2_with fail
   go_ret2
   refine⟨_,_,_,_,_,rfl,?_,HP.out,b⟩;rw[List.take_length];exact HE.out
end Go.Proofs.Y
namespace Go.Hm
theorem qfa:∀(l:List Nat) (m:Nat),ordL l=some m->m<=l.length:=by
 refine zgc ?_ ?_
 ·intro m h;simp[ordL] at h;omega
 ·intro l x ih m h
  rw[ze0] at h;cases hl:ordL l with
  |none=>rw[hl] at h;simp[zei] at h
  |some j=>
   rw[hl] at h;have hi:=ih j hl;unfold zei at h;dsimp only at h;rw[List.length_append,List.length_cons,List.length_nil];split at h
   ·cases h
   ·split at h
    all_goals
     injection h with h;omega
theorem qar{l:List Nat}{k j:Nat}(h:ordL (l.take k)=some j)(hk:k<l.length)(hj:j<l.getD k 0):ordL l=none:=by
 cases hl:ordL l with
 |none=>rfl
 |some m=>
  exfalso;obtain⟨i,hi⟩:=z4o hl (k+1);rw[zae l k 0 hk,ze0,h] at hi;unfold zei at hi;dsimp only at hi;rw[if_pos hj] at hi;cases hi
end Go.Hm
namespace Go.Proofs.Y
open Go.RowKit Go.Hm
set_option maxRecDepth 100000 in
theorem z1f{w:World}{A:Option Addr}{n c:Nat}{L:List zab}(h:Reads w w.heap.size 5 A n (recs zam L))(hL:∀y∈L,CellFine y)(hn:n<=100000):
 Calls Tryz.prog 207 #[.slice A n c] w (zap (.bool (decide L.Nodup)) w):=by
 obtain rfl:=h.lenCell;have C:=Hz (zoe (c:=c) h hL hn);have HN:=Hz (z1a L);clear h hL;go_enter Tryz.func207,Tryz.ntmps207
 go_wp2_with fail
 refine C.out.mono ?_;rintro e w1 ⟨A1,n1,c1,A2,c2,rfl,o1,o2,b⟩;have l1:n1=(ze7 L).1.length:=(Reads.of_own o1).lenCell;have HL1:=Hz l1;clear o1 o2 l1;go_wp2
 go_ret
 refine⟨congrArg (fun q=>Ending.returned (.bool q)) (show((n1:Int)==(L.length:Int))=decide L.Nodup from ?_),b⟩;rw[Bool.eq_iff_iff];have:=HN.out;have l1:=HL1.out;simp only[decide_eq_true_eq,beq_iff_eq];rw[<-this];omega
set_option maxRecDepth 100000 in
theorem zw3{w:World}{A:Option Addr}{n c:Nat}{P:List Nat}{m:Nat}(h:Reads w w.heap.size 1 A n (za3 .u64 P))(hP:∀x∈P,x<=18446744073709551615)(hn:n<=100000)(hm:m<=100000):
 Calls Tryz.prog 209 #[.slice A n c,.int .i64 (m:Int)] w (zdw (.bool (decide (ordL P=some m))) w):=by
 obtain rfl:n=P.length:=h.len;have HR:=Hz h;have HP:=Hz hP;have hmw:IntKind.u64.wrap (m:Int)=(m:Int):=by rw[IntKind.wrap_u64];omega
 clear h hP;go_enter Tryz.func209,Tryz.ntmps209
 go_wp2
 go_loop [5,10] (fun v i=>∃k j:Nat,k<=P.length/\i= .int .i64 (k:Int)/\v= .int .u64 (j:Int)/\Hid (ordL (P.take k)=some j)) (fun _ i=>P.length-(intOf i).toNat)
 case atStart=>exact⟨0,0,Nat.zero_le _,rfl,rfl,Hz (by simp[ordL])⟩
 case round=>
  obtain⟨k,j,hk,rfl,rfl,H⟩:=hrel;have hjl:=qfa _ _ H.out;rw[List.length_take] at hjl;have hj:j<=k:=by omega
  clear hjl;by_cases hlt:k<P.length
  ·obtain⟨ad,rfl,hb,hcell⟩:=HR.out.num hlt
   have htk:=zae P k 0 hlt;have hbad:=Hz (fun hlt2:j<P.getD k 0=>qar H.out hlt hlt2);have hst:=ze0 (P.take k) (P.getD k 0);rw[<-htk,H.out] at hst;have hx:P.getD k 0<=18446744073709551615:=HP.out _ (zc7 0 hlt);have HST:=Hz hst;clear htk hst H hb;generalize P.getD k 0=x at*;by_cases h1:j<x
   ·have t1:decide ((j:Int)<(x:Int))=true:=decide_eq_true (by omega)
    have hno:=Hz (hbad.out h1);clear hbad HST;go_wp2
    go_ret
    exact⟨by rw[hno.out];rfl,rfl⟩
   ·have t1:decide ((j:Int)<(x:Int))=false:=decide_eq_false (by omega)
    by_cases h2:x=j
    ·subst h2
     have hs:ordL (P.take (k+1))=some (x+1):=by rw[HST.out];unfold zei;dsimp only;rw[if_neg (by omega),if_pos rfl]
     have HS:=Hz hs;have hw:IntKind.u64.wrap ((x:Int)+1)=((x+1:Nat):Int):=by rw[IntKind.wrap_u64];omega
     clear hs hbad HST;go_wp2
     go_round
     case rel=>exact⟨k+1,x+1,by omega,by go_num,by go_num,HS⟩
     case measure=>simp[intOf];omega
    ·have hs:ordL (P.take (k+1))=some j:=by
      rw[HST.out];unfold zei;dsimp only;rw[if_neg (by omega),if_neg h2]
     have HS:=Hz hs;have t2:((x:Int)==(j:Int))=false:=beq_eq_false_iff_ne.2 (by omega);clear hs hbad HST;go_wp2
     go_round
     case rel=>exact⟨k+1,j,by omega,by go_num,rfl,HS⟩
     case measure=>simp[intOf];omega
  ·obtain rfl:k=P.length:=by omega
   have H:=H.out;rw[List.take_length] at H;have HS:=Hz H;clear H;go_wp2
   go_ret
   rw[HS.out];refine⟨congrArg (fun q=>Ending.returned (.bool q)) (show((j:Int)==(m:Int))=decide (some j=some m) from ?_),rfl⟩;rw[Bool.eq_iff_iff];simp;omega
open Go.RowKit Go.Hm Go.WideShapes Go.ChangeShapes Go.Deep
theorem CellFine.data{c:zab}(h:CellFine c):zai c:=⟨h.1,h.2.1⟩
section
variable{H:Type}{enc:TypeId × Value->H}{W:World}{base:Nat}{v:Value}{d:DataW H}{ps:List MemPlace}
end
open Go.RowKit Go.Hm
def zel(F:FootS):Prop:=(∀c∈F.cols,∀z∈c.1,z<256)/\ ∀g∈F.groups,∀l∈g.2,∀p∈l,statData p.2.2
end Go.Proofs.Y
namespace Go.Hm
open Go Go.RowKit
theorem zmx{P:Program}{w:World}{ops:Array Oper}{rest:List Oper}{o:Oper}{a:Act}{Q:Exit->Act->World->Prop}{t e tn:TypeId}{z:Value}{bytes:Nat}{kn:IntKind}(E:ElT P t e z 1 bytes)(hgd:o.guard=none)(s x:Operand)
 (ho:o.op= .call {callee:= .builtin .append,args:= #[s,x],argTypes:= #[t,tn]})(htn:P.underlying tn=some (.int kn))(hz1:z.oneCell'=true)(hs:a.eval s= .slice none 0 0)(n:Nat)(hx:a.eval x= .int .i64 (n:Int))(h0:0<n)(hn:n*bytes<=140737488355328)(hm:n<=maxLen)
 (h:∀w' cap,n<=cap->cap<=maxLen->w'.ownsRow w.heap.size e 1 (.slice (some ⟨w.heap.size,0,none⟩) 0 cap) 0 []->Below w.heap.size w w'->wpList P ops Q rest (a.put o.dst (.slice (some ⟨w.heap.size,0,none⟩) n cap)) w'):
 wpList P ops Q (o::rest) a w:=by
 obtain⟨i,hi,hz0,hs1,hb1⟩:=info_parts E.hi;have hzc:z.cells= #[z]:=by
  revert hz1;unfold Value.oneCell' Value.cells
  cases z<;> simp
 have hsm:n<=9223372036854775807:=by simp only[maxLen] at hm;omega
 refine Lib.wpList_append_run w hgd s x t tn ho _ _ hs hx _ _ (Lib.run_append_nil_zeros w t tn o.type e i z .i64 kn E.ht htn hi hz0 n h0 (by omega) (by omega) (by rw[hb1];omega)) ?_;refine h _ _ (grownCap_ge w n 0 e) (grownCap_le_maxLen w n 0 e hm) ⟨rfl,.inr ⟨w.heap.size,_,_,rfl,Nat.le_refl _,heap_alloc_new w.drew _,Nat.zero_le _,grownCap_le_maxLen w n 0 e hm,?_,by simp⟩⟩ ⟨rfl,rfl,rfl,by simp,fun k hk=>heap_alloc_old w.drew _ hk⟩;have:=grownCap_ge w n 0 e;simp only[Array.size_append,size_zeroCells,hzc];simp;omega
open Go Go.RowKit
abbrev zjm:=Option Addr × Nat × List Nat
def zjf(d:zjm):List Value:=[.slice d.1 d.2.2.length d.2.1]
def BytIn(w:World)(d:zjm):Prop:=Reads w w.heap.size 1 d.1 d.2.2.length (za3 .u8 d.2.2)
theorem BytIn.later{w w':World}{d:zjm}(h:BytIn w d)(hb:New w w'):BytIn w' d:=Reads.later h hb
def zda(D:List zjm):List Nat:=D.flatMap fun d=>d.2.2
theorem z28(D:List zjm)(d:zjm):zda (D++[d])=zda D++d.2.2:=by simp[zda]
theorem zrz{D:List zjm}{k:Nat}(hk:k<D.length):zda (D.take (k+1))=zda (D.take k)++(D.getD k (none,0,[])).2.2:=by rw[zae _ k (none,0,[]) hk,z28]
theorem zlb(D:List zjm)(k:Nat):(zda (D.take k)).length<=(zda D).length:=by
 have e:zda D=zda (D.take k)++zda (D.drop k):=by unfold zda;rw[<-List.flatMap_append,List.take_append_drop]
 rw[e,List.length_append];omega
theorem z8e{w:World}{B:Nat}{A:Option Addr}{n:Nat}{D:List zjm}(h:Reads w B 1 A n (recs zjf D)){k:Nat}(hk:k<D.length):
 ∃ad,A=some ad/\ad.block<B/\w.cell? (ad.add k)=some (.slice (D.getD k (none,0,[])).1 (D.getD k (none,0,[])).2.2.length (D.getD k (none,0,[])).2.1):=by
 have hn:n=D.length:=by have:=h.1;rw[zar (sz:=1) (fun _=>rfl)] at this;omega
 obtain⟨ad,u,e,hb,hu,hc⟩:=h.at_ (k:=k) (by omega);have:=zoc (f:=zjf) (sz:=1) (fun _=>rfl) D (none,0,[]) k 0 hk (by omega);rw[Nat.mul_one,Nat.add_zero] at this;rw[this] at hu;obtain rfl:=Option.some.inj hu;exact⟨ad,e,hb,hc⟩
end Go.Hm
namespace Go.Proofs.Y
open Go.RowKit Go.Hm
theorem qi1:Tryz.prog.underlying 3=some (.int .i64):=by kernel_rfl
theorem z8f{w:World}{n:Nat}(hn:n<=140737488351232):
 Calls Tryz.prog 66 #[.slice none 0 0,.int .i64 (n:Int)] w (fun e w'=>∃A c,e= .returned (.slice A 0 c)/\w'.ownsRow w.heap.size 5 1 (.slice A 0 c) 0 []/\New w w'):=by
 by_cases h0:n=0
 ·subst h0
  go_enter Tryz.func66,Tryz.ntmps66
  go_wp2_with fail
  go_ret
  exact⟨none,0,rfl,World.ownsRow_nil _ _ _ _,New.refl _⟩
 ·have h1: ¬((n:Int)<0):=by omega
  have h2:(0:Int)<(n:Int):=by omega
  have h3:wrap64 ((n:Int)-0)=(n:Int):=by unfold wrap64;omega
  have h4:wrap64 (n:Int)=(n:Int):=by unfold wrap64;omega
  go_enter Tryz.func66,Tryz.ntmps66
  go_wp2_with (refine zmx elB rfl (.tmp 20) (.tmp 21) rfl qi1 rfl rfl n rfl (by omega) (by omega) (by simp only[maxLen];omega) ?_
               intro w1 cap hc1 hc2 o1 b1)
  go_ret
  exact⟨_,cap,rfl,o1,b1⟩
end Go.Proofs.Y
