/- Merged. -/
import Derived.Test.YtmgfkpnghlmheaaGreatBun3
set_option maxHeartbeats 200000
namespace Go.Hm
def pk(w:Nat):List Nat->Nat
 | []=>0
 |x::l=>x+2^w*pk w l
theorem z34(w:Nat)(l:List Nat)(x:Nat):pk w (l++[x])=pk w l+2^(w*l.length)*x:=by
 induction l with
 |nil=>simp[pk]
 |cons a l ih=>
  simp only[List.cons_append,pk,ih,List.length_cons];rw[Nat.mul_add,Nat.mul_succ,Nat.pow_add];simp only[Nat.mul_comm,Nat.mul_left_comm,Nat.add_assoc]
theorem qgv(w:Nat)(l:List Nat)(h:∀x∈l,x<2^w):pk w l<2^(w*l.length):=by
 induction l with
 |nil=>simp[pk]
 |cons a l ih=>
  have h1:=ih fun x hx=>h x (by simp[hx])
  have h2:=h a (by simp);simp only[pk,List.length_cons];rw[Nat.mul_succ,Nat.pow_add,Nat.mul_comm (2^(w*l.length))];have:2^w*(pk w l+1)<=2^w*2^(w*l.length):=Nat.mul_le_mul_left _ h1;rw[Nat.mul_add] at this;omega
def zp7(w:Nat):Nat->Nat->List Nat
 |0,_=>[]
 |n+1,B=>zp7 w n B++[B/2^(w*n)%2^w]
theorem zd6(w n B:Nat):(zp7 w n B).length=n:=by induction n<;> simp_all[zp7]
theorem z36(w n B:Nat):∀x∈zp7 w n B,x<2^w:=by
 induction n with
 |zero=>intro x hx;simp[zp7] at hx
 |succ n ih=>
  intro x hx;simp only[zp7,List.mem_append,List.mem_singleton] at hx;rcases hx with hx|hx
  ·exact ih x hx
  ·subst hx;exact Nat.mod_lt _ (Nat.two_pow_pos w)
theorem z37(w n B i:Nat)(h:i<n):(zp7 w n B).getD i 0=B/2^(w*i)%2^w:=by
 induction n with
 |zero=>omega
 |succ n ih=>
  rw[zp7,List.getD_eq_getElem?_getD];by_cases hi:i<n
  ·rw[List.getElem?_append_left (by rw[zd6];exact hi),<-List.getD_eq_getElem?_getD,ih hi]
  ·obtain rfl:i=n:=by omega
   rw[List.getElem?_append_right (by rw[zd6];exact Nat.le_refl _),zd6];simp
theorem qer(w n B:Nat):pk w (zp7 w n B)=B%2^(w*n):=by
 induction n with
 |zero=>simp[zp7,pk,Nat.mod_one]
 |succ n ih=>rw[zp7,z34,ih,zd6,Nat.mul_succ,Nat.pow_add,Nat.mod_mul]
theorem qes(w:Nat)(l:List Nat)(h:∀x∈l,x<2^w)(B:Nat)(hB:B%2^(w*l.length)=pk w l):zp7 w l.length B=l:=by
 have key:∀(m:List Nat),(∀x∈m,x<2^w)-> ∀i,i<m.length->pk w m/2^(w*i)%2^w=m.getD i 0:=by
  intro m;induction m with
  |nil=>intro _ i hi;simp at hi
  |cons a m ih=>
   intro hm i hi;have ha:=hm a (by simp);cases i with
   |zero=>simp[pk,Nat.add_mul_mod_self_left,Nat.mod_eq_of_lt ha]
   |succ i=>
    rw[pk,Nat.mul_succ,Nat.add_comm (w*i),Nat.pow_add,<-Nat.div_div_eq_div_mul,Nat.add_mul_div_left _ _ (Nat.two_pow_pos w),Nat.div_eq_of_lt ha,Nat.zero_add,ih (fun x hx=>hm x (by simp[hx])) i (by simpa using hi)];simp
 refine List.ext_getElem (zd6 _ _ _) fun i h1 h2=>?_
 have e1:(zp7 w l.length B).getD i 0=(zp7 w l.length B)[i]:=by rw[List.getD_eq_getElem?_getD,List.getElem?_eq_getElem h1];rfl
 have e2:l.getD i 0=l[i]:=by rw[List.getD_eq_getElem?_getD,List.getElem?_eq_getElem h2];rfl
 rw[<-e1,<-e2,z37 w l.length B i h2,<-key l h i h2,<-hB];have hs:w*l.length=w*i+(w+w*(l.length-i-1)):=by
  have e:l.length=i+(1+(l.length-i-1)):=by omega
  conv=>lhs;rw[e]
  rw[Nat.mul_add,Nat.mul_add,Nat.mul_one]
 rw[hs,Nat.pow_add,Nat.mod_mul_right_div_self,Nat.pow_add,Nat.mod_mul_right_mod]
theorem zkj(X s i:Nat)(h:i<s):(low X s).getD i 0=X/256^i%256:=by
 induction s with
 |zero=>omega
 |succ s ih=>
  rw[low,List.getD_eq_getElem?_getD];by_cases hi:i<s
  ·rw[List.getElem?_append_left (by rw[zbg];exact hi),<-List.getD_eq_getElem?_getD,ih hi]
  ·obtain rfl:i=s:=by omega
   rw[List.getElem?_append_right (by rw[zbg];exact Nat.le_refl _),zbg];simp
theorem zsd(b:List Nat)(h:∀x∈b,x<256):low (num b) b.length=b:=by
 have key:∀(m:List Nat),(∀x∈m,x<256)-> ∀i,i<m.length->num m/256^i%256=m.getD i 0:=by
  intro m;induction m with
  |nil=>intro _ i hi;simp at hi
  |cons a m ih=>
   intro hm i hi;have ha:=hm a (by simp);cases i with
   |zero=>simp[num];omega
   |succ i=>
    rw[num,Nat.pow_succ,Nat.mul_comm (256^i),<-Nat.div_div_eq_div_mul,show(a+256*num m)/256=num m by omega,ih (fun x hx=>hm x (by simp[hx])) i (by simpa using hi)];simp
 refine List.ext_getElem (zbg _ _) fun i h1 h2=>?_
 have e1:(low (num b) b.length).getD i 0=(low (num b) b.length)[i]:=by rw[List.getD_eq_getElem?_getD,List.getElem?_eq_getElem h1];rfl
 have e2:b.getD i 0=b[i]:=by rw[List.getD_eq_getElem?_getD,List.getElem?_eq_getElem h2];rfl
 rw[<-e1,<-e2,zkj _ _ _ h2,key b h i h2]
theorem zyq(b:List Nat)(h:∀x∈b,x<256)(i:Nat)(hi:i<b.length):b.getD i 0=num b/256^i%256:=by have:=zkj (num b) b.length i hi;rwa[zsd b h] at this
theorem z90(s:Nat):low 0 s=List.replicate s 0:=by
 induction s with
 |zero=>rfl
 |succ s ih=>rw[low,ih,List.replicate_succ'];simp
theorem qet(k:Nat):(256:Nat)^k=2^(8*k):=by rw[show(256:Nat)=2^8 from rfl,<-Nat.pow_mul]
theorem qeu(X s a c:Nat)(ha:a<8*s)(hX:X<2^a)(hc:c<=1):
 (low X s).set (a/8) ((low X s).getD (a/8) 0+c*2^(a%8))=low (X+c*2^a) s/\(low X s).getD (a/8) 0<2^(a%8)/\(low X s).getD (a/8) 0+c*2^(a%8)<256:=by
 have hq:a/8<s:=by omega
 have ea:2^a=256^(a/8)*2^(a%8):=by rw[qet,<-Nat.pow_add];congr 1;omega
 have hr:2^(a%8)<=2^7:=Nat.pow_le_pow_right (by omega) (by omega);have h0:X/256^(a/8)<2^(a%8):=by apply Nat.div_lt_of_lt_mul;rw[<-ea];exact hX
 have hb:(low X s).getD (a/8) 0=X/256^(a/8):=by rw[zkj _ _ _ hq];exact Nat.mod_eq_of_lt (by omega)
 have hcc:c*2^(a%8)<=2^(a%8):=by
  calc c*2^(a%8)<=1*2^(a%8):=Nat.mul_le_mul_right _ hc
   _=_:=Nat.one_mul _
 have hlt:X/256^(a/8)+c*2^(a%8)<256:=by omega
 refine⟨?_,by rw[hb];exact h0,by rw[hb];exact hlt⟩;refine List.ext_getElem (by simp[zbg]) fun i h1 h2=>?_
 have h2':i<s:=by rwa[zbg] at h2
 have h1':i<(low X s).length:=by rwa[zbg]
 have e2:(low (X+c*2^a) s)[i]=(X+c*2^a)/256^i%256:=by rw[<-zkj _ _ _ h2',List.getD_eq_getElem?_getD,List.getElem?_eq_getElem h2];rfl
 have e1:(low X s)[i]'h1'=X/256^i%256:=by rw[<-zkj _ _ _ h2',List.getD_eq_getElem?_getD,List.getElem?_eq_getElem h1'];rfl
 rw[e2,List.getElem_set];by_cases hi:a/8=i
 ·subst hi
  rw[if_pos rfl,hb,ea,show c*(256^(a/8)*2^(a%8))=256^(a/8)*(c*2^(a%8)) from Nat.mul_left_comm _ _ _,Nat.add_mul_div_left _ _ (Nat.pow_pos (by omega)),Nat.mod_eq_of_lt hlt]
 ·rw[if_neg hi,e1]
  rcases Nat.lt_or_gt_of_ne hi with hlt'|hgt
  ·have hp:2^(a+1)<=256^i:=by rw[qet];exact Nat.pow_le_pow_right (by omega) (by omega)
   have hca:c*2^a<=2^a:=by
    calc c*2^a<=1*2^a:=Nat.mul_le_mul_right _ hc
     _=_:=Nat.one_mul _
   rw[Nat.pow_succ] at hp;rw[Nat.div_eq_of_lt (by omega),Nat.div_eq_of_lt (by omega)]
  ·have es:2^a=256^i*(256*2^(a-8*(i+1))):=by
    rw[qet,show(256:Nat)=2^8 from rfl,<-Nat.pow_add,<-Nat.pow_add];congr 1;omega
   rw[es,show c*(256^i*(256*2^(a-8*(i+1))))=256^i*(256*(c*2^(a-8*(i+1)))) by simp only[Nat.mul_left_comm],Nat.add_mul_div_left _ _ (Nat.pow_pos (by omega)),Nat.add_mul_mod_self_left]
theorem zmc(y j:Nat):y%2^(j+1)=y%2^j+2^j*(y/2^j%2):=by rw[Nat.pow_succ,Nat.mod_mul]
theorem qev{X m:Nat}(y j:Nat)(hX:X<2^m):X+y%2^j*2^m<2^(m+j):=by have h1:y%2^j<2^j:=Nat.mod_lt _ (Nat.two_pow_pos _);have h2:(y%2^j+1)*2^m<=2^j*2^m:=Nat.mul_le_mul_right _ h1;rw[Nat.add_mul,Nat.one_mul] at h2;rw[Nat.pow_add,Nat.mul_comm (2^m)];omega
theorem z38{X m:Nat}(s y j a q r t:Nat)(hX:X<2^m)(ha:a=m+j)(hs:a<8*s)(hq:q=a/8/\r=a%8)(ht:t=y/2^j%2):
 (low (X+y%2^j*2^m) s).getD q 0<2^r/\(low (X+y%2^j*2^m) s).set q ((low (X+y%2^j*2^m) s).getD q 0+t*2^r)=low (X+y%2^(j+1)*2^m) s:=by
 obtain⟨rfl,rfl⟩:=hq;have h:=qeu (X+y%2^j*2^m) s a t hs (by rw[ha];exact qev y j hX) (by omega);refine⟨h.2.1,h.1.trans ?_⟩;congr 1
 rw[zmc,Nat.add_mul,ht,ha,Nat.pow_add,Nat.add_assoc];congr 2
 rw[Nat.mul_comm (2^m),<-Nat.mul_assoc,Nat.mul_comm (y/2^j%2)]
end Go.Hm
namespace Go.Proofs.Y
open Go.RowKit Go.Hm
theorem qdp:Tryz.prog.underlying 9=some .string:=by kernel_rfl
theorem elS:ElT Tryz.prog 174 9 (.string ⟨#[]⟩) 1 16:=⟨by kernel_rfl,by kernel_rfl,rfl,by omega⟩
def DrewPost(v:Value)(w:World)(e:Ending)(w':World):Prop:=e= .returned v/\ ∃k,w'=w.drewN k
def zap(v:Value)(w:World)(e:Ending)(w':World):Prop:=e= .returned v/\New w w'
def zdw(v:Value)(w:World)(e:Ending)(w':World):Prop:=e= .returned v/\w=w'
theorem DrewPost.new{v:Value}{w w':World}{e:Ending}(h:DrewPost v w e w'):zap v w e w':=by obtain⟨h1,k,rfl⟩:=h;exact⟨h1,zic w k⟩
def OptB(o:Option (List Nat))(w:World)(e:Ending)(w':World):Prop:=
 match o with
 |none=>e= .returned (.tuple #[.slice none 0 0,.bool false])/\Below w.heap.size w w'
 |some l=>∃A n c,e= .returned (.tuple #[.slice A n c,.bool true])/\Own w' w.heap.size 5 (.slice A n c) (za3 .u8 l)/\Below w.heap.size w w'
theorem OptB.u{o:Option (List Nat)}{w w':World}{e:Ending}(h:OptB o w e w'):
 ∃A n c,e= .returned (.tuple #[.slice A n c,.bool o.isSome])/\Own w' w.heap.size 5 (.slice A n c) (za3 .u8 (o.getD []))/\Below w.heap.size w w':=by
 cases o with
 |none=>exact⟨none,0,0,h.1,Own.nil_,h.2⟩
 |some l=>exact h
def OptW(o:Option (List Nat))(w:World)(e:Ending)(w':World):Prop:=
 match o with
 |none=>e= .returned (.tuple #[.slice none 0 0,.bool false])/\Below w.heap.size w w'
 |some l=>∃A n c,e= .returned (.tuple #[.slice A n c,.bool true])/\Own w' w.heap.size 87 (.slice A n c) (za3 .u64 l)/\Below w.heap.size w w'
theorem OptW.u{o:Option (List Nat)}{w w':World}{e:Ending}(h:OptW o w e w'):
 ∃A n c,e= .returned (.tuple #[.slice A n c,.bool o.isSome])/\Own w' w.heap.size 87 (.slice A n c) (za3 .u64 (o.getD []))/\Below w.heap.size w w':=by
 cases o with
 |none=>exact⟨none,0,0,h.1,Own.nil_,h.2⟩
 |some l=>exact h
def OptT(o:Option (List (List Nat)))(w:World)(e:Ending)(w':World):Prop:=
 match o with
 |none=>e= .returned (.tuple #[.slice none 0 0,.bool false])/\Below w.heap.size w w'
 |some l=>∃A n c,e= .returned (.tuple #[.slice A n c,.bool true])/\Own w' w.heap.size 9 (.slice A n c) (zm1 l)/\Below w.heap.size w w'
theorem OptT.u{o:Option (List (List Nat))}{w w':World}{e:Ending}(h:OptT o w e w'):
 ∃A n c,e= .returned (.tuple #[.slice A n c,.bool o.isSome])/\Own w' w.heap.size 9 (.slice A n c) (zm1 (o.getD []))/\Below w.heap.size w w':=by
 cases o with
 |none=>exact⟨none,0,0,h.1,Own.nil_,h.2⟩
 |some l=>exact h
end Go.Proofs.Y
namespace Go.Hm
open Go Go.RowKit
section
variable{w w':World}{base sz n:Nat}{e:TypeId}{v:Value}{xs:List Value}
theorem z4l{B:Nat}(h:w.ownsRow base e sz v n xs)(hb:Below B w w')(hB:w.heap.size<=B):w'.ownsRow base e sz v n xs:=by
 refine⟨h.1,?_⟩;rcases h.2 with hn|⟨g,cap,cur,rfl,hbg,hgg,rest⟩
 ·exact .inl hn
 ·refine .inr ⟨g,cap,cur,rfl,hbg,?_,rest⟩
  rw[hb.block g (Nat.lt_of_lt_of_le (Array.getElem?_eq_some_iff.1 hgg).1 hB)];exact hgg
theorem zau(h:w.ownsRow base e sz v n xs)(hb:New w w'):w'.ownsRow base e sz v n xs:=z4l h hb (Nat.le_refl _)
theorem zbd{b':Nat}(h:w.ownsRow base e sz v n xs)(hb:b'<=base):w.ownsRow b' e sz v n xs:=by
 refine⟨h.1,?_⟩;rcases h.2 with hn|⟨g,cap,cur,hv,hbg,rest⟩
 ·exact .inl hn
 ·exact .inr ⟨g,cap,cur,hv,Nat.le_trans hb hbg,rest⟩
theorem zcg(h:w.ownsRow base e sz v n xs):∃A c,v= .slice A n c/\n<=c/\c<=maxLen:=by
 rcases h.2 with⟨hv,hn⟩|⟨g,cap,cur,hv,_,_,hc,hm,_⟩
 ·exact⟨none,0,by rw[hv,hn],by omega,by simp[maxLen]⟩
 ·exact⟨_,_,hv,hc,hm⟩
theorem zcn:w.ownsRow base e sz (.slice none 0 0) 0 []:=⟨by simp,.inl ⟨rfl,rfl⟩⟩
theorem zal{g:Nat}{t:TypeId}{cs:Array Value}(h:w.ownsRow base e sz v n xs)(hg:Blk w g t cs)(hne:e≠t):v.ownBlock≠some g:=by
 rcases h.2 with⟨rfl,_⟩|⟨g',cap,cur,rfl,_,hh,_⟩
 ·simp[Value.ownBlock]
 ·intro he
  have:g'=g:=by simpa[Value.ownBlock] using he
  subst this;exact Blk.ne_ (t:=e) hh hg hne rfl
end
theorem z06(a b c:Value)(n:Nat):(madeCells #[a,b,c] (n*3)).toList=(List.replicate n [a,b,c]).flatten:=by
 induction n with
 |zero=>simp[madeCells]
 |succ n ih=>
  rw[List.replicate_succ',List.flatten_append,<-ih];have e:∀m,m%3=0->(madeCells #[a,b,c] (m+3)).toList=(madeCells #[a,b,c] m).toList++[a,b,c]:=by intro m hm;simp only[madeCells,Array.toList_map,Array.toList_range,List.range_succ,List.map_append,List.map_cons,List.map_nil,List.append_assoc,List.cons_append,List.nil_append,List.size_toArray,List.length_cons,List.length_nil];rw[hm,show(m+1)%3=1 by omega,show(m+2)%3=2 by omega];rfl
  rw[Nat.succ_mul,e (n*3) (by omega)];simp
section
variable{P:Program}{ops:Array Oper}{rest:List Oper}{o:Oper}{a:Act}{Q:Exit->Act->World->Prop}
theorem zdb{w:World}{t e:TypeId}{z:Value}{sz bytes:Nat}(E:ElT P t e z sz bytes)(hgd:o.guard=none)(s x:Operand)
 (ho:o.op= .call {callee:= .builtin .append,args:= #[s,x],argTypes:= #[t,t]})
 {W:World}{B base n:Nat}{v:Value}{us xs:List Value}(hown:w.ownsRow base e sz v n xs)(hs:a.eval s=v)(hx:a.eval x= .slice (some ⟨w.heap.size,0,none⟩) 1 1)
 (hb:Below B W w)(hbB:B<=base)(hbase:base<=w.heap.size)(hus:us.length=sz)(h1:∀u∈us,u.oneCell'=true)
 (hn:(n+1)*bytes<=140737488355328)(hm:n+1<=maxLen)
 (h:∀A' c' w',n+1<=c'->c'<=maxLen->w'.ownsRow base e sz (.slice A' (n+1) c') (n+1) (xs++us)->w.grownBy w' v.ownBlock->Below B W w'->w.heap.size<w'.heap.size->
  (Value.ownBlock (.slice A' (n+1) c')=v.ownBlock\/ ∃g,Value.ownBlock (.slice A' (n+1) c')=some g/\w.heap.size<=g)->wpList P ops Q rest (a.put o.dst (.slice A' (n+1) c')) w'):
 wpList P ops Q (o::rest) a (w.alloc (.cells us.toArray e)):=by
 obtain⟨i,hi,hz0,hz1,hz2⟩:=info_parts E.hi;refine wpList_append_own_at _ hgd s x t ho base e i z sz bytes E.ht hi hz0 hz1 hz2 E.hz E.hs v n xs hs (World.ownsRow.alloc hown _) ⟨w.heap.size,0,none⟩ 1 1 us hx (by omega) ?_ h1 hm hn (by simp;omega) ?_
 ·have:=World.news_of_block (heap_alloc_new w (.cells us.toArray e))
  simpa using this
 intro v' w' hown' hg _ hat;obtain⟨A',c',rfl,hc1,hc2⟩:=zcg hown';have hg2:w.grownBy w' v.ownBlock:=(World.grownBy_alloc w (.cells us.toArray e) v.ownBlock).trans hg;have hsz:=hg.size;simp at hsz;refine h A' c' w' hc1 hc2 hown' hg2 (hb.grown hg2 (Nat.le_trans hbB hbase) (fun k hk=>by have:=(World.ownsRow.lt hown k hk).1;omega)) (by omega) ?_;rcases hat with e1|e1
 ·exact .inl e1
 ·exact .inr ⟨_,e1,by simp⟩
theorem z07{w:World}{t e:TypeId}{x y z:Value}{bytes:Nat}(E:ElT P t e (.agg #[x,y,z]) 3 bytes)(hgd:o.guard=none)(lo co:Operand)(ho:o.op=Op.makeSlice t lo co)
 {W:World}{B:Nat}{kl kc:IntKind}{L C:Int}(n:Nat)(hl:a.eval lo= .int kl L)(hc:a.eval co= .int kc C)(hL:L=(n:Int))(hC:C=(n:Int))(hb:Below B W w)(hbase:B<=w.heap.size)
 (hn:n*bytes<=140737488355328)(hm:n<=maxLen)
 (h:∀w',w'.ownsRow w.heap.size e 3 (.slice (some ⟨w.heap.size,0,none⟩) n n) n (List.replicate n [x,y,z]).flatten->w.grownBy w' none->Below B W w'->w'.heap.size=w.heap.size+1->wpList P ops Q rest (a.put o.dst (.slice (some ⟨w.heap.size,0,none⟩) n n)) w'):
 wpList P ops Q (o::rest) a w:=by
 obtain⟨i,hi,hz0,hs1,hb1⟩:=info_parts E.hi;subst hL hC;have hmC:(n:Int)<=9223372036854775807:=by have h:=hm;simp only[maxLen] at h;omega
 have hbC:(i.bytes:Int)*(n:Int)<=281474976710656:=by
  have h:((i.bytes*n:Nat):Int)<=281474976710656:=by rw[hb1,Nat.mul_comm];omega
  rwa[Int.natCast_mul] at h
 have hrun:=run_make (P:=P) w t e i (.agg #[x,y,z]) E.ht hi hz0 kl kc (n:Int) (n:Int) (by omega) (by omega) hbC hmC;rw[Int.toNat_natCast,hs1] at hrun;refine wpList_plain hgd fun K hK=>?_
 unfold Oper.wp;simp[execOp,ho,hl,hc,hrun,Result.andThen];refine hK _ _ (h _ ?_ (World.grownBy_alloc _ _ _) (hb.alloc hbase _) (by simp));refine⟨by simp,.inr ⟨_,n,_,rfl,Nat.le_refl _,heap_alloc_new w _,Nat.le_refl _,hm,by simp[size_madeCells],?_⟩⟩;rw[List.take_of_length_le (by simp[size_madeCells])];exact z06 x y z n
end
theorem z4m{w w' W:World}{gc gm:Nat}(hb:w.grownBy w' (some gc))(hg:w'.grownBy W (some gm))(hle:w.heap.size<=gm):w.grownBy W (some gc):=
 ⟨hg.os.trans hb.os,hg.tape.trans hb.tape,hg.output.trans hb.output,Nat.le_trans hb.size hg.size,fun k hk hne=>(hg.block k (Nat.lt_of_lt_of_le hk hb.size) (fun e=>by injection e with e;omega)).trans (hb.block k hk hne)⟩
theorem zih{w:World}{base:Nat}{e:TypeId}{g n c sz:Nat}{xs:List Value}(h:w.ownsRow base e sz (.slice (some ⟨g,0,none⟩) n c) n xs):∃cs,Blk w g e cs:=by
 rcases h.2 with⟨hv,_⟩|⟨g',cap,cur,hv,_,hh,_⟩
 ·cases hv
 ·injection hv with e1 _ _
  injection e1 with e1;injection e1 with e1;subst e1;exact⟨cur,hh⟩
theorem qah{A B:List Value}{x y z a b c:Value}{m:Nat}(h:A.length=m):(((A++([x,y,z]++B)).set m a).set (m+1) b).set (m+2) c=A++([a,b,c]++B):=by subst h;rw[List.set_append_right _ _ (Nat.le_refl _),List.set_append_right _ _ (by omega),List.set_append_right _ _ (by omega)];simp
theorem qai{w:World}{base:Nat}{e:TypeId}{g n c m:Nat}{A B:List Value}{x y z a b d:Value}(h:w.ownsRow base e 3 (.slice (some ⟨g,0,none⟩) n c) n (A++([x,y,z]++B)))(hm:A.length=m):
 ∃W,W=((w.setCell ⟨g,m,none⟩ a).setCell ⟨g,m+1,none⟩ b).setCell ⟨g,m+2,none⟩ d/\W.ownsRow base e 3 (.slice (some ⟨g,0,none⟩) n c) n (A++([a,b,d]++B))/\w.grownBy W (some g):=by
 obtain⟨h1,g1⟩:=h.stored m a;obtain⟨h2,g2⟩:=h1.stored (m+1) b;obtain⟨h3,g3⟩:=h2.stored (m+2) d;rw[qah hm] at h3;exact⟨_,rfl,h3,(g1.trans g2).trans g3⟩
theorem z4n{w w':World}{g gc:Nat}{ty:TypeId}{x y z a b c:Value}(h:Blk w' g ty #[x,y,z])(hb:w.grownBy w' (some gc))(hg:w.heap.size<=g):
 ∃W3,W3=(((w'.setCell ⟨g,0,none⟩ a).setCell ⟨g,1,none⟩ b).setCell ⟨g,2,none⟩ c)/\Blk W3 g ty #[a,b,c]/\w.grownBy W3 (some gc)/\ ∀k,k≠g->W3.heap[k]? =w'.heap[k]? :=by
 refine⟨_,rfl,by simpa using((h.set_ 0 a).set_ 1 b).set_ 2 c,⟨hb.os,hb.tape,hb.output,by simpa[World.setCell] using hb.size,fun k hk hne=>?_⟩,fun k hk=>?_⟩
 ·rw[Below.heap_setCell _ _ _ _ (show k≠g by omega),Below.heap_setCell _ _ _ _ (show k≠g by omega),Below.heap_setCell _ _ _ _ (show k≠g by omega)]
  exact hb.block k hk hne
 ·rw[Below.heap_setCell _ _ _ _ hk,Below.heap_setCell _ _ _ _ hk,Below.heap_setCell _ _ _ _ hk]
theorem z08{w:World}{row:Option Nat}:w.grownBy w.drew row:=⟨rfl,rfl,rfl,Nat.le_refl _,fun _ _ _=>rfl⟩
theorem zgb{w0:World}{p:Addr}{u:Value}(h:w0.cell? p=some u)(hp:p.block<w0.drew.heap.size):∀W,New w0.drew W->W.cell? p=some u:=fun _ hW=>(Below.cell hW hp).trans h
theorem Reads.litR(w:World)(e:TypeId)(cs:Array Value)(n sz:Nat)(xs:List Value)(h:cs.toList=xs)(hn:xs.length=n*sz):Reads (w.alloc (.cells cs e)) (w.alloc (.cells cs e)).heap.size sz (some ⟨w.heap.size,0,none⟩) n xs:=by refine⟨hn,fun _=>⟨_,rfl,by simp,?_⟩⟩;have:=World.news_of_block (heap_alloc_new w (.cells cs e));rwa[h] at this
theorem Reads.pair2{w:World}{B n i:Nat}{A:Option Addr}{l:List (Int × Int)}(h:Reads w B 2 A n (zcy l))(hi:i<n):
 ∃ad,A=some ad/\ad.block<B/\w.cell? (ad.add (i*2))=some (.int .i64 (l.getD i (0,0)).1)/\w.cell? ⟨(ad.add (i*2)).block,(ad.add (i*2)).off+1,none⟩=some (.int .i64 (l.getD i (0,0)).2):=by
 obtain⟨ad,h1,h2,h3,h4⟩:=h.pair hi;rw[<-za8] at h4;exact⟨ad,h1,h2,h3,h4⟩
open Go Go.RowKit
abbrev za2:=List Nat × Int × Bool
def zh8(c:za2):List Value:=[.string (zad c.1),.int .i64 c.2.1,.bool c.2.2]
theorem Reads.colT{w:World}{B n i:Nat}{A:Option Addr}{l:List za2}(h:Reads w B 3 A n (recs zh8 l))(hi:i<n):
 ∃ad,A=some ad/\ad.block<B/\w.cell? (ad.add (i*3))=some (.string (zad (l.getD i ([],0,false)).1))/\w.cell? ⟨(ad.add (i*3)).block,(ad.add (i*3)).off+1,none⟩=some (.int .i64 (l.getD i ([],0,false)).2.1)/\w.cell? ⟨(ad.add (i*3)).block,(ad.add (i*3)).off+2,none⟩=some (.bool (l.getD i ([],0,false)).2.2):=by
 obtain⟨ad,h1,h2,_,h3⟩:=h.rec_ (f:=zh8) (sz:=3) (fun _=>rfl) ([],0,false) hi (by omega);refine⟨ad,h1,h2,h3 0 _ rfl,?_,?_⟩
 ·have:=h3 1 _ rfl
  rw[<-za8] at this;exact this
 ·have:=h3 2 _ rfl
  rw[<-za8] at this;exact this
theorem Reads.lenC{w:World}{B n:Nat}{A:Option Addr}{l:List za2}(h:Reads w B 3 A n (recs zh8 l)):n=l.length:=h.lenR (f:=zh8) (sz:=3) (fun _=>rfl) (by omega)
theorem zaf{w:World}{g:Nat}{ty:TypeId}{x y z:Value}(h:Blk w g ty #[x,y,z]):w.cell? ⟨g,0,none⟩=some x/\w.cell? ⟨g,1,none⟩=some y/\w.cell? ⟨g,2,none⟩=some z:=by have h0:=h.cell 0;have h1:=h.cell 1;have h2:=h.cell 2;simp at h0 h1 h2;exact⟨h0,h1,h2⟩
open Go Go.RowKit
abbrev zab:=Bool × Int × List Nat × Int × Int
def zam(c:zab):List Value:=[.bool c.1,.int .i64 c.2.1,.string (zad c.2.2.1),.int .i64 c.2.2.2.1,.int .i64 c.2.2.2.2]
def zaz:zab:=(false,0,[],0,0)
def zcz(c:zab):Value:= .agg (zam c).toArray
def inBox(x y:Int):Bool:=decide (-1048576<=x)&&decide (x<=1048576)&&decide (-1048576<=y)&&decide (y<=1048576)
def zac(c:zab)(t:Int)(nu:Bool):Bool:=
 if c.1 then nu&&decide (c.2.1=0/\c.2.2.1=[]/\c.2.2.2.1=0/\c.2.2.2.2=0)
 else if t=0 then decide (c.2.2.1=[]/\c.2.2.2.1=0/\c.2.2.2.2=0)
 else if t=1 then decide ((c.2.2.1=[]/\c.2.2.2.1=0/\c.2.2.2.2=0)/\(c.2.1=0\/c.2.1=1))
 else if t=2 then decide ((c.2.1=0/\c.2.2.2.1=0/\c.2.2.2.2=0)/\c.2.2.1.length<=65536)
 else if t=3 then decide (c.2.1=0/\c.2.2.1=[])&&inBox c.2.2.2.1 c.2.2.2.2
 else false
theorem zcl{w:World}{g:Nat}{ty:TypeId}{a b c d e:Value}(h:Blk w g ty #[a,b,c,d,e]):w.cell? ⟨g,0,none⟩=some a/\w.cell? ⟨g,1,none⟩=some b/\w.cell? ⟨g,2,none⟩=some c/\w.cell? ⟨g,3,none⟩=some d/\w.cell? ⟨g,4,none⟩=some e:=by have h0:=h.cell 0;have h1:=h.cell 1;have h2:=h.cell 2;have h3:=h.cell 3;have h4:=h.cell 4;simp at h0 h1 h2 h3 h4;exact⟨h0,h1,h2,h3,h4⟩
theorem zbe{w:World}{g:Nat}{ty:TypeId}{a b:Value}(h:Blk w g ty #[a,b]):w.cell? ⟨g,0,none⟩=some a/\w.cell? ⟨g,1,none⟩=some b:=by have h0:=h.cell 0;have h1:=h.cell 1;simp at h0 h1;exact⟨h0,h1⟩
theorem Reads.cell5{w:World}{B n i:Nat}{A:Option Addr}{l:List zab}(h:Reads w B 5 A n (recs zam l))(hi:i<n):
 ∃ad,A=some ad/\ad.block<B/\w.cell? (ad.add (i*5))=some (.bool (l.getD i (false,0,[],0,0)).1)/\w.cell? ⟨(ad.add (i*5)).block,(ad.add (i*5)).off+1,none⟩=some (.int .i64 (l.getD i (false,0,[],0,0)).2.1)
  /\w.cell? ⟨(ad.add (i*5)).block,(ad.add (i*5)).off+2,none⟩=some (.string (zad (l.getD i (false,0,[],0,0)).2.2.1))/\w.cell? ⟨(ad.add (i*5)).block,(ad.add (i*5)).off+3,none⟩=some (.int .i64 (l.getD i (false,0,[],0,0)).2.2.2.1)
  /\w.cell? ⟨(ad.add (i*5)).block,(ad.add (i*5)).off+4,none⟩=some (.int .i64 (l.getD i (false,0,[],0,0)).2.2.2.2):=by
 obtain⟨ad,h1,h2,_,h3⟩:=h.rec_ (f:=zam) (sz:=5) (fun _=>rfl) (false,0,[],0,0) hi (by omega);refine⟨ad,h1,h2,h3 0 _ rfl,?_,?_,?_,?_⟩
 ·have:=h3 1 _ rfl
  rw[<-za8] at this;exact this
 ·have:=h3 2 _ rfl
  rw[<-za8] at this;exact this
 ·have:=h3 3 _ rfl
  rw[<-za8] at this;exact this
 ·have:=h3 4 _ rfl
  rw[<-za8] at this;exact this
theorem Reads.lenCell{w:World}{B n:Nat}{A:Option Addr}{l:List zab}(h:Reads w B 5 A n (recs zam l)):n=l.length:=h.lenR (f:=zam) (sz:=5) (fun _=>rfl) (by omega)
end Go.Hm
