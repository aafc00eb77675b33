/- Merged. -/
import Derived.BigQuiet
import Derived.Test.YtmgfkpnghlmheaaGreatBun3
import Derived.Test.YtmgfkpnghlmheaaGreatBun4
set_option maxHeartbeats 2000000
namespace Go.Hm
def pk(w:Nat):List Nat->Nat
 | []=>0
 |x::l=>x+2^w*pk w l
theorem z4h(w:Nat)(l:List Nat)(x:Nat):pk w (l++[x])=pk w l+2^(w*l.length)*x:=by
 induction l with
 |nil=>simp[pk]
 |cons a l ih=>
  simp only[List.cons_append,pk,ih,List.length_cons];rw[Nat.mul_add,Nat.mul_succ,Nat.pow_add];simp only[Nat.mul_comm,Nat.mul_left_comm,Nat.add_assoc]
theorem qgw(w:Nat)(l:List Nat)(h:∀x∈l,x<2^w):pk w l<2^(w*l.length):=by
 induction l with
 |nil=>simp[pk]
 |cons a l ih=>
  have h1:=ih fun x hx=>h x (by simp[hx])
  have h2:=h a (by simp);simp only[pk,List.length_cons];rw[Nat.mul_succ,Nat.pow_add,Nat.mul_comm (2^(w*l.length))];have:2^w*(pk w l+1)<=2^w*2^(w*l.length):=Nat.mul_le_mul_left _ h1;rw[Nat.mul_add] at this;omega
def zp0(w:Nat):Nat->Nat->List Nat
 |0,_=>[]
 |n+1,B=>zp0 w n B++[B/2^(w*n)%2^w]
theorem zea(w n B:Nat):(zp0 w n B).length=n:=by induction n<;> simp_all[zp0]
theorem z4i(w n B:Nat):∀x∈zp0 w n B,x<2^w:=by
 induction n with
 |zero=>intro x hx;simp[zp0] at hx
 |succ n ih=>
  intro x hx;simp only[zp0,List.mem_append,List.mem_singleton] at hx;rcases hx with hx|hx
  ·exact ih x hx
  ·subst hx;exact Nat.mod_lt _ (Nat.two_pow_pos w)
theorem z4j(w n B i:Nat)(h:i<n):(zp0 w n B).getD i 0=B/2^(w*i)%2^w:=by
 induction n with
 |zero=>omega
 |succ n ih=>
  rw[zp0,List.getD_eq_getElem?_getD];by_cases hi:i<n
  ·rw[List.getElem?_append_left (by rw[zea];exact hi),<-List.getD_eq_getElem?_getD,ih hi]
  ·obtain rfl:i=n:=by omega
   rw[List.getElem?_append_right (by rw[zea];exact Nat.le_refl _),zea];simp
theorem qeq(w n B:Nat):pk w (zp0 w n B)=B%2^(w*n):=by
 induction n with
 |zero=>simp[zp0,pk,Nat.mod_one]
 |succ n ih=>rw[zp0,z4h,ih,zea,Nat.mul_succ,Nat.pow_add,Nat.mod_mul]
theorem qer(w:Nat)(l:List Nat)(h:∀x∈l,x<2^w)(B:Nat)(hB:B%2^(w*l.length)=pk w l):zp0 w l.length B=l:=by
 have key:∀(m:List Nat),(∀x∈m,x<2^w)-> ∀i,i<m.length->pk w m/2^(w*i)%2^w=m.getD i 0:=by
  intro m;induction m with
  |nil=>intro _ i hi;simp at hi
  |cons a m ih=>
   intro hm i hi;have ha:=hm a (by simp);cases i with
   |zero=>simp[pk,Nat.add_mul_mod_self_left,Nat.mod_eq_of_lt ha]
   |succ i=>
    rw[pk,Nat.mul_succ,Nat.add_comm (w*i),Nat.pow_add,<-Nat.div_div_eq_div_mul,Nat.add_mul_div_left _ _ (Nat.two_pow_pos w),Nat.div_eq_of_lt ha,Nat.zero_add,ih (fun x hx=>hm x (by simp[hx])) i (by simpa using hi)];simp
 refine List.ext_getElem (zea _ _ _) fun i h1 h2=>?_
 have e1:(zp0 w l.length B).getD i 0=(zp0 w l.length B)[i]:=by rw[List.getD_eq_getElem?_getD,List.getElem?_eq_getElem h1];rfl
 have e2:l.getD i 0=l[i]:=by rw[List.getD_eq_getElem?_getD,List.getElem?_eq_getElem h2];rfl
 rw[<-e1,<-e2,z4j w l.length B i h2,<-key l h i h2,<-hB];have hs:w*l.length=w*i+(w+w*(l.length-i-1)):=by
  have e:l.length=i+(1+(l.length-i-1)):=by omega
  conv=>lhs;rw[e]
  rw[Nat.mul_add,Nat.mul_add,Nat.mul_one]
 rw[hs,Nat.pow_add,Nat.mod_mul_right_div_self,Nat.pow_add,Nat.mod_mul_right_mod]
theorem zj7(X s i:Nat)(h:i<s):(low X s).getD i 0=X/256^i%256:=by
 induction s with
 |zero=>omega
 |succ s ih=>
  rw[low,List.getD_eq_getElem?_getD];by_cases hi:i<s
  ·rw[List.getElem?_append_left (by rw[zbk];exact hi),<-List.getD_eq_getElem?_getD,ih hi]
  ·obtain rfl:i=s:=by omega
   rw[List.getElem?_append_right (by rw[zbk];exact Nat.le_refl _),zbk];simp
theorem zsa(b:List Nat)(h:∀x∈b,x<256):low (num b) b.length=b:=by
 have key:∀(m:List Nat),(∀x∈m,x<256)-> ∀i,i<m.length->num m/256^i%256=m.getD i 0:=by
  intro m;induction m with
  |nil=>intro _ i hi;simp at hi
  |cons a m ih=>
   intro hm i hi;have ha:=hm a (by simp);cases i with
   |zero=>simp[num];omega
   |succ i=>
    rw[num,Nat.pow_succ,Nat.mul_comm (256^i),<-Nat.div_div_eq_div_mul,show(a+256*num m)/256=num m by omega,ih (fun x hx=>hm x (by simp[hx])) i (by simpa using hi)];simp
 refine List.ext_getElem (zbk _ _) fun i h1 h2=>?_
 have e1:(low (num b) b.length).getD i 0=(low (num b) b.length)[i]:=by rw[List.getD_eq_getElem?_getD,List.getElem?_eq_getElem h1];rfl
 have e2:b.getD i 0=b[i]:=by rw[List.getD_eq_getElem?_getD,List.getElem?_eq_getElem h2];rfl
 rw[<-e1,<-e2,zj7 _ _ _ h2,key b h i h2]
theorem zy2(b:List Nat)(h:∀x∈b,x<256)(i:Nat)(hi:i<b.length):b.getD i 0=num b/256^i%256:=by have:=zj7 (num b) b.length i hi;rwa[zsa b h] at this
theorem z96(s:Nat):low 0 s=List.replicate s 0:=by
 induction s with
 |zero=>rfl
 |succ s ih=>rw[low,ih,List.replicate_succ'];simp
theorem qes(k:Nat):(256:Nat)^k=2^(8*k):=by rw[show(256:Nat)=2^8 from rfl,<-Nat.pow_mul]
theorem qet(X s a c:Nat)(ha:a<8*s)(hX:X<2^a)(hc:c<=1):
 (low X s).set (a/8) ((low X s).getD (a/8) 0+c*2^(a%8))=low (X+c*2^a) s/\(low X s).getD (a/8) 0<2^(a%8)/\(low X s).getD (a/8) 0+c*2^(a%8)<256:=by
 have hq:a/8<s:=by omega
 have ea:2^a=256^(a/8)*2^(a%8):=by rw[qes,<-Nat.pow_add];congr 1;omega
 have hr:2^(a%8)<=2^7:=Nat.pow_le_pow_right (by omega) (by omega);have h0:X/256^(a/8)<2^(a%8):=by apply Nat.div_lt_of_lt_mul;rw[<-ea];exact hX
 have hb:(low X s).getD (a/8) 0=X/256^(a/8):=by rw[zj7 _ _ _ hq];exact Nat.mod_eq_of_lt (by omega)
 have hcc:c*2^(a%8)<=2^(a%8):=by
  calc c*2^(a%8)<=1*2^(a%8):=Nat.mul_le_mul_right _ hc
   _=_:=Nat.one_mul _
 have hlt:X/256^(a/8)+c*2^(a%8)<256:=by omega
 refine⟨?_,by rw[hb];exact h0,by rw[hb];exact hlt⟩;refine List.ext_getElem (by simp[zbk]) fun i h1 h2=>?_
 have h2':i<s:=by rwa[zbk] at h2
 have h1':i<(low X s).length:=by rwa[zbk]
 have e2:(low (X+c*2^a) s)[i]=(X+c*2^a)/256^i%256:=by rw[<-zj7 _ _ _ h2',List.getD_eq_getElem?_getD,List.getElem?_eq_getElem h2];rfl
 have e1:(low X s)[i]'h1'=X/256^i%256:=by rw[<-zj7 _ _ _ h2',List.getD_eq_getElem?_getD,List.getElem?_eq_getElem h1'];rfl
 rw[e2,List.getElem_set];by_cases hi:a/8=i
 ·subst hi
  rw[if_pos rfl,hb,ea,show c*(256^(a/8)*2^(a%8))=256^(a/8)*(c*2^(a%8)) from Nat.mul_left_comm _ _ _,Nat.add_mul_div_left _ _ (Nat.pow_pos (by omega)),Nat.mod_eq_of_lt hlt]
 ·rw[if_neg hi,e1]
  rcases Nat.lt_or_gt_of_ne hi with hlt'|hgt
  ·have hp:2^(a+1)<=256^i:=by rw[qes];exact Nat.pow_le_pow_right (by omega) (by omega)
   have hca:c*2^a<=2^a:=by
    calc c*2^a<=1*2^a:=Nat.mul_le_mul_right _ hc
     _=_:=Nat.one_mul _
   rw[Nat.pow_succ] at hp;rw[Nat.div_eq_of_lt (by omega),Nat.div_eq_of_lt (by omega)]
  ·have es:2^a=256^i*(256*2^(a-8*(i+1))):=by
    rw[qes,show(256:Nat)=2^8 from rfl,<-Nat.pow_add,<-Nat.pow_add];congr 1;omega
   rw[es,show c*(256^i*(256*2^(a-8*(i+1))))=256^i*(256*(c*2^(a-8*(i+1)))) by simp only[Nat.mul_left_comm],Nat.add_mul_div_left _ _ (Nat.pow_pos (by omega)),Nat.add_mul_mod_self_left]
theorem zly(y j:Nat):y%2^(j+1)=y%2^j+2^j*(y/2^j%2):=by rw[Nat.pow_succ,Nat.mod_mul]
theorem qeu{X m:Nat}(y j:Nat)(hX:X<2^m):X+y%2^j*2^m<2^(m+j):=by have h1:y%2^j<2^j:=Nat.mod_lt _ (Nat.two_pow_pos _);have h2:(y%2^j+1)*2^m<=2^j*2^m:=Nat.mul_le_mul_right _ h1;rw[Nat.add_mul,Nat.one_mul] at h2;rw[Nat.pow_add,Nat.mul_comm (2^m)];omega
theorem z4k{X m:Nat}(s y j a q r t:Nat)(hX:X<2^m)(ha:a=m+j)(hs:a<8*s)(hq:q=a/8/\r=a%8)(ht:t=y/2^j%2):
 (low (X+y%2^j*2^m) s).getD q 0<2^r/\(low (X+y%2^j*2^m) s).set q ((low (X+y%2^j*2^m) s).getD q 0+t*2^r)=low (X+y%2^(j+1)*2^m) s:=by
 obtain⟨rfl,rfl⟩:=hq;have h:=qet (X+y%2^j*2^m) s a t hs (by rw[ha];exact qeu y j hX) (by omega);refine⟨h.2.1,h.1.trans ?_⟩;congr 1
 rw[zly,Nat.add_mul,ht,ha,Nat.pow_add,Nat.add_assoc];congr 2
 rw[Nat.mul_comm (2^m),<-Nat.mul_assoc,Nat.mul_comm (y/2^j%2)]
end Go.Hm
namespace Go.Proofs.Y
open Go.RowKit Go.Hm
theorem qdq:Tryz.prog.underlying 9=some .string:=by kernel_rfl
theorem elS:ElT Tryz.prog 174 9 (.string ⟨#[]⟩) 1 16:=⟨by kernel_rfl,by kernel_rfl,rfl,by omega⟩
def DrewPost(v:Value)(w:World)(e:Ending)(w':World):Prop:=e= .returned v/\ ∃k,w'=w.drewN k
def zak(v:Value)(w:World)(e:Ending)(w':World):Prop:=e= .returned v/\New w w'
def zdk(v:Value)(w:World)(e:Ending)(w':World):Prop:=e= .returned v/\w=w'
theorem DrewPost.new{v:Value}{w w':World}{e:Ending}(h:DrewPost v w e w'):zak v w e w':=by obtain⟨h1,k,rfl⟩:=h;exact⟨h1,zel w k⟩
def OptB(o:Option (List Nat))(w:World)(e:Ending)(w':World):Prop:=
 match o with
 |none=>e= .returned (.tuple #[.slice none 0 0,.bool false])/\Below w.heap.size w w'
 |some l=>∃A n c,e= .returned (.tuple #[.slice A n c,.bool true])/\Own w' w.heap.size 5 (.slice A n c) (za2 .u8 l)/\Below w.heap.size w w'
theorem OptB.u{o:Option (List Nat)}{w w':World}{e:Ending}(h:OptB o w e w'):
 ∃A n c,e= .returned (.tuple #[.slice A n c,.bool o.isSome])/\Own w' w.heap.size 5 (.slice A n c) (za2 .u8 (o.getD []))/\Below w.heap.size w w':=by
 cases o with
 |none=>exact⟨none,0,0,h.1,Own.nil_,h.2⟩
 |some l=>exact h
def OptW(o:Option (List Nat))(w:World)(e:Ending)(w':World):Prop:=
 match o with
 |none=>e= .returned (.tuple #[.slice none 0 0,.bool false])/\Below w.heap.size w w'
 |some l=>∃A n c,e= .returned (.tuple #[.slice A n c,.bool true])/\Own w' w.heap.size 87 (.slice A n c) (za2 .u64 l)/\Below w.heap.size w w'
theorem OptW.u{o:Option (List Nat)}{w w':World}{e:Ending}(h:OptW o w e w'):
 ∃A n c,e= .returned (.tuple #[.slice A n c,.bool o.isSome])/\Own w' w.heap.size 87 (.slice A n c) (za2 .u64 (o.getD []))/\Below w.heap.size w w':=by
 cases o with
 |none=>exact⟨none,0,0,h.1,Own.nil_,h.2⟩
 |some l=>exact h
def OptT(o:Option (List (List Nat)))(w:World)(e:Ending)(w':World):Prop:=
 match o with
 |none=>e= .returned (.tuple #[.slice none 0 0,.bool false])/\Below w.heap.size w w'
 |some l=>∃A n c,e= .returned (.tuple #[.slice A n c,.bool true])/\Own w' w.heap.size 9 (.slice A n c) (zmn l)/\Below w.heap.size w w'
theorem OptT.u{o:Option (List (List Nat))}{w w':World}{e:Ending}(h:OptT o w e w'):
 ∃A n c,e= .returned (.tuple #[.slice A n c,.bool o.isSome])/\Own w' w.heap.size 9 (.slice A n c) (zmn (o.getD []))/\Below w.heap.size w w':=by
 cases o with
 |none=>exact⟨none,0,0,h.1,Own.nil_,h.2⟩
 |some l=>exact h
end Go.Proofs.Y
namespace Go.Hm
open Go Go.RowKit
section
variable{w w':World}{base sz n:Nat}{e:TypeId}{v:Value}{xs:List Value}
theorem z4w{B:Nat}(h:w.ownsRow base e sz v n xs)(hb:Below B w w')(hB:w.heap.size<=B):w'.ownsRow base e sz v n xs:=by
 refine⟨h.1,?_⟩;rcases h.2 with hn|⟨g,cap,cur,rfl,hbg,hgg,rest⟩
 ·exact .inl hn
 ·refine .inr ⟨g,cap,cur,rfl,hbg,?_,rest⟩
  rw[hb.block g (Nat.lt_of_lt_of_le (Array.getElem?_eq_some_iff.1 hgg).1 hB)];exact hgg
theorem zav(h:w.ownsRow base e sz v n xs)(hb:New w w'):w'.ownsRow base e sz v n xs:=z4w h hb (Nat.le_refl _)
theorem zbg{b':Nat}(h:w.ownsRow base e sz v n xs)(hb:b'<=base):w.ownsRow b' e sz v n xs:=by
 refine⟨h.1,?_⟩;rcases h.2 with hn|⟨g,cap,cur,hv,hbg,rest⟩
 ·exact .inl hn
 ·exact .inr ⟨g,cap,cur,hv,Nat.le_trans hb hbg,rest⟩
theorem zcl(h:w.ownsRow base e sz v n xs):∃A c,v= .slice A n c/\n<=c/\c<=maxLen:=by
 rcases h.2 with⟨hv,hn⟩|⟨g,cap,cur,hv,_,_,hc,hm,_⟩
 ·exact⟨none,0,by rw[hv,hn],by omega,by simp[maxLen]⟩
 ·exact⟨_,_,hv,hc,hm⟩
theorem zcp:w.ownsRow base e sz (.slice none 0 0) 0 []:=⟨by simp,.inl ⟨rfl,rfl⟩⟩
theorem zao{g:Nat}{t:TypeId}{cs:Array Value}(h:w.ownsRow base e sz v n xs)(hg:Blk w g t cs)(hne:e≠t):v.ownBlock≠some g:=by
 rcases h.2 with⟨rfl,_⟩|⟨g',cap,cur,rfl,_,hh,_⟩
 ·simp[Value.ownBlock]
 ·intro he
  have:g'=g:=by simpa[Value.ownBlock] using he
  subst this;exact Blk.ne_ (t:=e) hh hg hne rfl
end
theorem z1j(a b c:Value)(n:Nat):(madeCells #[a,b,c] (n*3)).toList=(List.replicate n [a,b,c]).flatten:=by
 induction n with
 |zero=>simp[madeCells]
 |succ n ih=>
  rw[List.replicate_succ',List.flatten_append,<-ih];have e:∀m,m%3=0->(madeCells #[a,b,c] (m+3)).toList=(madeCells #[a,b,c] m).toList++[a,b,c]:=by intro m hm;simp only[madeCells,Array.toList_map,Array.toList_range,List.range_succ,List.map_append,List.map_cons,List.map_nil,List.append_assoc,List.cons_append,List.nil_append,List.size_toArray,List.length_cons,List.length_nil];rw[hm,show(m+1)%3=1 by omega,show(m+2)%3=2 by omega];rfl
  rw[Nat.succ_mul,e (n*3) (by omega)];simp
section
variable{P:Program}{ops:Array Oper}{rest:List Oper}{o:Oper}{a:Act}{Q:Exit->Act->World->Prop}
theorem zdc{w:World}{t e:TypeId}{z:Value}{sz bytes:Nat}(E:ElT P t e z sz bytes)(hgd:o.guard=none)(s x:Operand)
 (ho:o.op= .call {callee:= .builtin .append,args:= #[s,x],argTypes:= #[t,t]})
 {W:World}{B base n:Nat}{v:Value}{us xs:List Value}(hown:w.ownsRow base e sz v n xs)(hs:a.eval s=v)(hx:a.eval x= .slice (some ⟨w.heap.size,0,none⟩) 1 1)
 (hb:Below B W w)(hbB:B<=base)(hbase:base<=w.heap.size)(hus:us.length=sz)(h1:∀u∈us,u.oneCell'=true)
 (hn:(n+1)*bytes<=140737488355328)(hm:n+1<=maxLen)
 (h:∀A' c' w',n+1<=c'->c'<=maxLen->w'.ownsRow base e sz (.slice A' (n+1) c') (n+1) (xs++us)->w.grownBy w' v.ownBlock->Below B W w'->w.heap.size<w'.heap.size->
  (Value.ownBlock (.slice A' (n+1) c')=v.ownBlock\/ ∃g,Value.ownBlock (.slice A' (n+1) c')=some g/\w.heap.size<=g)->wpList P ops Q rest (a.put o.dst (.slice A' (n+1) c')) w'):
 wpList P ops Q (o::rest) a (w.alloc (.cells us.toArray e)):=by
 obtain⟨i,hi,hz0,hz1,hz2⟩:=info_parts E.hi;refine wpList_append_own_at _ hgd s x t ho base e i z sz bytes E.ht hi hz0 hz1 hz2 E.hz E.hs v n xs hs (World.ownsRow.alloc hown _) ⟨w.heap.size,0,none⟩ 1 1 us hx (by omega) ?_ h1 hm hn (by simp;omega) ?_
 ·have:=World.news_of_block (heap_alloc_new w (.cells us.toArray e))
  simpa using this
 intro v' w' hown' hg _ hat;obtain⟨A',c',rfl,hc1,hc2⟩:=zcl hown';have hg2:w.grownBy w' v.ownBlock:=(World.grownBy_alloc w (.cells us.toArray e) v.ownBlock).trans hg;have hsz:=hg.size;simp at hsz;refine h A' c' w' hc1 hc2 hown' hg2 (hb.grown hg2 (Nat.le_trans hbB hbase) (fun k hk=>by have:=(World.ownsRow.lt hown k hk).1;omega)) (by omega) ?_;rcases hat with e1|e1
 ·exact .inl e1
 ·exact .inr ⟨_,e1,by simp⟩
theorem z1k{w:World}{t e:TypeId}{x y z:Value}{bytes:Nat}(E:ElT P t e (.agg #[x,y,z]) 3 bytes)(hgd:o.guard=none)(lo co:Operand)(ho:o.op=Op.makeSlice t lo co)
 {W:World}{B:Nat}{kl kc:IntKind}{L C:Int}(n:Nat)(hl:a.eval lo= .int kl L)(hc:a.eval co= .int kc C)(hL:L=(n:Int))(hC:C=(n:Int))(hb:Below B W w)(hbase:B<=w.heap.size)
 (hn:n*bytes<=140737488355328)(hm:n<=maxLen)
 (h:∀w',w'.ownsRow w.heap.size e 3 (.slice (some ⟨w.heap.size,0,none⟩) n n) n (List.replicate n [x,y,z]).flatten->w.grownBy w' none->Below B W w'->w'.heap.size=w.heap.size+1->wpList P ops Q rest (a.put o.dst (.slice (some ⟨w.heap.size,0,none⟩) n n)) w'):
 wpList P ops Q (o::rest) a w:=by
 obtain⟨i,hi,hz0,hs1,hb1⟩:=info_parts E.hi;subst hL hC;have hmC:(n:Int)<=9223372036854775807:=by have h:=hm;simp only[maxLen] at h;omega
 have hbC:(i.bytes:Int)*(n:Int)<=281474976710656:=by
  have h:((i.bytes*n:Nat):Int)<=281474976710656:=by rw[hb1,Nat.mul_comm];omega
  rwa[Int.natCast_mul] at h
 have hrun:=run_make (P:=P) w t e i (.agg #[x,y,z]) E.ht hi hz0 kl kc (n:Int) (n:Int) (by omega) (by omega) hbC hmC;rw[Int.toNat_natCast,hs1] at hrun;refine wpList_plain hgd fun K hK=>?_
 unfold Oper.wp;simp[execOp,ho,hl,hc,hrun,Result.andThen];refine hK _ _ (h _ ?_ (World.grownBy_alloc _ _ _) (hb.alloc hbase _) (by simp));refine⟨by simp,.inr ⟨_,n,_,rfl,Nat.le_refl _,heap_alloc_new w _,Nat.le_refl _,hm,by simp[size_madeCells],?_⟩⟩;rw[List.take_of_length_le (by simp[size_madeCells])];exact z1j x y z n
end
theorem z4x{w w' W:World}{gc gm:Nat}(hb:w.grownBy w' (some gc))(hg:w'.grownBy W (some gm))(hle:w.heap.size<=gm):w.grownBy W (some gc):=
 ⟨hg.os.trans hb.os,hg.tape.trans hb.tape,hg.output.trans hb.output,Nat.le_trans hb.size hg.size,fun k hk hne=>(hg.block k (Nat.lt_of_lt_of_le hk hb.size) (fun e=>by injection e with e;omega)).trans (hb.block k hk hne)⟩
theorem zie{w:World}{base:Nat}{e:TypeId}{g n c sz:Nat}{xs:List Value}(h:w.ownsRow base e sz (.slice (some ⟨g,0,none⟩) n c) n xs):∃cs,Blk w g e cs:=by
 rcases h.2 with⟨hv,_⟩|⟨g',cap,cur,hv,_,hh,_⟩
 ·cases hv
 ·injection hv with e1 _ _
  injection e1 with e1;injection e1 with e1;subst e1;exact⟨cur,hh⟩
theorem qam{A B:List Value}{x y z a b c:Value}{m:Nat}(h:A.length=m):(((A++([x,y,z]++B)).set m a).set (m+1) b).set (m+2) c=A++([a,b,c]++B):=by subst h;rw[List.set_append_right _ _ (Nat.le_refl _),List.set_append_right _ _ (by omega),List.set_append_right _ _ (by omega)];simp
theorem qan{w:World}{base:Nat}{e:TypeId}{g n c m:Nat}{A B:List Value}{x y z a b d:Value}(h:w.ownsRow base e 3 (.slice (some ⟨g,0,none⟩) n c) n (A++([x,y,z]++B)))(hm:A.length=m):
 ∃W,W=((w.setCell ⟨g,m,none⟩ a).setCell ⟨g,m+1,none⟩ b).setCell ⟨g,m+2,none⟩ d/\W.ownsRow base e 3 (.slice (some ⟨g,0,none⟩) n c) n (A++([a,b,d]++B))/\w.grownBy W (some g):=by
 obtain⟨h1,g1⟩:=h.stored m a;obtain⟨h2,g2⟩:=h1.stored (m+1) b;obtain⟨h3,g3⟩:=h2.stored (m+2) d;rw[qam hm] at h3;exact⟨_,rfl,h3,(g1.trans g2).trans g3⟩
theorem z4y{w w':World}{g gc:Nat}{ty:TypeId}{x y z a b c:Value}(h:Blk w' g ty #[x,y,z])(hb:w.grownBy w' (some gc))(hg:w.heap.size<=g):
 ∃W3,W3=(((w'.setCell ⟨g,0,none⟩ a).setCell ⟨g,1,none⟩ b).setCell ⟨g,2,none⟩ c)/\Blk W3 g ty #[a,b,c]/\w.grownBy W3 (some gc)/\ ∀k,k≠g->W3.heap[k]? =w'.heap[k]? :=by
 refine⟨_,rfl,by simpa using((h.set_ 0 a).set_ 1 b).set_ 2 c,⟨hb.os,hb.tape,hb.output,by simpa[World.setCell] using hb.size,fun k hk hne=>?_⟩,fun k hk=>?_⟩
 ·rw[Below.heap_setCell _ _ _ _ (show k≠g by omega),Below.heap_setCell _ _ _ _ (show k≠g by omega),Below.heap_setCell _ _ _ _ (show k≠g by omega)]
  exact hb.block k hk hne
 ·rw[Below.heap_setCell _ _ _ _ hk,Below.heap_setCell _ _ _ _ hk,Below.heap_setCell _ _ _ _ hk]
theorem z1l{w:World}{row:Option Nat}:w.grownBy w.drew row:=⟨rfl,rfl,rfl,Nat.le_refl _,fun _ _ _=>rfl⟩
theorem ze1{w0:World}{p:Addr}{u:Value}(h:w0.cell? p=some u)(hp:p.block<w0.drew.heap.size):∀W,New w0.drew W->W.cell? p=some u:=fun _ hW=>(Below.cell hW hp).trans h
theorem Reads.litR(w:World)(e:TypeId)(cs:Array Value)(n sz:Nat)(xs:List Value)(h:cs.toList=xs)(hn:xs.length=n*sz):Reads (w.alloc (.cells cs e)) (w.alloc (.cells cs e)).heap.size sz (some ⟨w.heap.size,0,none⟩) n xs:=by refine⟨hn,fun _=>⟨_,rfl,by simp,?_⟩⟩;have:=World.news_of_block (heap_alloc_new w (.cells cs e));rwa[h] at this
theorem Reads.pair2{w:World}{B n i:Nat}{A:Option Addr}{l:List (Int × Int)}(h:Reads w B 2 A n (zc0 l))(hi:i<n):
 ∃ad,A=some ad/\ad.block<B/\w.cell? (ad.add (i*2))=some (.int .i64 (l.getD i (0,0)).1)/\w.cell? ⟨(ad.add (i*2)).block,(ad.add (i*2)).off+1,none⟩=some (.int .i64 (l.getD i (0,0)).2):=by
 obtain⟨ad,h1,h2,h3,h4⟩:=h.pair hi;rw[<-zbc] at h4;exact⟨ad,h1,h2,h3,h4⟩
open Go Go.RowKit
abbrev za1:=List Nat × Int × Bool
def zhq(c:za1):List Value:=[.string (zac c.1),.int .i64 c.2.1,.bool c.2.2]
theorem Reads.colT{w:World}{B n i:Nat}{A:Option Addr}{l:List za1}(h:Reads w B 3 A n (recs zhq l))(hi:i<n):
 ∃ad,A=some ad/\ad.block<B/\w.cell? (ad.add (i*3))=some (.string (zac (l.getD i ([],0,false)).1))/\w.cell? ⟨(ad.add (i*3)).block,(ad.add (i*3)).off+1,none⟩=some (.int .i64 (l.getD i ([],0,false)).2.1)/\w.cell? ⟨(ad.add (i*3)).block,(ad.add (i*3)).off+2,none⟩=some (.bool (l.getD i ([],0,false)).2.2):=by
 obtain⟨ad,h1,h2,_,h3⟩:=h.rec_ (f:=zhq) (sz:=3) (fun _=>rfl) ([],0,false) hi (by omega);refine⟨ad,h1,h2,h3 0 _ rfl,?_,?_⟩
 ·have:=h3 1 _ rfl
  rw[<-zbc] at this;exact this
 ·have:=h3 2 _ rfl
  rw[<-zbc] at this;exact this
theorem Reads.lenC{w:World}{B n:Nat}{A:Option Addr}{l:List za1}(h:Reads w B 3 A n (recs zhq l)):n=l.length:=h.lenR (f:=zhq) (sz:=3) (fun _=>rfl) (by omega)
theorem zad{w:World}{g:Nat}{ty:TypeId}{x y z:Value}(h:Blk w g ty #[x,y,z]):w.cell? ⟨g,0,none⟩=some x/\w.cell? ⟨g,1,none⟩=some y/\w.cell? ⟨g,2,none⟩=some z:=by have h0:=h.cell 0;have h1:=h.cell 1;have h2:=h.cell 2;simp at h0 h1 h2;exact⟨h0,h1,h2⟩
open Go Go.RowKit
abbrev zab:=Bool × Int × List Nat × Int × Int
def zan(c:zab):List Value:=[.bool c.1,.int .i64 c.2.1,.string (zac c.2.2.1),.int .i64 c.2.2.2.1,.int .i64 c.2.2.2.2]
def zaz:zab:=(false,0,[],0,0)
def zca(c:zab):Value:= .agg (zan c).toArray
def inBox(x y:Int):Bool:=decide (-1048576<=x)&&decide (x<=1048576)&&decide (-1048576<=y)&&decide (y<=1048576)
def zaf(c:zab)(t:Int)(nu:Bool):Bool:=
 if c.1 then nu&&decide (c.2.1=0/\c.2.2.1=[]/\c.2.2.2.1=0/\c.2.2.2.2=0)
 else if t=0 then decide (c.2.2.1=[]/\c.2.2.2.1=0/\c.2.2.2.2=0)
 else if t=1 then decide ((c.2.2.1=[]/\c.2.2.2.1=0/\c.2.2.2.2=0)/\(c.2.1=0\/c.2.1=1))
 else if t=2 then decide ((c.2.1=0/\c.2.2.2.1=0/\c.2.2.2.2=0)/\c.2.2.1.length<=65536)
 else if t=3 then decide (c.2.1=0/\c.2.2.1=[])&&inBox c.2.2.2.1 c.2.2.2.2
 else false
theorem zcb{w:World}{g:Nat}{ty:TypeId}{a b c d e:Value}(h:Blk w g ty #[a,b,c,d,e]):w.cell? ⟨g,0,none⟩=some a/\w.cell? ⟨g,1,none⟩=some b/\w.cell? ⟨g,2,none⟩=some c/\w.cell? ⟨g,3,none⟩=some d/\w.cell? ⟨g,4,none⟩=some e:=by have h0:=h.cell 0;have h1:=h.cell 1;have h2:=h.cell 2;have h3:=h.cell 3;have h4:=h.cell 4;simp at h0 h1 h2 h3 h4;exact⟨h0,h1,h2,h3,h4⟩
theorem za7{w:World}{g:Nat}{ty:TypeId}{a b:Value}(h:Blk w g ty #[a,b]):w.cell? ⟨g,0,none⟩=some a/\w.cell? ⟨g,1,none⟩=some b:=by have h0:=h.cell 0;have h1:=h.cell 1;simp at h0 h1;exact⟨h0,h1⟩
theorem Reads.cell5{w:World}{B n i:Nat}{A:Option Addr}{l:List zab}(h:Reads w B 5 A n (recs zan l))(hi:i<n):
 ∃ad,A=some ad/\ad.block<B/\w.cell? (ad.add (i*5))=some (.bool (l.getD i (false,0,[],0,0)).1)/\w.cell? ⟨(ad.add (i*5)).block,(ad.add (i*5)).off+1,none⟩=some (.int .i64 (l.getD i (false,0,[],0,0)).2.1)
  /\w.cell? ⟨(ad.add (i*5)).block,(ad.add (i*5)).off+2,none⟩=some (.string (zac (l.getD i (false,0,[],0,0)).2.2.1))/\w.cell? ⟨(ad.add (i*5)).block,(ad.add (i*5)).off+3,none⟩=some (.int .i64 (l.getD i (false,0,[],0,0)).2.2.2.1)
  /\w.cell? ⟨(ad.add (i*5)).block,(ad.add (i*5)).off+4,none⟩=some (.int .i64 (l.getD i (false,0,[],0,0)).2.2.2.2):=by
 obtain⟨ad,h1,h2,_,h3⟩:=h.rec_ (f:=zan) (sz:=5) (fun _=>rfl) (false,0,[],0,0) hi (by omega);refine⟨ad,h1,h2,h3 0 _ rfl,?_,?_,?_,?_⟩
 ·have:=h3 1 _ rfl
  rw[<-zbc] at this;exact this
 ·have:=h3 2 _ rfl
  rw[<-zbc] at this;exact this
 ·have:=h3 3 _ rfl
  rw[<-zbc] at this;exact this
 ·have:=h3 4 _ rfl
  rw[<-zbc] at this;exact this
theorem Reads.lenCell{w:World}{B n:Nat}{A:Option Addr}{l:List zab}(h:Reads w B 5 A n (recs zan l)):n=l.length:=h.lenR (f:=zan) (sz:=5) (fun _=>rfl) (by omega)
end Go.Hm
namespace Go.Proofs.Y
open Go.RowKit Go.Hm
set_option maxRecDepth 100000 in
theorem z1p{w:World}(x y:Int):
 Calls Tryz.prog 116 #[.agg #[.int .i64 x,.int .i64 y],.int .i64 1048576] w (zak (.bool (inBox x y)) w):=by
 obtain⟨W0,hW0⟩:∃W,W=w.alloc (.cells #[.int .i64 x,.int .i64 y] 59):=⟨_,rfl⟩;have b0:New w W0:=by rw[hW0];exact(Below.refl _ _).alloc (Nat.le_refl _) _
 have B0:Blk W0 w.heap.size 59 #[.int .i64 x,.int .i64 y]:=by rw[hW0];exact Blk.new _ _ _
 obtain⟨x0,x1⟩:=za7 B0;have HO:=Hz (show inBox x y=(decide (-1048576<=x)&&decide (x<=1048576)&&decide (-1048576<=y)&&decide (y<=1048576)) from rfl);generalize inBox x y=O at*;rw[hW0] at x0 x1;clear B0;cases h1:decide (-1048576<=x)<;> cases h2:decide (x<=1048576)<;> cases h3:decide (-1048576<=y)<;> cases h4:decide (y<=1048576);all_goals
  rw[h1,h2,h3,h4] at HO;go_enter Tryz.func116,Tryz.ntmps116
  go_wp2
  go_ret
  exact⟨by rw[HO.out];rfl,by rw[<-hW0];exact b0⟩
set_option maxRecDepth 100000 in
theorem zlb{w:World}(x y:Int):
 Calls Tryz.prog 91 #[.agg #[.int .i64 x,.int .i64 y]] w (zak (.bool (inBox x y)) w):=by
 obtain⟨W0,hW0⟩:∃W,W=w.alloc (.cells #[.int .i64 x,.int .i64 y] 59):=⟨_,rfl⟩;have b0:New w W0:=by rw[hW0];exact(Below.refl _ _).alloc (Nat.le_refl _) _
 have B0:Blk W0 w.heap.size 59 #[.int .i64 x,.int .i64 y]:=by rw[hW0];exact Blk.new _ _ _
 obtain⟨x0,x1⟩:=za7 B0;rw[hW0] at x0 x1;clear B0;go_enter Tryz.func91,Tryz.ntmps91
 go_wp2_with (first
  |(go_at_call 116;refine(z1p x y).mono ?_;rintro e w' ⟨rfl,b1⟩))
 go_ret
 exact⟨rfl,New.trans b0 (by rw[hW0];exact b1)⟩
end Go.Proofs.Y
namespace Go.Hm
def shr:List Nat->List Nat->Nat
 |a::l,b::m=>if a=b then shr l m+1 else 0
 |_,_=>0
theorem zjs:∀a b:List Nat,shr a b<=a.length
 | [],_=>by simp[shr]
 |_::_,[]=>by simp[shr]
 |a::l,b::m=>by
  simp only[shr];split
  ·have:=zjs l m;simp;exact this
  ·simp
theorem zgk:∀a b:List Nat,shr a b<=b.length
 | [],_=>by simp[shr]
 |_::_,[]=>by simp[shr]
 |a::l,b::m=>by
  simp only[shr];split
  ·have:=zgk l m;simp;exact this
  ·simp
theorem zsn:∀a b:List Nat,a.take (shr a b)=b.take (shr a b)
 | [],_=>by simp[shr]
 |_::_,[]=>by simp[shr]
 |a::l,b::m=>by
  simp only[shr];split
  ·rename_i e;subst e;simp[zsn l m]
  ·simp
theorem qdw:∀(a b:List Nat) (n:Nat),n<=a.length->n<=b.length->a.take n=b.take n->(n=a.length\/n=b.length\/ ¬a.getD n 0=b.getD n 0)->shr a b=n
 | [],_,n,h1,_,_,_=>by simp at h1;simp[shr,h1]
 |_::_,[],n,_,h2,_,_=>by simp at h2;simp[shr,h2]
 |a::l,b::m,0,_,_,_,h=>by
  simp only[shr];rcases h with h|h|h
  ·simp at h
  ·simp at h
  ·simp at h;rw[if_neg h]
 |a::l,b::m,n+1,h1,h2,h3,h=>by
  simp only[List.take_succ_cons,List.cons.injEq] at h3;simp only[shr];rw[if_pos h3.1,qdw l m n (by simpa using h1) (by simpa using h2) h3.2 (by simpa using h)]
def fsum(l:List (List Nat)):Nat:=(l.map List.length).sum
theorem zoc(s:List Nat)(l:List (List Nat)):fsum (s::l)=s.length+fsum l:=by simp[fsum]
theorem zxi(l m:List (List Nat)):fsum (l++m)=fsum l+fsum m:=by simp[fsum]
theorem zug(l:List (List Nat))(k:Nat):fsum (l.take k)<=fsum l:=by
 conv=>rhs;rw[<-List.take_append_drop k l,zxi]
 omega
def z5z(l:List (List Nat)):Bool:=decide (l.length<=65536/\(∀s∈l,s.length<=65536)/\fsum l<=16777216)
theorem zfj(l:List (List Nat)):z5z l=true↔l.length<=65536/\(∀s∈l,s.length<=65536)/\fsum l<=16777216:=by simp[z5z]
theorem qbc{l:List (List Nat)}(h:65536<l.length):z5z l=false:=by rw[Bool.eq_false_iff,Ne,zfj];omega
theorem qbd{l:List (List Nat)}{k:Nat}(hk:k<l.length)(h:65536<(l.getD k []).length):z5z l=false:=by rw[Bool.eq_false_iff,Ne,zfj];rintro⟨_,h2,_⟩;have:=h2 (l.getD k []) (by rw[List.getD_eq_getElem?_getD,List.getElem?_eq_getElem hk];exact List.getElem_mem hk);omega
theorem qbe{l:List (List Nat)}{k:Nat}(h:16777216<fsum (l.take k)):z5z l=false:=by rw[Bool.eq_false_iff,Ne,zfj];rintro⟨_,_,h3⟩;have:=zug l k;omega
theorem qbf{l:List (List Nat)}(h1:l.length<=65536)(h2:∀s∈l,s.length<=65536)(h3:fsum l<=16777216):z5z l=true:=(zfj l).2 ⟨h1,h2,h3⟩
theorem zuh(l:List (List Nat))(s:List Nat):fsum (l++[s])=fsum l+s.length:=by simp[fsum]
def fpiece(a s:List Nat):List Nat:=vp (shr a s)++vp (s.length-shr a s)++s.drop (shr a s)
def zmo:List Nat->List (List Nat)->List Nat
 |_,[]=>[]
 |a,s::l=>fpiece a s++zmo s l
def zp5(a:List Nat)(l:List (List Nat)):List Nat:=l.getLast?.getD a
theorem z19(a s:List Nat)(l:List (List Nat)):zp5 a (l++[s])=s:=by simp[zp5]
theorem z50(a s:List Nat)(l:List (List Nat)):zmo a (l++[s])=zmo a l++fpiece (zp5 a l) s:=by
 induction l generalizing a with
 |nil=>simp[zmo,zp5]
 |cons x l ih=>
  rw[List.cons_append,zmo,ih x,zmo,List.append_assoc];congr 3
  cases l with
  |nil=>simp[zp5]
  |cons y l=>simp[zp5,List.getLast?_eq_some_getLast]
theorem zzt(a:List Nat)(l:List (List Nat))(h:∀s∈l,s.length<=65536):(zmo a l).length<=20*l.length+fsum l:=by
 induction l generalizing a with
 |nil=>simp[zmo]
 |cons s l ih=>
  have h1:=ih s (fun x hx=>h x (by simp[hx]));have h2:=h s (by simp);have k2:=zgk a s;have v1:=zap (n:=shr a s) (by omega);have v2:=zap (n:=s.length-shr a s) (by omega);rw[zmo,fpiece,zoc,List.length_cons];simp only[List.length_append,List.length_drop];omega
theorem zui{Q:List Nat->Prop}{a:List Nat}(l:List (List Nat))(ha:Q a)(h:∀s∈l,Q s):Q (zp5 a l):=by
 unfold zp5;cases hl:l.getLast? with
 |none=>exact ha
 |some x=>exact h x (List.mem_of_getLast? hl)
def zxj(l:List (List Nat)):Option (List Nat):=if z5z l then some (zmo [] l) else none
def zeh(a:List Nat)(room:Int)(S:St):List Nat × List Nat × Int × St:=
 if shr a (a.take (lenS a.length S).1++(zbr (lenS (65536-((lenS a.length S).1:Int)) (lenS a.length S).2).1 (lenS (65536-((lenS a.length S).1:Int)) (lenS a.length S).2).2).1)=(lenS a.length S).1/\
  ((a.take (lenS a.length S).1++(zbr (lenS (65536-((lenS a.length S).1:Int)) (lenS a.length S).2).1 (lenS (65536-((lenS a.length S).1:Int)) (lenS a.length S).2).2).1).length:Int)<=room then
  (a.take (lenS a.length S).1++(zbr (lenS (65536-((lenS a.length S).1:Int)) (lenS a.length S).2).1 (lenS (65536-((lenS a.length S).1:Int)) (lenS a.length S).2).2).1,
   a.take (lenS a.length S).1++(zbr (lenS (65536-((lenS a.length S).1:Int)) (lenS a.length S).2).1 (lenS (65536-((lenS a.length S).1:Int)) (lenS a.length S).2).2).1,
   room-((a.take (lenS a.length S).1++(zbr (lenS (65536-((lenS a.length S).1:Int)) (lenS a.length S).2).1 (lenS (65536-((lenS a.length S).1:Int)) (lenS a.length S).2).2).1).length:Int),
   (zbr (lenS (65536-((lenS a.length S).1:Int)) (lenS a.length S).2).1 (lenS (65536-((lenS a.length S).1:Int)) (lenS a.length S).2).2).2)
 else([],a,room,none)
theorem z2a(a:List Nat)(room:Int)(S:St)(hS:S.ok):
 (zeh a room S).2.2.2=none\/ ∃s r,S=some (fpiece a s++r)/\s.length<=65536/\(s.length:Int)<=room/\zeh a room S=(s,s,room-s.length,some r):=by
 unfold zeh;split
 ·rename_i hc
  obtain⟨h1,h2⟩:=hc;rcases zbp (a.length:Int) S hS with e1|⟨k,r1,rfl,hk,_,e1⟩
  ·left;simp only[e1,zgy,zdx]
  ·rw[e1] at h1 h2⊢
   simp only at h1 h2⊢;have hr1:St.ok (some r1):=St.ok_some fun x hx=>hS _ rfl x (by simp[hx])
   rcases zbp (65536-(k:Int)) (some r1) hr1 with e2|⟨m,r2,hr,hm,_,e2⟩
   ·left;simp only[e2,zdx]
   ·rw[e2] at h1 h2⊢
    simp only at h1 h2⊢;injection hr with hr;subst hr;rcases zcd (m:Int) (some r2) with e3|⟨l,hl,hm1,hm2,e3⟩
    ·left;simp only[e3]
    ·rw[e3] at h1 h2⊢
     simp only[Int.toNat_natCast] at h1 h2⊢;injection hl with hl;subst hl;have hka:k<=a.length:=by omega
     have hlen:(a.take k++r2.take m).length=k+m:=by rw[List.length_append,List.length_take,List.length_take];omega
     refine .inr ⟨a.take k++r2.take m,r2.drop m,?_,by omega,h2,rfl⟩;rw[fpiece,h1,hlen,show k+m-k=m by omega,List.drop_left' (by rw[List.length_take];omega)];simp
 ·exact .inl rfl
theorem z51(a s r:List Nat)(room:Int)(hs:s.length<=65536)(hr:(s.length:Int)<=room)(ha:a.length<=65536):zeh a room (some (fpiece a s++r))=(s,s,room-s.length,some r):=by
 have k1:=zjs a s;have k2:=zgk a s;have e1:lenS (a.length:Int) (some (fpiece a s++r))=(shr a s,some (vp (s.length-shr a s)++(s.drop (shr a s)++r))):=by rw[fpiece,List.append_assoc,List.append_assoc];exact zby _ _ (by omega) (by omega)
 have e2:lenS (65536-(shr a s:Int)) (some (vp (s.length-shr a s)++(s.drop (shr a s)++r)))=(s.length-shr a s,some (s.drop (shr a s)++r)):=zby _ _ (by omega) (by omega);have e3:zbr ((s.length-shr a s:Nat):Int) (some (s.drop (shr a s)++r))=(s.drop (shr a s),some r):=by have:=zdh (s.drop (shr a s)) r;rwa[List.length_drop] at this
 have e4:a.take (shr a s)++s.drop (shr a s)=s:=by rw[zsn,List.take_append_drop]
 unfold zeh;simp only[e1,e2,e3,e4];rw[if_pos ⟨trivial,hr⟩]
theorem z52(a:List Nat)(room:Int)(S:St)(hS:S.ok)(ha:a.length<=65536)(h8:∀x∈a,x<256)(h0:0<=room)(h1:room<=16777216):
 (zeh a room S).2.1.length<=65536/\(∀x∈(zeh a room S).2.1,x<256)/\0<=(zeh a room S).2.2.1/\(zeh a room S).2.2.1<=16777216/\(zeh a room S).1.length<=65536/\(∀x∈(zeh a room S).1,x<256):=by
 have hk0:=zbx (m:=a.length) S (by omega) hS;have hS1:=zba (m:=a.length) hS;have hm0:=zbx (m:=65536-((lenS a.length S).1:Int)) (lenS a.length S).2 (by omega) hS1;have hS2:=zba (m:=65536-((lenS a.length S).1:Int)) hS1;have hr8:=(zct (n:=((lenS (65536-((lenS a.length S).1:Int)) (lenS a.length S).2).1:Int)) hS2).2;have hrl:=zem (n:=((lenS (65536-((lenS a.length S).1:Int)) (lenS a.length S).2).1:Int)) (S:=(lenS (65536-((lenS a.length S).1:Int)) (lenS a.length S).2).2) (by omega);unfold zeh;generalize lenS a.length S=p1 at*;generalize lenS (65536-(p1.1:Int)) p1.2=p2 at*;generalize zbr (p2.1:Int) p2.2=p3 at*;have ht8:∀x∈a.take p1.1++p3.1,x<256:=by
  intro x hx;rcases List.mem_append.1 hx with hx|hx
  ·exact h8 x (List.mem_of_mem_take hx)
  ·exact hr8 x hx
 have htl:(a.take p1.1++p3.1).length<=65536:=by rw[List.length_append,List.length_take];omega
 split
 ·rename_i hc
  exact⟨htl,ht8,by simp only;omega,by simp only;omega,htl,ht8⟩
 ·exact⟨ha,h8,h0,h1,by simp,by simp⟩
def zk8:Nat->List Nat->Int->St->List (List Nat) × St
 |0,_,_,S=>([],S)
 |n+1,a,room,S=>if S=none then([],none) else
   ((zeh a room S).1::(zk8 n (zeh a room S).2.1 (zeh a room S).2.2.1 (zeh a room S).2.2.2).1,(zk8 n (zeh a room S).2.1 (zeh a room S).2.2.1 (zeh a room S).2.2.2).2)
theorem z54(n:Nat)(a:List Nat)(room:Int):(zk8 n a room none).2=none:=by cases n<;> simp[zk8]
theorem z55:∀(n:Nat) (a:List Nat) (room:Int) (S:St) (r:List Nat),S.ok->0<=room->a.length<=65536->(zk8 n a room S).2=some r->
 S=some (zmo a (zk8 n a room S).1++r)/\(zk8 n a room S).1.length=n/\(∀s∈(zk8 n a room S).1,s.length<=65536)/\(fsum (zk8 n a room S).1:Int)<=room:=by
 intro n;induction n with
 |zero=>
  intro a room S r _ h0 _ h;simp only[zk8] at h⊢;subst h;simp[zmo,fsum,h0]
 |succ n ih=>
  intro a room S r hS h0 ha h;by_cases hn:S=none
  ·simp[zk8,hn] at h
  ·simp only[zk8,if_neg hn] at h⊢
   rcases z2a a room S hS with e|⟨s,r1,rfl,h1,h2,e⟩
   ·rw[e,z54] at h;cases h
   ·rw[e] at h⊢
    simp only at h⊢;have hr1:St.ok (some r1):=St.ok_some fun x hx=>hS _ rfl x (by simp[hx])
    obtain⟨g1,g2,g3,g4⟩:=ih s (room-s.length) (some r1) r hr1 (by omega) h1 h;injection g1 with g1;refine⟨?_,by simp[g2],?_,?_⟩
    ·rw[zmo,List.append_assoc,<-g1]
    ·intro x hx
     rcases List.mem_cons.1 hx with rfl|hx
     ·exact h1
     ·exact g3 x hx
    ·rw[zoc];omega
theorem qbg:∀(l:List (List Nat)) (a:List Nat) (room:Int) (r:List Nat),a.length<=65536->(∀s∈l,s.length<=65536)->(fsum l:Int)<=room->zk8 l.length a room (some (zmo a l++r))=(l,some r):=by
 intro l;induction l with
 |nil=>intro a room r _ _ _;simp[zk8,zmo]
 |cons s l ih=>
  intro a room r ha hl hs;rw[zoc] at hs;have h1:=hl s (by simp);simp only[List.length_cons,zk8,zmo];rw[if_neg (by simp),List.append_assoc,z51 a s _ room h1 (by omega) ha];simp only;rw[ih s (room-s.length) r h1 (fun x hx=>hl x (by simp[hx])) (by omega)]
theorem zuj(n:Nat)(a:List Nat)(room:Int){S:St}(h:n=0\/S=none):zk8 n a room S=([],S):=by
 rcases h with rfl|rfl
 ·rfl
 ·cases n<;> simp[zk8]
theorem z56(n:Nat)(a:List Nat)(room:Int)(S:St)(h:S≠none):zk8 (n+1) a room S=((zeh a room S).1::(zk8 n (zeh a room S).2.1 (zeh a room S).2.2.1 (zeh a room S).2.2.2).1,(zk8 n (zeh a room S).2.1 (zeh a room S).2.2.1 (zeh a room S).2.2.2).2):=by simp only[zk8,if_neg h]
def zts(b:List Nat)(n:Int):Option (List (List Nat)):=
 if 0<=n/\n<=65536 then(if zp2 (zk8 n.toNat [] 16777216 (some b)).2 then some (zk8 n.toNat [] 16777216 (some b)).1 else none) else none
theorem zm1{b:List Nat}{n:Int}{l:List (List Nat)}(h8:∀x∈b,x<256):zts b n=some l↔(l.length:Int)=n/\zxj l=some b:=by
 constructor
 ·intro h
  unfold zts at h;split at h
  ·rename_i hn
   split at h
   ·rename_i he
    injection h with h;simp only[zp2,decide_eq_true_eq] at he;obtain⟨g1,g2,g3,g4⟩:=z55 n.toNat [] 16777216 (some b) [] (St.ok_some h8) (by omega) (by simp) he;rw[h] at g1 g2 g3 g4;injection g1 with g1;rw[List.append_nil] at g1;refine⟨by omega,?_⟩;unfold zxj;rw[if_pos,<-g1];rw[zfj];exact⟨by omega,g3,by omega⟩
   ·cases h
  ·cases h
 ·rintro⟨rfl,h⟩
  unfold zxj at h;split at h
  ·rename_i hf
   rw[zfj] at hf;injection h with h;have:=qbg l [] 16777216 [] (by simp) hf.2.1 (by have:=hf.2.2;omega);rw[List.append_nil,h] at this;unfold zts;rw[if_pos ⟨by omega,by omega⟩,Int.toNat_natCast,this];simp[zp2]
  ·cases h
theorem z2b{a:List Nat}{l:List (List Nat)}(ha:∀x∈a,x<256)(h:∀x∈zmo a l,x<256):∀s∈l,∀x∈s,x<256:=by
 induction l generalizing a with
 |nil=>simp
 |cons s l ih=>
  rw[zmo,fpiece] at h;have hs:∀x∈s,x<256:=by
   intro x hx;rw[<-List.take_append_drop (shr a s) s,List.mem_append] at hx;rcases hx with hx|hx
   ·rw[<-zsn] at hx
    exact ha x (List.mem_of_mem_take hx)
   ·exact h x (by simp[hx])
  intro t ht;rcases List.mem_cons.1 ht with rfl|ht
  ·exact hs
  ·exact ih hs (fun x hx=>h x (by simp[hx])) t ht
theorem qdx{b:List Nat}{n:Int}(h8:∀x∈b,x<256):(∀s∈(zts b n).getD [],∀x∈s,x<256)/\((zts b n).getD []).length<=65536/\ ∀s∈(zts b n).getD [],s.length<=65536:=by
 cases h:zts b n with
 |none=>simp
 |some l=>
  obtain⟨_,h2⟩:=(zm1 h8).1 h;unfold zxj at h2;split at h2
  ·rename_i hf
   injection h2 with h2;obtain⟨f1,f2,_⟩:=(zfj l).1 hf;exact⟨z2b (a:=[]) (by simp) (by show∀x∈zmo [] l,x<256;rw[h2];exact h8),f1,f2⟩
  ·cases h2
theorem zzu:∀(k n:Nat),n<=k-> ∀x∈vp n,x<256:=by
 intro k;induction k using Nat.strongRecOn with
 |ind k ih=>
  intro n hk x hx;by_cases hn:n<128
  ·rw[ze4 hn] at hx;simp at hx;omega
  ·rw[zfz hn,List.mem_cons] at hx
   rcases hx with hx|hx
   ·omega
   ·exact ih (n/128) (by omega) (n/128) (Nat.le_refl _) x hx
theorem qfq(a:List Nat)(l:List (List Nat))(h:∀s∈l,∀x∈s,x<256):∀x∈zmo a l,x<256:=by
 induction l generalizing a with
 |nil=>simp[zmo]
 |cons s l ih=>
  intro x hx;rw[zmo,fpiece] at hx;simp only[List.mem_append] at hx;rcases hx with((hx|hx)|hx)|hx
  ·exact zzu _ _ (Nat.le_refl _) x hx
  ·exact zzu _ _ (Nat.le_refl _) x hx
  ·exact h s (by simp) x (List.mem_of_mem_drop hx)
  ·exact ih s (fun y hy=>h y (by simp[hy])) x hx
theorem qfr{l:List (List Nat)}{b:List Nat}(h:∀s∈l,∀x∈s,x<256)(hb:zxj l=some b):∀x∈b,x<256:=by
 unfold zxj at hb;split at hb
 ·injection hb with hb
  rw[<-hb];exact qfq [] l h
 ·cases hb
end Go.Hm
