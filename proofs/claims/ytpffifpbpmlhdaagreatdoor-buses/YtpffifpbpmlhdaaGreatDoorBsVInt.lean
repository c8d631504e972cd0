import Derived.Deep.AppendSrc
import Derived.Shelf.LaysM
import Derived.Shelf.Strconv.AppendIntPublic10
import Derived.Test.YtpffifpbpmlhdaaGreatDoorBsVHex
set_option maxHeartbeats 32000000
set_option maxRecDepth 100000
namespace Go.Proofs.YtpffifpbpmlhdaaGreatDoor
open Go.RowKit
variable {w w':World}{wb:Nat}{l:Bs}{b:UInt8}
theorem Fr.dr(X:Nat->Prop)(w:World):Fr X w w.drew:=⟨rfl,rfl,rfl,Nat.le_refl _,fun _ _ _=>rfl⟩
structure WB(w:World)(wb:Nat)(l:Bs):Prop where
 block:∃ cs:Array Value,cs.size=1001/\w.heap[wb]?=some (.cells cs 180 (0,0))/\cs[0]?=some (.int .i64 l.length)/\∀(j:Nat) (b:UInt8),j<1000->l[j]?=some b->cs[j+1]?=some (.int .u8 b.toNat)
theorem WB.ae{X:Nat->Prop}(h:WB w wb l)(hf:Fr X w w')(hx:¬X wb):WB w' wb l:=by
 obtain⟨a,b,c,d⟩:=h.block;exact⟨a,b,hf.ae c hx,d⟩
theorem WB.dM(h:WB w wb l):w.cell? ⟨wb,0,none⟩=some (.int .i64 l.length):=by
 obtain⟨c,d,a,b,_⟩:=h.block;rw[cell_of_heap a,b]
theorem WB.Jq(h:WB w wb l){j:Nat}(hj:j<1001):∃ v,w.cell? ⟨wb,j,none⟩=some v:=by
 obtain⟨a,b,c,d,_⟩:=h.block;exact⟨a[j]'(by omega),by rw[cell_of_heap c];simp[b,hj]⟩
theorem WB.free(h:WB w wb l)(j:Nat):w.frozen? ⟨wb,j,none⟩=false:=by
 obtain⟨b,c,a,d,_⟩:=h.block;exact ak a
theorem WB.lt(h:WB w wb l):wb<w.heap.size:=by
 obtain⟨b,c,a,d,_⟩:=h.block;exact lt_of_heap a
theorem WB.Jp(h:WB w wb l)(hl:1000<=l.length)(hw:w'.heap=(w.setCell ⟨wb,0,none⟩ (.int .i64 ((l.length+1:Nat):Int))).heap):WB w' wb (l++[b]):=by
 obtain⟨d,e,f,k,g⟩:=h.block;refine⟨⟨d.setIfInBounds 0 (.int .i64 ((l.length+1:Nat):Int)),by simp[e],?_,?_,?_⟩⟩
 ·rw[hw,heap_setCell_same f]
 ·rw[Array.getElem?_setIfInBounds_self_of_lt (by omega)];simp
 ·intro j c i a;rw[Array.getElem?_setIfInBounds_ne (by omega)];rw[List.getElem?_append_left (by omega)] at a;exact g j c i a
theorem WB.I5(h:WB w wb l)(hl:l.length<1000)(hw:w'.heap=((w.setCell ⟨wb,l.length+1,none⟩ (.int .u8 b.toNat)).setCell ⟨wb,0,none⟩ (.int .i64 ((l.length+1:Nat):Int))).heap):WB w' wb (l++[b]):=by
 obtain⟨f,g,i,n,k⟩:=h.block;refine⟨⟨(f.setIfInBounds (l.length+1) (.int .u8 b.toNat)).setIfInBounds 0 (.int .i64 ((l.length+1:Nat):Int)),by simp[g],?_,?_,?_⟩⟩
 ·rw[hw,heap_setCell_same (heap_setCell_same i)]
 ·rw[Array.getElem?_setIfInBounds_self_of_lt (by simp;omega)];simp
 ·intro j c m a;rw[Array.getElem?_setIfInBounds_ne (by omega)]
  by_cases e:j=l.length
  ·subst e;rw[Array.getElem?_setIfInBounds_self_of_lt (by omega)];rw[List.getElem?_append_right (by omega)] at a;simp at a;subst a;rfl
  ·rw[Array.getElem?_setIfInBounds_ne (by omega)]
   by_cases d:j<l.length
   ·rw[List.getElem?_append_left d] at a;exact k j c m a
   ·rw[List.getElem?_eq_none (by simp;omega)] at a;cases a
def cS(w:World)(wb:Nat)(l:Bs)(e:Ending)(w':World):Prop:=e=.returned (.tuple #[])/\Fr (One wb) w w'/\WB w' wb l
theorem lX(w:World)(wb:Nat)(l:Bs)(b:UInt8)(h:WB w wb l)(hl:l.length<=1000000000000000000):
  Calls Tryz.prog 122 #[.pointer (some ⟨wb,0,none⟩),.int .u8 b.toNat] w fun e w'=>cS w wb (l++[b]) e w':=by
 have iX:=h.dM;have n:=h.free 0;have d:=ab h
 by_cases f:l.length<1000
 ·have p:(l.length:Int)<1000:=by omega
  have q:=h.free (l.length+1);obtain⟨u,x⟩:=h.Jq (j:=l.length+1) (by omega);have r:w.frozen? ⟨wb,1+l.length,none⟩=false:=by rw[Nat.add_comm];exact q
  have s:w.cell? ⟨wb,1+l.length,none⟩=some u:=by rw[Nat.add_comm];exact x
  clear h hl;go_enter Tryz.func122,Tryz.ntmps122;go_wp2_with fail;refine(gw wb l.length _ iX).mono ?_;rintro e y ⟨rfl,g⟩;obtain rfl:=g.symm;go_wp2
  go_region_held3 (fun _=>True) (trivial) (first|(go_at_call 84;refine(gw wb l.length _ (by exact iX)).mono ?_;rintro e k ⟨rfl,rfl⟩))
  have t:(w.setCell ⟨wb,1+l.length,none⟩ (.int .u8 b.toNat)).drew.cell? ⟨wb,0,none⟩=some (.int .i64 l.length):=by
   obtain⟨z,A,i,m,_⟩:=d.o.block
   show(w.setCell ⟨wb,1+l.length,none⟩ (.int .u8 b.toNat)).cell? ⟨wb,0,none⟩=_
   rw[cell_of_heap (heap_setCell_same i),Array.getElem?_setIfInBounds_ne (by omega)];exact m
  have v:(w.setCell ⟨wb,1+l.length,none⟩ (.int .u8 b.toNat)).drew.frozen? ⟨wb,0,none⟩=false:=by
   obtain⟨z,A,i,m,_⟩:=d.o.block
   show(w.setCell ⟨wb,1+l.length,none⟩ (.int .u8 b.toNat)).frozen? ⟨wb,0,none⟩=_
   exact ak (heap_setCell_same i)
  go_wp2_with fail;refine(ja wb l.length 1 _ t v (by omega) (by omega)).mono ?_;rintro e k ⟨rfl,c⟩;have a:=ab c;clear c;go_wp2
  go_end0
  refine⟨rfl,by rw[a.o];exact(Fr.setCell (One wb) w ⟨wb,1+l.length,none⟩ (.int .u8 b.toNat) rfl).trans ((Fr.dr _ _).trans (Fr.setCell (One wb) _ ⟨wb,0,none⟩ _ rfl)),d.o.I5 f ?_⟩;rw[a.o,Nat.add_comm l.length 1,show((1+l.length:Nat):Int)=(l.length:Int)+1 by omega];rfl
 ·have p:¬(l.length:Int)<1000:=by omega
  clear h;go_enter Tryz.func122,Tryz.ntmps122;go_wp2_with fail;refine(gw wb l.length _ iX).mono ?_;rintro e y ⟨rfl,g⟩;obtain rfl:=g.symm;go_wp2_with fail;refine(ja wb l.length 1 _ iX n (by omega) (by omega)).mono ?_;rintro e k ⟨rfl,c⟩;have a:=ab c;clear c;go_wp2
  go_end0
  exact⟨rfl,by rw[a.o];exact Fr.setCell _ _ _ _ rfl,d.o.Jp (by omega) (by rw[a.o];rfl)⟩
theorem lI{j:Nat}(h:l[j]?=some b):∃ hj:j<(ba l).size,(ba l)[j]=b:=by
 obtain⟨hj,a⟩:=List.getElem?_eq_some_iff.1 h;refine⟨by rw[aI];exact hj,?_⟩;exact a
theorem qd(w:World)(wb:Nat)(l m:Bs)(h:WB w wb l)(hl:l.length+m.length<=1000000000000000000):
  Calls Tryz.prog 124 #[.pointer (some ⟨wb,0,none⟩),.string (ba m)] w fun e w'=>cS w wb (l++m) e w':=by
 have q:=ab h;have dJ:=aI m;go_enter Tryz.func124,Tryz.ntmps124;go_wp2
 go_loopw [7] (fun i wr=>∃ k:Nat,k<=m.length/\i=.int .i64 k/\Hi (WB wr wb (l++m.take k))/\Hi (Fr (One wb) w wr)) (fun i _=>m.length-(intOf i).toNat)
 case atStart=>exact⟨0,by omega,rfl,by simpa using q,Fr.refl _ _⟩
 case round =>
  obtain⟨k,u,rfl,n,p⟩:=hrel
  by_cases a:k<m.length
  ·obtain⟨b,j⟩:∃ b,m[k]?=some b:=⟨m[k],by simp[a]⟩;obtain⟨v,x⟩:=lI j;have t:(k:Int)<(m.length:Int):=by omega
   have r:Hi (m.take (k+1)=m.take k++[b]):=by
    show _=_;obtain⟨_,s⟩:=List.getElem?_eq_some_iff.1 j;rw[List.take_succ_eq_append_getElem a,s]
   go_wp2_with fail;refine(lX _ wb (l++m.take k) b n (by simp;omega)).mono ?_;rintro e y ⟨rfl,c,ew⟩;have d:=ab (p.o.trans c);have f:=ab ew;go_wp2;refine⟨⟨k+1,by omega,by go_num,?_,d⟩,by simp[intOf];omega⟩;rw[r.o,<-List.append_assoc];exact f
  ·have g:k=m.length:=by omega
   subst g;go_wp2
   go_end0
   refine⟨rfl,p,?_⟩
   have:=n.o
   rw[List.take_length] at this;exact this
theorem fP(w:World)(wb:Nat)(l:Bs)(b:UInt8)(c:Int)(hc:c=b.toNat)(h:WB w wb l)(hl:l.length<=1000000000000000000):
  Calls Tryz.prog 122 #[.pointer (some ⟨wb,0,none⟩),.int .u8 c] w fun e w'=>cS w wb (l++[b]) e w':=by
 subst hc;exact lX w wb l b h hl
theorem WB.same(h:WB w wb l)(e:w'.heap=w.heap):WB w' wb l:=by
 obtain⟨a,b,c,d⟩:=h.block;exact⟨a,b,by rw[e];exact c,d⟩
theorem jw(c:Int)(m:Nat)(h:c%256=((m%256:Nat):Int)):IntKind.u8.wrap c=((UInt8.ofNat m).toNat:Int):=by
 have e:(UInt8.ofNat m).toNat=m%256:=by simp
 rw[e,<-h];rfl
theorem nI:∀(k n:Nat),leBytes (k+1) n=leBytes k n++[UInt8.ofNat (n/256^k)]:=by
 intro k
 induction k with
 | zero=>intro n;simp[leBytes]
 | succ k ih =>
  intro n;rw[leBytes,ih (n/256),leBytes,Nat.div_div_eq_div_mul,Nat.pow_succ,Nat.mul_comm 256];rfl
theorem pf(w:World)(wb:Nat)(l:Bs)(n c:Nat)(h:WB w wb l)(hl:l.length<=100000000000000000)(hc:c<=4)(_hn:n<9223372036854775808):
  Calls Tryz.prog 119 #[.pointer (some ⟨wb,0,none⟩),.int .i64 n,.int .i64 c] w fun e w'=>cS w wb (l++leBytes c n) e w':=by
 have t:=ab h;have u:=ab hl;go_enter Tryz.func119,Tryz.ntmps119;go_wp2
 go_loopw [8] (fun i wr=>∃ k:Nat,k<=c/\i=.int .i64 k/\Hi (WB wr wb (l++leBytes k n))/\Hi (Fr (One wb) w wr)) (fun i _=>c-(intOf i).toNat)
 case atStart=>exact⟨0,by omega,rfl,by simpa[leBytes] using t,Fr.refl _ _⟩
 case round =>
  obtain⟨k,C,rfl,p,q⟩:=hrel
  by_cases v:k<c
  ·have A:(k:Int)<(c:Int):=by omega
   have r:=ab (nI k n)
   have g:Hi ((l++leBytes k n).length<=1000000000000000000):=by
    show _<=_;rw[List.length_append,ct]
    have:=u.o
    omega
   have B:IntKind.i64.wrap 0=0:=by decide +kernel
   have x:IntKind.i64.wrap 8=8:=by decide +kernel
   have y:IntKind.i64.wrap 16=16:=by decide +kernel
   have z:IntKind.i64.wrap 24=24:=by decide +kernel
   obtain rfl|rfl|rfl|rfl:k=0\/k=1\/k=2\/k=3:=by omega
   ·have b:Hi (WB wr wb (l++leBytes 0 n)):=p;have j:Hi (leBytes 1 n=leBytes 0 n++[UInt8.ofNat (n)]):=ab (by rw[r.o];simp);go_wp2
    go_region_held3 (fun _=>True) (trivial) (first|(go_at_call 122;refine(fP _ wb (l++leBytes 0 n) (UInt8.ofNat (n)) _ (jw _ _ (by omega)) (by exact b.o.same rfl) g).mono ?_;rintro e m ⟨rfl,a,ew⟩;have d:Hi (Fr (One wb) w m):=q.o.trans ((Fr.dr _ _).trans a);have f:=ab ew;clear a ew))
    go_wp2;refine⟨⟨1,by omega,by go_num,?_,d⟩,by simp[intOf];omega⟩;rw[j.o,<-List.append_assoc];exact f
   ·have b:Hi (WB wr wb (l++leBytes 1 n)):=p;have j:Hi (leBytes 2 n=leBytes 1 n++[UInt8.ofNat (n/256)]):=r.o.trans rfl;go_wp2
    go_region_held3 (fun _=>True) (trivial) (first|(go_at_call 122;refine(fP _ wb (l++leBytes 1 n) (UInt8.ofNat (n/256)) _ (jw _ _ (by omega)) (by exact b.o.same rfl) g).mono ?_;rintro e m ⟨rfl,a,ew⟩;have d:Hi (Fr (One wb) w m):=q.o.trans ((Fr.dr _ _).trans a);have f:=ab ew;clear a ew))
    go_wp2;refine⟨⟨2,by omega,by go_num,?_,d⟩,by simp[intOf];omega⟩;rw[j.o,<-List.append_assoc];exact f
   ·have b:Hi (WB wr wb (l++leBytes 2 n)):=p;have j:Hi (leBytes 3 n=leBytes 2 n++[UInt8.ofNat (n/65536)]):=r.o.trans rfl;go_wp2
    go_region_held3 (fun _=>True) (trivial) (first|(go_at_call 122;refine(fP _ wb (l++leBytes 2 n) (UInt8.ofNat (n/65536)) _ (jw _ _ (by omega)) (by exact b.o.same rfl) g).mono ?_;rintro e m ⟨rfl,a,ew⟩;have d:Hi (Fr (One wb) w m):=q.o.trans ((Fr.dr _ _).trans a);have f:=ab ew;clear a ew))
    go_wp2;refine⟨⟨3,by omega,by go_num,?_,d⟩,by simp[intOf];omega⟩;rw[j.o,<-List.append_assoc];exact f
   ·have b:Hi (WB wr wb (l++leBytes 3 n)):=p;have j:Hi (leBytes 4 n=leBytes 3 n++[UInt8.ofNat (n/16777216)]):=r.o.trans rfl;go_wp2
    go_region_held3 (fun _=>True) (trivial) (first|(go_at_call 122;refine(fP _ wb (l++leBytes 3 n) (UInt8.ofNat (n/16777216)) _ (jw _ _ (by omega)) (by exact b.o.same rfl) g).mono ?_;rintro e m ⟨rfl,a,ew⟩;have d:Hi (Fr (One wb) w m):=q.o.trans ((Fr.dr _ _).trans a);have f:=ab ew;clear a ew))
    go_wp2;refine⟨⟨4,by omega,by go_num,?_,d⟩,by simp[intOf];omega⟩;rw[j.o,<-List.append_assoc];exact f
  ·have s:k=c:=by omega
   subst s;go_wp2
   go_end0
   exact⟨rfl,q,p⟩
theorem zz:∀ n,n<301->128<=n->bits BinOp.or IntKind.i64 (bits BinOp.and IntKind.i64 (n:Nat) 127) 128%256=(((n%128+128:Nat)):Int):=by decide +kernel
theorem kt(w:World)(wb:Nat)(l:Bs)(n:Nat)(h:WB w wb l)(hl:l.length<=100000000000000000)(hn:n<=300):
  Calls Tryz.prog 123 #[.pointer (some ⟨wb,0,none⟩),.int .i64 n] w fun e w'=>cS w wb (l++aB n) e w':=by
 have j:=ab h;have d:=ab hl;clear h hl
 by_cases bZ:n<=127
 ·have m:¬(127:Int)<(n:Int):=by omega
  have f:Hi (aB n=[UInt8.ofNat n]):=ab (by unfold aB;rw[if_pos bZ]);go_enter Tryz.func123,Tryz.ntmps123;go_wp2;refine wp_loop_rounds 1 ?_;rw[rounds_succ];go_wp2_with fail;refine(fP _ wb l (UInt8.ofNat n) _ (by rw[toNat_ofNat (by omega)]) j (by have:=d.o;omega)).mono ?_;rintro e q ⟨rfl,(b:Hi _),ew⟩;have a:=ab ew;clear ew;go_wp2
  go_end0
  rw[f.o];exact⟨rfl,b,a⟩
 ·have m:(127:Int)<(n:Int):=by omega
  have f:Hi (aB n=[UInt8.ofNat (n%128+128),UInt8.ofNat (n/128)]):=ab (by unfold aB;rw[if_neg bZ]);have k:=zz n (by omega) (by omega);have p:=ab k;clear k;go_enter Tryz.func123,Tryz.ntmps123;go_wp2;refine wp_loop_rounds 2 ?_;rw[rounds_succ];go_wp2_with fail;refine(fP _ wb l (UInt8.ofNat (n%128+128)) _ (by rw[toNat_ofNat (by omega)];exact p) j (by have:=d.o;omega)).mono ?_;rintro e q ⟨rfl,(b:Hi _),ew⟩;have a:=ab ew;clear ew;have r:((n:Int)/128)<=127:=by omega
  go_wp2;rw[rounds_succ];go_wp2_with fail;refine(fP _ wb (l++[UInt8.ofNat (n%128+128)]) (UInt8.ofNat (n/128)) _ (by rw[toNat_ofNat (by omega)];omega) a (by have:=d.o;simp;omega)).mono ?_;rintro e s ⟨rfl,ao,c⟩;have g:=ab (b.o.trans ao);have i:=ab c;clear ao c;go_wp2
  go_end0
  rw[f.o];refine⟨rfl,g,?_⟩
  have:=i.o
  rw[List.append_assoc] at this;exact this
theorem kQ(m:Nat):∀ k,k<8->(aC 8 m).take (k+1)=(aC 8 m).take k++[UInt8.ofNat (m/256^(7-k))]:=by
 intro k a;have c:(aC 8 m).length=8:=by simp[aC,ct]
 rw[List.take_succ_eq_append_getElem (by omega)]
 congr 2
 have:∀ k,k<8->(aC 8 m)[k]?=some (UInt8.ofNat (m/256^(7-k))):=by
  intro k a;simp only[aC,leBytes,Nat.div_div_eq_div_mul,List.reverse_cons,List.reverse_nil,List.nil_append,List.cons_append]
  match k,a with
  | 0,_=>rfl
  | 1,_=>rfl
  | 2,_=>rfl
  | 3,_=>rfl
  | 4,_=>rfl
  | 5,_=>rfl
  | 6,_=>rfl
  | 7,_=>simp
 have b:=this k a;rw[List.getElem?_eq_getElem (by omega)] at b;simpa using b
theorem oB(w:World)(wb:Nat)(l:Bs)(n:Int)(h:WB w wb l)(hl:l.length<=100000000000000000)(hn:n<=9223372036854775807)(ka:-9223372036854775808<=n):
  Calls Tryz.prog 121 #[.pointer (some ⟨wb,0,none⟩),.int .i64 n,.int .i64 8] w fun e w'=>cS w wb (l++aC 8 (ofInt64 n)) e w':=by
 have u:=ab h;have v:=ab hl;go_enter Tryz.func121,Tryz.ntmps121;go_wp2
 go_loopw [8] (fun i wr=>∃ k:Nat,k<=8/\i=.int .i64 k/\Hi (WB wr wb (l++(aC 8 (ofInt64 n)).take k))/\Hi (Fr (One wb) w wr)) (fun i _=>8-(intOf i).toNat)
 case atStart=>exact⟨0,by omega,rfl,by simpa using u,Fr.refl _ _⟩
 case round =>
  obtain⟨k,M,rfl,m,p⟩:=hrel
  by_cases r:k<8
  ·have q:=ab (kQ (ofInt64 n) k r)
   have f:Hi ((l++(aC 8 (ofInt64 n)).take k).length<=1000000000000000000):=by
    show _<=_;rw[List.length_append,List.length_take]
    have:=v.o
    omega
   have x:IntKind.i64.wrap 0=0:=by decide +kernel
   have y:IntKind.i64.wrap 8=8:=by decide +kernel
   have z:IntKind.i64.wrap 16=16:=by decide +kernel
   have A:IntKind.i64.wrap 24=24:=by decide +kernel
   have B:IntKind.i64.wrap 32=32:=by decide +kernel
   have C:IntKind.i64.wrap 40=40:=by decide +kernel
   have D:IntKind.i64.wrap 48=48:=by decide +kernel
   have E:IntKind.i64.wrap 56=56:=by decide +kernel
   have F:IntKind.i64.wrap 1=1:=by decide +kernel
   have G:IntKind.i64.wrap 2=2:=by decide +kernel
   have H:IntKind.i64.wrap 3=3:=by decide +kernel
   have I:IntKind.i64.wrap 4=4:=by decide +kernel
   have J:IntKind.i64.wrap 5=5:=by decide +kernel
   have K:IntKind.i64.wrap 6=6:=by decide +kernel
   have L:IntKind.i64.wrap 7=7:=by decide +kernel
   obtain rfl|rfl|rfl|rfl|rfl|rfl|rfl|rfl:k=0\/k=1\/k=2\/k=3\/k=4\/k=5\/k=6\/k=7:=by omega
   ·have b:Hi (WB wr wb (l++(aC 8 (ofInt64 n)).take 0)):=m;have g:Hi ((aC 8 (ofInt64 n)).take 1=(aC 8 (ofInt64 n)).take 0++[UInt8.ofNat (ofInt64 n/72057594037927936)]):=q.o;go_wp2
    go_region_held3 (fun _=>True) (trivial) (first|(go_at_call 122;refine(fP _ wb (l++(aC 8 (ofInt64 n)).take 0) (UInt8.ofNat (ofInt64 n/72057594037927936)) _ (jw _ _ (by unfold ofInt64;omega)) (by exact b.o.same rfl) f).mono ?_;rintro e j ⟨rfl,a,ew⟩;have c:Hi (Fr (One wb) w j):=p.o.trans ((Fr.dr _ _).trans a);have d:=ab ew;clear a ew))
    go_wp2;refine⟨⟨1,by omega,by go_num,?_,c⟩,by simp[intOf]⟩;rw[g.o,<-List.append_assoc];exact d
   ·have b:Hi (WB wr wb (l++(aC 8 (ofInt64 n)).take 1)):=m;have g:Hi ((aC 8 (ofInt64 n)).take 2=(aC 8 (ofInt64 n)).take 1++[UInt8.ofNat (ofInt64 n/281474976710656)]):=q.o;go_wp2
    go_region_held3 (fun _=>True) (trivial) (first|(go_at_call 122;refine(fP _ wb (l++(aC 8 (ofInt64 n)).take 1) (UInt8.ofNat (ofInt64 n/281474976710656)) _ (jw _ _ (by unfold ofInt64;omega)) (by exact b.o.same rfl) f).mono ?_;rintro e j ⟨rfl,a,ew⟩;have c:Hi (Fr (One wb) w j):=p.o.trans ((Fr.dr _ _).trans a);have d:=ab ew;clear a ew))
    go_wp2;refine⟨⟨2,by omega,by go_num,?_,c⟩,by simp[intOf]⟩;rw[g.o,<-List.append_assoc];exact d
   ·have b:Hi (WB wr wb (l++(aC 8 (ofInt64 n)).take 2)):=m;have g:Hi ((aC 8 (ofInt64 n)).take 3=(aC 8 (ofInt64 n)).take 2++[UInt8.ofNat (ofInt64 n/1099511627776)]):=q.o;go_wp2
    go_region_held3 (fun _=>True) (trivial) (first|(go_at_call 122;refine(fP _ wb (l++(aC 8 (ofInt64 n)).take 2) (UInt8.ofNat (ofInt64 n/1099511627776)) _ (jw _ _ (by unfold ofInt64;omega)) (by exact b.o.same rfl) f).mono ?_;rintro e j ⟨rfl,a,ew⟩;have c:Hi (Fr (One wb) w j):=p.o.trans ((Fr.dr _ _).trans a);have d:=ab ew;clear a ew))
    go_wp2;refine⟨⟨3,by omega,by go_num,?_,c⟩,by simp[intOf]⟩;rw[g.o,<-List.append_assoc];exact d
   ·have b:Hi (WB wr wb (l++(aC 8 (ofInt64 n)).take 3)):=m;have g:Hi ((aC 8 (ofInt64 n)).take 4=(aC 8 (ofInt64 n)).take 3++[UInt8.ofNat (ofInt64 n/4294967296)]):=q.o;go_wp2
    go_region_held3 (fun _=>True) (trivial) (first|(go_at_call 122;refine(fP _ wb (l++(aC 8 (ofInt64 n)).take 3) (UInt8.ofNat (ofInt64 n/4294967296)) _ (jw _ _ (by unfold ofInt64;omega)) (by exact b.o.same rfl) f).mono ?_;rintro e j ⟨rfl,a,ew⟩;have c:Hi (Fr (One wb) w j):=p.o.trans ((Fr.dr _ _).trans a);have d:=ab ew;clear a ew))
    go_wp2;refine⟨⟨4,by omega,by go_num,?_,c⟩,by simp[intOf]⟩;rw[g.o,<-List.append_assoc];exact d
   ·have b:Hi (WB wr wb (l++(aC 8 (ofInt64 n)).take 4)):=m;have g:Hi ((aC 8 (ofInt64 n)).take 5=(aC 8 (ofInt64 n)).take 4++[UInt8.ofNat (ofInt64 n/16777216)]):=q.o;go_wp2
    go_region_held3 (fun _=>True) (trivial) (first|(go_at_call 122;refine(fP _ wb (l++(aC 8 (ofInt64 n)).take 4) (UInt8.ofNat (ofInt64 n/16777216)) _ (jw _ _ (by unfold ofInt64;omega)) (by exact b.o.same rfl) f).mono ?_;rintro e j ⟨rfl,a,ew⟩;have c:Hi (Fr (One wb) w j):=p.o.trans ((Fr.dr _ _).trans a);have d:=ab ew;clear a ew))
    go_wp2;refine⟨⟨5,by omega,by go_num,?_,c⟩,by simp[intOf]⟩;rw[g.o,<-List.append_assoc];exact d
   ·have b:Hi (WB wr wb (l++(aC 8 (ofInt64 n)).take 5)):=m;have g:Hi ((aC 8 (ofInt64 n)).take 6=(aC 8 (ofInt64 n)).take 5++[UInt8.ofNat (ofInt64 n/65536)]):=q.o;go_wp2
    go_region_held3 (fun _=>True) (trivial) (first|(go_at_call 122;refine(fP _ wb (l++(aC 8 (ofInt64 n)).take 5) (UInt8.ofNat (ofInt64 n/65536)) _ (jw _ _ (by unfold ofInt64;omega)) (by exact b.o.same rfl) f).mono ?_;rintro e j ⟨rfl,a,ew⟩;have c:Hi (Fr (One wb) w j):=p.o.trans ((Fr.dr _ _).trans a);have d:=ab ew;clear a ew))
    go_wp2;refine⟨⟨6,by omega,by go_num,?_,c⟩,by simp[intOf]⟩;rw[g.o,<-List.append_assoc];exact d
   ·have b:Hi (WB wr wb (l++(aC 8 (ofInt64 n)).take 6)):=m;have g:Hi ((aC 8 (ofInt64 n)).take 7=(aC 8 (ofInt64 n)).take 6++[UInt8.ofNat (ofInt64 n/256)]):=q.o;go_wp2
    go_region_held3 (fun _=>True) (trivial) (first|(go_at_call 122;refine(fP _ wb (l++(aC 8 (ofInt64 n)).take 6) (UInt8.ofNat (ofInt64 n/256)) _ (jw _ _ (by unfold ofInt64;omega)) (by exact b.o.same rfl) f).mono ?_;rintro e j ⟨rfl,a,ew⟩;have c:Hi (Fr (One wb) w j):=p.o.trans ((Fr.dr _ _).trans a);have d:=ab ew;clear a ew))
    go_wp2;refine⟨⟨7,by omega,by go_num,?_,c⟩,by simp[intOf]⟩;rw[g.o,<-List.append_assoc];exact d
   ·have b:Hi (WB wr wb (l++(aC 8 (ofInt64 n)).take 7)):=m;have g:Hi ((aC 8 (ofInt64 n)).take 8=(aC 8 (ofInt64 n)).take 7++[UInt8.ofNat (ofInt64 n/1)]):=q.o;go_wp2
    go_region_held3 (fun _=>True) (trivial) (first|(go_at_call 122;refine(fP _ wb (l++(aC 8 (ofInt64 n)).take 7) (UInt8.ofNat (ofInt64 n/1)) _ (jw _ _ (by unfold ofInt64;omega)) (by exact b.o.same rfl) f).mono ?_;rintro e j ⟨rfl,a,ew⟩;have c:Hi (Fr (One wb) w j):=p.o.trans ((Fr.dr _ _).trans a);have d:=ab ew;clear a ew))
    go_wp2;refine⟨⟨8,by omega,by go_num,?_,c⟩,by simp[intOf]⟩;rw[g.o,<-List.append_assoc];exact d
  ·have s:k=8:=by omega
   subst s;go_wp2
   go_end0
   refine⟨rfl,p,?_⟩;have t:=m.o;rw[List.take_of_length_le (by simp[aC,ct])] at t;exact t
def bk(B:Nat):Nat->Prop:=fun k=>B<=k
def iL(sv:Value):Nat->Prop:=fun k=>sv.ownBlock=some k
theorem zV{B:Nat}{sv:Value}{acc:Bs}(h:BO w B sv acc)(hB:B<=w.heap.size)(tx ty:TypeId)(x:Value)(more:Bs)(hs:Src Tryz.prog 1 tx x more.length (Lib.byteCells more) w)(hl:acc.length+more.length<=140737488355328):
  ∃ v' w',(Builtin.append_ #[118,tx] ty #[sv,x]).run Tryz.prog w=.ok v' w'/\BO w' B v' (acc++more)/\Fr (iL sv) w w':=by
 obtain⟨i,A,H,a,C⟩:=info_parts Tryz.Ax;have u:Tryz.prog.underlying 118=some (.slice 5):=Tryz.underlying118;have aX:(Lib.byteCells (acc++more)).length=(acc++more).length*1:=by simp[Lib.byteCells]
 have Cs:Lib.byteCells (acc++more)=Lib.byteCells acc++Lib.byteCells more:=by simp[Lib.byteCells]
 have rV:(Lib.byteCells more).length=more.length:=by simp[Lib.byteCells]
 have q:(Lib.byteCells acc).length=acc.length:=by simp[Lib.byteCells]
 have Ai:acc.length+more.length<=maxLen:=by unfold maxLen;omega
 have b:=hs;rw[<-a] at b
 have d:∀(c:Option Addr) (au:Nat),au<acc.length+more.length->sv=.slice c acc.length au->(Builtin.firstCells i.size acc.length (.slice c acc.length au)).run Tryz.prog w.drew=.ok (Lib.byteCells acc).toArray w.drew ->
   ∃ v' w',(Builtin.append_ #[118,tx] ty #[sv,x]).run Tryz.prog w=.ok v' w'/\BO w' B v' (acc++more)/\Fr (iL sv) w w':=by
  intro c au m D s;subst D;have v:=run_append_grow_src (P:=Tryz.prog) w 118 tx ty 5 i (.int .u8 0) u A H c acc.length au (Lib.byteCells acc) s x more.length (Lib.byteCells more) b m (by omega) (by rw[C];exact growslice_fits m (by omega));have y:=grownCap_ge w (acc.length+more.length) au 5;have n:grownCap w (acc.length+more.length) au 5<=maxLen:=grownCap_le_maxLen w (acc.length+more.length) au 5 Ai;refine⟨_,_,v,⟨⟨aX,.inr ⟨w.heap.size,_,_,by rw[List.length_append],Nat.zero_le _,heap_alloc_new w.drew _,by rw[List.length_append];exact y,n,?_,?_⟩⟩,fun g t=>?_⟩,⟨rfl,rfl,rfl,by simp,fun k l _=>Below.heap_alloc w.drew _ _ l⟩⟩
  ·simp only[Array.size_append,List.size_toArray,size_zeroCells,List.length_append,q,rV,Value.cells];simp;omega
  ·rw[Cs,<-aX,Cs];simp only[Array.toList_append];exact List.take_left
  ·simp[Value.ownBlock] at t;omega
 rcases h.own.2 with⟨rfl,e⟩|⟨g,au,j,rfl,I,t,J,n,E,p⟩
 ·by_cases G:more.length=0
  ·have z:more=[]:=List.eq_nil_of_length_eq_zero G;have o:acc=[]:=List.eq_nil_of_length_eq_zero e;subst z o;refine⟨.slice none 0 0,w,?_,BO.nil _ _,Fr.refl _ _⟩;have F:=b.cells;have r:=b.len w;simp[Lib.byteCells] at F r;rcases b.kind with⟨K,l⟩|l<;>simp[Builtin.append_,run_underlying u,run_underlying l,sizeOf,typeInfo,A,r,F]
  ·exact d none 0 (by omega) (by rw[e]) (by rw[e];have o:acc=[]:=List.eq_nil_of_length_eq_zero e;subst o;exact run_firstCells_none w.drew i.size 0 0 0)
 ·by_cases f:acc.length+more.length<=au
  ·have ph:acc.length*i.size+(Lib.byteCells more).length<=j.size:=by rw[rV,E,a];omega
   have iz:=run_storeCells_at Tryz.prog g (acc.length*i.size) 5 (Lib.byteCells more) 0 j w t (by simpa using ph) hs.one;simp only[Nat.add_zero] at iz
   have v:(Builtin.append_ #[118,tx] ty #[.slice (some ⟨g,0,none⟩) acc.length au,x]).run Tryz.prog w=.ok (.slice (some ⟨g,0,none⟩) (acc.length+more.length) au) (w.setRow g (j.toList.take (acc.length*i.size)++Lib.byteCells more++j.toList.drop (acc.length*i.size+(Lib.byteCells more).length)).toArray):=by
    rcases b.kind with⟨K,l⟩|l<;>simp[Builtin.append_,run_underlying u,run_underlying l,sizeOf,typeInfo,A,b.len,f,b.cells,Addr.add_lit,iz]
   refine⟨_,_,v,⟨⟨aX,.inr ⟨g,au,_,by rw[List.length_append],Nat.zero_le _,setRow_heap w g j _ 5 _ t,by rw[List.length_append];exact f,n,?_,?_⟩⟩,fun g' hg'=>?_⟩,⟨rfl,rfl,rfl,by simp,fun k _ l=>setRow_other w g k _ (fun e=>l (by subst e;rfl))⟩⟩
   ·simp only[List.size_toArray,List.length_append,List.length_take,List.length_drop,Array.length_toList];omega
   ·rw[Cs,a,p,<-aX,Cs];exact List.take_left
   ·simp[Value.ownBlock] at hg';subst hg';exact h.from_ _ rfl
  ·exact d _ au (by omega) rfl (run_firstCells_some w.drew i.size acc.length _ _ _ (Lib.byteCells acc) (by rw[q,a];omega) (by simpa using h.own.cells (g:=g) rfl))
theorem bx{oU:Array Oper}{rest:List Oper}{o:Oper}{a:Act}{Q:Exit->Act->World->Prop}
  (hg:o.guard=none) (s x:Operand) (tx:TypeId) (hop:o.op=Op.call { callee:=Callee.builtin Builtin.append,args:=#[s,x],argTypes:=#[118,tx] })
  {B:Nat} {sv xv:Value} {acc:Bs} (more:Bs) (hs:a.eval s=sv) (hx:a.eval x=xv) (h:BO w B sv acc) (hsrc:Src Tryz.prog 1 tx xv more.length (Lib.byteCells more) w) (hB:B<=w.heap.size) (hl:acc.length+more.length<=140737488355328)
  (hK:∀ v' w',BO w' B v' (acc++more)->Fr (bk B) w w'->Fr (iL sv) w w'->wpList Tryz.prog oU Q rest (a.put o.dst v') w') :
  wpList Tryz.prog oU Q (o::rest) a w:=by
 refine wpList_plain hg fun K hK'=>?_
 obtain⟨v',w',b,d,c⟩:=zV h hB tx o.type xv more hsrc hl;unfold Oper.wp;simp[execOp,hop,resolve,invoke,builtin,hs,hx,b,Result.andThen];exact hK' _ _ (hK v' w' d (c.mono (fun k _ e=>h.from_ k e)) c)
theorem ni{oU:Array Oper}{o:Oper}{a:Act}{K:Act->World->Prop}{Q:Exit->Act->World->Prop}{E:Prop}
  (hg:o.guard=none) (s x:Operand) (tx:TypeId) (hop:o.op=Op.call { callee:=Callee.builtin Builtin.append,args:=#[s,x],argTypes:=#[118,tx] })
  {B:Nat} {sv xv:Value} {acc:Bs} (more:Bs) (hs:a.eval s=sv) (hx:a.eval x=xv) (h:BO w B sv acc) (hsrc:Src Tryz.prog 1 tx xv more.length (Lib.byteCells more) w) (hB:B<=w.heap.size) (hl:acc.length+more.length<=140737488355328)
  (hK:∀ v' w',BO w' B v' (acc++more)->Fr (bk B) w w'->Fr (iL sv) w w'->K (a.put o.dst v') w') :
  if Region.wanted o (yielded oU a.tmps)=true then Oper.wp Tryz.prog o a w K Q else E:=by
 have d:Region.wanted o (yielded oU a.tmps)=true:=by simp[Region.wanted,hg]
 rw[if_pos d];obtain⟨v',w',b,f,c⟩:=zV h hB tx o.type xv more hsrc hl;unfold Oper.wp;simp[execOp,hop,resolve,invoke,builtin,hs,hx,b,Result.andThen];exact hK v' w' f (c.mono (fun k _ e=>h.from_ k e)) c
theorem kA{n:Nat}{t:TypeId}(h:w'.heap[n]?=some (.cells #[.int .u8 b.toNat] t (0,0))):Src Tryz.prog 1 118 (.slice (some ⟨n,0,none⟩) 1 1) [b].length (Lib.byteCells [b]) w':=by
 refine Src.ofSlice w' Tryz.underlying118 _ _ _ _ rfl (fun j u hj=>?_) (fun u hu=>?_)
 ·match j,hj with
  | 0,hj=>simp[Lib.byteCells] at hj;subst hj;rw[show(⟨n,0,none⟩:Addr).add 0=⟨n,0,none⟩ by simp[Addr.add]];rw[cell_of_heap h];rfl
  | j+1,hj=>simp[Lib.byteCells] at hj
 ·simp[Lib.byteCells] at hu;subst hu;rfl
theorem ez{t:TypeId}(he:w'.heap=(w.alloc (.cells #[.int .u8 b.toNat] t)).heap):Src Tryz.prog 1 118 (.slice (some ⟨w.heap.size,0,none⟩) 1 1) [b].length (Lib.byteCells [b]) w' :=
 kA (by rw[he];exact af rfl _)
theorem Fm{c:UInt8}{t:TypeId}(he:w'.heap=(w.alloc (.cells #[.int .u8 b.toNat,.int .u8 c.toNat] t)).heap):Src Tryz.prog 1 118 (.slice (some ⟨w.heap.size,0,none⟩) 2 2) [b,c].length (Lib.byteCells [b,c]) w':=by
 refine Src.ofSlice w' Tryz.underlying118 _ _ _ _ rfl (fun j u hj=>?_) (fun u hu=>?_)
 ·exact oA he j u (by simpa[Lib.byteCells] using hj)
 ·simp[Lib.byteCells] at hu;rcases hu with rfl|rfl<;>rfl
theorem tU(w:World)(more:Bs):Src Tryz.prog 1 9 (.string (ba more)) more.length (Lib.byteCells more) w:=by
 have h:=Src.ofString (P:=Tryz.prog) w (tx:=9) Tryz.underlying9 (ba more);rw[aI] at h;have e:Go.byteCells (ba more)=Lib.byteCells more:=by simp[Go.byteCells,Lib.byteCells,ba]
 rw[e] at h;exact h
def dN(w:World)(B:Nat)(l:Bs)(e:Ending)(w':World):Prop:=Fr (bk B) w w'/\∃ sv,e=.returned sv/\BO w' B sv l
def yG(b:UInt8):Bs:=if b.toNat=34\/b.toNat=92 then[92,b] else[b]
theorem og(a:Bs)(b:UInt8):gP (a++[b])=gP a++yG b:=by
 induction a with
 | nil=>simp only[List.nil_append,gP,yG]
 | cons c a ih=>simp only[List.cons_append,gP];split<;>simp[ih]
theorem oN(a:Bs):(gP a).length<=2*a.length:=by
 induction a with
 | nil=>simp[gP]
 | cons c a ih=>simp only[gP];split<;>simp<;>omega
theorem oI(w:World)(B:Nat)(sv:Value)(acc text:Bs)(h:BO w B sv acc)(hB:B<=w.heap.size)(hl:acc.length+2*text.length+2<=140737488355328):
  Calls Tryz.prog 149 #[sv,.string (ba text)] w fun e w'=>dN w B (acc++34::(gP text++[34])) e w':=by
 have J:=ab h;have dJ:=aI text;go_enter Tryz.func149,Tryz.ntmps149
 go_wp2_with (at_builtin;refine bx rfl _ _ 118 rfl [34] rfl rfl (J.o.alloc _) (ez rfl) ?hb1 ?hl1 ?_)
 case hb1=>simp;omega
 case hl1=>simp;omega
 intro Q R ew p _;have v:=ab ew;have x:=ab ((Fr.alloc (bk B) w _).trans p);go_wp2_with fail
 go_loopw [0,11] (fun ov i wr=>∃ k:Nat,k<=text.length/\i=.int .i64 k/\Hi (BO wr B ov (acc++[34]++gP (text.take k)))/\Hi (Fr (bk B) w wr)) (fun _ i _=>text.length-(intOf i).toNat)
 case atStart=>exact⟨0,by omega,rfl,by simpa[gP] using v,x⟩
 case round =>
  obtain⟨k,S,rfl,c,d⟩:=hrel;have F:=d.o.size;have l:=oN (text.take k);rw[List.length_take] at l
  by_cases m:k<text.length
  ·obtain⟨b,E⟩:∃ b,text[k]?=some b:=⟨text[k],by simp[m]⟩;obtain⟨T,U⟩:=lI E;have P:(k:Int)<(text.length:Int):=by omega
   have G:Hi (gP (text.take (k+1))=gP (text.take k)++yG b):=by
    show _=_;obtain⟨_,L⟩:=List.getElem?_eq_some_iff.1 E;rw[List.take_succ_eq_append_getElem m,L,og]
   by_cases f:b.toNat=34\/b.toNat=92
   ·have y:Hi (yG b=[92]++[b]):=if_pos f
    have q:(((b.toNat:Int)==34)=true)\/(((b.toNat:Int)==34)=false/\((b.toNat:Int)==92)=true):=by
     rcases f with f|f
     ·exact .inl (beq_iff_eq.2 (by omega))
     ·exact .inr ⟨beq_eq_false_iff_ne.2 (by omega),beq_iff_eq.2 (by omega)⟩
    rcases q with I|⟨I,K⟩
    all_goals
     go_wp2_with (at_builtin;refine bx rfl (.tmp 24) (.tmp 25) 118 rfl [92] rfl rfl (c.o.alloc _) (ez rfl) ?hb3 ?hl3 ?_)
     case hb3=>simp;omega
     case hl3=>simp;omega
     intro V W r s _;have z:=ab r;have n:=ab ((d.o.trans (Fr.alloc (bk B) _ _)).trans s);have H:=n.o.size
     go_wp2_with (at_builtin;refine bx rfl (.tmp 27) (.tmp 31) 118 rfl [b] rfl rfl (z.o.alloc _) (ez rfl) ?hb2 ?hl2 ?_)
     case hb2=>simp;omega
     case hl2=>simp;omega
     intro M N a ao _;have g:=ab a;have j:=ab ((n.o.trans (Fr.alloc (bk B) _ _)).trans ao);go_wp2_with fail;refine⟨⟨k+1,by omega,by go_num,?_,j⟩,by simp[intOf];omega⟩;rw[G.o,y.o];exact ab (by simpa using g.o)
   ·have y:Hi (yG b=[b]):=if_neg f;have I:((b.toNat:Int)==34)=false:=beq_eq_false_iff_ne.2 (by omega);have K:((b.toNat:Int)==92)=false:=beq_eq_false_iff_ne.2 (by omega)
    go_wp2_with (at_builtin;refine bx rfl _ _ 118 rfl [b] rfl rfl (c.o.alloc _) (ez rfl) ?hb2 ?hl2 ?_)
    case hb2=>simp;omega
    case hl2=>simp;omega
    intro M N a ao _;have g:=ab a;have j:=ab ((d.o.trans (Fr.alloc (bk B) _ _)).trans ao);go_wp2_with fail;refine⟨⟨k+1,by omega,by go_num,?_,j⟩,by simp[intOf];omega⟩;rw[G.o,y.o];exact ab (by simpa using g.o)
  ·have A:k=text.length:=by omega
   subst A;rw[List.take_length] at c l
   go_wp2_with (at_builtin;refine bx rfl (.tmp 34) (.tmp 35) 118 rfl [34] rfl rfl (c.o.alloc _) (ez rfl) ?hb4 ?hl4 ?_)
   case hb4=>simp;omega
   case hl4=>simp;omega
   intro O X t u _;have C:=ab t;have D:=ab ((d.o.trans (Fr.alloc (bk B) _ _)).trans u);go_wp2_with fail;go_ret;exact⟨D,O,rfl,by simpa using C.o⟩
theorem si(a:Bs)(b:UInt8):iN (a++[b])=iN a++[mW (b.toNat/16),mW (b.toNat%16)]:=by
 induction a with
 | nil=>rfl
 | cons c a ih=>simp only[List.cons_append,iN,ih]
theorem vx(a:Bs):(iN a).length=2*a.length:=by
 induction a with
 | nil=>rfl
 | cons c a ih=>simp only[iN,List.length_cons,ih];omega
def He:ByteArray:=⟨#[48,49,50,51,52,53,54,55,56,57,97,98,99,100,101,102]⟩
theorem pB(n:Nat)(h:n<16):∀ hz:n<He.size,He[n]'hz=mW n:=by
 intro hz
 have:∀ m:Fin 16,He[m.val]'m.isLt=mW m.val:=by decide +kernel
 exact this ⟨n,h⟩
theorem FW:∀ n,n<256->bits BinOp.and IntKind.u8 (n:Nat) 15=((n%16:Nat):Int):=by decide +kernel
theorem ld(w:World)(B:Nat)(sv:Value)(acc text:Bs)(h:BO w B sv acc)(hB:B<=w.heap.size)(hl:acc.length+2*text.length+2<=140737488355328):
  Calls Tryz.prog 150 #[sv,.string (ba text)] w fun e w'=>dN w B (acc++120::iN text) e w':=by
 have H:=ab h;have dJ:=aI text;clear h;go_enter Tryz.func150,Tryz.ntmps150
 go_wp2_with (at_builtin;refine bx rfl (.tmp 6) (.tmp 7) 118 rfl [120] rfl rfl (H.o.alloc _) (ez rfl) ?hb1 ?hl1 ?_)
 case hb1=>simp;omega
 case hl1=>simp;omega
 intro Q R ew n _;have q:=ab ew;have r:=ab ((Fr.alloc (bk B) w _).trans n);clear ew n;go_wp2_with fail
 go_loopw [0,11] (fun ov i wr=>∃ k:Nat,k<=text.length/\i=.int .i64 k/\Hi (BO wr B ov (acc++[120]++iN (text.take k)))/\Hi (Fr (bk B) w wr)) (fun _ i _=>text.length-(intOf i).toNat)
 case atStart=>exact⟨0,by omega,rfl,by simpa[iN] using q,r⟩
 case round =>
  obtain⟨k,S,rfl,a,c⟩:=hrel;have C:=c.o.size;have s:=vx (text.take k);rw[List.length_take] at s
  by_cases j:k<text.length
  ·obtain⟨b,z⟩:∃ b,text[k]?=some b:=⟨text[k],by simp[j]⟩;obtain⟨T,U⟩:=lI z;have N:(k:Int)<(text.length:Int):=by omega
   have D:Hi (iN (text.take (k+1))=iN (text.take k)++[mW (b.toNat/16),mW (b.toNat%16)]):=by
    show _=_;obtain⟨_,M⟩:=List.getElem?_eq_some_iff.1 z;rw[List.take_succ_eq_append_getElem j,M,si]
   clear z;have Ea:=b.toNat_lt;obtain⟨x,G⟩:∃ x,x=b.toNat/16:=⟨_,rfl⟩;obtain⟨y,A⟩:∃ y,y=b.toNat%16:=⟨_,rfl⟩;have E:bits BinOp.and IntKind.u8 (b.toNat:Int) 15=(y:Int):=by rw[FW b.toNat (by omega),A]
   have F:(b.toNat:Int)/16=(x:Int):=by omega
   have l:x<16:=by omega
   have m:y<16:=by omega
   have I:(x:Int)<16:=by omega
   have J:(y:Int)<16:=by omega
   obtain⟨f,d⟩:∃ f,f=mW x:=⟨_,rfl⟩;obtain⟨g,ju⟩:∃ g,g=mW y:=⟨_,rfl⟩;have O:∀ hz,({ data:=#[48,49,50,51,52,53,54,55,56,57,97,98,99,100,101,102] }:ByteArray)[x]'hz=f:=fun hz=>(pB x l hz).trans d.symm
   have P:∀ hz,({ data:=#[48,49,50,51,52,53,54,55,56,57,97,98,99,100,101,102] }:ByteArray)[y]'hz=g:=fun hz=>(pB y m hz).trans ju.symm
   rw[<-G,<-A,<-d,<-ju] at D;clear G A d ju;have K:Hi (B<=(wr.drew.alloc (.cells #[.int .u8 f.toNat,.int .u8 g.toNat] 5)).heap.size):=by show _<=_;simp;omega
   have L:Hi ((acc++[120]++iN (text.take k)).length+[f,g].length<=140737488355328):=by show _<=_;simp;omega
   go_wp2_with fail
   go_region_law (refine ni (sv:=u0) (xv:=.slice (some ⟨wr.heap.size,0,none⟩) 2 2) rfl (.tmp 14) (.tmp 25) 118 rfl [f,g] (by simp[Act.eval]) (by simp[Act.eval]) (by exact(a.o.ae (Fr.dr Zero wr) (fun _ _ h=>h)).alloc _) (by exact Fm (w:=wr.drew) rfl) K.o L.o ?_;intro V W p ao _)
   all_goals
    have t:=ab p;have u:=ab (((c.o.trans (Fr.dr (bk B) _)).trans (Fr.alloc (bk B) _ _)).trans ao);clear p ao;go_wp2_with fail;refine⟨⟨k+1,by omega,by go_num,?_,u⟩,by simp[intOf];omega⟩;rw[D.o];exact ab (by simpa using t.o)
  ·have v:k=text.length:=by omega
   subst v;rw[List.take_length] at a;go_wp2_with fail;go_ret;exact⟨c,u0,rfl,by simpa using a.o⟩
open Go.Shelf
def uu:Go.Shelf.Ren:=⟨fun|176=>148|249=>180|288=>189|283=>199|284=>200|285=>201|286=>202|129=>213|317=>212|318=>214|319=>215|320=>216|337=>218|338=>219|n=>n,fun|37=>118|2=>2|3=>3|53=>233|4=>4|9=>9|171=>296|0=>0|173=>299|212=>309|51=>305|5=>5|20=>20|213=>310|46=>165|232=>315|233=>316|n=>n,fun|17=>4|18=>6|19=>7|n=>n⟩
theorem DT:Go.Proofs.LaysM.n176 Tryz.prog uu:={
 mixed:=by kernel_rfl
 f129:=Tryz.func213.trans (congrArg some (by kernel_rfl))
 f176:=Tryz.func148.trans (congrArg some (by kernel_rfl))
 f249:=Tryz.func180.trans (congrArg some (by kernel_rfl))
 f283:=Tryz.func199.trans (congrArg some (by kernel_rfl))
 f284:=Tryz.func200.trans (congrArg some (by kernel_rfl))
 f285:=Tryz.func201.trans (congrArg some (by kernel_rfl))
 f286:=Tryz.func202.trans (congrArg some (by kernel_rfl))
 f288:=Tryz.func189.trans (congrArg some (by kernel_rfl))
 f317:=Tryz.func212.trans (congrArg some (by kernel_rfl))
 f318:=Tryz.func214.trans (congrArg some (by kernel_rfl))
 f319:=Tryz.func215.trans (congrArg some (by kernel_rfl))
 f320:=Tryz.func216.trans (congrArg some (by kernel_rfl))
 f337:=Tryz.func218.trans (congrArg some (by kernel_rfl))
 f338:=Tryz.func219.trans (congrArg some (by kernel_rfl))
 t0:=Tryz.underlying0
 a0:=Tryz.isAgg0
 z0:=Tryz.sizeOf0
 v0:=Tryz.zeroValue0
 t2:=Tryz.underlying2
 a2:=Tryz.isAgg2
 z2:=Tryz.sizeOf2
 v2:=Tryz.zeroValue2
 t3:=Tryz.underlying3
 a3:=Tryz.isAgg3
 z3:=Tryz.sizeOf3
 v3:=Tryz.zeroValue3
 t4:=Tryz.underlying4
 a4:=Tryz.isAgg4
 z4:=Tryz.sizeOf4
 v4:=Tryz.zeroValue4
 t5:=Tryz.underlying5
 a5:=Tryz.isAgg5
 z5:=Tryz.sizeOf5
 v5:=Tryz.zeroValue5
 t9:=Tryz.underlying9
 a9:=Tryz.isAgg9
 z9:=Tryz.sizeOf9
 v9:=Tryz.zeroValue9
 t20:=Tryz.underlying20
 a20:=Tryz.isAgg20
 z20:=Tryz.sizeOf20
 v20:=Tryz.zeroValue20
 t37:=Tryz.underlying118
 a37:=Tryz.isAgg118
 z37:=Tryz.sizeOf118
 v37:=Tryz.zeroValue118
 t46:=Tryz.underlying165
 a46:=Tryz.isAgg165
 z46:=Tryz.sizeOf165
 v46:=Tryz.zeroValue165
 t51:=Tryz.underlying305
 a51:=Tryz.isAgg305
 z51:=Tryz.sizeOf305
 v51:=Tryz.zeroValue305
 t53:=Tryz.underlying233
 a53:=Tryz.isAgg233
 z53:=Tryz.sizeOf233
 v53:=Tryz.zeroValue233
 t171:=Tryz.underlying296
 a171:=Tryz.isAgg296
 z171:=Tryz.sizeOf296
 v171:=Tryz.zeroValue296
 t173:=Tryz.underlying299
 a173:=Tryz.isAgg299
 z173:=Tryz.sizeOf299
 v173:=Tryz.zeroValue299
 t212:=Tryz.underlying309
 a212:=Tryz.isAgg309
 z212:=Tryz.sizeOf309
 v212:=Tryz.zeroValue309
 t213:=Tryz.underlying310
 a213:=Tryz.isAgg310
 z213:=Tryz.sizeOf310
 t232:=Tryz.underlying315
 a232:=Tryz.isAgg315
 z232:=Tryz.sizeOf315
 v232:=Tryz.zeroValue315
 t233:=Tryz.underlying316
 a233:=Tryz.isAgg316
 z233:=Tryz.sizeOf316
 v233:=Tryz.zeroValue316
 g17:=by kernel_rfl
 g18:=by kernel_rfl
 g19:=by kernel_rfl
 i0:=by kernel_rfl
 i2:=by kernel_rfl
 i3:=by kernel_rfl
 i4:=by kernel_rfl
 i5:=by kernel_rfl
 i9:=by kernel_rfl
 i20:=by kernel_rfl
 i37:=by kernel_rfl
 i46:=by kernel_rfl
 i51:=by kernel_rfl
 i53:=by kernel_rfl
 i171:=by kernel_rfl
 i173:=by kernel_rfl
 i212:=by kernel_rfl
 i232:=by kernel_rfl
 i233:=by kernel_rfl
 m17:=by kernel_rfl
 m18:=by kernel_rfl
 m19:=by kernel_rfl }
def ey(w:World):Prop:=Lib.TabIs Tryz.prog w "internal/strconv.uint64pow10" .u64 Lib.pow10Tab
theorem Hh:Tryz.prog.globalNamed "internal/strconv.uint64pow10" = some 4:=by kernel_rfl
theorem ey.heap(h:ey w)(e:w'.heap[4]?=w.heap[4]?):ey w':=by
 unfold ey Lib.TabIs World.var? at *;simp only[Hh,Option.bind_some] at h ⊢;rw[e];exact h
theorem ey.lt(h:ey w):4<w.heap.size:=by
 unfold ey Lib.TabIs World.var? at h;simp only[Hh,Option.bind_some] at h;rcases Nat.lt_or_ge 4 w.heap.size with a|a
 ·exact a
 ·rw[Array.getElem?_eq_none a] at h;simp at h
theorem ey.ae{X:Nat->Prop}(h:ey w)(hf:Fr X w w')(hx:¬X 4):ey w':=h.heap (hf.block _ h.lt hx)
theorem ey.tab(h:ey w){B:Nat}(hB:4<B):Lib.TabBelow Tryz.prog B w "internal/strconv.uint64pow10" .u64 Lib.pow10Tab:=fun _ hb=>h.heap (hb.block _ hB)
theorem xC:∀(f n:Nat),n<10^f->0<f->ed f n=Lib.decDigits n:=by
 intro f
 induction f with
 | zero=>intro n h b;omega
 | succ f ih =>
  intro n h _;rw[Lib.decDigits]
  by_cases a:n<10
  ·rw[dif_pos a];simp only[ed];rw[if_pos a,Nat.mod_eq_of_lt a];rfl
  ·rw[dif_neg a];simp only[ed]
   rw[if_neg a,ih (n/10) (by rw[Nat.pow_succ] at h;omega) (by
    rcases f with _|f
    ·simp at h;omega
    ·omega)]
theorem tz(n:Int)(h0:-9223372036854775808<=n)(h1:n<=9223372036854775807):gq n=Lib.itoa n:=by
 unfold gq Lib.itoa;rw[xC 20 n.natAbs (by omega) (by omega)]
 by_cases h:n<0
 ·rw[if_pos h,if_pos h]
 ·rw[if_neg h,if_neg h,show n.natAbs=n.toNat by omega]
theorem im(w:World)(B:Nat)(sv:Value)(acc:Bs)(n:Int)(h0:-9223372036854775808<=n)(h1:n<=9223372036854775807)(h:BO w B sv acc)(hB:B<=w.heap.size)(hp:ey w)(hg:4<B)(hl:acc.length+21<=140737488355328):
  Calls Tryz.prog 148 #[sv,.int .i64 n,.int .i64 10] w fun e w'=>dN w B (acc++gq n) e w':=by
 have fT:w.ownsRow B 5 1 sv acc.length (Lib.byteCells acc):=by
  refine⟨h.own.1,?_⟩;rcases h.own.2 with d|⟨g,au,a,c,_,r⟩
  ·exact .inl d
  ·exact .inr ⟨g,au,a,c,h.from_ g (by rw[c];rfl),r⟩
 have i:=Any.strconv_AppendInt_10 DT B acc.length n h0 h1 sv (Lib.byteCells acc) w fT hB hl (hp.tab hg);refine Calls.mono (show Calls Tryz.prog 148 #[sv,.int .i64 n,.int .i64 10] w _ from i) ?_;rintro e w' ⟨f,rfl,j,kV,_⟩;refine⟨⟨kV.os,kV.tape,kV.output,kV.size,fun k _ hk=>kV.block k (by unfold bk at hk;omega)⟩,f,rfl,?_⟩;rw[tz n h0 h1];have b:w'.ownsRow B 5 1 f (acc.length+(Lib.itoa n).length) (Lib.byteCells acc++Lib.byteCells (Lib.itoa n)):=j;refine⟨?_,fun g hg'=>?_⟩
 ·rw[List.length_append,show Lib.byteCells (acc++Lib.itoa n)=Lib.byteCells acc++Lib.byteCells (Lib.itoa n) by simp[Lib.byteCells]];refine⟨b.1,?_⟩;rcases b.2 with d|⟨g,au,a,c,_,r⟩
  ·exact .inl d
  ·exact .inr ⟨g,au,a,c,Nat.zero_le _,r⟩
 ·rcases b.2 with⟨d,_⟩|⟨l,au,a,c,m,r⟩
  ·rw[d] at hg';simp[Value.ownBlock] at hg'
  ·rw[c] at hg';simp[Value.ownBlock] at hg';omega
end Go.Proofs.YtpffifpbpmlhdaaGreatDoor
