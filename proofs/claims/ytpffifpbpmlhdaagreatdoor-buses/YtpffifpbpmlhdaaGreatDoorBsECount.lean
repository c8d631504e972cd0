import Derived.WalkLawsBesides
import Derived.Test.YtpffifpbpmlhdaaGreatDoorBsDRow
set_option maxHeartbeats 32000000
set_option maxRecDepth 100000
namespace Go.Proofs.YtpffifpbpmlhdaaGreatDoor
open Go.RowKit
variable {b:UInt8}{r l acc:Bs}{mb db k B most:Nat}{w w':World}{s:ByteArray}{bad:Bool}{ov sv:Value}
structure MB(w:World)(mb db:Nat)(s:ByteArray)(l:Bs)(bad:Bool)(ov:Value):Prop where
 len:l.length<=s.size
 tail:tl s (pos s l)=l
 block:w.heap[mb]?=some (.cells #[.pointer (some ⟨db,0,none⟩),.string s,.int .i64 (pos s l),ov,.bool bad] 140 (0,0))
section
variable {w w':World} {mb db:Nat} {s:ByteArray} {l:Bs} {bad:Bool} {ov:Value}
theorem MB.dM(h:MB w mb db s l bad ov):w.cell? ⟨mb,0,none⟩=some (.pointer (some ⟨db,0,none⟩)):=by rw[cell_of_heap h.block];rfl
theorem MB.cE(h:MB w mb db s l bad ov):w.cell? ⟨mb,1,none⟩=some (.string s):=by rw[cell_of_heap h.block];rfl
theorem MB.fM(h:MB w mb db s l bad ov):w.cell? ⟨mb,2,none⟩=some (.int .i64 (pos s l)):=by rw[cell_of_heap h.block];rfl
theorem MB.dw(h:MB w mb db s l bad ov):w.cell? ⟨mb,3,none⟩=some ov:=by rw[cell_of_heap h.block];rfl
theorem MB.gS(h:MB w mb db s l bad ov):w.cell? ⟨mb,4,none⟩=some (.bool bad):=by rw[cell_of_heap h.block];rfl
theorem MB.free(h:MB w mb db s l bad ov)(o:Nat):w.frozen? ⟨mb,o,none⟩=false:=ak h.block
theorem MB.lt(h:MB w mb db s l bad ov):mb<w.heap.size:=lt_of_heap h.block
theorem MB.ae(h:MB w mb db s l bad ov){X:Nat->Prop}(hf:Fr X w w')(hx:¬X mb):MB w' mb db s l bad ov:=⟨h.len,h.tail,hf.ae h.block hx⟩
theorem MB.gj(_h:MB w mb db s l bad ov):pos s l<=s.size:=Nat.sub_le _ _
theorem MB.next(h:MB w mb db s (b::r) bad ov):pos s (b::r)<s.size/\pos s r=pos s (b::r)+1/\tl s (pos s r)=r/\(∀ hn:pos s (b::r)<s.size,s[pos s (b::r)]=b):=by
 have e:=h.len;have c:=h.tail;simp only[List.length_cons] at e;have d:pos s (b::r)<s.size:=by simp only[pos,List.length_cons];omega
 have a:pos s r=pos s (b::r)+1:=by simp only[pos,List.length_cons];omega
 rw[tQ d] at c;simp only[List.cons.injEq] at c;exact⟨d,a,by rw[a];exact c.2,fun _=>c.1⟩
theorem MB.end(h:MB w mb db s [] bad ov):pos s []=s.size:=by have:=h.len;simp[pos]
theorem MB.move(h:MB w mb db s l bad ov)(hl:r.length<=s.size)(ht:tl s (pos s r)=r):MB (w.setCell ⟨mb,2,none⟩ (.int .i64 (pos s r))) mb db s r bad ov:=by
 refine⟨hl,ht,?_⟩;rw[heap_setCell_same h.block];rfl
theorem MB.mark(h:MB w mb db s l bad ov)(b:Bool):MB (w.setCell ⟨mb,4,none⟩ (.bool b)) mb db s l b ov:=by
 refine⟨h.len,h.tail,?_⟩;rw[heap_setCell_same h.block];rfl
theorem MB.outs(h:MB w mb db s l bad ov)(v:Value):MB (w.setCell ⟨mb,3,none⟩ v) mb db s l bad v:=by
 refine⟨h.len,h.tail,?_⟩;rw[heap_setCell_same h.block];rfl
end
def MS(w:World)(B mb db:Nat)(s:ByteArray)(l:Bs)(bad:Bool)(aF:Bs):Prop:=∃ ov,MB w mb db s l bad ov/\B<=mb/\BO w B ov aF
def MX(w:World)(mb:Nat):Nat->Prop:=fun k=>k=mb\/∃ v,w.cell? ⟨mb,3,none⟩=some v/\v.ownBlock=some k
structure gD(mb:Nat)(w w':World):Prop where
 fr:Fr (MX w mb) w w'
 own:∀ k,k<w.heap.size->MX w' mb k->MX w mb k
theorem gD.refl(mb:Nat)(w:World):gD mb w w:=⟨Fr.refl _ _,fun _ _ h=>h⟩
theorem gD.trans{a b c:World}(h:gD mb a b)(k:gD mb b c):gD mb a c :=
 ⟨⟨k.fr.os.trans h.fr.os,k.fr.tape.trans h.fr.tape,k.fr.output.trans h.fr.output,Nat.le_trans h.fr.size k.fr.size,fun i hi hx=>(k.fr.block i (Nat.lt_of_lt_of_le hi h.fr.size) (fun e=>hx (h.own i hi e))).trans (h.fr.block i hi hx)⟩,
  fun i hi e=>h.own i hi (k.own i (Nat.lt_of_lt_of_le hi h.fr.size) e)⟩
theorem MX.same(h3:w'.cell? ⟨mb,3,none⟩=w.cell? ⟨mb,3,none⟩)(k:Nat):MX w' mb k↔MX w mb k:=by unfold MX;rw[h3]
theorem gD.quiet(hf:Fr Zero w w')(hb:mb<w.heap.size):gD mb w w' :=
 ⟨hf.dV,fun k _ h=>(MX.same (hf.cell hb (fun h=>h)) k).1 h⟩
theorem gD.cells{I0:Nat}{s':ByteArray}{bd:Bool}(h:MB w mb db s l bad ov)(h':MB w' mb I0 s' r bd ov)(hf:Fr (One mb) w w'):gD mb w w' :=
 ⟨hf.mono (fun _ _ e=>.inl e),fun k _ e=>(MX.same (h'.dw.trans h.dw.symm) k).1 e⟩
theorem MX.of(h:MB w mb db s l bad ov)(hk:MX w mb k):k=mb\/ov.ownBlock=some k:=by
 rcases hk with e|⟨v,a,b⟩
 ·exact .inl e
 ·rw[h.dw] at a;simp at a;subst a;exact .inr b
theorem BO.ne{aF:Bs}{cs:Array Value}{ty:TypeId}{fz:Nat×Nat}(h:BO w B ov aF)(hb:w.heap[mb]?=some (.cells cs ty fz))(cF:5≠ty):ov.ownBlock≠some mb:=gI h.own hb cF
section
variable {w w':World} {B mb db:Nat} {s:ByteArray} {l r:Bs} {bad bd:Bool} {aF dT:Bs} {ov v':Value}
theorem MS.from(h:MS w B mb db s l bad aF)(hk:MX w mb k):B<=k:=by
 obtain⟨c,a,d,b⟩:=h;rcases MX.of a hk with e|e
 ·omega
 ·exact b.from_ k e
theorem MS.mH(h:MS w B mb db s l bad aF)(hf:gD mb w w'):Fr (bk B) w w':=hf.fr.mono (fun _ _ e=>h.from e)
theorem MS.lt(h:MS w B mb db s l bad aF):mb<w.heap.size:=by obtain⟨ov,h1,_⟩:=h;exact h1.lt
theorem MS.len(h:MS w B mb db s l bad aF):l.length<=s.size:=by obtain⟨ov,h1,_⟩:=h;exact h1.len
theorem MS.block(h:MS w B mb db s l bad aF):∃ ov,MB w mb db s l bad ov:=by obtain⟨ov,h1,_⟩:=h;exact⟨ov,h1⟩
theorem MS.quiet(h:MS w B mb db s l bad aF)(hf:Fr Zero w w'):MS w' B mb db s l bad aF:=by
 obtain⟨a,b,c,d⟩:=h;exact⟨a,b.ae hf (fun h=>h),c,d.ae hf (fun _ _ h=>h)⟩
theorem MS.oL(h1:MB w mb db s l bad ov)(h2:B<=mb)(h3:BO w B ov aF)(hb:MB w' mb db s r bd ov)(hf:Fr (One mb) w w'):MS w' B mb db s r bd aF/\gD mb w w' :=
 ⟨⟨ov,hb,h2,⟨ag h3.own hf (fun g hg e=>h3.ne h1.block (by decide) (by rw[hg];exact congrArg some e)),h3.from_⟩⟩,gD.cells h1 hb hf⟩
theorem MS.grow(h1:MB w mb db s l bad ov)(h2:B<=mb)(h3:BO w B ov aF)(ho:BO w' B v' dT)(hf:Fr (iL ov) w w')(hv:∀ k,k<w.heap.size->v'.ownBlock=some k->ov.ownBlock=some k):
  MS (w'.setCell ⟨mb,3,none⟩ v') B mb db s l bad dT/\gD mb w (w'.setCell ⟨mb,3,none⟩ v'):=by
 have kc:MB w' mb db s l bad ov:=h1.ae hf (fun e=>h3.ne h1.block (by decide) e);have a:Fr (One mb) w' (w'.setCell ⟨mb,3,none⟩ v'):=Fr.setCell _ _ _ _ rfl;have b:=kc.outs v';refine⟨⟨v',b,h2,⟨ag ho.own a (fun g hg e=>ho.ne kc.block (by decide) (by rw[hg];exact congrArg some e)),ho.from_⟩⟩,⟨(hf.mono (fun k _ e=>.inr ⟨ov,h1.dw,e⟩)).trans (a.mono (fun _ _ e=>.inl e)),fun k hk e=>?_⟩⟩;rcases MX.of b e with e|e
 ·exact .inl e
 ·exact .inr ⟨ov,h1.dw,hv k hk e⟩
end
theorem vP(h:BO w B sv acc)(hB:B<=w.heap.size)(tx ty:TypeId)(x:Value)(more:Bs)(hs:Src Tryz.prog 1 tx x more.length (Lib.byteCells more) w)(hl:acc.length+more.length<=140737488355328):
  ∃ v' w',(Builtin.append_ #[118,tx] ty #[sv,x]).run Tryz.prog w=.ok v' w'/\BO w' B v' (acc++more)/\Fr (iL sv) w w'/\∀ k,k<w.heap.size->v'.ownBlock=some k->sv.ownBlock=some k:=by
 obtain⟨i,A,H,a,C⟩:=info_parts Tryz.Ax;have u:Tryz.prog.underlying 118=some (.slice 5):=Tryz.underlying118;have aX:(Lib.byteCells (acc++more)).length=(acc++more).length*1:=by simp[Lib.byteCells]
 have Cs:Lib.byteCells (acc++more)=Lib.byteCells acc++Lib.byteCells more:=by simp[Lib.byteCells]
 have rV:(Lib.byteCells more).length=more.length:=by simp[Lib.byteCells]
 have q:(Lib.byteCells acc).length=acc.length:=by simp[Lib.byteCells]
 have Ai:acc.length+more.length<=maxLen:=by unfold maxLen;omega
 have b:=hs;rw[<-a] at b
 have d:∀(c:Option Addr) (au:Nat),au<acc.length+more.length->sv=.slice c acc.length au->(Builtin.firstCells i.size acc.length (.slice c acc.length au)).run Tryz.prog w.drew=.ok (Lib.byteCells acc).toArray w.drew ->
   ∃ v' w',(Builtin.append_ #[118,tx] ty #[sv,x]).run Tryz.prog w=.ok v' w'/\BO w' B v' (acc++more)/\Fr (iL sv) w w'/\∀ k,k<w.heap.size->v'.ownBlock=some k->sv.ownBlock=some k:=by
  intro c au m D s;subst D;have v:=run_append_grow_src (P:=Tryz.prog) w 118 tx ty 5 i (.int .u8 0) u A H c acc.length au (Lib.byteCells acc) s x more.length (Lib.byteCells more) b m (by omega) (by rw[C];exact growslice_fits m (by omega));have y:=grownCap_ge w (acc.length+more.length) au 5;have n:grownCap w (acc.length+more.length) au 5<=maxLen:=grownCap_le_maxLen w (acc.length+more.length) au 5 Ai;refine⟨_,_,v,⟨⟨aX,.inr ⟨w.heap.size,_,_,by rw[List.length_append],Nat.zero_le _,heap_alloc_new w.drew _,by rw[List.length_append];exact y,n,?_,?_⟩⟩,fun g t=>?_⟩,⟨rfl,rfl,rfl,by simp,fun k l _=>Below.heap_alloc w.drew _ _ l⟩,fun k l e=>by simp[Value.ownBlock] at e;omega⟩
  ·simp only[Array.size_append,List.size_toArray,size_zeroCells,List.length_append,q,rV,Value.cells];simp;omega
  ·rw[Cs,<-aX,Cs];simp only[Array.toList_append];exact List.take_left
  ·simp[Value.ownBlock] at t;omega
 rcases h.own.2 with⟨rfl,e⟩|⟨g,au,j,rfl,I,t,J,n,E,p⟩
 ·by_cases G:more.length=0
  ·have z:more=[]:=List.eq_nil_of_length_eq_zero G;have o:acc=[]:=List.eq_nil_of_length_eq_zero e;subst z o;refine⟨.slice none 0 0,w,?_,BO.nil _ _,Fr.refl _ _,fun k _ e=>by simp[Value.ownBlock] at e⟩;have F:=b.cells;have r:=b.len w;simp[Lib.byteCells] at F r;rcases b.kind with⟨K,l⟩|l<;>simp[Builtin.append_,run_underlying u,run_underlying l,sizeOf,typeInfo,A,r,F]
  ·exact d none 0 (by omega) (by rw[e]) (by rw[e];have o:acc=[]:=List.eq_nil_of_length_eq_zero e;subst o;exact run_firstCells_none w.drew i.size 0 0 0)
 ·by_cases f:acc.length+more.length<=au
  ·have ph:acc.length*i.size+(Lib.byteCells more).length<=j.size:=by rw[rV,E,a];omega
   have iz:=run_storeCells_at Tryz.prog g (acc.length*i.size) 5 (Lib.byteCells more) 0 j w t (by simpa using ph) hs.one;simp only[Nat.add_zero] at iz
   have v:(Builtin.append_ #[118,tx] ty #[.slice (some ⟨g,0,none⟩) acc.length au,x]).run Tryz.prog w=.ok (.slice (some ⟨g,0,none⟩) (acc.length+more.length) au) (w.setRow g (j.toList.take (acc.length*i.size)++Lib.byteCells more++j.toList.drop (acc.length*i.size+(Lib.byteCells more).length)).toArray):=by
    rcases b.kind with⟨K,l⟩|l<;>simp[Builtin.append_,run_underlying u,run_underlying l,sizeOf,typeInfo,A,b.len,f,b.cells,Addr.add_lit,iz]
   refine⟨_,_,v,⟨⟨aX,.inr ⟨g,au,_,by rw[List.length_append],Nat.zero_le _,setRow_heap w g j _ 5 _ t,by rw[List.length_append];exact f,n,?_,?_⟩⟩,fun g' hg'=>?_⟩,⟨rfl,rfl,rfl,by simp,fun k _ l=>setRow_other w g k _ (fun e=>l (by subst e;rfl))⟩,fun k _ e=>by simpa[Value.ownBlock] using e⟩
   ·simp only[List.size_toArray,List.length_append,List.length_take,List.length_drop,Array.length_toList];omega
   ·rw[Cs,a,p,<-aX,Cs];exact List.take_left
   ·simp[Value.ownBlock] at hg';subst hg';exact h.from_ _ rfl
  ·exact d _ au (by omega) rfl (run_firstCells_some w.drew i.size acc.length _ _ _ (Lib.byteCells acc) (by rw[q,a];omega) (by simpa using h.own.cells (g:=g) rfl))
theorem gL{oU:Array Oper}{rest:List Oper}{o:Oper}{a:Act}{Q:Exit->Act->World->Prop}
  (hg:o.guard=none) (s x:Operand) (tx:TypeId) (hop:o.op=Op.call { callee:=Callee.builtin Builtin.append,args:=#[s,x],argTypes:=#[118,tx] })
  {B:Nat} {sv xv:Value} {acc:Bs} (more:Bs) (hs:a.eval s=sv) (hx:a.eval x=xv) (h:BO w B sv acc) (hsrc:Src Tryz.prog 1 tx xv more.length (Lib.byteCells more) w) (hB:B<=w.heap.size) (hl:acc.length+more.length<=140737488355328)
  (hK:∀ v' w',BO w' B v' (acc++more)->Fr (iL sv) w w'->(∀ k,k<w.heap.size->v'.ownBlock=some k->sv.ownBlock=some k)->wpList Tryz.prog oU Q rest (a.put o.dst v') w') :
  wpList Tryz.prog oU Q (o::rest) a w:=by
 refine wpList_plain hg fun K hK'=>?_
 obtain⟨v',w',b,c,d,e⟩:=vP h hB tx o.type xv more hsrc hl;unfold Oper.wp;simp[execOp,hop,resolve,invoke,builtin,hs,hx,b,Result.andThen];exact hK' _ _ (hK v' w' c d e)
structure MT(w wr:World)(mb db:Nat)(s:ByteArray)(ov:Value)(r:Bs)(bad:Bool)(sv:Value)(acc:Bs):Prop where
 kb:MB wr mb db s r bad ov
 bo:BO wr w.heap.size sv acc
 fr:Fr (TX mb w) w wr
 lt:mb<w.heap.size
section
variable {w wr w':World} {B mb db:Nat} {s:ByteArray} {ov:Value} {l r:Bs} {bad:Bool} {sv:Value} {acc aF:Bs}
theorem MT.drewN(h:MT w wr mb db s ov r bad sv acc)(k:Nat):MT w (wr.drewN k) mb db s ov r bad sv acc :=
 ⟨h.kb.ae (Fr.drewN Zero _ _) (fun h=>h),h.bo.ae (Fr.drewN Zero _ _) (fun _ _ h=>h),h.fr.trans (Fr.drewN _ _ _),h.lt⟩
theorem MT.alloc(h:MT w wr mb db s ov r bad sv acc)(o:Obj):MT w (wr.alloc o) mb db s ov r bad sv acc :=
 ⟨h.kb.ae (Fr.alloc Zero _ _) (fun h=>h),h.bo.alloc o,h.fr.trans (Fr.alloc _ _ _),h.lt⟩
theorem MT.more(h:MT w wr mb db s ov r bad sv acc){v':Value}{xQ:Bs}(hb:BO w' w.heap.size v' xQ)(hf:Fr (bk w.heap.size) wr w'):MT w w' mb db s ov r bad v' xQ :=
 ⟨h.kb.ae hf (fun e=>by unfold bk at e;have:=h.lt;omega),hb,h.fr.trans (hf.mono (fun _ _ e=>.inr e)),h.lt⟩
theorem MT.one(h:MT w wr mb db s ov r bad sv acc){r':Bs}{bd:Bool}(hb:MB w' mb db s r' bd ov)(hf:Fr (One mb) wr w'):MT w w' mb db s ov r' bd sv acc :=
 ⟨hb,h.bo.ae hf (fun k hk e=>by have e':k=mb:=e;have:=h.lt;omega),h.fr.trans (hf.mono (fun _ _ e=>.inl e)),h.lt⟩
theorem MT.size(h:MT w wr mb db s ov r bad sv acc):w.heap.size<=wr.heap.size:=h.fr.size
theorem BO.lt(h:BO w B ov aF)(hk:ov.ownBlock=some k):k<w.heap.size:=(h.own.lt k hk).2
theorem MS.EX{bd:Bool}(h1:MB w mb db s l bad ov)(h2:B<=mb)(h3:BO w B ov aF)(hb:MB w' mb db s r bd ov)(hf:Fr (TX mb w) w w'):MS w' B mb db s r bd aF/\gD mb w w'/\BO w' B ov aF:=by
 have a:BO w' B ov aF:=⟨ag h3.own hf (fun g hg e=>by
  rcases e with e|e
  ·exact h3.ne h1.block (by decide) (by rw[hg];exact congrArg some e)
  ·have:=h3.lt hg;omega),h3.from_⟩
 refine⟨⟨ov,hb,h2,a⟩,⟨hf.mono (fun k a e=>?_),fun k _ e=>(MX.same (hb.dw.trans h1.dw.symm) k).1 e⟩,a⟩;rcases e with e|e
 ·exact .inl e
 ·omega
end
def hd(l:Bs):Nat:=match l with
 | []=>0
 | b::_=>b.toNat
theorem nL(l:Bs):hd l<256:=by
 unfold hd
 split
 ·omega
 ·rename_i b _;exact b.toNat_lt
theorem dj(hb:MB w mb db s l bad ov)(_hs:s.size<=maxLen):
  Calls Tryz.prog 90 #[.pointer (some ⟨mb,0,none⟩)] w fun e w'=>e=.returned (.int .u8 (if bad then 0 else hd l:Nat))/\∃ n,w'=w.drewN n:=by
 have m:=hb.cE;have o:=hb.fM;have p:=hb.gS;have f:=hb.gj;unfold maxLen at _hs;cases bad with
 | true =>
  go_enter Tryz.func90,Tryz.ntmps90;go_wp2_with fail
  go_quiet (fail)
  go_wp2_with fail;go_ret;exact⟨rfl,_,rfl⟩
 | false =>
  rcases l with _|⟨b,r⟩
  ·have g:=hb.end;have h:((s.size:Nat):Int)<=((pos s []:Nat):Int):=by omega
   go_enter Tryz.func90,Tryz.ntmps90;go_wp2_with fail
   go_quiet (fail)
   go_wp2_with fail;go_ret;exact⟨rfl,_,rfl⟩
  ·obtain⟨k,c,d,a⟩:=hb.next;replace a:=a k;have i:((pos s (b::r):Nat):Int)<((s.size:Nat):Int):=by omega
   have j:decide (s.size<=pos s (b::r))=false:=decide_eq_false (by omega);go_enter Tryz.func90,Tryz.ntmps90;go_wp2_with fail
   go_quiet (fail)
   go_wp2_with fail
   go_quiet (fail)
   go_wp2_with fail;go_ret;exact⟨rfl,_,rfl⟩
def aA(c:Nat)(l:Bs)(bad:Bool):Bs×Bool:=if bad then(l,true) else match bz c l with
 | some r=>(r,false)
 | none=>(l,true)
theorem mR(hb:MB w mb db s l bad ov)(hs:s.size<=maxLen)(c:Nat)(hc:0<c)(ju:c<256):
  Calls Tryz.prog 91 #[.pointer (some ⟨mb,0,none⟩),.int .u8 c] w fun e w'=>Fr (One mb) w w'/\MB w' mb db s (aA c l bad).1 (aA c l bad).2 ov/\e=.returned (.tuple #[]):=by
 have E:=ab hb;have y:Hi (∀(w':World) (r:Bs) (bd:Bool),MB w' mb db s r bd ov->Fr (One mb) w w'->MB w' mb db s r bd ov/\Fr (One mb) w w'):=fun w' r bd kc hf'=>⟨kc,hf'⟩
 have k:=hs;unfold maxLen at k;go_enter Tryz.func91,Tryz.ntmps91;go_wp2_with fail;refine(dj hb hs).mono ?_;rintro e C ⟨rfl,u,D⟩;obtain rfl:=D.symm;have a:=hb.ae (Fr.drewN Zero w u) (fun h=>h);have f:=ab a;have F:=a.fM;have G:=a.free 2;have H:=a.free 4;have I:=a.gS;have g:Hi (Fr (One mb) w (w.drewN u)):=Fr.drewN _ _ _;have z:=a.gj;clear hb a;generalize w.drewN u=C at *
 by_cases d:(if bad=true then 0 else hd l)=c
 ·have i:bad=false:=by
   cases bad with
   | true=>simp at d;omega
   | false=>rfl
  subst i;simp only[Bool.false_eq_true,if_false] at d ⊢;rcases l with _|⟨b,r⟩
  ·simp[hd] at d;omega
  ·obtain⟨J,x,j,_⟩:=f.o.next;simp only[hd] at d;have m:b.toNat=c:=d;have n:(((hd (b::r):Nat):Int)==(c:Int))=true:=beq_iff_eq.2 (by simp only[hd];omega);have A:((c:Int)==0)=false:=beq_eq_false_iff_ne.2 (by omega);have p:Hi (aA c (b::r) false=(r,false)):=ab (by simp[aA,bz,m]);have B:((pos s (b::r):Nat):Int)+1=((pos s r:Nat):Int):=by omega
   have q:=ab j;have t:Hi (r.length<=s.size):=by show _<=_;have:=f.o.len;simp at this;omega
   generalize hd (b::r)=hv at *;obtain rfl:hv=c:=by have:=beq_iff_eq.1 n;omega
   clear d j x n;go_wp2_with fail
   go_end0
   have:=y.o _ _ _ (f.o.move t.o q.o) (g.o.trans (Fr.setCell (One mb) _ _ _ rfl))
   rw[p.o];exact⟨this.2,this.1,rfl⟩
 ·have n:((((if bad=true then 0 else hd l):Nat):Int)==(c:Int))=false:=beq_eq_false_iff_ne.2 (by omega)
  have p:Hi (aA c l bad=(l,true)):=by
   show _=_;cases bad with
   | true=>simp[aA]
   | false =>
    simp only[Bool.false_eq_true,if_false] at d;rcases l with _|⟨b,r⟩
    ·simp[aA,bz]
    ·simp only[hd] at d;simp[aA,bz,d]
  generalize (if bad=true then 0 else hd l)=hv at *;clear d;go_wp2_with fail;refine bodyPost_ret (v:=.tuple #[]) (by simp[results,Tryz.results91,go_sem]) rfl ?_
  have:=y.o _ _ _ (f.o.mark true) (g.o.trans (Fr.setCell (One mb) _ _ _ rfl))
  rw[p.o];exact⟨this.2,this.1,rfl⟩
theorem j8{aF:Bs}(h:MS w B mb db s l bad aF)(hs:s.size<=maxLen)(c:Nat)(hc:0<c)(ju:c<256):
  Calls Tryz.prog 91 #[.pointer (some ⟨mb,0,none⟩),.int .u8 c] w fun e w'=>gD mb w w'/\MS w' B mb db s (aA c l bad).1 (aA c l bad).2 aF/\e=.returned (.tuple #[]):=by
 obtain⟨i,a,b,d⟩:=h;refine(mR a hs c hc ju).mono ?_;rintro e w' ⟨f,kc,g⟩
 have:=MS.oL a b d kc f
 exact⟨this.2,this.1,g⟩
theorem jh{aF:Bs}(h:MS w B mb db s l bad aF)(hB:B<=w.heap.size)(x:Int)(b:UInt8)(hx:x=b.toNat)(hl:aF.length<=1000000000):
  Calls Tryz.prog 92 #[.pointer (some ⟨mb,0,none⟩),.int .u8 x] w fun e w'=>gD mb w w'/\MS w' B mb db s l bad (aF++[b])/\e=.returned (.tuple #[]):=by
 subst hx;obtain⟨y,g,d,n⟩:=h;obtain⟨z,A,rfl⟩:=n.len;have r:=g.dw;have i:=g.lt;have j:=ab (g.ae (Fr.alloc Zero w (.cells #[.int .u8 b.toNat] 5)) (fun h=>h));have k:=ab (n.alloc (.cells #[.int .u8 b.toNat] 5));go_enter Tryz.func92,Tryz.ntmps92
 go_wp2_with (at_builtin;refine gL rfl (.tmp 8) (.tmp 10) 118 rfl [b] rfl rfl k.o (ez rfl) ?hb1 ?hl1 ?_)
 case hb1=>simp;omega
 case hl1=>simp;omega
 intro t C ew c f;obtain⟨D,E,p⟩:∃ a au,t=.slice a (aF.length+1) au:=by simpa using ew.len
 subst p;have q:=ab (MS.grow j.o d k.o ew c (by simpa using f));have hb1:=j.o.ae c (fun e=>k.o.ne j.o.block (by decide) e);have u:=hb1.dw;have v:=hb1.free 3;go_wp2_with fail
 go_end0
 exact⟨(gD.quiet (Fr.alloc Zero _ _) i).trans q.o.2,q.o.1,rfl⟩
theorem nT(l:Bs):(ba l).toList=l:=by rw[ByteArray.toList_eq,dk]
theorem xt(a b:Bs)(w:World)(_ha:a.length<=1000)(_hb:b.length<=1000):
  Calls Tryz.prog 171 #[.string (ba a),.string (ba b)] w fun e w'=>e=.returned (.bool (gA a b))/\w'=w:=by
 have h:=aI a;have g:=aI b;have i:=nT a;have j:=nT b
 by_cases c:a.length=b.length
 ·have f:(((a.length:Nat):Int)==((b.length:Nat):Int))=true:=beq_iff_eq.2 (by omega);have d:Hi (gA a b=(!Op.bytesLess a b&&!(a==b))):=ab (by unfold gA;rw[if_neg (by omega)]);rw[<-c] at g;go_enter Tryz.func171,Tryz.ntmps171;go_wp2_with fail;go_ret;rw[d.o];exact⟨rfl,rfl⟩
 ·have f:¬((a.length:Nat):Int)=((b.length:Nat):Int):=by omega
  have d:Hi (gA a b=decide (b.length<a.length)):=ab (by unfold gA;rw[if_pos c]);go_enter Tryz.func171,Tryz.ntmps171;go_wp2_with fail;go_ret;rw[d.o];exact⟨rfl,rfl⟩
theorem F3(h:l[k]?=some b):dv (l.take (k+1))=dv (l.take k)*10+(b.toNat-48):=by
 obtain⟨a,c⟩:=List.getElem?_eq_some_iff.1 h;rw[List.take_succ_eq_append_getElem a,c,l9]
theorem zv:∀(k:Nat),dv (l.take k)<=dv l:=by
 intro k;have h:l=l.take k++l.drop k:=(List.take_append_drop k l).symm
 have a:∀(x y:Bs),dv x<=dv (x++y):=by
  intro x y
  induction y generalizing x with
  | nil=>simp
  | cons c y ih =>
   have b:=ih (x++[c]);rw[l9] at b;rw[show x++c::y=x++[c]++y by simp];omega
 have:=a (l.take k) (l.drop k)
 rw[<-h] at this;exact this
theorem oe(l:Bs)(w:World)(hd:ig l)(hv:dv l<18446744073709551616)(hl:l.length<=1000):
  Calls Tryz.prog 127 #[.string (ba l)] w fun e w'=>e=.returned (.int .u64 (dv l))/\w'=w:=by
 have p:=aI l;go_enter Tryz.func127,Tryz.ntmps127;go_wp2_with fail
 go_loopw [3,4] (fun nv iv wr=>∃ k:Nat,k<=l.length/\nv=.int .u64 (dv (l.take k))/\iv=.int .i64 k/\Hi (wr=w)) (fun _ iv _=>l.length-(intOf iv).toNat)
 case atStart=>exact⟨0,by omega,rfl,rfl,rfl⟩
 case round =>
  obtain⟨k,r,rfl,rfl,a⟩:=hrel;obtain rfl:=a.o.symm
  by_cases j:k<l.length
  ·have m:(k:Int)<(l.length:Int):=by omega
   obtain⟨b,c⟩:∃ b,l[k]?=some b:=⟨l[k],by simp⟩;obtain⟨s,t⟩:=lI c;have d:=hd b (List.mem_of_getElem? c);unfold jl at d;have g:Hi (dv (l.take (k+1))=dv (l.take k)*10+(b.toNat-48)):=F3 c;have bZ:=zv (l:=l) (k+1);have q:dv (l.take k)*10+(b.toNat-48)<18446744073709551616:=by have:=hv;have:=g.o;omega
   have n:=b.toNat_lt;generalize dv (l.take k)=N at *;go_wp2_with fail
   go_roundw
   case rel=>exact⟨k+1,by omega,by rw[g.o];go_num,by go_num,(trivial:True)⟩
   case measure=>simp[intOf];omega
  ·have f:k=l.length:=by omega
   subst f;have m:¬(l.length:Int)<(l.length:Int):=by omega
   rw[List.take_length];go_wp2_with fail;go_ret;exact⟨rfl,rfl⟩
def kj(r:Bs):Prop:=∃ b r',r=b::r'/\jl b
theorem sM{acc:Nat}(hb:jl b)(hm:9<=most):bu most acc (b::l)=if most<acc*10+(b.toNat-48) then(acc,b::l) else bu most (acc*10+(b.toNat-48)) l:=by
 unfold jl at hb;simp only[bu]
 by_cases h:most<acc*10+(b.toNat-48)
 ·rw[if_pos h,if_pos (by omega)]
 ·rw[if_neg h,if_neg (by omega)]
theorem sL{acc:Nat}(h:¬(48<=hd r/\hd r<=57)):bu most acc r=(acc,r):=by
 rcases r with _|⟨b,r⟩
 ·rfl
 ·simp only[hd] at h;simp only[bu];rw[if_pos (by omega)]
def r7(most:Nat)(cW l sd r:Bs):Prop :=
 l=sd++r/\ig sd/\dv sd<=most/\sd.length<=cW.length/\(sd=[]\/sd=[48]\/(sd≠[]/\Plain sd/\bz 48 l=none/\bu most 0 l=bu most (dv sd) r))
theorem r7.zero{cW:Bs}(h:r7 most cW l [48] r):c9 most l=(some 0,r):=by
 obtain⟨rfl,_⟩:=h;simp[c9,bz]
theorem r7.empty{cW:Bs}(h:r7 most cW l [] r)(iz:¬(48<=hd r/\hd r<=57)):c9 most l=(none,r):=by
 obtain rfl:l=r:=h.1
 have a:bz 48 l=none:=by
  rcases l with _|⟨b,l⟩
  ·rfl
  ·simp only[hd] at iz;simp only[bz];rw[if_neg (by omega)]
 unfold c9;simp[a,sL iz]
theorem r7.full{cW sd:Bs}(h:r7 most cW l sd r)(cF:sd≠[])(hr:bu most (dv sd) r=(dv sd,r)\/sd=[48]):c9 most l=(Option.some (dv sd),r):=by
 rcases h.2.2.2.2 with e|e|⟨_,_,b,c⟩
 ·exact absurd e cF
 ·subst e;rw[h.zero];rfl
 ·have a:bu most (dv sd) r=(dv sd,r):=by
   rcases hr with e|e
   ·exact e
   ·subst e;obtain⟨rfl,_⟩:=h;simp[bz] at b
  have aX:r.length<l.length:=by
   rw[h.1,List.length_append]
   have:0<sd.length:=List.length_pos_iff.2 cF
   omega
  unfold c9;simp[b,c,a,aX]
theorem r7.step{cW sd:Bs}(h:r7 most cW l sd (b::r))(hb:jl b)(h0:sd≠[48])(hm:9<=most)(Iz:Plain cW)(IA:cW≠[])(Iy:dv cW=most)(hg:gA (sd++[b]) cW=false):r7 most cW l (sd++[b]) r:=by
 obtain⟨g,k,m,n,j⟩:=h
 have a:ig (sd++[b]):=fun q hq=>by
  rcases List.mem_append.1 hq with h|h
  ·exact k q h
  ·simp at h;subst h;exact hb
 have f:Plain (sd++[b])\/sd++[b]=[48]:=by
  rcases j with e|e|⟨e,i,_⟩
  ·subst e
   by_cases iQ:b.toNat=48
   ·right;rw[fI iQ];rfl
   ·left;refine⟨a,fun c r' e=>?_⟩;simp at e;obtain⟨rfl,_⟩:=e;unfold jl at hb;omega
  ·exact absurd e h0
  ·left;refine⟨a,fun c r' e'=>?_⟩;rcases sd with _|⟨d,sd⟩
   ·exact absurd rfl e
   ·simp at e';obtain⟨rfl,_⟩:=e';exact i.2 d sd rfl
 have bZ:dv (sd++[b])<=most:=by
  have:=mY f Iz IA
  rw[hg,Iy] at this
  have:=this.symm
  simp at this;exact this
 have k9:(sd++[b]).length<=cW.length:=by
  unfold gA at hg
  by_cases e:(sd++[b]).length=cW.length
  ·omega
  ·rw[if_pos e] at hg;simp at hg;simp;omega
 refine⟨by rw[g];simp,a,bZ,k9,?_⟩;rcases f with i|e
 ·right;right;refine⟨by simp,i,?_,?_⟩
  ·rcases j with e|e|⟨_,_,q,_⟩
   ·subst e;simp only[List.nil_append] at g;rw[g]
    have:=i.2 b [] rfl
    exact ny (by omega)
   ·exact absurd e h0
   ·exact q
  ·have iz:bu most 0 l=bu most (dv sd) (b::r):=by
    rcases j with e|e|⟨_,_,_,q⟩
    ·subst e;rw[g];rfl
    ·exact absurd e h0
    ·exact q
   rw[iz,sM hb hm,l9];rw[l9] at bZ;rw[if_neg (by omega)]
 ·right;left;exact e
def lP(mb B db:Nat)(s:ByteArray)(aF:Bs)(most:Nat)(w:World)(l:Bs)(e:Ending)(w':World):Prop :=
 gD mb w w'/\∃(sd r:Bs) (bad:Bool),MS w' B mb db s r bad aF/\e=.returned (.string (ba sd))/\ig sd/\dv sd<=most/\sd.length<=20/\r=(c9 most l).2/\r.length<=l.length/\(bad=false->(c9 most l).1=some (dv sd))/\(bad=true->(c9 most l).1=none\/kj r)
def mP(mb:Nat)(w:World):Nat:=match w.cell? ⟨mb,2,none⟩ with
 | some (.int _ q)=>q.toNat
 | _=>0
theorem MB.place(h:MB w mb db s l bad ov):mP mb w=pos s l:=by
 unfold mP;rw[h.fM];simp
theorem lz{aF:Bs}(h:MS w B mb db s l false aF)(hs:s.size<=maxLen)(cW:Bs)(most:Nat)(hm:9<=most)(Iz:Plain cW)(IA:cW≠[])(Iy:dv cW=most)(rV:cW.length<=20):
  Calls Tryz.prog 126 #[.pointer (some ⟨mb,0,none⟩),.string (ba cW)] w fun e w'=>lP mb B db s aF most w l e w':=by
 obtain⟨ov,hb,hB,ho⟩:=h;have W:Hi (∀(w':World) (r:Bs) (bd:Bool),MB w' mb db s r bd ov->Fr (One mb) w w'->MS w' B mb db s r bd aF/\gD mb w w'):=fun w' r bd kc hf'=>MS.oL hb hB ho kc hf'
 have HB:=ab hb;have C:=ab Iz;have D:=ab IA;have E:=ab Iy;have X:=hs;unfold maxLen at X;clear hb hB ho Iz IA Iy;go_enter Tryz.func126,Tryz.ntmps126;go_wp2_with fail
 go_loopw [5] (fun sv wr=>∃ f r:Bs,sv=.string (ba f)/\f.length<=20/\r.length<=l.length/\Hi (r7 most cW l f r)/\Hi (MB wr mb db s r false ov)/\Hi (Fr (One mb) w wr)) (fun _ wr=>s.size+1-mP mb wr)
 case atStart=>exact⟨[],l,rfl,by simp,by omega,⟨by simp,fun q x=>by simp at x,by simp[dv,jI],by simp,.inl rfl⟩,HB,Fr.refl _ _⟩
 case round =>
  obtain⟨f,r,rfl,I,dK,n,J,HF⟩:=hrel;go_wp2_with fail;refine(dj J.o hs).mono ?_;rintro e z ⟨rfl,n1,e1⟩;obtain rfl:=e1.symm;simp only[Bool.false_eq_true,if_false];have j:=J.o.ae (Fr.drewN Zero wr n1) (fun h=>h);have F:Hi (Fr (One mb) w (wr.drewN n1)):=HF.o.trans (Fr.drewN _ _ _);have p:=ab j;have h2:=j.fM;have f2:=j.free 2;have f4:=j.free 4;have h4:=j.gS;have hh:=nL r;have z1:=aI f;have t1:=nT f;clear j;have Y:=ab J.o.place;generalize wr.drewN n1=z at *
  have t:∀ sd':Bs,sd'=f->f≠[]->(bu most (dv f) r=(dv f,r)\/f=[48])->lP mb B db s aF most w l (.returned (.string (ba sd'))) z:=fun sd' e1 cF x=>by
   subst e1;have q:=W.o _ _ _ p.o F.o;have u:=n.o.full cF x;exact⟨q.2,sd',r,false,q.1,rfl,n.o.2.1,n.o.2.2.1,I,by rw[u],dK,fun _=>by rw[u],fun h=>by simp at h⟩
  have O:=ab t;clear t
  by_cases g:48<=hd r/\hd r<=57
  ·obtain⟨b,v,rfl⟩:∃ b v,r=b::v:=by
    rcases r with _|⟨b,v⟩
    ·simp[hd] at g
    ·exact⟨b,v,rfl⟩
   simp only[hd] at g hh ⊢;have af:decide (((b.toNat:Nat):Int)<48)=false:=decide_eq_false (by omega);have ag:decide (57<((b.toNat:Nat):Int))=false:=decide_eq_false (by omega);have k:Hi (jl b):=g
   by_cases i:f=[48]
   ·have x:(f==[48])=true:=by rw[i];rfl
    have cF:(f.isEmpty)=false:=by rw[i];rfl
    have M:=ab (O.o f rfl (by rw[i];simp) (.inr i));clear i g;go_wp2_with fail;go_ret;exact M.o
   ·have x:(f==[48])=false:=by simpa using i
    have P:=ab i;obtain⟨hp,K,L,_⟩:=p.o.next;have Z:=lF b.toNat (by omega) z z.heap.size (b.toNat:Int) rfl rfl;rw[show UInt8.ofNat b.toNat=b by simp] at Z;have a1:ba f++ba [b]=ba (f++[b]):=bD f [b];have z2:(ba [b]).size=1:=aI [b];have n2:¬(9223372036854775807<f.length+1):=by omega
    clear i;go_wp2_with fail;refine(xt (f++[b]) cW _ (by simp;omega) (by omega)).mono ?_;rintro e w2 ⟨rfl,e2⟩;obtain rfl:=e2.symm;have m:=p.o.ae (Fr.alloc Zero z (.cells #[.int .u8 b.toNat] 5)) (fun h=>h);have g2:=m.fM;have ah:=m.free 2;have ai:=m.free 4;have g4:=m.gS;have G:=ab m;have Q:Hi (Fr (One mb) w (z.alloc (.cells #[.int .u8 b.toNat] 5))):=F.o.trans (Fr.alloc _ _ _);clear m;rcases mV:gA (f++[b]) cW with _|_
    ·have R:=ab (n.o.step k.o P.o hm C.o D.o E.o mV);have aj:((pos s (b::v):Nat):Int)+1=((pos s v:Nat):Int):=by omega
     have S:=ab L;have T:Hi (v.length<=s.size):=by show _<=_;have:=p.o.len;simp at this;omega
     have k9:=R.o.2.2.2.1;clear mV h2 f2 f4 h4 L;have aa:=ab K;clear K;go_wp2_with fail
     go_roundw
     case rel=>exact⟨f++[b],v,rfl,by omega,by simp at dK;omega,R,G.o.move T.o S.o,Q.o.trans (Fr.setCell (One mb) _ _ _ rfl)⟩
     case measure =>
      have e:=(G.o.move T.o S.o).place;rw[Y.o];show s.size+1-mP mb _<_;rw[e,aa.o];omega
    ·have cF:f≠[]:=by
      rintro rfl
      have:=mY (a:=[b]) (b:=cW) (by
       by_cases h0:b.toNat=48
       ·right;rw[fI h0];rfl
       ·left
        have:=k.o
        unfold jl at this
        exact⟨fun q x=>by simp at x;subst x;exact k.o,fun c r'' e=>by simp at e;obtain⟨rfl,_⟩:=e;omega⟩) C.o D.o
      rw[show[b]=[]++[b] from rfl,mV,E.o] at this;have U:=this.symm;simp at U;have A:dv ([]++[b])=0*10+(b.toNat-48):=l9 [] b;simp only[List.nil_append] at A;rw[A] at U;omega
     have hu:c9 most l=(some (dv f),b::v):=n.o.full cF (.inl (by
      rw[sM k.o hm]
      have jq:Plain (f++[b])\/f++[b]=[48]:=by
       left;rcases n.o.2.2.2.2 with e|e|⟨e,ad,_⟩
       ·exact absurd e cF
       ·exact absurd e P.o
       ·refine⟨fun q x=>?_,fun c r'' e'=>?_⟩
        ·rcases List.mem_append.1 x with h|h
         ·exact n.o.2.1 q h
         ·simp at h;subst h;exact k.o
        ·rcases f with _|⟨d,f⟩
         ·exact absurd rfl e
         ·simp at e';obtain⟨rfl,_⟩:=e';exact ad.2 d f rfl
      have:=mY jq C.o D.o
      rw[mV,E.o,l9] at this;have U:=this.symm;simp at U
      rw[if_pos U]))
     have M:Hi (lP mb B db s aF most w l (.returned (.string (ba f))) ((z.alloc (.cells #[.int .u8 b.toNat] 5)).setCell ⟨mb,4,none⟩ (.bool true))):=by
      have q:=W.o _ _ _ (G.o.mark true) (Q.o.trans (Fr.setCell (One mb) _ _ _ rfl));exact⟨q.2,f,b::v,true,q.1,rfl,n.o.2.1,n.o.2.2.1,I,by rw[hu],dK,fun h=>by simp at h,fun _=>.inr ⟨b,v,rfl,k.o⟩⟩
     clear mV hu cF L K;go_wp2_with fail;go_ret;exact M.o
  ·have N:hd r<48\/57<hd r:=by omega
   have iz:=sL (most:=most) (acc:=dv f) g;have M:Hi (f≠[]->lP mb B db s aF most w l (.returned (.string (ba f))) z):=fun cF=>O.o f rfl cF (.inl iz)
   have HY:Hi (f=[]->lP mb B db s aF most w l (.returned (.string (ba f))) (z.setCell ⟨mb,4,none⟩ (.bool true))):=fun e=>by
    subst e;have q:=W.o _ _ _ (p.o.mark true) (F.o.trans (Fr.setCell (One mb) _ _ _ rfl));have u:=n.o.empty g;exact⟨q.2,[],r,true,q.1,rfl,n.o.2.1,n.o.2.2.1,I,by rw[u],dK,fun h=>by simp at h,fun _=>.inl (by rw[u])⟩
   generalize hd r=hv at *;clear iz g
   by_cases y:f=[]
   ·subst y;have V:(ba ([]:Bs)).toList.isEmpty=true:=by rw[nT];rfl
    rcases N with N|N
    ·have H:((hv:Nat):Int)<48:=by omega
     go_wp2_with fail;go_ret;exact HY.o trivial
    ·have H:decide (((hv:Nat):Int)<48)=false:=decide_eq_false (by omega);have ac:57<((hv:Nat):Int):=by omega
     go_wp2_with fail;go_ret;exact HY.o trivial
   ·have V:f.isEmpty=false:=by simpa using y
    rcases N with N|N
    ·have H:((hv:Nat):Int)<48:=by omega
     go_wp2_with fail;go_ret;exact M.o y
    ·have H:decide (((hv:Nat):Int)<48)=false:=decide_eq_false (by omega);have ac:57<((hv:Nat):Int):=by omega
     go_wp2_with fail;go_ret;exact M.o y
def EPost{α:Type}(mb B db:Nat)(s:ByteArray)(aF:Bs)(ext:Nat)(w:World)(l:Bs)(p:Option α×Bs)(f:α->Bs)(e:Ending)(w':World):Prop :=
 gD mb w w'/\∃(r:Bs) (bad:Bool) (dT:Bs),MS w' B mb db s r bad dT/\e=.returned (.tuple #[])/\r=p.2/\r.length<=l.length/\(bad=false->∃ a,p.1=some a/\dT=aF++f a)/\(bad=true->(p.1=none\/kj r)/\dT.length<=aF.length+ext)
def cW(kind:Nat):Bs:=if kind=0 then[50,53,53] else if kind=1 then[54,53,53,51,53] else[52,50,57,52,57,54,55,50,57,53]
theorem qg(h:∀ b∈l,49<=b.toNat/\b.toNat<=57):Plain l:=⟨fun b hb=>by have:=h b hb;unfold jl;omega,fun b r e=>by subst e;exact(h b (by simp)).1⟩
theorem y6(kind:Nat)(h:kind<=2):Plain (cW kind)/\cW kind≠[]/\dv (cW kind)=bQ kind/\(cW kind).length<=20:=by
 obtain rfl|rfl|rfl:kind=0\/kind=1\/kind=2:=by omega
 ·exact⟨qg (by decide),by decide,by simp[cW,bQ,dv,mZ,F4],by decide⟩
 ·exact⟨qg (by decide),by decide,by simp[cW,bQ,dv,mZ,F4],by decide⟩
 ·exact⟨qg (by decide),by decide,by simp[cW,bQ,dv,mZ,F4],by decide⟩
theorem y9{aF:Bs}(h:MS w B mb db s l false aF)(hs:s.size<=maxLen)(hB:B<=w.heap.size)(kind:Nat)(hk:kind<=2)(hl:aF.length<=900000000):
  Calls Tryz.prog 88 #[.pointer (some ⟨mb,0,none⟩),.int .i64 kind] w fun e w'=>EPost mb B db s aF 8 w l (c9 (bQ kind) l) (fun n=>leBytes (aT kind) n) e w':=by
 have HM:=ab h;have I:=h.lt;obtain⟨g1,g2,g3,g4⟩:=y6 kind hk;have J:=ab g1;have K:=ab g2;have L:=ab g3;have M:=ab g4;have aa:(kind:Int)<3:=by omega
 have a:Hi (2^kind=aT kind/\aT kind<=4/\bQ kind<256^aT kind/\9<=bQ kind/\bQ kind<=4294967295):=by
  obtain rfl|rfl|rfl:kind=0\/kind=1\/kind=2:=by omega
  all_goals exact⟨rfl,by decide,by decide,by decide,by decide⟩
 have b:((w.alloc (.cells #[.string ⟨#[50,53,53]⟩,.string ⟨#[54,53,53,51,53]⟩,.string ⟨#[52,50,57,52,57,54,55,50,57,53]⟩] 9)).cell? ⟨w.heap.size,kind,none⟩)=some (.string (ba (cW kind))):=by
  rw[cell_of_heap (af rfl _)];obtain rfl|rfl|rfl:kind=0\/kind=1\/kind=2:=by omega
  all_goals rfl
 have f:Hi (Fr Zero w (w.alloc (.cells #[.string ⟨#[50,53,53]⟩,.string ⟨#[54,53,53,51,53]⟩,.string ⟨#[52,50,57,52,57,54,55,50,57,53]⟩] 9))):=Fr.alloc _ _ _;clear h g1 g2 g3 g4;go_enter Tryz.func88,Tryz.ntmps88;go_wp2_with fail;refine(lz (HM.o.quiet f.o) hs (cW kind) (bQ kind) a.o.2.2.2.1 J.o K.o L.o M.o).mono ?_;rintro e w1 ⟨u,sd,r,v,eU,rfl,x,y,ad,hr,dK,z,A⟩;have g:=ab ((gD.quiet f.o I).trans u);have O:=ab eU;have HR:=ab hr;have k:=ab z;have P:=ab A;have Q:=ab x;have m:=ab y;have ew:B<=w1.heap.size:=Nat.le_trans hB g.o.fr.size;clear u eU hr z A x b;go_wp2_with fail;refine(oe sd _ Q.o (by have:=a.o.2.2.2.2;omega) (by omega)).mono ?_;rintro e w2 ⟨rfl,e2⟩;obtain rfl:=e2.symm;obtain⟨N,hN⟩:∃ N,dv sd=N:=⟨_,rfl⟩;rw[hN] at k m ⊢;have R:N<=4294967295:=Nat.le_trans m.o a.o.2.2.2.2;clear hN y;go_wp2_with fail
 go_loopw [7,8] (fun sv iv wr=>∃ i:Nat,i<=kind/\sv=.int .i64 ((2^i:Nat):Int)/\iv=.int .i64 i/\Hi (wr=w1)) (fun _ iv _=>kind-(intOf iv).toNat)
 case atStart=>exact⟨0,by omega,rfl,rfl,rfl⟩
 case round =>
  obtain⟨j,ae,rfl,rfl,C⟩:=hrel;obtain rfl:=C.o.symm;clear C
  by_cases p:j<kind
  ·have hI:(j:Int)<(kind:Int):=by omega
   have h2:2^j<=2^2:=Nat.pow_le_pow_right (by omega) (by omega);have Y:Hi (2^(j+1)=2^j*2):=Nat.pow_succ _ _;obtain⟨q,D⟩:∃ q,2^j=q:=⟨_,rfl⟩;rw[D] at h2 Y ⊢;clear D;go_wp2_with fail
   go_roundw
   case rel=>exact⟨j+1,by omega,by rw[Y.o];go_num,by go_num,(trivial:True)⟩
   case measure=>simp[intOf];omega
  ·have hj:j=kind:=by omega
   subst hj;have hI:¬(j:Int)<(j:Int):=by omega
   rw[a.o.1];obtain⟨c,H⟩:∃ c,aT j=c:=⟨_,rfl⟩;have ac:c<=4:=by rw[<-H];exact a.o.2.1
   rw[H];have HC:=ab H;clear H p;go_wp2_with fail
   go_loopw [6,9] (fun nv iv wr=>∃ i:Nat,i<=c/\nv=.int .u64 (N/256^i:Nat)/\iv=.int .i64 i/\Hi (MS wr B mb db s r v (aF++leBytes i N))/\Hi (gD mb w wr)) (fun _ iv _=>c-(intOf iv).toNat)
   case atStart=>exact⟨0,by omega,by simp,rfl,by simpa[leBytes] using O,g⟩
   case round =>
    obtain⟨i,ag,rfl,rfl,E,d⟩:=hrel
    by_cases Z:i<c
    ·have S:(i:Int)<(c:Int):=by omega
     have T:N/256^i<=4294967295:=Nat.le_trans (Nat.div_le_self _ _) R;have HD:Hi (N/256^(i+1)=N/256^i/256):=ab (by rw[Nat.pow_succ,Nat.div_div_eq_div_mul]);have HS:=ab (nI i N);obtain⟨q,D⟩:∃ q,N/256^i=q:=⟨_,rfl⟩;rw[D] at T HD HS ⊢;clear D;have k9:=ct i N;have t:((q:Int)%256)=(((UInt8.ofNat q).toNat:Nat):Int):=by simp
     have U:B<=wr.heap.size:=Nat.le_trans hB d.o.fr.size;have V:=ab t;clear t;go_wp2_with fail;refine(jh E.o U _ (UInt8.ofNat q) V.o (by simp;omega)).mono ?_;rintro e w3 ⟨F,G,rfl⟩;have W:=ab (d.o.trans F);have X:=ab G;clear F G;go_wp2_with fail
     go_roundw
     case rel=>exact⟨i+1,by omega,by rw[HD.o];go_num,by go_num,by rw[HS.o];exact ab (by simpa using X.o),W⟩
     case measure=>simp[intOf];omega
    ·have hi:i=c:=by omega
     subst hi;have S:¬(i:Int)<(i:Int):=by omega
     have k9:=ct i N;go_wp2_with fail
     go_end0
     refine⟨d,r,v,aF++leBytes i N,E,rfl,HR.o,dK,fun h=>⟨N,k.o h,by rw[HC.o]⟩,fun h=>⟨P.o h,by simp;omega⟩⟩
def AN:Bs:=[57,50,50,51,51,55,50,48,51,54,56,53,52,55,55,53,56,48,55]
def BI:Bs:=[57,50,50,51,51,55,50,48,51,54,56,53,52,55,55,53,56,48,56]
theorem qh(h:∀ c∈b::l,48<=c.toNat/\c.toNat<=57)(hb:49<=b.toNat):Plain (b::l):=⟨fun c hc=>h c hc,fun c r e=>by simp at e;obtain⟨rfl,_⟩:=e;exact hb⟩
theorem lS:Plain AN/\AN≠[]/\dv AN=9223372036854775807/\AN.length<=20:=⟨qh (by decide) (by decide),by decide,by simp[AN,dv,mZ,F4],by decide⟩
theorem l4:Plain BI/\BI≠[]/\dv BI=9223372036854775808/\BI.length<=20:=⟨qh (by decide) (by decide),by decide,by simp[BI,dv,mZ,F4],by decide⟩
theorem xa{aF:Bs}(h:MS w B mb db s l false aF)(hs:s.size<=maxLen)(hB:B<=w.heap.size)(hl:aF.length<=900000000):
  Calls Tryz.prog 89 #[.pointer (some ⟨mb,0,none⟩)] w fun e w'=>EPost mb B db s aF 8 w l (cg l) (fun n=>aC 8 (ofInt64 n)) e w':=by
 have HM:=ab h;obtain⟨ov,hb,ap,ho⟩:=h;have HB:=ab hb;have ar:=hb.lt;have ai:Hi (∀(w':World) (r:Bs) (bd:Bool),MB w' mb db s r bd ov->Fr (One mb) w w'->MS w' B mb db s r bd aF/\gD mb w w'):=fun w' r bd kc hf'=>MS.oL hb ap ho kc hf'
 have au:=hs;unfold maxLen at au;clear ap ho;go_enter Tryz.func89,Tryz.ntmps89;go_wp2_with fail;refine(dj hb hs).mono ?_;rintro e w1 ⟨rfl,n1,e1⟩;obtain rfl:=e1.symm;clear hb;simp only[Bool.false_eq_true,if_false]
 by_cases j:hd l=45
 ·obtain⟨b,a,rfl⟩:∃ b a,l=b::a:=by
   rcases l with _|⟨b,a⟩
   ·simp[hd] at j
   ·exact⟨b,a,rfl⟩
  simp only[hd] at j;have hc:(((hd (b::a):Nat):Int)==45)=true:=beq_iff_eq.2 (by simp only[hd];omega);have HA:Hi (bz 45 (b::a)=some a):=dW j;have y:=HB.o.ae (Fr.drewN Zero w n1) (fun h=>h);obtain⟨hp,m,aq,_⟩:=y.next;have h2:=y.fM;have f2:=y.free 2;have av:=ab y;have aw:Hi (Fr (One mb) w (w.drewN n1)):=Fr.drewN _ _ _;have aJ:((pos s (b::a):Nat):Int)+1=((pos s a:Nat):Int):=by omega
  have ax:=ab aq;have ay:Hi (a.length<=s.size):=by show _<=_;have:=HB.o.len;simp at this;omega
  generalize hd (b::a)=hv at *;generalize w.drewN n1=w1 at *;clear y aq m j;go_wp2_with fail;have aj:=ab (av.o.move ay.o ax.o);have az:Hi (Fr (One mb) w (w1.setCell ⟨mb,2,none⟩ (.int .i64 (pos s a)))):=aw.o.trans (Fr.setCell (One mb) _ _ _ rfl);generalize w1.setCell ⟨mb,2,none⟩ (.int .i64 (pos s a))=w2 at *;refine(dj aj.o hs).mono ?_;rintro e w3 ⟨rfl,n3,e3⟩;obtain rfl:=e3.symm;have P:=ab (aj.o.ae (Fr.drewN Zero w2 n3) (fun h=>h));have f:Hi (Fr (One mb) w (w2.drewN n3)):=az.o.trans (Fr.drewN _ _ _);generalize w2.drewN n3=w4 at *;simp only[Bool.false_eq_true,if_false];have ak:=ab (ai.o _ _ _ P.o f.o)
  by_cases k:hd a=48
  ·have ju:(((hd a:Nat):Int)==48)=true:=beq_iff_eq.2 (by omega)
   obtain⟨c,x,rfl⟩:∃ c x,a=c::x:=by
    rcases a with _|⟨c,x⟩
    ·simp[hd] at k
    ·exact⟨c,x,rfl⟩
   simp only[hd] at k;have R:Hi (cg (b::c::x)=(none,c::x)):=ab (by unfold cg;rw[HA.o];simp only;rw[dW k]);have f4:=P.o.free 4;have g4:=P.o.gS;generalize hd (c::x)=hv2 at *;clear k;go_wp2_with fail;refine bodyPost_ret (v:=.tuple #[]) (by simp[results,Tryz.results89,go_sem]) rfl ?_;have q:=ai.o _ _ _ (P.o.mark true) (f.o.trans (Fr.setCell (One mb) _ _ _ rfl));rw[show EPost mb B db s aF 8 w (b::c::x) (cg (b::c::x)) (fun n=>aC 8 (ofInt64 n))=EPost mb B db s aF 8 w (b::c::x) ((none:Option Int),c::x) (fun n=>aC 8 (ofInt64 n)) by rw[R.o]];exact⟨q.2,c::x,true,aF,q.1,rfl,rfl,by simp,fun h=>by simp at h,fun _=>⟨.inl rfl,by omega⟩⟩
  ·have ju:(((hd a:Nat):Int)==48)=false:=beq_eq_false_iff_ne.2 (by omega)
   have aA:Hi (bz 48 a=none):=by
    show _=_;rcases a with _|⟨c,x⟩
    ·rfl
    ·simp only[hd] at k;exact ny k
   have R:Hi (cg (b::a)=((c9 9223372036854775808 a).1.map (fun(n:Nat)=>-(n:Int)),(c9 9223372036854775808 a).2)):=ab (by unfold cg;rw[HA.o];simp only;rw[aA.o]);generalize hd a=hv2 at *;clear k;go_wp2_with fail;refine(lz ak.o.1 hs BI 9223372036854775808 (by omega) l4.1 l4.2.1 l4.2.2.1 l4.2.2.2).mono ?_;rintro e w2 ⟨ao,sd,r,F,eU,rfl,G,H,aH,hr,dK,I,J⟩;have W:=ab (ak.o.2.trans ao);have X:=ab eU;have HR:=ab hr;have z:=ab I;have Y:=ab J;have Z:=ab G;have A:=ab H;clear ao eU hr I J G;go_wp2_with fail;refine(oe sd _ Z.o (by omega) (by omega)).mono ?_;rintro e w3 ⟨rfl,e3⟩;obtain rfl:=e3.symm;obtain⟨N,hN⟩:∃ N,dv sd=N:=⟨_,rfl⟩;rw[hN] at z A ⊢;have aB:N<=9223372036854775808:=A.o;clear hN H
   have al:IntKind.u64.wrap (-(N:Int))=((ofInt64 (-(N:Int)):Nat):Int):=by
    simp only[IntKind.wrap,IntKind.bits,IntKind.signed,ofInt64];simp;omega
   have am:ofInt64 (-(N:Int))<=18446744073709551615:=by unfold ofInt64;omega
   obtain⟨M,hM⟩:∃ M,ofInt64 (-(N:Int))=M:=⟨_,rfl⟩;rw[hM] at al am;have aD:=ab hM;clear hM;go_wp2_with fail
   go_loopw [7,8] (fun hv iv wr=>∃ i:Nat,i<=8/\hv=.int .u64 ((256^(7-i):Nat):Int)/\iv=.int .i64 i/\Hi (MS wr B mb db s r F (aF++(aC 8 M).take i))/\Hi (gD mb w wr)) (fun _ iv _=>8-(intOf iv).toNat)
   case atStart=>exact⟨0,by omega,rfl,rfl,by simpa using X,W⟩
   case round =>
    obtain⟨i,aI,rfl,rfl,K,t⟩:=hrel;have kV:(aC 8 M).length=8:=by unfold aC;rw[List.length_reverse,ct]
    by_cases C:i<8
    ·have aa:(i:Int)<8:=by omega
     have m:256^(7-i)<=256^7:=Nat.pow_le_pow_right (by omega) (by omega);have ac:0<256^(7-i):=Nat.pow_pos (by omega);have D:256^(7-i)<=72057594037927936:=m;have S:=ab (kQ M i C)
     have d:Hi (if 256^(7-i)/256=0 then 256^(7-(i+1))=1 else 256^(7-(i+1))=256^(7-i)/256):=by
      by_cases h7:i=7
      ·subst h7;exact(by simp:if 256^(7-7)/256=0 then 256^(7-(7+1))=1 else 256^(7-(7+1))=256^(7-7)/256)
      ·have e:256^(7-i)=256^(7-(i+1))*256:=by rw[<-Nat.pow_succ];congr 1;omega
       have e2:0<256^(7-(i+1)):=Nat.pow_pos (by omega);rw[e,Nat.mul_div_cancel _ (by omega)];rw[if_neg (by omega)];exact ab rfl
     obtain⟨U,u⟩:∃ U,256^(7-(i+1))=U:=⟨_,rfl⟩;have g:=ab u;rw[u] at d;obtain⟨h,hh⟩:∃ h,256^(7-i)=h:=⟨_,rfl⟩;rw[hh] at ac D d S ⊢;clear m hh u;have aE:((h:Int)==0)=false:=beq_eq_false_iff_ne.2 (by omega);obtain⟨Q,V⟩:∃ Q,M/h=Q:=⟨_,rfl⟩;have aG:(M:Int)/(h:Int)=(Q:Int):=by rw[<-V];simp
     have an:Q<=18446744073709551615:=by rw[<-V];exact Nat.le_trans (Nat.div_le_self _ _) (by omega)
     rw[V] at S;have ad:Hi (((Q:Int)%256)=(((UInt8.ofNat Q).toNat:Nat):Int)):=ab (by simp);have k9:((aC 8 M).take i).length<=8:=by rw[List.length_take];omega
     have af:B<=wr.heap.size:=Nat.le_trans hB t.o.fr.size;clear V;go_wp2_with fail;refine(jh K.o af _ (UInt8.ofNat Q) ad.o (by simp only[List.length_append];omega)).mono ?_;rintro e w3 ⟨L,O,rfl⟩;have f:=ab (t.o.trans L);have E:=ab O;clear L O
     by_cases T:h/256=0
     ·have ag:(((h:Int)/256)==0)=true:=beq_iff_eq.2 (by omega);have p:Hi (U=1):=by have:=d.o;rw[if_pos T] at this;exact this
      clear T;go_wp2_with fail
      go_roundw
      case rel=>exact⟨i+1,by omega,by rw[g.o,p.o];rfl,by go_num,by rw[S.o];exact ab (by simpa using E.o),f⟩
      case measure=>simp[intOf];omega
     ·have ag:(((h:Int)/256)==0)=false:=beq_eq_false_iff_ne.2 (by omega);have p:Hi (U=h/256):=by have:=d.o;rw[if_neg T] at this;exact this
      clear T;go_wp2_with fail
      go_roundw
      case rel=>exact⟨i+1,by omega,by rw[g.o,p.o];go_num,by go_num,by rw[S.o];exact ab (by simpa using E.o),f⟩
      case measure=>simp[intOf];omega
    ·have hi:i=8:=by omega
     subst hi;have aa:¬((8:Nat):Int)<8:=by omega
     go_wp2_with fail
     go_end0
     have ah:(aC 8 M).take 8=aC 8 M:=List.take_of_length_le (by omega);refine⟨t,r,F,aF++aC 8 M,by rw[<-ah];exact K,rfl,by rw[R.o];exact HR.o,by simp only[List.length_cons];omega,fun h=>⟨-(N:Int),by rw[R.o,z.o h];rfl,by show _=aF++aC 8 (ofInt64 (-(N:Int)));rw[aD.o]⟩,fun h=>⟨(Y.o h).imp (fun q=>by rw[R.o,q];rfl) id,by simp[kV]⟩⟩
 ·have hc:(((hd l:Nat):Int)==45)=false:=beq_eq_false_iff_ne.2 (by omega)
  have HA:Hi (bz 45 l=none):=by
   show _=_;rcases l with _|⟨c,x⟩
   ·rfl
   ·simp only[hd] at j;exact ny j
  have R:Hi (cg l=((c9 9223372036854775807 l).1.map Int.ofNat,(c9 9223372036854775807 l).2)):=ab (by unfold cg;rw[HA.o]);generalize hd l=hv at *;clear j;go_wp2_with fail;refine(lz (HM.o.quiet (Fr.drewN Zero w n1)) hs AN 9223372036854775807 (by omega) lS.1 lS.2.1 lS.2.2.1 lS.2.2.2).mono ?_;rintro e w2 ⟨ao,sd,r,F,eU,rfl,G,H,aH,hr,dK,I,J⟩;have W:=ab ((gD.quiet (Fr.drewN Zero w n1) ar).trans ao);have X:=ab eU;have HR:=ab hr;have z:=ab I;have Y:=ab J;have Z:=ab G;have A:=ab H;clear ao eU hr I J G;go_wp2_with fail;refine(oe sd _ Z.o (by omega) (by omega)).mono ?_;rintro e w3 ⟨rfl,e3⟩;obtain rfl:=e3.symm;obtain⟨N,hN⟩:∃ N,dv sd=N:=⟨_,rfl⟩;rw[hN] at z A ⊢;have aB:N<=9223372036854775807:=A.o;clear hN H;go_wp2_with fail
  go_loopw [7,8] (fun hv iv wr=>∃ i:Nat,i<=8/\hv=.int .u64 ((256^(7-i):Nat):Int)/\iv=.int .i64 i/\Hi (MS wr B mb db s r F (aF++(aC 8 N).take i))/\Hi (gD mb w wr)) (fun _ iv _=>8-(intOf iv).toNat)
  case atStart=>exact⟨0,by omega,rfl,rfl,by simpa using X,W⟩
  case round =>
   obtain⟨i,aI,rfl,rfl,K,t⟩:=hrel;have kV:(aC 8 N).length=8:=by unfold aC;rw[List.length_reverse,ct]
   by_cases C:i<8
   ·have aa:(i:Int)<8:=by omega
    have m:256^(7-i)<=256^7:=Nat.pow_le_pow_right (by omega) (by omega);have ac:0<256^(7-i):=Nat.pow_pos (by omega);have D:256^(7-i)<=72057594037927936:=m;have S:=ab (kQ N i C)
    have d:Hi (if 256^(7-i)/256=0 then 256^(7-(i+1))=1 else 256^(7-(i+1))=256^(7-i)/256):=by
     by_cases h7:i=7
     ·subst h7;exact(by simp:if 256^(7-7)/256=0 then 256^(7-(7+1))=1 else 256^(7-(7+1))=256^(7-7)/256)
     ·have e:256^(7-i)=256^(7-(i+1))*256:=by rw[<-Nat.pow_succ];congr 1;omega
      have e2:0<256^(7-(i+1)):=Nat.pow_pos (by omega);rw[e,Nat.mul_div_cancel _ (by omega)];rw[if_neg (by omega)];exact ab rfl
    obtain⟨U,u⟩:∃ U,256^(7-(i+1))=U:=⟨_,rfl⟩;have g:=ab u;rw[u] at d;obtain⟨h,hh⟩:∃ h,256^(7-i)=h:=⟨_,rfl⟩;rw[hh] at ac D d S ⊢;clear m hh u;have aE:((h:Int)==0)=false:=beq_eq_false_iff_ne.2 (by omega);obtain⟨Q,V⟩:∃ Q,N/h=Q:=⟨_,rfl⟩;have aG:(N:Int)/(h:Int)=(Q:Int):=by rw[<-V];simp
    have an:Q<=18446744073709551615:=by rw[<-V];exact Nat.le_trans (Nat.div_le_self _ _) (by omega)
    rw[V] at S;have ad:Hi (((Q:Int)%256)=(((UInt8.ofNat Q).toNat:Nat):Int)):=ab (by simp);have k9:((aC 8 N).take i).length<=8:=by rw[List.length_take];omega
    have af:B<=wr.heap.size:=Nat.le_trans hB t.o.fr.size;clear V;go_wp2_with fail;refine(jh K.o af _ (UInt8.ofNat Q) ad.o (by simp only[List.length_append];omega)).mono ?_;rintro e w3 ⟨L,O,rfl⟩;have f:=ab (t.o.trans L);have E:=ab O;clear L O
    by_cases T:h/256=0
    ·have ag:(((h:Int)/256)==0)=true:=beq_iff_eq.2 (by omega);have p:Hi (U=1):=by have:=d.o;rw[if_pos T] at this;exact this
     clear T;go_wp2_with fail
     go_roundw
     case rel=>exact⟨i+1,by omega,by rw[g.o,p.o];rfl,by go_num,by rw[S.o];exact ab (by simpa using E.o),f⟩
     case measure=>simp[intOf];omega
    ·have ag:(((h:Int)/256)==0)=false:=beq_eq_false_iff_ne.2 (by omega);have p:Hi (U=h/256):=by have:=d.o;rw[if_neg T] at this;exact this
     clear T;go_wp2_with fail
     go_roundw
     case rel=>exact⟨i+1,by omega,by rw[g.o,p.o];go_num,by go_num,by rw[S.o];exact ab (by simpa using E.o),f⟩
     case measure=>simp[intOf];omega
   ·have hi:i=8:=by omega
    subst hi;have aa:¬((8:Nat):Int)<8:=by omega
    go_wp2_with fail
    go_end0
    have ah:(aC 8 N).take 8=aC 8 N:=List.take_of_length_le (by omega);refine⟨t,r,F,aF++aC 8 N,by rw[<-ah];exact K,rfl,by rw[R.o];exact HR.o,dK,fun h=>⟨(N:Int),by rw[R.o,z.o h];rfl,by show _=aF++aC 8 (ofInt64 (N:Int));rw[show ofInt64 (N:Int)=N by unfold ofInt64;omega]⟩,fun h=>⟨(Y.o h).imp (fun q=>by rw[R.o,q];rfl) id,by simp[kV]⟩⟩
theorem BO.src(h:BO w B sv acc):Src Tryz.prog 1 118 sv acc.length (Lib.byteCells acc) w:=by
 rcases h.own.2 with⟨rfl,e⟩|⟨g,au,c,rfl,_⟩
 ·have a:acc=[]:=List.eq_nil_of_length_eq_zero e;subst a;exact Src.ofNil w Tryz.underlying118 0
 ·refine Src.ofSlice w Tryz.underlying118 _ _ _ _ (by simp[Lib.byteCells]) (h.own.cells (g:=g) rfl) (fun u hu=>?_);simp only[Lib.byteCells,List.mem_map] at hu;obtain⟨b,_,rfl⟩:=hu;rfl
theorem BO.two(w:World)(b c:UInt8)(x y:Int)(hx:x=b.toNat)(hy:y=c.toNat):BO (w.alloc (.cells #[.int .u8 x,.int .u8 y] 5)) w.heap.size (.slice (some ⟨w.heap.size,0,none⟩) 2 2) [b,c]:=by
 subst hx hy;refine⟨⟨rfl,.inr ⟨w.heap.size,2,#[.int .u8 b.toNat,.int .u8 c.toNat],rfl,Nat.zero_le _,af rfl _,Nat.le_refl _,by unfold maxLen;omega,rfl,rfl⟩⟩,fun g hg=>?_⟩;simp[Value.ownBlock] at hg;omega
theorem BO.fresh(w:World)(b:UInt8)(x:Int)(hx:x=b.toNat):BO (w.alloc (.cells #[.int .u8 x] 5)) w.heap.size (.slice (some ⟨w.heap.size,0,none⟩) 1 1) [b]:=by
 subst hx;refine⟨⟨rfl,.inr ⟨w.heap.size,1,#[.int .u8 b.toNat],rfl,Nat.zero_le _,af rfl _,Nat.le_refl _,by unfold maxLen;omega,rfl,rfl⟩⟩,fun g hg=>?_⟩;simp[Value.ownBlock] at hg;omega
theorem eX(n:Nat)(hn:n<=300)(w:World):
  Calls Tryz.prog 128 #[.int .i64 n] w fun e w'=>Fr Zero w w'/\∃ v,e=.returned v/\BO w' w.heap.size v (aB n):=by
 by_cases h:n<=127
 ·have b:¬(127:Int)<(n:Int):=by omega
  have a:Hi (aB n=[UInt8.ofNat n]):=if_pos h;go_enter Tryz.func128,Tryz.ntmps128;go_wp2_with fail;go_ret;rw[a.o];exact⟨Fr.alloc _ _ _,_,rfl,BO.fresh w (UInt8.ofNat n) _ (by rw[toNat_ofNat (by omega)])⟩
 ·have b:(127:Int)<(n:Int):=by omega
  have a:Hi (aB n=[UInt8.ofNat (n%128+128),UInt8.ofNat (n/128)]):=if_neg h;go_enter Tryz.func128,Tryz.ntmps128;go_wp2_with fail;go_ret;rw[a.o];exact⟨Fr.alloc _ _ _,_,rfl,BO.two w (UInt8.ofNat (n%128+128)) (UInt8.ofNat (n/128)) _ _ (by rw[toNat_ofNat (by omega)];omega) (by rw[toNat_ofNat (by omega)];omega)⟩
def mj(c:Nat):Int:=if 48<=c/\c<=57 then(c:Int)-48 else if 97<=c/\c<=102 then(c:Int)-87 else -1
theorem uz(c:Nat)(hc:c<256)(w:World):
  Calls Tryz.prog 129 #[.int .u8 c] w fun e w'=>e=.returned (.int .i64 (mj c))/\w'=w:=by
 by_cases d:48<=c
 ·have f:(48:Int)<=(c:Int):=by omega
  by_cases g:c<=57
  ·have h:(c:Int)<=57:=by omega
   have a:Hi (mj c=(c:Int)-48):=if_pos ⟨d,g⟩;go_enter Tryz.func129,Tryz.ntmps129;go_wp2_with fail;go_ret;rw[a.o];exact⟨rfl,rfl⟩
  ·have h:decide ((c:Int)<=57)=false:=decide_eq_false (by omega)
   by_cases i:97<=c
   ·have b:(97:Int)<=(c:Int):=by omega
    by_cases j:c<=102
    ·have k:(c:Int)<=102:=by omega
     have a:Hi (mj c=(c:Int)-97+10):=ab (by unfold mj;rw[if_neg (by omega),if_pos ⟨i,j⟩];omega);go_enter Tryz.func129,Tryz.ntmps129;go_wp2_with fail;go_ret;rw[a.o];exact⟨rfl,rfl⟩
    ·have k:decide ((c:Int)<=102)=false:=decide_eq_false (by omega);have a:Hi (mj c=-1):=ab (by unfold mj;rw[if_neg (by omega),if_neg (by omega)]);go_enter Tryz.func129,Tryz.ntmps129;go_wp2_with fail;go_ret;rw[a.o];exact⟨rfl,rfl⟩
   ·have b:decide ((97:Int)<=(c:Int))=false:=decide_eq_false (by omega);have a:Hi (mj c=-1):=ab (by unfold mj;rw[if_neg (by omega),if_neg (by omega)]);go_enter Tryz.func129,Tryz.ntmps129;go_wp2_with fail;go_ret;rw[a.o];exact⟨rfl,rfl⟩
 ·have f:decide ((48:Int)<=(c:Int))=false:=decide_eq_false (by omega);have b:decide ((97:Int)<=(c:Int))=false:=decide_eq_false (by omega);have a:Hi (mj c=-1):=ab (by unfold mj;rw[if_neg (by omega),if_neg (by omega)]);go_enter Tryz.func129,Tryz.ntmps129;go_wp2_with fail;go_ret;rw[a.o];exact⟨rfl,rfl⟩
theorem ia{oU:Array Oper}{o:Oper}{a:Act}{K:Act->World->Prop}{Q:Exit->Act->World->Prop}{E:Prop}
  (hg:o.guard=none) (s x:Operand) (tx:TypeId) (hop:o.op=Op.call { callee:=Callee.builtin Builtin.append,args:=#[s,x],argTypes:=#[118,tx] })
  {B:Nat} {sv xv:Value} {acc:Bs} (more:Bs) (hs:a.eval s=sv) (hx:a.eval x=xv) (h:BO w B sv acc) (hsrc:Src Tryz.prog 1 tx xv more.length (Lib.byteCells more) w) (hB:B<=w.heap.size) (hl:acc.length+more.length<=140737488355328)
  (hK:∀ v' w',BO w' B v' (acc++more)->Fr (iL sv) w w'->(∀ k,k<w.heap.size->v'.ownBlock=some k->sv.ownBlock=some k)->K (a.put o.dst v') w') :
  if Region.wanted o (yielded oU a.tmps)=true then Oper.wp Tryz.prog o a w K Q else E:=by
 have c:Region.wanted o (yielded oU a.tmps)=true:=by simp[Region.wanted,hg]
 rw[if_pos c];obtain⟨v',w',b,d,e,f⟩:=vP h hB tx o.type xv more hsrc hl;unfold Oper.wp;simp[execOp,hop,resolve,invoke,builtin,hs,hx,b,Result.andThen];exact hK v' w' d e f
theorem MS.kX{aF dT:Bs}{v':Value}(h1:MB w mb db s l bad ov)(h2:B<=mb)(h3:BO w B ov aF)(ho:BO w' B v' dT)(hf:Fr (iL ov) w w')(hv:∀ k,k<w.heap.size->v'.ownBlock=some k->ov.ownBlock=some k):
  MB (w'.setCell ⟨mb,3,none⟩ v') mb db s l bad v'/\BO (w'.setCell ⟨mb,3,none⟩ v') B v' dT/\gD mb w (w'.setCell ⟨mb,3,none⟩ v'):=by
 have kc:MB w' mb db s l bad ov:=h1.ae hf (fun e=>h3.ne h1.block (by decide) e);have a:Fr (One mb) w' (w'.setCell ⟨mb,3,none⟩ v'):=Fr.setCell _ _ _ _ rfl;exact⟨kc.outs v',⟨ag ho.own a (fun g hg e=>ho.ne kc.block (by decide) (by rw[hg];exact congrArg some e)),ho.from_⟩,(MS.grow h1 h2 h3 ho hf hv).2⟩
theorem BO.any{a:Bs}(h:BO w B sv a):∃ p n c,sv=.slice p n c:=by
 obtain⟨p,c,e⟩:=h.len;exact⟨p,_,c,e⟩
theorem BO.Co{a b:Bs}(h:BO w B sv (a++b)):∃ p c,sv=.slice p (a.length+b.length) c:=by
 obtain⟨p,c,e⟩:=h.len;exact⟨p,c,by rw[e,List.length_append]⟩
def zW(k:Nat)(acc l:Bs):Option Bs×Bs:=match l with
 | []=>(none,[])
 | c::l'=>if c.toNat=34\/c.toNat=92 then fD k (acc++[c]) l' else(none,c::l')
theorem Dg(hb:b.toNat=92):fD (k+1) acc (b::l)=zW k acc l:=by
 simp only[fD];rw[if_neg (by omega),if_pos hb];rfl
end Go.Proofs.YtpffifpbpmlhdaaGreatDoor
