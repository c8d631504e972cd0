import Derived.Test.YtpffifpbpmlhdaaGreatDoorRows
import Derived.ProofKit
import Derived.LaidMore
import Derived.OpenShut
import Derived.LaidLaws
import Derived.LaidHandle
import Derived.LaidSub
import Derived.Lay
import Derived.Leaving
import Derived.Conc.Holds
import Derived.SizedLaws
import Derived.Lib.LaidTab
import Derived.Stop.Joined
import Derived.Test.YtpffifpbpmlhdaaGreatDoorBsVWf
import Derived.Test.YtpffifpbpmlhdaaGreatDoorBsVInt
set_option maxHeartbeats 32000000
set_option maxRecDepth 100000
namespace Go.Proofs.YtpffifpbpmlhdaaGreatDoor
open Go.ChangeShapes Go.WideShapes Go.ChangeAt Go.WideMaps Go.WideElems Go.RowKit
open Go.ChangeMaps (open_string shut_string)
variable {W:World}
theorem IJ:ownKnob Tryz.prog.godebug=none:=by kernel_rfl
theorem Jg:Tryz.prog.globalNamed "errors.errorType" = some 0:=by kernel_rfl
theorem Je:(Tryz.prog.cutTypes.find? (·.1== "internal/reflectlite.rtype")).map (·.2)=some 249:=by kernel_rfl
theorem Ic:Tryz.prog.types.size=344:=by kernel_rfl
theorem FR:((List.range 344).filter fun t=>Tryz.prog.rowNamed t [101,114,114,111,114])=[149]:=by kernel_rfl
theorem Jf:Tryz.prog.globalNamed "sluice/describe.words" = some 5:=by kernel_rfl
theorem Jc:(Tryz.prog.globals[5]?).map (·.type)=some 312:=by kernel_rfl
theorem Jj:Tryz.prog.cellsOf 9=1:=by kernel_rfl
theorem Jd:(Tryz.prog.globals[4]?).map (·.type)=some 309:=by kernel_rfl
theorem Ji:Tryz.prog.cellsOf 309=20:=by kernel_rfl
theorem Jh:Tryz.prog.cellsOf 233=1:=by kernel_rfl
theorem II:Rows.laid_internal_strconv_uint64pow10=(Lib.tabData .u64 Lib.pow10Tab:DataW Unit):=by kernel_rfl
theorem F2(h:handlesMet Tryz.prog [("errors.errorType",Rows.laid_errors_errorType)] W):m8 W:=by
 obtain⟨a,u,f,g,i,j,k,c⟩:=h _ (List.mem_singleton.2 rfl);have d:a=[101,114,114,111,114]:=(Option.some.inj g).symm;subst d;obtain rfl:=Option.some.inj (Je.symm.trans i);have b:f∈(List.range 344).filter fun t=>Tryz.prog.rowNamed t [101,114,114,111,114]:=List.mem_filter.2 ⟨List.mem_range.2 (by rw[<-Ic];exact j),k⟩
 rw[FR] at b;obtain rfl:=List.mem_singleton.1 b;have e:typeHandle Tryz.prog 149=.pointer (some ⟨8,149,none⟩):=by kernel_rfl
 rw[e] at c;unfold m8;simpa using World.var?_cell Jg c 0
theorem Jb:∀ i,i<7->(wd i).data.toList=([[98,121,116,101],[115,104,111,114,116],[119,111,114,100],[105,110,116],[98,111,111,108],[116,101,120,116],[98,121,116,101,115]]:List (List UInt8))[i]?.getD []:=by decide +kernel
theorem CD(h:laidMet Tryz.prog [("sluice/describe.words",Rows.laid_sluice_describe_words)] W):Words W:=by
 obtain⟨v,⟨w,x,j,A,B,C,e,Ix,k,m,_⟩,_,_⟩:=h;obtain rfl:=Option.some.inj (Jf.symm.trans e);obtain rfl:=Option.some.inj (Jc.symm.trans Ix);obtain⟨p,D,rfl,f,aX,s,n⟩:=DataW.trod_array Tryz.underlying312 m;simp only[Prod.mk.injEq] at f;intro i o;obtain⟨y,q⟩:∃ y,p[i]?=some y:=⟨p[i]'(by omega),by simp⟩;have b:=n i o;rw[q,Jj] at b;obtain⟨g,t,u,_⟩:=DataW.trod_string Tryz.underlying9 b;have a:=congrArg (fun l=>match l with|DataW.agg z=>z[i]?|_=>none) f.1;simp only[List.getElem?_map,q,Option.map_some,u] at a
 have c:g=wd i:=by
  apply Go.WideShapes.bytes_inj;rw[Jb i o]
  match i,o with
  | 0,_=>simpa[Rows.laid_sluice_describe_words] using a.symm
  | 1,_=>simpa[Rows.laid_sluice_describe_words] using a.symm
  | 2,_=>simpa[Rows.laid_sluice_describe_words] using a.symm
  | 3,_=>simpa[Rows.laid_sluice_describe_words] using a.symm
  | 4,_=>simpa[Rows.laid_sluice_describe_words] using a.symm
  | 5,_=>simpa[Rows.laid_sluice_describe_words] using a.symm
  | 6,_=>simpa[Rows.laid_sluice_describe_words] using a.symm
 have r:=World.var?_cell e k i;rw[r]
 have d:j.toList[i]?=some (.string g):=by
  have:=congrArg (fun l=>l[0]?) t
  simp only[Nat.mul_one] at this;rw[List.getElem?_take_of_lt (by omega),List.getElem?_drop] at this;simpa using this
 rw[<-c];simpa using d
theorem GW(h:laidMet Tryz.prog [("internal/strconv.uint64pow10",Rows.laid_internal_strconv_uint64pow10)] W):ey W:=by
 rw[II] at h;exact Lib.tabIs_of_head Hh Jd Tryz.underlying309 Tryz.underlying233 Jh Ji h
def oX:List (String×DataW Unit):=[("math/bits.deBruijn32tab",Rows.laid_math_bits_deBruijn32tab),("math/bits.deBruijn64tab",Rows.laid_math_bits_deBruijn64tab),("internal/strconv.uint64pow10",Rows.laid_internal_strconv_uint64pow10),("unicode/utf8.acceptRanges",Rows.laid_unicode_utf8_acceptRanges),("errors.errorType",Rows.laid_errors_errorType),("sluice/describe.words",Rows.laid_sluice_describe_words),("unicode/utf8.first",Rows.laid_unicode_utf8_first)]
theorem Hj:(oX.filter fun x=>x.2.handleName?.isNone).filter (fun x=>x.1== "sluice/describe.words")=[("sluice/describe.words",Rows.laid_sluice_describe_words)]:=by kernel_rfl
theorem IY:(oX.filter fun x=>x.2.handleName?.isNone).filter (fun x=>x.1== "internal/strconv.uint64pow10")=[("internal/strconv.uint64pow10",Rows.laid_internal_strconv_uint64pow10)]:=by kernel_rfl
theorem IZ:oX.filter (fun x=>x.2.handleName?.isSome)=[("errors.errorType",Rows.laid_errors_errorType)]:=by kernel_rfl
theorem DV(h:laidMetH Tryz.prog oX W):Words W/\m8 W/\ey W:=by
 obtain⟨c,d⟩:=laidMetH_iff.1 h;have a:=c.filter (fun x=>x.1== "sluice/describe.words");have b:=c.filter (fun x=>x.1== "internal/strconv.uint64pow10");rw[Hj] at a;rw[IY] at b;rw[IZ] at d;exact⟨CD a,F2 d,GW b⟩
def zr:List String:=["math/bits.deBruijn32tab", "math/bits.deBruijn64tab", "internal/strconv.uint64pow10", "unicode/utf8.acceptRanges", "sluice/describe.words", "unicode/utf8.first"]
noncomputable def witW (os:Os):World:=(World.doorLaid Tryz.prog 400 os).layVars Tryz.prog ((oX.filter fun x=>x.2.handleName?.isNone).filter fun x=>zr.contains x.1)
theorem CE(args:Array Value)(w:World):(w.forCall (fun _ _=>0) ⟨#[],args,[]⟩).memory.heap=w.heap:=rfl
theorem E3(os:Os)(args:Array Value):laidMetH Tryz.prog oX ((witW os).forCall (fun _ _=>0) ⟨#[],args,[]⟩).memory :=
 laidMetH_of_parts (laidMet_layVars (w0:=World.doorLaid Tryz.prog 400 os) zr [] (CE args (witW os)) (by kernel_rfl) (by kernel_rfl) (by
  rw[show((oX.filter fun x=>x.2.handleName?.isNone).filter fun x=>!zr.contains x.1)=[] by kernel_rfl]
  exact LaidIn.none)) (by kernel_rfl)
theorem Il{a b:Bool}(h1:a=true)(h2:b=true):(a&&b)=true:=by rw[h1,h2];rfl
theorem wG:laidOutB Tryz.checked.prog=true:=by kernel_rfl
theorem yO:mapsRowed Tryz.checked.prog=true:=by kernel_rfl
theorem wA:Tryz.checked.prog.stopsHeard=true:=by kernel_rfl
theorem Bp:Tryz.checked.prog.mayEnter=true:=by kernel_rfl
end Go.Proofs.YtpffifpbpmlhdaaGreatDoor
