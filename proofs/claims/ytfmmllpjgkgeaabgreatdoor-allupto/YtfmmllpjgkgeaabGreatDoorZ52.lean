import Derived.Test.YtfmmllpjgkgeaabGreatDoorCards
import Derived.Test.YtfmmllpjgkgeaabGreatDoorTie
import Derived.Deep.DeepHandedRow
import Derived.Lay
import Derived.Test.YtfmmllpjgkgeaabGreatDoorZ46
import Derived.Test.YtfmmllpjgkgeaabGreatDoorZ48
import Derived.Test.YtfmmllpjgkgeaabGreatDoorZ49
import Derived.Test.YtfmmllpjgkgeaabGreatDoorZ50
set_option linter.all false
set_option maxHeartbeats 0
set_option maxRecDepth 100000
namespace Go.Proofs.YtfmmllpjgkgeaabGreatDoor
section
open Go.Proofs.Tryz Go.RowKit
def YO:JD EI:=⟨λ_ _ _ _ ⟨_,_,_,_,_,_,h⟩=>SA h.r⟩
def YP(w:World)(a:Glob w)(v:Value)(l:List dM)(b:yV w v l)(c:l.length<=1048576)(d:∀o∈l,o.ok):Calls prog 4 #[v] w λe w'=>e=.returned (.bool true)/\Below w.heap.size w w':=ak8 NG YK RQ YO AV vg w a v l b c d
end
section
open Go.Proofs.Tryz Go.ChangeShapes Go.WideShapes Go.Deep
variable{W:World}
def g0:prog.globalNamed "internal/bytealg.MaxLen" = some 0:=by kernel_rfl
def g1:prog.globalNamed "strconv.ErrSyntax" = some 1:=by kernel_rfl
def g2:prog.globalNamed "strconv.ErrRange" = some 2:=by kernel_rfl
def g3:prog.globalNamed "internal/strconv.uint64pow10" = some 3:=by kernel_rfl
def low:3<prog.globals.size:=of_decide_eq_true (by kernel_rfl)
def EJ(a:W.ShapedOpen prog):∃m,W.cell? (z 0)=some (I m) :=
 cell_of_shapedOpen_int (zero:=#[I 0]) (t:=3) a (of_decide_eq_true (by kernel_rfl)) (by kernel_rfl) rfl (by kernel_rfl) (by kernel_rfl) underlying3
def EK(c:laidMetH prog Rows.allUptoRow.laid W):laidMetH prog [("internal/strconv.uint64pow10",Lib.tabData .u64 Lib.pow10Tab)] W:=by
 have a:=laidMetH.filter (λx=>x.1 == "internal/strconv.uint64pow10") c;have b:(Rows.allUptoRow.laid.filter λx=>x.1 == "internal/strconv.uint64pow10")=[("internal/strconv.uint64pow10",Lib.tabData .u64 Lib.pow10Tab)]:=by rfl
 rw[b]at a;exact a
def EL{H:Type}{d:TypeId×Value->H}{P:Program}{w:World}{base:Nat}{g:Nat->Bool}{e:Bool}{b:Nat}{t:TypeId}{f:Array (String×TypeId)}{cs:List Value}{x:DataW H×List MemPlace}(a:P.underlying t=some (.interface f))(h:DataW.trod d P w base g e b t cs=some x):∃v,cs=[v]/\(v=.nilIface\/∃u y,v=.iface u y):=by
 cases b with
 | zero=>simp[DataW.trod]at h
 | succ n =>
  cases cs with
  | nil=>simp[DataW.trod,a]at h
  | cons c r =>
   cases r with
   | nil=>cases c<;>simp[DataW.trod,a]at h⊢
   | cons _ _=>simp[DataW.trod,a]at h
def uD{c:String}{d:DataW Unit}{g:Nat}{t:TypeId}{o:Array (String×TypeId)}(b:prog.globalNamed c=some g)(l:(prog.globals[g]?).map (·.type)=some t)(j:prog.underlying t=some (.interface o))(h:laidMet prog [(c,d)] W):∃a,W.cell? (z g)=some a/\(a=.nilIface\/∃q p,a=.iface q p):=by obtain⟨x,⟨u,A,r,s,w,y,i,k,n,f,_,_⟩,_⟩:=h;obtain rfl:=Option.some.inj (b.symm.trans i);obtain rfl:=Option.some.inj (l.symm.trans k);obtain⟨v,e,m⟩:=EL j f;refine⟨v, ?_,m⟩;rw[World.var?_cell b n 0,<- ϑD,e];rfl
def ty1:(prog.globals[1]?).map (·.type)=some 249:=by kernel_rfl
def ty2:(prog.globals[2]?).map (·.type)=some 249:=by kernel_rfl
def ty3:(prog.globals[3]?).map (·.type)=some 332:=by kernel_rfl
def EM:prog.cellsOf 332=20:=by kernel_rfl
def EN:prog.cellsOf 305=1:=by kernel_rfl
def EO(f:laidMetH prog Rows.allUptoRow.laid W):∃ a,W.cell? (z 1)=some a/\(a=.nilIface\/∃ h g,a=.iface h g):=by have b:=laidMetH.filter (λx=>x.1 == "strconv.ErrSyntax") f;obtain⟨d,c,e⟩:∃ d,(Rows.allUptoRow.laid.filter λx=>x.1 == "strconv.ErrSyntax")=[("strconv.ErrSyntax",d)]/\d.handleName?.isNone=true:=⟨_,rfl,rfl⟩;rw[c,MakeChecks.laidMetH_plain _ _ _ (by simp[e])]at b;exact uD g1 ty1 underlying249 b
def EP(f:laidMetH prog Rows.allUptoRow.laid W):∃ a,W.cell? (z 2)=some a/\(a=.nilIface\/∃ h g,a=.iface h g):=by have b:=laidMetH.filter (λx=>x.1 == "strconv.ErrRange") f;obtain⟨d,c,e⟩:∃ d,(Rows.allUptoRow.laid.filter λx=>x.1 == "strconv.ErrRange")=[("strconv.ErrRange",d)]/\d.handleName?.isNone=true:=⟨_,rfl,rfl⟩;rw[c,MakeChecks.laidMetH_plain _ _ _ (by simp[e])]at b;exact uD g2 ty2 underlying249 b
def uF(b:laidMetH prog Rows.allUptoRow.laid W):Lib.TabIs prog W "internal/strconv.uint64pow10" .u64 Lib.pow10Tab:=by have a:=EK b;rw[MakeChecks.laidMetH_plain _ _ _ (by kernel_rfl)]at a;exact Lib.tabIs_of_head g3 ty3 underlying332 underlying305 EN EM a
def JE(b:W.ShapedOpen prog)(a:laidMetH prog Rows.allUptoRow.laid W):Glob W :=
 ⟨EJ b,EO a,EP a,uF a,ϑA W (z 3) ((uF a).cell g3 0 Ψ)⟩
end
section
open Go.Proofs.Tryz Go.ChangeShapes Go.WideShapes Go.ChangeAt Go.RowKit Go.Deep
def own:ownKnob prog.godebug=none:=by kernel_rfl
def laidOut:laidOutB prog=true:=by kernel_rfl
def contract(H:Type)(c:TypeId×Value->H)(W:World)(args:Array Value)(base:Nat)(ds d:List (DataW H))(s:List MemPlace)(a2:∀(a3:Nat)t v,Tryz.f4.params[a3]?=some t->args[a3]?=some v->Value.okWide prog W .any base t v)(j:DataW.Whole c prog Tryz.f4.params.toList Rows.allSpec.vars false W args.toList ds d s)(i:Rows.uptoSmall H (ds++d)=true)(y:laidMetH prog Rows.allUptoRow.laid W)(A:W.ShapedOpen prog):Calls prog 4 args W λe W'=>∃v,e=.returned v/\Rows.allSpec.post c prog Tryz.f4 false true false false W args v W':=by
 have b:=j;obtain⟨p,q,h,B,rfl,Y,Z⟩:=j;have g:=h;rw[Tryz.params4]at g a2;obtain⟨a,a1,d0,R,M,q0,X,rfl,rfl,f,N⟩:=trodAll_cons g;obtain⟨rfl,rfl,rfl⟩:=trodAll_nil N;obtain rfl:args=#[a]:=by cases args;simp_all
 obtain⟨rfl,rfl⟩:=trodVars_none B;clear h;simp only[List.append_nil]at b i;have k:Rows.uptoBulk d0<=1048576:=by have T:=of_decide_eq_true i;have U:=(yY [d0]).2 d0 (ϑe.2 rfl);omega
 have w:=f;obtain⟨S,m⟩:=f;have C:a.cells.toList=[a]:=by obtain⟨P,a0,Q,rfl⟩:=okWide_slice underlying22 (a2 0 22 a rfl rfl);rfl
 rw[C]at m;obtain⟨l,K,a4⟩:=open_script m;have E:l.length<=1048576:=by
  cases l with
  | nil=>exact Nat.zero_le _
  | cons o r=>exact ς (a4 o (List.mem_cons_self ..) k).2 Ψ
 refine(YP W (JE A y) a l K E (λo G=>(a4 o G k).1)).mono λe W' ⟨D,n⟩=>?_;subst D;have F:∀x∈M,x.block<W.heap.size:=λx L=>by simpa using b.lt x L
 exact⟨_,rfl,_,_,_,[],_,[],b,trodAll_mk1 (shut_bool underlying4 _),trodAll_mk1 (Below.trod laidOut (by kernel_rfl) (of_decide_eq_true (by kernel_rfl)) w n F),rfl,n.frame _,λu=>by cases u⟩
