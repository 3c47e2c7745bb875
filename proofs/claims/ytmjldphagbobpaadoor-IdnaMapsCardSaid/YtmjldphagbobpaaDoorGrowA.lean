import Derived.Test.YtmjldphagbobpaaDoorBldS
import Derived.Shelf.Strings.Builder2
set_option linter.unusedVariables false
set_option linter.unusedSimpArgs false
namespace Go.Proofs.YtmjldphagbobpaaDoor
open IntKind (i64 u8 i32 u32 u64)
open Go.Proofs Go.Shelf Go.RowKit
variable {P:Program} {ρ:Ren}
def grownHeap (w:World)(g:Nat)(cs:Array Value)(e:TypeId):Array Obj:=
  ((w.alloc (.cells cs e)).setCell ⟨g,1,none⟩ (.slice (some ⟨w.heap.size,0,none⟩) 0 cs.size)).heap
theorem grown_comm (w:World)(g:Nat)(v:Value)(o:Obj)(hlt:g<w.heap.size):((w.setCell ⟨g,1,none⟩ v).alloc o).heap=((w.alloc o).setCell ⟨g,1,none⟩ v).heap:=by
  simp only[World.setCell,World.alloc]
  apply Array.ext_getElem?
  intro k
  simp only[Array.getElem?_push,Array.getElem?_modify,Array.size_modify]
  by_cases h1:k=w.heap.size
  ·subst h1
   simp[Nat.ne_of_lt hlt]
  ·simp[h1]
set_option maxHeartbeats 2000000 in
set_option maxRecDepth 1000000 in
theorem grow_exact (L:Lays.n241 P ρ)(X:Builder.Extra P ρ)(g n:Nat)(w:World)(c0:w.cell? ⟨g,1,none⟩=some (.slice none 0 0))(f0:w.frozen? ⟨g,1,none⟩=false)(hlt:g<w.heap.size)(hn:n≤281474976710656):
    ∃cs:Array Value,n≤cs.size∧cs.size≤maxLen∧Calls P (ρ.f 241) #[.pointer (some ⟨g,0,none⟩),.int .i64 n] w fun e w'=>e= .returned (.tuple #[])∧w'.os=w.os∧w'.tape=w.tape∧w'.output=w.output∧w'.heap=grownHeap w g cs (ρ.t 5):=by
  obtain⟨cs,hrun,hle,hmax⟩:=Lib.run_makeNoZero (P:=P) w.drew #[(ρ.t 3)] (ρ.t 37) (ρ.t 5) L.t37 n hn
  refine⟨cs,hle,hmax (by unfold maxLen;omega),?_⟩
  have hw:i64.wrap (i64.wrap 0+(n:Int))=n:=by
    rw[IntKind.wrap_i64,IntKind.wrap_i64]
    omega
  have hcall:(callFunc (ρ.f 277) #[.int .i64 (i64.wrap (i64.wrap 0+(n:Int)))]).run P w.drew= .ok (.value (.slice (some ⟨w.drew.heap.size,0,none⟩) n cs.size)) (w.drew.drew.drew.alloc (.cells cs (ρ.t 5))):=by
    rw[hw,run_callFunc_extern L.f277 (by kernel_rfl) (by kernel_rfl) (by kernel_rfl) (e:=Extern.BytealgMakeNoZero.makeNoZero #[(ρ.t 3)] #[(ρ.t 37)]) (by kernel_rfl),hrun]
    rfl
  have c1:w.drew.cell? ⟨g,1,none⟩=some (.slice none 0 0):=c0
  have c2:(w.alloc (.cells cs (ρ.t 5))).cell? ⟨g,1,none⟩=some (.slice none 0 0):=by
    rw[World.cell?_alloc_lt w _ ⟨g,1,none⟩ hlt];exact c0
  have f2:(w.alloc (.cells cs (ρ.t 5))).frozen? ⟨g,1,none⟩=false:=by
    rw[World.frozen?_alloc_old w _ ⟨g,1,none⟩ (Nat.ne_of_lt hlt)];exact f0
  have hcopy:∀W:World,(Builtin.copy_ #[(ρ.t 37),(ρ.t 37)] (ρ.t 3) #[.slice (some ⟨w.heap.size,0,none⟩) 0 cs.size,.slice none 0 0]).run P W= .ok (goInt 0) W:=
    fun W=>run_copy_none W (ρ.t 37) (ρ.t 37) (ρ.t 3) (ρ.t 5) _ _ 0 cs.size 0 0 L.t37 X.sizeByte rfl
  clear hw
  have mixed:=L.mixed
  have t72:=L.t72;have a72:=L.a72;have z72:=L.z72;have v72:=L.v72;have u72:=run_underlying L.t72
  have t70:=L.t70;have a70:=L.a70;have z70:=L.z70;have v70:=L.v70;have u70:=run_underlying L.t70
  have t37:=L.t37;have a37:=L.a37;have z37:=L.z37;have v37:=L.v37;have u37:=run_underlying L.t37
  have t3:=L.t3;have a3:=L.a3;have z3:=L.z3;have v3:=L.v3;have u3:=run_underlying L.t3
  have t5:=X.t5;have a5:=X.a5;have z5:=X.z5;have v5:=X.v5;have u5:=run_underlying X.t5
  have hfin:(((w.setCell ⟨g,1,none⟩ (.slice (some ⟨w.heap.size,0,none⟩) 0 cs.size)).alloc (.cells cs (ρ.t 5))).drew.drew.drew).heap=grownHeap w g cs (ρ.t 5):=grown_comm w g _ _ hlt
  go_enter L.f241,Body.n241_ntmps ρ
  go_wp2
  go_region_o
  all_goals(go_wp2;go_end0;exact⟨rfl,rfl,rfl,rfl,hfin⟩)
end Go.Proofs.YtmjldphagbobpaaDoor
