import Derived.Test.YtmjldphagbobpaaDoorBas
set_option linter.unusedVariables false
set_option linter.unusedSimpArgs false
namespace Go.Proofs.YtmjldphagbobpaaDoor
open Go.RowKit
def letterI (n:Int):Bool:=decide (65≤n∧n≤90)||decide (97≤n∧n≤122)
def largeI (n:Int):Bool:=decide (65≤n∧n≤90)
def worthI (n:Int):Int:=if 48≤n∧n≤57 then n-48 else if 97≤n∧n≤122 then n-87 else if 65≤n∧n≤90 then n-55 else-1
def f3_ (n b:Int):Int:=if worthI n<b then worthI n else-1
def digitSpec:Spec
  | [.c (.int .u8 n),.c (.int .i64 b)]=>some (.c (.int .i64 (f3_ n b)),[0≤n,n<256])
  |_=>none
end Go.Proofs.YtmjldphagbobpaaDoor
