import Derived.Test.YtkkpahmoljiepaaGreatDoorJ26
set_option maxRecDepth 1000000
set_option maxHeartbeats 12800000
set_option linter.unusedSimpArgs false
set_option linter.unusedVariables false
namespace Go.Proofs.YtkkpahmoljiepaaGreatDoor
open Go.RowKit
def nw:Nat->ai->List ai->Option (List ai×ai)
 | 0,_,_=>none
 | _+1,[],_=>none
 | f+1,c :: t,acc=>if c=0 then some (acc,t)else if 63<c.toNat\/t.length<c.toNat then none else nw f (t.drop c.toNat) (acc++[t.take c.toNat])
def ny(s:ai):Option (ai×List ai×Nat×Nat×Bool×Nat×Nat) :=
 if bO s 4≠1\/bO s 6≠0\/bO s 8≠0\/1<bO s 10 then none
 else match nw (s.length+1) (s.drop 12) []with
  | none=>none
  | some (ls,t) =>
   if 255<s.length - t.length - 12\/t.length<4 then none
   else if bO s 10=0 then(if t.length=4 then some ((s.drop 12).take (s.length - t.length+4 - 12),ls,bO t 0,bO t 2,false,0,0)else none)
   else if t.length<15\/t.getD 4 0≠0\/bO t 5≠41\/15+bO t 13≠t.length then none
   else some ((s.drop 12).take (s.length - t.length+4 - 12),ls,bO t 0,bO t 2,true,bO t 7,(t.getD 10 0).toNat)
end Go.Proofs.YtkkpahmoljiepaaGreatDoor
