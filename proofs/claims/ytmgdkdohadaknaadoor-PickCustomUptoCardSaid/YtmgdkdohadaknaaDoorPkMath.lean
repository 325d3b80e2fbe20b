/- What layer 28 answers, over plain lists. -/
import Derived.Test.YtmgdkdohadaknaaDoorCalm
set_option linter.unusedSimpArgs false
set_option linter.unusedVariables false
namespace Go.Proofs.YtmgdkdohadaknaaDoor.pick

/-- A candidate. -/
structure Cd where
  app : ByteArray
  c : Bool
  v : Bool
  l : Bool
  o : Bool
def noCd : Cd := ⟨⟨#[]⟩, false, false, false, false⟩
def ready (x : Cd) : Bool := x.c && x.v && x.l && !x.o
def isOff (x : Cd) : Bool := x.c && x.v && x.l && x.o
def isRules (x : Cd) : Bool := x.c && x.v
def isUnknown (x : Cd) : Bool := x.c
/-- The apps of those that are ready. -/
def appsOf (L : List Cd) : List ByteArray := (L.filter ready).map Cd.app
/-- Why none is ready. -/
def whyNone (L : List Cd) : Int := if L.any isOff then 7 else if L.any isRules then 6 else if L.any isUnknown then 5 else 4
/-- How far one came. -/
def rank (x : Cd) : Int := if isOff x then 7 else if isRules x then 6 else if isUnknown x then 5 else 4
/-- An answer. -/
structure An where
  kind : Int
  apps : List ByteArray
  why : Int
def opened (l : List ByteArray) : An := if l.length = 1 then ⟨3, l, 8⟩ else ⟨4, l, 9⟩
def customA (l : List ByteArray) : An := if l = [] then ⟨1, [], 4⟩ else opened l
def webA (L : List Cd) : An := if appsOf L = [] then ⟨2, [], whyNone L⟩ else opened (appsOf L)

theorem appsOf_snoc (L : List Cd) (x : Cd) : appsOf (L ++ [x]) = if ready x then appsOf L ++ [x.app] else appsOf L := by
  unfold appsOf
  rw [List.filter_append]
  cases h : ready x <;> simp [h]
theorem any_snoc (L : List Cd) (x : Cd) (p : Cd → Bool) : (L ++ [x]).any p = (L.any p || p x) := by simp
theorem whyNone_snoc (L : List Cd) (x : Cd) : whyNone (L ++ [x]) = if rank x > whyNone L then rank x else whyNone L := by
  unfold whyNone rank
  simp only [any_snoc]
  cases L.any isOff <;> cases L.any isRules <;> cases L.any isUnknown <;> cases isOff x <;> cases isRules x <;> cases isUnknown x <;> decide
theorem whyNone_nil : whyNone [] = 4 := rfl
theorem opened_kind (l : List ByteArray) : (opened l).apps = l := by unfold opened; split <;> rfl

/-- Are two answers one? -/
def sameA (a b : An) : Bool := decide (a.kind = b.kind) && decide (a.why = b.why) && decide (a.apps = b.apps)
theorem sameA_self (a : An) : sameA a a = true := by simp [sameA]
end Go.Proofs.YtmgdkdohadaknaaDoor.pick
