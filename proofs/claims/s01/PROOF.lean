import PyProof.Rows.All
import Wide.All
import OpenK.AllK
import Wide.FinOn
import PyProof.EqAt
import PyProof.EqKinds
import PyProof.TupleCall
import KE.KStateDown
import Open.SpecLaws
import KE.OsGo
import HandS.ForSpec
import HandS.Comp
import HandS.Text
import HandS.Iter
import HandS.Flow
import HandS.FStr
import HandS.Codes
import HandS.CallLocal
import HandS.TryMany
import HandS.ExcInit
import HandS.ExcField
import HandS.ExcSuper
import HandS.Small
import HandS.NoneIn
import HandS.SortInts
import HandS.Conv
import HandS.Walk
import Lean
import HandS.Head0
import HandS.Head1
import HandS.Head2
import HandS.HeadHook1
import HandS.HeadHook2
import KE.OsHead
import PySem.Challenge.RW_cardlocks_s01_answers
set_option Elab.async false
set_option maxRecDepth 100000
set_option maxHeartbeats 4000000
/-! # Short words over the layer: defs, methods and classes, each with its promise, by name -/
namespace Cl
open PySem PySem.Spec PyProof.Rows L2
abbrev Fr := PySem.W.Frag
abbrev KeepT (K : Fr) (f : Addr) : Prop := PySem.W.keepIn K (.ref f) = true
section
variable (P : Program) (w : World) (K : Fr) (mg : Str → Option Value) (base : Heap) (c : CXT) (k : Nat)
/-- the module's def x keeps sp -/
def Df (x : Str) (sp : Sp) : Prop := ∃ (f : Addr) (fd : FuncData) (ps : List Str), FnOk P w K mg base c k f fd ps sp ∧ mg x = some (.ref f) ∧ KeepT K f ∧ Binds K fd ps []
/-- the method m of the class at C keeps sp -/
def Mt (C : Addr) (m : Str) (sp : Sp) : Prop := ∃ (f : Addr) (fd : FuncData) (ps : List Str), Cls K C ∧ Meth K C m f ∧ FnOk P w K mg base c k f fd ps sp ∧ Binds K fd ps []
/-- the class x, at C, may be called, and its __init__ keeps sp -/
def Mke (x : Str) (C : Addr) (sp : Sp) : Prop := ∃ (f : Addr) (fd : FuncData) (ps : List Str), Mk K C f ∧ mg x = some (.ref C) ∧ FnOk P w K mg base c k f fd ps sp ∧ Binds K fd ps []
end
theorem pass_up {X : Cx} {E : XK} (tk : Takes X (fun cls d _ H => E cls d H)) : Passes (L2.CX X.prog X.w) X E := passes_call tk fun _ _ _ _ h => h
section
variable {X : Cx} {c : CXT} {k j : Nat} {C : Addr} {x m : Str} {sp : Sp} {p pos apos : Pos} {e o : Expr} {es : List Expr} {ta : TE} {t : TA} {E : XK}
theorem pe_d (D : Df X.prog X.w X.K X.mg X.base c k x sp) (hx : Passes c X E) (hr : Room j X.A) (hk : k ≤ j) (hg : Gl X x) (ha : PA X (e :: es) t)
    (h1 : (x == ("__debug__" : Str)) = false := by decide) (h2 : starEach (e :: es) X.env = (false, eval e X.env) :: starEach es X.env := by rfl) (h3 : (backTo pos (starEach es X.env)).any (·.1) = false := by rfl) :
    PE X (.Call (.Name x p) (e :: es) [] pos) (tCall sp [] E t) := by
  obtain ⟨f, fd, ps, F, hm, kp, b⟩ := D
  exact pe_call F (hr.mono hk) hg hm kp b .nil hx ha h1 h2 h3
theorem pe_d0 (D : Df X.prog X.w X.K X.mg X.base c k x sp) (hx : Passes c X E) (hr : Room j X.A) (hk : k ≤ j) (hg : Gl X x)
    (h1 : (x == ("__debug__" : Str)) = false := by decide) :
    PE X (.Call (.Name x p) [] [] pos) (tCall sp [] E tNil) := by
  obtain ⟨f, fd, ps, F, hm, kp, b⟩ := D
  exact pe_call0 F (hr.mono hk) hg hm kp b .nil hx h1
theorem pe_m {pl : Sem Bool} (D : Mt X.prog X.w X.K X.mg X.base c k C m sp) (hx : Passes c X E) (hr : Room j X.A) (hk : k ≤ j) (he : PE X o ta) (ha : PA X (e :: es) t)
    (h1 : starEach (e :: es) X.env = (false, eval e X.env) :: starEach es X.env := by rfl) (h2 : (backTo pos (starEach es X.env)).any (·.1) = false := by rfl)
    (h3 : eval (.Call (.Attribute o m apos) (e :: es) [] pos) X.env = (do
      let z ← eval o X.env
      standAt apos.atName
      let (g, l) ← holding [z] (getMethod z m pl)
      callWith pos g l (backTo pos (starEach (e :: es) X.env)) (backToKw pos (keywordEach [] X.env))) := by rfl) :
    PE X (.Call (.Attribute o m apos) (e :: es) [] pos) (tMeth C m sp [] E ta t) := by
  obtain ⟨f, fd, ps, hc, hm, F, b⟩ := D
  exact pe_meth (pl := pl) he hc hm F (hr.mono hk) b .nil hx ha h1 h2 h3
theorem pe_m0' {pl : Sem Bool} (D : Mt X.prog X.w X.K X.mg X.base c k C m sp) (hx : Passes c X E) (hr : Room j X.A) (hk : k ≤ j) (he : PE X o ta)
    (h3 : eval (.Call (.Attribute o m apos) [] [] pos) X.env = (do
      let z ← eval o X.env
      standAt apos.atName
      let (g, l) ← holding [z] (getMethod z m pl)
      callWith pos g l (backTo pos (starEach [] X.env)) (backToKw pos (keywordEach [] X.env))) := by rfl) :
    PE X (.Call (.Attribute o m apos) [] [] pos) (tMeth C m sp [] E ta tNil) := by
  obtain ⟨f, fd, ps, hc, hm, F, b⟩ := D
  exact pe_meth0 (pl := pl) he hc hm F (hr.mono hk) b .nil hx h3
theorem pe_k (D : Mke X.prog X.w X.K X.mg X.base c k x C sp) (hx : Passes c X E) (hr : Room j X.A) (hk : k + 1 ≤ j) (hg : Gl X x) (ha : PA X (e :: es) t)
    (h1 : (x == ("__debug__" : Str)) = false := by decide) (h2 : starEach (e :: es) X.env = (false, eval e X.env) :: starEach es X.env := by rfl) (h3 : (backTo pos (starEach es X.env)).any (·.1) = false := by rfl) :
    PE X (.Call (.Name x p) (e :: es) [] pos) (tMake C sp [] E t) := by
  obtain ⟨f, fd, ps, M, hm, F, b⟩ := D
  exact pe_make M F (hr.mono hk) hg hm b .nil hx ha h1 h2 h3
theorem pe_k0 (D : Mke X.prog X.w X.K X.mg X.base c k x C sp) (hx : Passes c X E) (hr : Room j X.A) (hk : k + 1 ≤ j) (hg : Gl X x)
    (h1 : (x == ("__debug__" : Str)) = false := by decide) :
    PE X (.Call (.Name x p) [] [] pos) (tMake C sp [] E tNil) := by
  obtain ⟨f, fd, ps, M, hm, F, b⟩ := D
  exact pe_make0 M F (hr.mono hk) hg hm b .nil hx h1
end
/-- a constant of the module -/
def Gv (mg : Str → Option Value) (x : Str) (v : V) : Prop := ∃ u, mg x = some u ∧ RelV v u
theorem pe_gv {X : Cx} {x : Str} {v : V} {pos : Pos} (hg : Gl X x) (h : Gv X.mg x v) (h1 : (x == ("__debug__" : Str)) = false := by decide) : PE X (.Name x pos) (tC v) := by
  obtain ⟨u, hm, r⟩ := h
  exact pe_glob hg hm r h1
/-- a while, by what holds between its turns and a number that falls -/
theorem while_go {c : TT} {tb : TS} {D : Ends} {σ : L2.St} {H : Hp} (Pv : L2.St → Hp → Prop) (mu : L2.St → Hp → Nat) (h0 : Pv σ H)
    (hs : ∀ σ H, Pv σ H → c σ H fun b H1 => if b = true then ∃ N : L2.St → Hp → Prop, (∀ σ' H', N σ' H' → ∃ m', m' < mu σ H ∧ m' = mu σ' H' ∧ Pv σ' H') ∧ tb { D with nx := N, ct := N, bk := D.nx } σ H1 else D.nx σ H1) :
    tWhile c tb D σ H := by
  refine ⟨fun m σ H => m = mu σ H ∧ Pv σ H, ⟨_, rfl, h0⟩, ?_⟩
  rintro m σ H ⟨rfl, p⟩
  exact hs σ H p
theorem d_yes {a b : Int} (h : a = b) : decide (V.int a = V.int b) = true := decide_eq_true (congrArg V.int h)
theorem d_no {a b : Int} (h : a ≠ b) : decide (V.int a = V.int b) = false := decide_eq_false fun q => h (V.int.inj q)
theorem ds_yes {a b : Str} (h : a = b) : decide (V.str a = V.str b) = true := decide_eq_true (congrArg V.str h)
theorem ds_no {a b : Str} (h : a ≠ b) : decide (V.str a = V.str b) = false := decide_eq_false fun q => h (V.str.inj q)
/-- the program's i-th row -/
def top (i : Nat) : Stmt := PySem.Challenge.pw_cardlocks_s01_answers.main.body.getD i (.Pass ⟨0, 0, 0, 0⟩)
theorem if_yes {c : Bool} {A B : Prop} (hc : c = true) (h : A) : if c = true then A else B := by
  rw [if_pos hc]
  exact h
theorem if_no {c : Bool} {A B : Prop} (hc : c = false) (h : B) : if c = true then A else B := by
  rw [if_neg (by rw [hc]; exact Bool.false_ne_true)]
  exact h
end Cl
set_option Elab.async false
set_option maxRecDepth 100000
set_option maxHeartbeats 4000000
/-! # Heaps: what stands, what is new, what has changed -/
namespace Cl
open PySem PySem.Spec PyProof.Rows L2
theorem lkh {k : Str} {v : V} {r : List (Str × V)} : List.lookup k ((k, v) :: r) = some v := by
  have e : (k == k) = true := beq_self_eq_true k
  simp only [List.lookup, e]
theorem lkp {k g : Str} {v x : V} {r : List (Str × V)} (h : List.lookup k r = some x) (d : (k == g) = false := by decide +kernel) : List.lookup k ((g, v) :: r) = some x := by
  simp only [List.lookup, d]
  exact h
theorem lkn {k g : Str} {v : V} {r : List (Str × V)} (h : List.lookup k r = none) (d : (k == g) = false := by decide +kernel) : List.lookup k ((g, v) :: r) = none := by
  simp only [List.lookup, d]
  exact h
theorem lk0 {k : Str} : List.lookup k ([] : List (Str × V)) = none := rfl
theorem pth {f : Str} {v x : V} {r : List (Str × V)} : putF f v ((f, x) :: r) = (f, v) :: r := if_pos rfl
theorem ptp {f g : Str} {v x : V} {r r2 : List (Str × V)} (h : putF f v r = r2) (d : ¬ g = f := by decide +kernel) : putF f v ((g, x) :: r) = (g, x) :: r2 := (if_neg d).trans (congrArg _ h)
/-- all stands, but what is at a -/
def But (a : Addr) (H H' : Hp) : Prop := ∀ b o, H b = some o → b ≠ a → H' b = some o
theorem But.refl (a : Addr) (H : Hp) : But a H H := fun _ _ e _ => e
theorem But.of_same {a : Addr} {H H' : Hp} (s : Same H H') : But a H H' := fun b o e _ => s b o e
theorem But.trans {a : Addr} {H H1 H2 : Hp} (x : But a H H1) (y : But a H1 H2) : But a H H2 := fun b o e n => y b o (x b o e n) n
theorem But.upd {a : Addr} {H : Hp} {o : HO} : But a H (upd H a o) := fun b u e n => by
  rw [upd_ne n]
  exact e
/-- what is changed was new: all that was there stands -/
theorem But.same {a : Addr} {H H' : Hp} (x : But a H H') (n : H a = none) : Same H H' := fun b o e => x b o e (ne_of_none e n)
theorem Same.new {H : Hp} {p : Addr} {o : HO} (n : H p = none) : Same H (upd H p o) := fun b u e => by
  rw [upd_ne (ne_of_none e n)]
  exact e
theorem Same.then {H H1 H2 : Hp} (a : Same H H1) (b : Same H1 H2) : Same H H2 := a.trans b
theorem But.seq {K : Fr} {a : Addr} {H H' : Hp} {L : Addr} {xs : List V} {C dx : Addr} {fs : List (Str × V)} (x : But a H H') (ha : H a = some (.ins C dx fs)) (h : SqL K H L xs) : SqL K H' L xs := by
  rcases h with (h | ⟨o, h⟩) | h
  · exact .inl (.inl (x _ _ h (ne_of h ha (by intro z; cases z))))
  · exact .inl (.inr ⟨o, x _ _ h (ne_of h ha (by intro z; cases z))⟩)
  · exact .inr h
theorem Same.tup {K : Fr} {H H' : Hp} {a : Addr} {xs : List V} (e : Same H H') (h : SqT K H a xs) : SqT K H' a xs := by
  rcases h with (h | ⟨o, h⟩) | h
  · exact .inl (.inl (e _ _ h))
  · exact .inl (.inr ⟨o, e _ _ h⟩)
  · exact .inr h
/-- a new instance, then its __init__ -/
theorem made {H H1 : Hp} {x dx C : Addr} {r : List (Str × V)} (nx : H x = none) (nd : H dx = none) (k : But x (upd (upd H dx (.own x)) x (.ins C dx r)) H1) : Same H H1 := fun b o e =>
  k b o (by rw [upd_ne (ne_of_none e nx), upd_ne (ne_of_none e nd)]; exact e) (ne_of_none e nx)
/-- a slice from i to j -/
theorem cut_mid {xs : List V} {i j : Nat} (h : i ≤ j) (h2 : j ≤ xs.length) : cutV xs (some (i : Int)) (some (j : Int)) = (xs.drop i).take (j - i) := by
  unfold cutV HT.sIx
  simp only
  have e1 : min (i : Int) (xs.length : Int) = i := by omega
  have e2 : min (j : Int) (xs.length : Int) = j := by omega
  simp [show ¬ ((i : Int) < 0) by omega, show ¬ ((j : Int) < 0) by omega, Nat.min_eq_left h2, Nat.min_eq_left (Nat.le_trans h h2)]
theorem small_line {n : Nat} (h : n ≤ 16777216) : n ≤ sizeLine := by
  rw [sizeLine_eq]
  exact h
theorem less_line {n : Nat} (h : n < 16777216) : n < sizeLine := by
  rw [sizeLine_eq]
  exact h
/-- numbers as values -/
abbrev VI (l : List Int) : List V := l.map V.int
abbrev VN (l : List Nat) : List V := l.map fun n : Nat => V.int n
/-- new lists at rs, the rows xs -/
def Rws (H : Hp) (rs : List Addr) (xs : List (List Int)) : Prop := rs.length = xs.length ∧ ∀ (j : Nat) (a : Addr) (x : List Int), rs[j]? = some a → xs[j]? = some x → H a = some (.lst (VI x))
theorem Rws.same {H H' : Hp} {rs : List Addr} {xs : List (List Int)} (h : Rws H rs xs) (s : Same H H') : Rws H' rs xs := ⟨h.1, fun j a x e1 e2 => s _ _ (h.2 j a x e1 e2)⟩
theorem Rws.nil (H : Hp) : Rws H [] [] := ⟨rfl, fun j a x e _ => by simp at e⟩
theorem Rws.snoc {H : Hp} {rs : List Addr} {xs : List (List Int)} {d : Addr} {x : List Int} (h : Rws H rs xs) (hd : H d = some (.lst (VI x))) : Rws H (rs ++ [d]) (xs ++ [x]) := by
  refine ⟨by rw [List.length_append, List.length_append, h.1]; rfl, fun j a y e1 e2 => ?_⟩
  by_cases c : j < rs.length
  · rw [List.getElem?_append_left c] at e1
    rw [List.getElem?_append_left (by rw [← h.1]; exact c)] at e2
    exact h.2 j a y e1 e2
  · rw [List.getElem?_append_right (Nat.le_of_not_lt c)] at e1
    rw [List.getElem?_append_right (by rw [← h.1]; exact Nat.le_of_not_lt c), ← h.1] at e2
    cases q : j - rs.length with
    | zero =>
      rw [q] at e1 e2
      simp at e1 e2
      subst e1 e2
      exact hd
    | succ n =>
      rw [q] at e1
      simp at e1
end Cl
set_option Elab.async false
set_option maxRecDepth 100000
/-! # The tokens: all of a text (as the program makes them) and those up to the first invalid one (as the specification does) -/
namespace Cl
open Vbndal
inductive TV where
  | word (w : List Nat)
  | num (n : Nat)
  | semi
  | bad
  | fin
structure Tk where
  v : TV
  off : Nat
  fin : Nat
/-- the token that begins a rest -/
def tkOf (i : Nat) : List Nat → Tk
  | [] => ⟨.bad, i, i + 1⟩
  | c :: t => if isLetter c = true then (if 8 < ((c :: t).takeWhile isLetter).length then ⟨.bad, i, i + ((c :: t).takeWhile isLetter).length⟩ else ⟨.word ((c :: t).takeWhile isLetter), i, i + ((c :: t).takeWhile isLetter).length⟩)
    else if isDigit c = true then (if 3 < ((c :: t).takeWhile isDigit).length ∨ (1 < ((c :: t).takeWhile isDigit).length ∧ c = 48) then ⟨.bad, i, i + ((c :: t).takeWhile isDigit).length⟩
      else ⟨.num (decimalValue ((c :: t).takeWhile isDigit)), i, i + ((c :: t).takeWhile isDigit).length⟩)
    else if c = 59 then ⟨.semi, i, i + 1⟩ else ⟨.bad, i, i + 1⟩
theorem tk_cons (i c : Nat) (t : List Nat) : tkOf i (c :: t) = if isLetter c = true then (if 8 < ((c :: t).takeWhile isLetter).length then ⟨.bad, i, i + ((c :: t).takeWhile isLetter).length⟩ else ⟨.word ((c :: t).takeWhile isLetter), i, i + ((c :: t).takeWhile isLetter).length⟩)
    else if isDigit c = true then (if 3 < ((c :: t).takeWhile isDigit).length ∨ (1 < ((c :: t).takeWhile isDigit).length ∧ c = 48) then ⟨.bad, i, i + ((c :: t).takeWhile isDigit).length⟩
      else ⟨.num (decimalValue ((c :: t).takeWhile isDigit)), i, i + ((c :: t).takeWhile isDigit).length⟩)
    else if c = 59 then ⟨.semi, i, i + 1⟩ else ⟨.bad, i, i + 1⟩ := rfl
def toksFrom : Nat → Nat → List Nat → List Tk
  | 0, _, _ => []
  | _ + 1, _, [] => []
  | f + 1, i, c :: t => if c = 32 ∨ c = 10 then toksFrom f (i + 1) t else tkOf i (c :: t) :: toksFrom f (tkOf i (c :: t)).fin ((c :: t).drop ((tkOf i (c :: t)).fin - i))
def allToks (text : List Nat) : List Tk := toksFrom (text.length + 1) 0 text ++ [⟨.fin, text.length, text.length⟩]
/-- what the specification sees of a row of tokens -/
def conv : List Tk → Tokens
  | [] => []
  | k :: r => match k.v with
    | .word w => (k.off, .word w) :: conv r
    | .num n => (k.off, .number n) :: conv r
    | .semi => (k.off, .semicolon) :: conv r
    | .bad => [(k.off, .invalid)]
    | .fin => []
theorem tw_pos {p : Nat → Bool} {c : Nat} {t : List Nat} (h : p c = true) : 0 < ((c :: t).takeWhile p).length := by
  rw [List.takeWhile_cons, if_pos h]
  exact Nat.succ_pos _
theorem tw_le (p : Nat → Bool) : ∀ l : List Nat, (l.takeWhile p).length ≤ l.length := fun l => (List.takeWhile_sublist p).length_le
theorem tk_fin (i c : Nat) (t : List Nat) : i < (tkOf i (c :: t)).fin ∧ (tkOf i (c :: t)).fin ≤ i + (c :: t).length := by
  have h1 := fun (p : Nat → Bool) (h : p c = true) => tw_pos (t := t) h
  have h2 := fun (p : Nat → Bool) => tw_le p (c :: t)
  rw [tk_cons]
  have h3 : 1 ≤ (c :: t).length := Nat.succ_le_succ (Nat.zero_le _)
  split
  · have a := h1 isLetter (by assumption)
    have b := h2 isLetter
    split <;> (dsimp only; omega)
  · split
    · have a := h1 isDigit (by assumption)
      have b := h2 isDigit
      split <;> (dsimp only; omega)
    · split <;> (dsimp only; omega)
theorem conv_end (l : List Tk) (n : Nat) : conv (l ++ [⟨.fin, n, n⟩]) = conv l := by
  induction l with
  | nil => rfl
  | cons k r ih =>
    obtain ⟨v, o, e⟩ := k
    cases v with
    | word w =>
      show (o, Token.word w) :: conv (r ++ _) = (o, Token.word w) :: conv r
      rw [ih]
    | num m =>
      show (o, Token.number m) :: conv (r ++ _) = (o, Token.number m) :: conv r
      rw [ih]
    | semi =>
      show (o, Token.semicolon) :: conv (r ++ _) = (o, Token.semicolon) :: conv r
      rw [ih]
    | bad => rfl
    | fin => rfl
theorem tok_conv : ∀ (f i : Nat) (s : List Nat), tokenizeFrom f i s = conv (toksFrom f i s)
  | 0, _, _ => rfl
  | _ + 1, _, [] => rfl
  | f + 1, i, c :: t => by
    unfold tokenizeFrom toksFrom
    by_cases c1 : c = 32 ∨ c = 10
    · rw [if_pos c1, if_pos c1]
      exact tok_conv f (i + 1) t
    rw [if_neg c1, if_neg c1]
    by_cases c2 : c = 59
    · have n1 : ¬ isLetter c = true := by rw [c2]; decide
      have n2 : ¬ isDigit c = true := by rw [c2]; decide
      have e : tkOf i (c :: t) = ⟨.semi, i, i + 1⟩ := by
        rw [tk_cons, if_neg n1, if_neg n2, if_pos c2]
      rw [if_pos c2, e]
      show _ = (i, Token.semicolon) :: conv (toksFrom f (i + 1) ((c :: t).drop (i + 1 - i)))
      rw [show i + 1 - i = 1 by omega, tok_conv f (i + 1) t]
      rfl
    rw [if_neg c2]
    by_cases c3 : isLetter c = true
    · rw [if_pos c3]
      have e : tkOf i (c :: t) = if 8 < ((c :: t).takeWhile isLetter).length then ⟨.bad, i, i + ((c :: t).takeWhile isLetter).length⟩ else ⟨.word ((c :: t).takeWhile isLetter), i, i + ((c :: t).takeWhile isLetter).length⟩ := by
        rw [tk_cons, if_pos c3]
      dsimp only
      by_cases c4 : 8 < ((c :: t).takeWhile isLetter).length
      · rw [if_pos c4] at e
        rw [if_pos c4, e]
        rfl
      · rw [if_neg c4] at e
        rw [if_neg c4, e]
        show _ = (i, Token.word _) :: conv (toksFrom f (i + ((c :: t).takeWhile isLetter).length) ((c :: t).drop (i + ((c :: t).takeWhile isLetter).length - i)))
        rw [Nat.add_sub_cancel_left, tok_conv f _ _]
    rw [if_neg c3]
    by_cases c4 : isDigit c = true
    · rw [if_pos c4]
      have e : tkOf i (c :: t) = if 3 < ((c :: t).takeWhile isDigit).length ∨ (1 < ((c :: t).takeWhile isDigit).length ∧ c = 48) then ⟨.bad, i, i + ((c :: t).takeWhile isDigit).length⟩
          else ⟨.num (decimalValue ((c :: t).takeWhile isDigit)), i, i + ((c :: t).takeWhile isDigit).length⟩ := by
        rw [tk_cons, if_neg c3, if_pos c4]
      dsimp only
      by_cases c5 : 3 < ((c :: t).takeWhile isDigit).length ∨ (1 < ((c :: t).takeWhile isDigit).length ∧ c = 48)
      · rw [if_pos c5] at e
        rw [if_pos c5, e]
        rfl
      · rw [if_neg c5] at e
        rw [if_neg c5, e]
        show _ = (i, Token.number _) :: conv (toksFrom f (i + ((c :: t).takeWhile isDigit).length) ((c :: t).drop (i + ((c :: t).takeWhile isDigit).length - i)))
        rw [Nat.add_sub_cancel_left, tok_conv f _ _]
    · rw [if_neg c4]
      have e : tkOf i (c :: t) = ⟨.bad, i, i + 1⟩ := by
        rw [tk_cons, if_neg c3, if_neg c4, if_neg c2]
      rw [e]
      rfl
theorem all_conv (text : List Nat) : tokenizeFrom (text.length + 1) 0 text = conv (allToks text) := by
  unfold allToks
  rw [conv_end, tok_conv]
theorem toks_len : ∀ (f i : Nat) (s : List Nat), (toksFrom f i s).length ≤ s.length
  | 0, _, s => Nat.zero_le _
  | _ + 1, _, [] => Nat.zero_le _
  | f + 1, i, c :: t => by
    unfold toksFrom
    split
    · exact Nat.le_trans (toks_len f (i + 1) t) (Nat.le_succ _)
    · have h := toks_len f (tkOf i (c :: t)).fin ((c :: t).drop ((tkOf i (c :: t)).fin - i))
      have g := (tk_fin i c t).1
      rw [List.length_drop] at h
      rw [List.length_cons] at h ⊢
      rw [List.length_cons]
      omega
end Cl
set_option Elab.async false
set_option maxRecDepth 100000
set_option maxHeartbeats 4000000
/-! # The tokens of a text -/
namespace Cl
open PySem PySem.Spec PyProof.Rows L2
theorem map_at' {α β : Type} {g : α → β} {l : List α} {i : Nat} {y : β} (h : (l.map g)[i]? = some y) : ∃ x, l[i]? = some x ∧ y = g x := by
  rw [List.getElem?_map] at h
  cases e : l[i]? with
  | none =>
    rw [e] at h
    cases h
  | some x =>
    rw [e] at h
    exact ⟨x, rfl, (Option.some.inj h).symm⟩
theorem take_one'' {α : Type} {l : List α} {i : Nat} {x : α} (h : l[i]? = some x) : l.take (i + 1) = l.take i ++ [x] := by
  obtain ⟨h1, h2⟩ := List.getElem?_eq_some_iff.mp h
  rw [← h2, List.take_append_getElem]
abbrev s_Token___init__ : Stmt := inClass (top 82) 0
abbrev n_Token___init__ : List Str := ["self", "kind", "value", "offset", "end"]
theorem sc_Token___init__ : FnScope n_Token___init__ ["self", "kind", "value", "offset", "end"] (defScope s_Token___init__) := ⟨rfl, rfl, rfl, by decide +kernel, rfl, by decide +kernel, by decide +kernel⟩
abbrev s_is_letter : Stmt := top 83
abbrev n_is_letter : List Str := ["byte"]
theorem sc_is_letter : FnScope n_is_letter ["byte"] (defScope s_is_letter) := ⟨rfl, rfl, rfl, by decide +kernel, rfl, by decide +kernel, by decide +kernel⟩
abbrev s_is_digit : Stmt := top 84
abbrev n_is_digit : List Str := ["byte"]
theorem sc_is_digit : FnScope n_is_digit ["byte"] (defScope s_is_digit) := ⟨rfl, rfl, rfl, by decide +kernel, rfl, by decide +kernel, by decide +kernel⟩
abbrev s_run_end : Stmt := top 85
abbrev n_run_end : List Str := ["text", "start", "belongs", "end"]
theorem sc_run_end : FnScope n_run_end ["text", "start", "belongs"] (defScope s_run_end) := ⟨rfl, rfl, rfl, by decide +kernel, rfl, by decide +kernel, by decide +kernel⟩
abbrev s_word_token : Stmt := top 86
abbrev n_word_token : List Str := ["text", "start", "end", "word", "byte"]
theorem sc_word_token : FnScope n_word_token ["text", "start"] (defScope s_word_token) := ⟨rfl, rfl, rfl, by decide +kernel, rfl, by decide +kernel, by decide +kernel⟩
abbrev s_number_token : Stmt := top 87
abbrev n_number_token : List Str := ["text", "start", "end", "length", "number", "byte"]
theorem sc_number_token : FnScope n_number_token ["text", "start"] (defScope s_number_token) := ⟨rfl, rfl, rfl, by decide +kernel, rfl, by decide +kernel, by decide +kernel⟩
abbrev s_token_at : Stmt := top 88
abbrev n_token_at : List Str := ["text", "start", "byte"]
theorem sc_token_at : FnScope n_token_at ["text", "start"] (defScope s_token_at) := ⟨rfl, rfl, rfl, by decide +kernel, rfl, by decide +kernel, by decide +kernel⟩
abbrev s_tokens_of : Stmt := top 89
abbrev n_tokens_of : List Str := ["text", "tokens", "place", "token"]
theorem sc_tokens_of : FnScope n_tokens_of ["text"] (defScope s_tokens_of) := ⟨rfl, rfl, rfl, by decide +kernel, rfl, by decide +kernel, by decide +kernel⟩
abbrev tx (l : List Nat) : Str := ⟨l.toArray⟩
def kindS : TV → Str
  | .word _ => "word"
  | .num _ => "number"
  | .semi => "semicolon"
  | .bad => "invalid"
  | .fin => "end"
def valV : TV → V
  | .word w => .str (tx w)
  | .num n => .int n
  | _ => .non
def tkF (k : Str) (v : V) (o e : Int) : List (Str × V) := [("kind", .str k), ("value", v), ("offset", .int o), ("end", .int e)]
def TkAt (Ck : Addr) (H : Hp) (a : Addr) (k : Tk) : Prop := ∃ dx, H a = some (.ins Ck dx (tkF (kindS k.v) (valV k.v) k.off k.fin))
theorem TkAt.same {Ck : Addr} {H H' : Hp} {a : Addr} {k : Tk} (h : TkAt Ck H a k) (s : Same H H') : TkAt Ck H' a k := by
  obtain ⟨dx, e⟩ := h
  exact ⟨dx, s _ _ e⟩
structure TkT (K : Fr) (Ck : Addr) : Prop where
  cl : Cls K Ck
  n1 : NoAttr K Ck "kind"
  n2 : NoAttr K Ck "value"
  n3 : NoAttr K Ck "offset"
  n4 : NoAttr K Ck "end"
theorem tkF_kind {k : Str} {v : V} {o e : Int} : (tkF k v o e).lookup ("kind" : Str) = some (.str k) := lkh
theorem tkF_value {k : Str} {v : V} {o e : Int} : (tkF k v o e).lookup ("value" : Str) = some v := lkp lkh
theorem tkF_offset {k : Str} {v : V} {o e : Int} : (tkF k v o e).lookup ("offset" : Str) = some (.int o) := lkp (lkp lkh)
theorem tkF_end {k : Str} {v : V} {o e : Int} : (tkF k v o e).lookup ("end" : Str) = some (.int e) := lkp (lkp (lkp lkh))
def sp_tk_init (Ck : Addr) : Sp := fun vs H Q _ => ∃ (p dx : Addr) (k : Str) (v : V) (o e : Int), vs = [.ref p, .str k, v, .int o, .int e] ∧ H p = some (.ins Ck dx []) ∧ ∀ H', H' p = some (.ins Ck dx (tkF k v o e)) → But p H H' → Q .non H'
def sp_pred (g : Nat → Bool) : Sp := fun vs H Q _ => ∃ c : Nat, vs = [.int c] ∧ Q (.bl (g c)) H
def sp_run_end (K : Fr) (S : Addr → Option Sp) : Sp := fun vs H Q _ => ∃ (a fb : Addr) (g : Nat → Bool) (text : List Nat) (st : Nat), vs = [.ref a, .int st, .ref fb] ∧ S fb = some (sp_pred g) ∧ SqL K H a (VN text) ∧ st ≤ text.length ∧ text.length ≤ 1000 ∧
  Q (.int ((st + ((text.drop st).takeWhile g).length : Nat) : Int)) H
def spTok (g : Nat → Bool) (K : Fr) (Ck : Addr) : Sp := fun vs H Q _ => ∃ (a : Addr) (text t : List Nat) (st c : Nat), vs = [.ref a, .int st] ∧ SqL K H a (VN text) ∧ text.length ≤ 1000 ∧ text.drop st = c :: t ∧ g c = true ∧
  ∀ H' b, H b = none → Same H H' → TkAt Ck H' b (tkOf st (c :: t)) → Q (.ref b) H'
def sp_wtok (K : Fr) (Ck : Addr) : Sp := spTok Vbndal.isLetter K Ck
def sp_ntok (K : Fr) (Ck : Addr) : Sp := spTok (fun c => !Vbndal.isLetter c && Vbndal.isDigit c) K Ck
def sp_tokat (K : Fr) (Ck : Addr) : Sp := spTok (fun _ => true) K Ck
def Tks (Ck : Addr) (H : Hp) (rs : List Addr) (l : List Tk) : Prop := rs.length = l.length ∧ ∀ (j : Nat) (a : Addr) (k : Tk), rs[j]? = some a → l[j]? = some k → TkAt Ck H a k
def sp_toks (K : Fr) (Ck : Addr) : Sp := fun vs H Q _ => ∃ (a : Addr) (text : List Nat), vs = [.ref a] ∧ SqL K H a (VN text) ∧ text.length ≤ 1000 ∧
  ∀ H' d rs, H d = none → Same H H' → H' d = some (.lst (rs.map V.ref)) → Tks Ck H' rs (allToks text) → Q (.ref d) H'
section
variable {P : Program} {w : World} {K : Fr} {mg : Str → Option Value} {base : Heap} {f : Addr} {fd : FuncData} {Ck fL fD : Addr} {S : Addr → Option Sp}
theorem ok_Token_init (T : TkT K Ck) (F : Fun K "__init__" "Token.__init__" s_Token___init__ f fd)  : FnOk P w K mg base CX0 1 f fd ["self", "kind", "value", "offset", "end"] (sp_tk_init Ck) := by
  refine F.ok sc_Token___init__ (fun vs H Q E h => ?_) (fun cdv A outer s H vs Q E hr h => ⟨_, (pss_cons (ps_fld (pv 0) (pv 1) rfl)
      (pss_cons (ps_fld (pv 0) (pv 2) rfl)
      (pss_cons (ps_fld (pv 0) (pv 3) rfl)
      (pss_one (ps_fld (pv 0) (pv 4) rfl))))), ?_⟩)
  · obtain ⟨p, dx, k, v, o, e, rfl, _⟩ := h
    rfl
  obtain ⟨p, dx, k, v, o, e, rfl, hp, q⟩ := h
  refine ⟨_, rfl, _, rfl, p, Ck, dx, _, rfl, hp, T.cl, T.n1, (by show 0 < 1000; decide), ?_⟩
  refine ⟨_, rfl, _, rfl, p, Ck, dx, _, rfl, upd_same, T.cl, T.n2, (by show 1 < 1000; decide), ?_⟩
  rw [upd_upd]
  refine ⟨_, rfl, _, rfl, p, Ck, dx, _, rfl, upd_same, T.cl, T.n3, (by show 2 < 1000; decide), ?_⟩
  rw [upd_upd]
  refine ⟨_, rfl, _, rfl, p, Ck, dx, _, rfl, upd_same, T.cl, T.n4, (by show 3 < 1000; decide), ?_⟩
  rw [upd_upd]
  have z : putF "end" (V.int e) (putF "offset" (V.int o) (putF "value" v (putF "kind" (V.str k) []))) = tkF k v o e := by
    have e1 : putF "kind" (V.str k) [] = ([("kind", .str k)] : List (Str × V)) := rfl
    have e2 : putF "value" v ([("kind", .str k)] : List (Str × V)) = ([("kind", .str k), ("value", v)] : List (Str × V)) := ptp rfl
    have e3 : putF "offset" (V.int o) ([("kind", .str k), ("value", v)] : List (Str × V)) = ([("kind", .str k), ("value", v), ("offset", .int o)] : List (Str × V)) := ptp (ptp rfl)
    have e4 : putF "end" (V.int e) ([("kind", .str k), ("value", v), ("offset", .int o)] : List (Str × V)) = tkF k v o e := ptp (ptp (ptp rfl))
    rw [e1, e2, e3, e4]
  exact q _ (by rw [upd_same, z]) But.upd
theorem ok_is_letter (F : Fun K "is_letter" "is_letter" s_is_letter f fd) (c_LETTER_A : Gv mg "LETTER_A" (.int 97)) (c_LETTER_Z : Gv mg "LETTER_Z" (.int 122)) : FnOk P w K mg base CX0 1 f fd ["byte"] (sp_pred Vbndal.isLetter) := by
  refine F.ok sc_is_letter (fun vs H Q E h => ?_) (fun cdv A outer s H vs Q E hr h => ⟨_, (pss_one (ps_ret (pe_and (pe_cmpR op_ge (pv 0) (pe_gv rfl c_LETTER_A) (nomark _)) (pe_one (pe_cmpR op_le (pv 0) (pe_gv rfl c_LETTER_Z) (nomark _)))))), ?_⟩)
  · obtain ⟨c, rfl, _⟩ := h
    rfl
  obtain ⟨c, rfl, q⟩ := h
  unfold Vbndal.isLetter at q
  refine ⟨_, rfl, _, _, rfl, rfl, _, rfl, ?_⟩
  by_cases h1 : 97 ≤ c
  · refine if_yes (decide_eq_true (by omega)) ?_
    refine ⟨_, rfl, _, _, rfl, rfl, ?_⟩
    rw [decide_eq_true h1, Bool.true_and] at q
    have e : decide (c ≤ 122) = decide ((c : Int) ≤ 122) := decide_eq_decide.mpr (by omega)
    rw [e] at q
    exact q
  · refine if_no (decide_eq_false (by omega)) ?_
    rw [decide_eq_false h1, Bool.false_and] at q
    exact q
theorem ok_is_digit (F : Fun K "is_digit" "is_digit" s_is_digit f fd) (c_DIGIT_0 : Gv mg "DIGIT_0" (.int 48)) (c_DIGIT_9 : Gv mg "DIGIT_9" (.int 57)) : FnOk P w K mg base CX0 1 f fd ["byte"] (sp_pred Vbndal.isDigit) := by
  refine F.ok sc_is_digit (fun vs H Q E h => ?_) (fun cdv A outer s H vs Q E hr h => ⟨_, (pss_one (ps_ret (pe_and (pe_cmpR op_ge (pv 0) (pe_gv rfl c_DIGIT_0) (nomark _)) (pe_one (pe_cmpR op_le (pv 0) (pe_gv rfl c_DIGIT_9) (nomark _)))))), ?_⟩)
  · obtain ⟨c, rfl, _⟩ := h
    rfl
  obtain ⟨c, rfl, q⟩ := h
  unfold Vbndal.isDigit at q
  refine ⟨_, rfl, _, _, rfl, rfl, _, rfl, ?_⟩
  by_cases h1 : 48 ≤ c
  · refine if_yes (decide_eq_true (by omega)) ?_
    refine ⟨_, rfl, _, _, rfl, rfl, ?_⟩
    rw [decide_eq_true h1, Bool.true_and] at q
    have e : decide (c ≤ 57) = decide ((c : Int) ≤ 57) := decide_eq_decide.mpr (by omega)
    rw [e] at q
    exact q
  · refine if_no (decide_eq_false (by omega)) ?_
    rw [decide_eq_false h1, Bool.false_and] at q
    exact q
theorem tw_step {g : Nat → Bool} {l : List Nat} {st n c : Nat} (hn : n ≤ ((l.drop st).takeWhile g).length) (h : l[st + n]? = some c) : (g c = true → n < ((l.drop st).takeWhile g).length) ∧ (g c = false → n = ((l.drop st).takeWhile g).length) := by
  have hd : (l.drop st)[n]? = some c := by rw [List.getElem?_drop]; exact h
  generalize l.drop st = m at hn hd
  clear h
  induction m generalizing n with
  | nil => simp at hd
  | cons x r ih =>
    rw [List.takeWhile_cons] at hn ⊢
    cases hx : g x with
    | false =>
      rw [hx] at hn
      simp at hn
      subst hn
      simp at hd
      subst hd
      simp [hx]
    | true =>
      rw [hx] at hn
      simp only [if_true, List.length_cons] at hn ⊢
      cases n with
      | zero =>
        simp at hd
        subst hd
        simp [hx]
      | succ n =>
        have z := ih (n := n) (by omega) (by simpa using hd)
        exact ⟨fun q => by have := z.1 q; omega, fun q => by have := z.2 q; omega⟩
theorem tw_stop {g : Nat → Bool} {l : List Nat} {st : Nat} : st + ((l.drop st).takeWhile g).length ≤ l.length ∨ l.length < st := by
  have := tw_le g (l.drop st)
  rw [List.length_drop] at this
  omega
theorem ok_run_end (hS : ∀ f sp, S f = some sp → Held P w K mg base 1 f sp) (F : Fun K "run_end" "run_end" s_run_end f fd) (n_len : mg "len" = none) : FnOk P w K mg base CX0 2 f fd ["text", "start", "belongs"] (sp_run_end K S) := by
  refine F.ok sc_run_end (fun vs H Q E h => ?_) (fun cdv A outer s H vs Q E hr h => ⟨_, (pss_cons (ps_set (i := 3) sc_run_end.nd rfl (Or.inl rfl) (pv 1))
      (pss_cons (ps_while PassesOwn.never (PW.pt (pw_and (pt_cmpR op_lt (pv 3) (pe_callB call_len_seq (by rfl) n_len PySem.boot_len (pa_cons (pv 0) pa_nil)) (nomark _)) (pw_and1 (pt_val (by exact (pe_callA (i := 2) hS hr rfl (Or.inl rfl) (pa_cons (pe_ix ix_list (pv 0) (pv 3) (fun _ _ => rfl)) pa_nil)))))))
      (pss_one (ps_aug (i := 3) sc_run_end.nd rfl (Or.inl rfl) pe_int ip_add)))
      (pss_one (ps_ret (pv 3))))), ?_⟩)
  · obtain ⟨a, fb, g, text, st, rfl, _⟩ := h
    rfl
  obtain ⟨a, fb, g, text, st, rfl, hg, sq, hst, hlen, q⟩ := h
  have hstop := tw_le g (text.drop st)
  rw [List.length_drop] at hstop
  refine ⟨_, rfl, ?_⟩
  refine while_go (fun σ H' => H' = H ∧ ∃ n : Nat, σ = [some (.ref a), some (.int st), some (.ref fb), some (.int ((st + n : Nat) : Int))] ∧ n ≤ ((text.drop st).takeWhile g).length)
    (fun σ _ => match σ with
      | [_, _, _, some (.int e)] => 2000 - e.toNat
      | _ => 0) ⟨rfl, 0, rfl, Nat.zero_le _⟩ ?_
  rintro σ H' ⟨rfl, n, rfl, hn⟩
  refine ⟨_, rfl, _, rfl, a, _, rfl, .inl sq, _, _, rfl, rfl, _, rfl, ?_⟩
  have hl : (((VN text).length : Nat) : Int) = text.length := by rw [List.length_map]
  by_cases c : st + n < text.length
  · refine if_yes (decide_eq_true (by rw [hl]; omega)) ?_
    have hc : text[st + n]? = some text[st + n] := List.getElem?_eq_getElem c
    refine ⟨fb, sp_pred g, rfl, hg, ?_⟩
    refine ⟨_, rfl, _, rfl, a, _, _, .int (text[st + n] : Nat), rfl, rfl, sq, atI_nat (by rw [List.getElem?_map, hc]; rfl), ?_⟩
    refine ⟨text[st + n], rfl, _, rfl, ?_⟩
    have tws := tw_step hn hc
    cases hgc : g text[st + n] with
    | true =>
      refine if_yes rfl ?_
      refine ⟨fun σ' H2 => (H2 = H' ∧ ∃ n : Nat, σ' = [some (.ref a), some (.int st), some (.ref fb), some (.int ((st + n : Nat) : Int))] ∧ n ≤ ((text.drop st).takeWhile g).length) ∧ _ < _, fun σ' H2 q => ⟨_, q.2, rfl, q.1⟩, ?_⟩
      refine ⟨_, rfl, _, _, rfl, rfl, ⟨rfl, n + 1, rfl, tws.1 hgc⟩, ?_⟩
      show 2000 - (((st + n : Nat) : Int) + 1).toNat < 2000 - (((st + n : Nat) : Int)).toNat
      omega
    | false =>
      refine if_no rfl ?_
      refine ⟨_, rfl, ?_⟩
      rw [tws.2 hgc]
      exact q
  · refine if_no (decide_eq_false (by rw [hl]; omega)) ?_
    refine if_no rfl ?_
    refine ⟨_, rfl, ?_⟩
    have e : n = ((text.drop st).takeWhile g).length := by omega
    rw [e]
    exact q
theorem take_tw (p : Nat → Bool) : ∀ l : List Nat, l.take (l.takeWhile p).length = l.takeWhile p
  | [] => rfl
  | x :: r => by
    rw [List.takeWhile_cons]
    cases p x with
    | false => rfl
    | true => exact congrArg (x :: ·) (take_tw p r)
theorem tw_all (p : Nat → Bool) {c : Nat} : ∀ {l : List Nat}, c ∈ l.takeWhile p → p c = true
  | [], h => by simp at h
  | x :: r, h => by
    rw [List.takeWhile_cons] at h
    cases hx : p x with
    | false =>
      rw [hx] at h
      simp at h
    | true =>
      rw [hx] at h
      rcases List.mem_cons.mp h with e | e
      · rw [e]
        exact hx
      · exact tw_all p e
/-- the letters of the table -/
theorem letter_at {b : Nat} (h : Vbndal.isLetter b = true) : atI ((PySem.Str.ofString "abcdefghijklmnopqrstuvwxyz").cps.toList) ((b : Int) - 97) = some b := by
  have z : ∀ i : Fin 26, ((PySem.Str.ofString "abcdefghijklmnopqrstuvwxyz").cps.toList)[i.val]? = some (97 + i.val) := by decide +kernel
  unfold Vbndal.isLetter at h
  rw [Bool.and_eq_true, decide_eq_true_iff, decide_eq_true_iff] at h
  have y := z ⟨b - 97, by omega⟩
  have e : ((b : Int) - 97) = ((b - 97 : Nat) : Int) := by omega
  rw [e]
  refine atI_nat (y.trans ?_)
  exact congrArg some (by show 97 + (b - 97) = b; omega)
theorem join_one : ∀ l : List Nat, TL.joinL [] (l.map fun c => [c]) = l
  | [] => rfl
  | [_] => rfl
  | a :: b :: r => by
    show [a] ++ ([] ++ TL.joinL [] ((b :: r).map fun c => [c])) = a :: b :: r
    rw [join_one (b :: r)]
    rfl
theorem join_signs (l : List Nat) : Txt.join (tx []) (l.map fun c => tx [c]) = tx l := by
  have e : (l.map fun c => tx [c]) = (l.map fun c => [c]).map SX.S := by
    rw [List.map_map]
    rfl
  rw [e, SX.join_S, join_one]
theorem sum_ones (l : List Nat) : ((l.map fun c => tx [c]).map (·.length)).sum = l.length := by
  induction l with
  | nil => rfl
  | cons a r ih =>
    rw [List.map_cons, List.map_cons, List.sum_cons, ih, List.length_cons]
    show 1 + r.length = r.length + 1
    omega
theorem ok_word_token (hSL : S fL = some (sp_pred Vbndal.isLetter)) (F : Fun K "word_token" "word_token" s_word_token f fd) (d_run_end : Df P w K mg base CX0 2 "run_end" (sp_run_end K S)) (v_is_letter : Gv mg "is_letter" (.ref fL)) (c_LONGEST_WORD : Gv mg "LONGEST_WORD" (.int 8)) (k_Token : Mke P w K mg base CX0 1 "Token" Ck (sp_tk_init Ck)) (c_WORD : Gv mg "WORD" (.str "word")) (c_INVALID : Gv mg "INVALID" (.str "invalid")) (c_LETTERS : Gv mg "LETTERS" (.str "abcdefghijklmnopqrstuvwxyz")) (c_LETTER_A : Gv mg "LETTER_A" (.int 97)) : FnOk P w K mg base CX0 3 f fd ["text", "start"] (sp_wtok K Ck) := by
  refine F.ok sc_word_token (fun vs H Q E h => ?_) (fun cdv A outer s H vs Q E hr h => ⟨_, (pss_cons (ps_set (i := 2) sc_word_token.nd rfl (Or.inl rfl) (by exact (pe_d d_run_end pass0 hr (by decide) rfl (pa_cons (pv 0) (pa_cons (pv 1) (pa_cons (pe_gv rfl v_is_letter) pa_nil))))))
      (pss_cons (ps_if (pt_cmpR op_gt (pe_op op_sub (pv 2) (pv 1)) (pe_gv rfl c_LONGEST_WORD) (nomark _))
      (pss_one (ps_ret (by exact (pe_k k_Token pass0 hr (by decide) rfl (pa_cons (pe_gv rfl c_INVALID) (pa_cons pe_non (pa_cons (pv 1) (pa_cons (pv 2) pa_nil))))))))
      pss_nil)
      (pss_cons (ps_set (i := 3) sc_word_token.nd rfl (Or.inl rfl) (pe_join pe_str (pe_lc (own := [("byte", 4)]) (g := gName 4) rfl sc_word_token.nd (pi_list (pe_slice sl_list (pv 0) (po_some (pv 1)) (po_some (pv 2)))) (blkOk_by (N := n_word_token) (sc := defScope s_word_token) (by decide +kernel)) (fun _ _ _ _ _ => (pg_name (i := 4) sc_word_token.nd rfl (Or.inl rfl))) (fun _ _ _ _ _ => pts_nil) (fun _ _ _ _ _ => (pe_ix ix_str (pe_gv rfl c_LETTERS) (pe_op op_sub (pv 4) (pe_gv rfl c_LETTER_A)) (fun _ _ => rfl))))))
      (pss_one (ps_ret (by exact (pe_k k_Token pass0 hr (by decide) rfl (pa_cons (pe_gv rfl c_WORD) (pa_cons (pv 3) (pa_cons (pv 1) (pa_cons (pv 2) pa_nil))))))))))), ?_⟩)
  · obtain ⟨a, text, t, st, c, rfl, _⟩ := h
    rfl
  obtain ⟨a, text, t, st, c, rfl, sq, hlen, hd, hc, q⟩ := h
  have hst : st < text.length := by
    have z := congrArg List.length hd
    rw [List.length_drop, List.length_cons] at z
    omega
  have hw := tw_le Vbndal.isLetter (text.drop st)
  rw [List.length_drop] at hw
  refine ⟨_, rfl, _, rfl, a, fL, Vbndal.isLetter, text, st, rfl, hSL, sq, by omega, hlen, ?_⟩
  have ek : tkOf st (c :: t) = if 8 < ((c :: t).takeWhile Vbndal.isLetter).length then ⟨.bad, st, st + ((c :: t).takeWhile Vbndal.isLetter).length⟩ else ⟨.word ((c :: t).takeWhile Vbndal.isLetter), st, st + ((c :: t).takeWhile Vbndal.isLetter).length⟩ := by
    rw [tk_cons, if_pos hc]
  rw [← hd] at ek q
  generalize hww : (text.drop st).takeWhile Vbndal.isLetter = ww at ek hw
  refine ⟨_, rfl, _, rfl, _, _, rfl, rfl, _, _, rfl, rfl, _, rfl, ?_⟩
  by_cases cc : 8 < ww.length
  · refine if_yes (decide_eq_true (by omega)) ?_
    refine ⟨_, rfl, _, rfl, fun x dx nx nd ne => ⟨x, dx, _, _, _, _, rfl, upd_same, fun H' h1 b1 => ⟨rfl, ?_⟩⟩⟩
    refine q H' x nx (made nx nd b1) ⟨dx, ?_⟩
    rw [ek, if_pos cc]
    exact h1
  · refine if_no (decide_eq_false (by omega)) ?_
    refine ⟨⟨_, rfl⟩, ?_⟩
    refine ⟨_, rfl, _, rfl, _, rfl, _, rfl, _, rfl, a, VN text, rfl, sq, fun p hp => ?_⟩
    have ecut : cutV (VN text) (some (st : Int)) (some ((st + ww.length : Nat) : Int)) = VN ww := by
      rw [cut_mid (by omega) (by rw [List.length_map]; omega), ← List.map_drop, ← List.map_take, Nat.add_sub_cancel_left, ← hww, take_tw]
    rw [ecut]
    refine ⟨p, rfl, ⟨_, SqL.of upd_same⟩, fun D hD => ?_⟩
    have hDp : p ≠ D := ne_of_none upd_same hD
    have hDH : H D = none := by rw [upd_ne hDp.symm] at hD; exact hD
    refine lc_list (K := K) (a := p) (xs := VN ww) (fun j H' => Same H H' ∧ H' p = some (.lst (VN ww)) ∧ H' D = some (.lst (((ww.take j).map fun c => tx [c]).map V.str))) ?_ (fun j H' _ z => SqL.of z.2.1) ?_ ?_
    · refine ⟨fun b o e => ?_, ?_, by rw [upd_same]; rfl⟩
      · rw [upd_ne (ne_of_none e hDH), upd_ne (ne_of_none e hp)]
        exact e
      · rw [upd_ne hDp, upd_same]
    · rintro j y H' hj ⟨g1, g2, g3⟩
      obtain ⟨b, hb, rfl⟩ := map_at' hj
      refine ⟨rfl, ?_⟩
      unfold tYes
      refine iteT ?_
      have hbl : Vbndal.isLetter b = true := tw_all Vbndal.isLetter (l := text.drop st) (by rw [hww]; exact List.mem_of_getElem? hb)
      have hj2 : j < ww.length := (List.getElem?_eq_some_iff.mp hb).1
      refine ⟨_, rfl, _, _, rfl, rfl, _, _, b, rfl, rfl, by decide, letter_at hbl, ?_⟩
      refine ⟨_, g3, ?_, fun b' o e => ?_, ?_, ?_⟩
      · rw [List.length_map, List.length_map, List.length_take]
        exact less_line (by omega)
      · rw [upd_ne (ne_of_none e hDH)]
        exact g1 b' o e
      · rw [upd_ne hDp]
        exact g2
      · rw [upd_same, take_one'' hb, List.map_append, List.map_append]
        rfl
    · rintro H' ⟨g1, g2, g3⟩
      rw [List.length_map, List.take_length] at g3
      refine ⟨tx [], D, ww.map fun c => tx [c], rfl, rfl, .inl (SqL.of g3), ?_, ?_⟩
      · rw [sum_ones, List.length_map]
        show ww.length + ww.length * 0 ≤ 16777216
        omega
      rw [join_signs]
      refine ⟨_, rfl, _, rfl, _, rfl, fun x dx nx nd ne => ⟨x, dx, _, _, _, _, rfl, upd_same, fun H2 h1 b1 => ⟨rfl, ?_⟩⟩⟩
      have sm := made nx nd b1
      have nxH : H x = none := by
        cases z : H x with
        | none => rfl
        | some o =>
          have z2 := g1 _ _ z
          rw [nx] at z2
          cases z2
      refine q H2 x nxH (g1.trans sm) ⟨dx, ?_⟩
      rw [ek, if_neg cc]
      exact h1
theorem dec_snoc (l : List Nat) (b : Nat) : Vbndal.decimalValue (l ++ [b]) = 10 * Vbndal.decimalValue l + (b - 48) := by
  unfold Vbndal.decimalValue
  rw [List.foldl_append]
  rfl
theorem ok_number_token (hSD : S fD = some (sp_pred Vbndal.isDigit)) (F : Fun K "number_token" "number_token" s_number_token f fd) (d_run_end : Df P w K mg base CX0 2 "run_end" (sp_run_end K S)) (v_is_digit : Gv mg "is_digit" (.ref fD)) (k_Token : Mke P w K mg base CX0 1 "Token" Ck (sp_tk_init Ck)) (c_NUMBER : Gv mg "NUMBER" (.str "number")) (c_LONGEST_NUMBER : Gv mg "LONGEST_NUMBER" (.int 3)) (c_INVALID : Gv mg "INVALID" (.str "invalid")) (c_DIGIT_0 : Gv mg "DIGIT_0" (.int 48)) : FnOk P w K mg base CX0 3 f fd ["text", "start"] (sp_ntok K Ck) := by
  refine F.ok sc_number_token (fun vs H Q E h => ?_) (fun cdv A outer s H vs Q E hr h => ⟨_, (pss_cons (ps_set (i := 2) sc_number_token.nd rfl (Or.inl rfl) (by exact (pe_d d_run_end pass0 hr (by decide) rfl (pa_cons (pv 0) (pa_cons (pv 1) (pa_cons (pe_gv rfl v_is_digit) pa_nil))))))
      (pss_cons (ps_set (i := 3) sc_number_token.nd rfl (Or.inl rfl) (pe_op op_sub (pv 2) (pv 1)))
      (pss_cons (ps_if (PW.pt (pw_or (pt_cmpR op_gt (pv 3) (pe_gv rfl c_LONGEST_NUMBER) (nomark _)) (pw_or1 (PW.pt (pw_and (pt_cmpR op_gt (pv 3) pe_int (nomark _)) (pw_and1 (pt_cmpR op_eq (pe_ix ix_list (pv 0) (pv 1) (fun _ _ => rfl)) (pe_gv rfl c_DIGIT_0) (nomark _))))))))
      (pss_one (ps_ret (by exact (pe_k k_Token pass0 hr (by decide) rfl (pa_cons (pe_gv rfl c_INVALID) (pa_cons pe_non (pa_cons (pv 1) (pa_cons (pv 2) pa_nil))))))))
      pss_nil)
      (pss_cons (ps_set (i := 4) sc_number_token.nd rfl (Or.inl rfl) pe_int)
      (pss_cons (ps_for PassesOwn.never rfl (pi_list (pe_slice sl_list (pv 0) (po_some (pv 1)) (po_some (pv 2)))) (pg_name (i := 5) sc_number_token.nd rfl (Or.inl rfl))
      (pss_one (ps_set (i := 4) sc_number_token.nd rfl (Or.inl rfl) (pe_op op_sub (pe_op op_add (pe_op op_mul (pv 4) pe_int) (pv 5)) (pe_gv rfl c_DIGIT_0)))))
      (pss_one (ps_ret (by exact (pe_k k_Token pass0 hr (by decide) rfl (pa_cons (pe_gv rfl c_NUMBER) (pa_cons (pv 4) (pa_cons (pv 1) (pa_cons (pv 2) pa_nil))))))))))))), ?_⟩)
  · obtain ⟨a, text, t, st, c, rfl, _⟩ := h
    rfl
  obtain ⟨a, text, t, st, c, rfl, sq, hlen, hd, hc, q⟩ := h
  rw [Bool.and_eq_true, Bool.not_eq_true'] at hc
  have hst : st < text.length := by
    have z := congrArg List.length hd
    rw [List.length_drop, List.length_cons] at z
    omega
  have hst0 : text[st]? = some c := by
    have z : (text.drop st)[0]? = some c := by rw [hd]; rfl
    rw [List.getElem?_drop] at z
    exact z
  have hw := tw_le Vbndal.isDigit (text.drop st)
  rw [List.length_drop] at hw
  refine ⟨_, rfl, _, rfl, a, fD, Vbndal.isDigit, text, st, rfl, hSD, sq, by omega, hlen, ?_⟩
  have ek : tkOf st (c :: t) = if 3 < ((c :: t).takeWhile Vbndal.isDigit).length ∨ (1 < ((c :: t).takeWhile Vbndal.isDigit).length ∧ c = 48) then ⟨.bad, st, st + ((c :: t).takeWhile Vbndal.isDigit).length⟩
      else ⟨.num (Vbndal.decimalValue ((c :: t).takeWhile Vbndal.isDigit)), st, st + ((c :: t).takeWhile Vbndal.isDigit).length⟩ := by
    rw [tk_cons, if_neg (by rw [hc.1]; exact Bool.false_ne_true), if_pos hc.2]
  rw [← hd] at ek q
  generalize hww : (text.drop st).takeWhile Vbndal.isDigit = ww at ek hw
  refine ⟨_, rfl, _, rfl, _, _, rfl, rfl, ?_⟩
  have bad : (3 < ww.length ∨ (1 < ww.length ∧ c = 48)) → (tMake Ck (sp_tk_init Ck) [] E0 (tCons (tC (V.str "invalid")) (tCons (tC V.non) (tCons (tVar 1) (tCons (tVar 2) tNil)))))
      [some (.ref a), some (.int st), some (.int ((st + ww.length : Nat) : Int)), some (.int (((st + ww.length : Nat) : Int) - (st : Int))), none, none] H Q := fun cc => by
    refine ⟨_, rfl, _, rfl, fun x dx nx nd ne => ⟨x, dx, _, _, _, _, rfl, upd_same, fun H' h1 b1 => ⟨rfl, ?_⟩⟩⟩
    refine q H' x nx (made nx nd b1) ⟨dx, ?_⟩
    rw [ek, if_pos cc]
    exact h1
  have fin : (¬ (3 < ww.length ∨ (1 < ww.length ∧ c = 48))) → (tSeq (tAsg (tC (V.int 0)) (gName 4)) (tSeq (tFor (iList K (tSl (rSlL K) (tVar 0) (tPart (tVar 1)) (tPart (tVar 2)))) (gName 5) (tAsg (tOp (rI0 fun i j => V.int (i - j)) (tOp (rI0 fun i j => V.int (i + j)) (tOp (rI CMul fun i j => V.int (i * j)) (tVar 4) (tC (V.int 10))) (tVar 5)) (tC (V.int 48))) (gName 4)))
      (tRet (tMake Ck (sp_tk_init Ck) [] E0 (tCons (tC (V.str "number")) (tCons (tVar 4) (tCons (tVar 1) (tCons (tVar 2) tNil)))))))) { nx := fun _ H' => Q .non H', rt := Q }
      [some (.ref a), some (.int st), some (.int ((st + ww.length : Nat) : Int)), some (.int (((st + ww.length : Nat) : Int) - (st : Int))), none, none] H := fun cc => by
    refine ⟨_, rfl, _, rfl, _, rfl, _, rfl, _, rfl, a, VN text, rfl, sq, fun p hp => ?_⟩
    have ecut : cutV (VN text) (some (st : Int)) (some ((st + ww.length : Nat) : Int)) = VN ww := by
      rw [cut_mid (by omega) (by rw [List.length_map]; omega), ← List.map_drop, ← List.map_take, Nat.add_sub_cancel_left, ← hww, take_tw]
    rw [ecut]
    refine ⟨p, rfl, ⟨_, SqL.of upd_same⟩, for_list (K := K) (a := p) (xs := VN ww) (fun j σ H' => H' = upd H p (.lst (VN ww)) ∧ ∃ v, σ = [some (.ref a), some (.int st), some (.int ((st + ww.length : Nat) : Int)), some (.int (((st + ww.length : Nat) : Int) - (st : Int))), some (.int (Vbndal.decimalValue (ww.take j) : Nat)), v])
      ⟨rfl, none, rfl⟩ (fun i σ H' _ z => by rw [z.1]; exact SqL.of upd_same) ?_ ?_⟩
    · rintro j y σ H' hj ⟨rfl, v, rfl⟩
      obtain ⟨b, hb, rfl⟩ := map_at' hj
      have hbl : Vbndal.isDigit b = true := tw_all Vbndal.isDigit (l := text.drop st) (by rw [hww]; exact List.mem_of_getElem? hb)
      unfold Vbndal.isDigit at hbl
      rw [Bool.and_eq_true, decide_eq_true_iff, decide_eq_true_iff] at hbl
      refine ⟨_, rfl, _, _, rfl, rfl, Or.inr ⟨by decide, by decide⟩, _, rfl, _, _, rfl, rfl, _, _, rfl, rfl, ⟨rfl, some (.int (b : Int)), ?_⟩⟩
      rw [take_one'' hb, dec_snoc]
      have e : (Vbndal.decimalValue (ww.take j) : Int) * 10 + (b : Int) - 48 = ((10 * Vbndal.decimalValue (ww.take j) + (b - 48) : Nat) : Int) := by omega
      rw [← e]
      rfl
    · rintro σ H' ⟨rfl, v, rfl⟩
      rw [List.length_map, List.take_length]
      refine ⟨_, rfl, _, rfl, _, rfl, fun x dx nx nd ne => ⟨x, dx, _, _, _, _, rfl, upd_same, fun H2 h1 b1 => ⟨rfl, ?_⟩⟩⟩
      have sm := made nx nd b1
      have nxH : H x = none := by
        cases z : H x with
        | none => rfl
        | some o =>
          have z2 := Same.new (o := .lst (VN ww)) hp _ _ z
          rw [nx] at z2
          cases z2
      refine q H2 x nxH ((Same.new hp).trans sm) ⟨dx, ?_⟩
      rw [ek, if_neg cc]
      exact h1
  refine ⟨_, rfl, _, _, rfl, rfl, _, rfl, ?_⟩
  by_cases c1 : 3 < ww.length
  · refine if_yes (decide_eq_true (by omega)) ?_
    refine if_yes rfl ?_
    exact bad (.inl c1)
  refine if_no (decide_eq_false (by omega)) ?_
  refine ⟨_, rfl, _, _, rfl, rfl, _, rfl, ?_⟩
  by_cases c2 : 1 < ww.length
  · refine if_yes (decide_eq_true (by omega)) ?_
    refine ⟨_, rfl, _, rfl, a, _, _, .int c, rfl, rfl, sq, atI_nat (by rw [List.getElem?_map, hst0]; rfl), rfl, _, rfl, ?_⟩
    by_cases c3 : c = 48
    · refine if_yes (d_yes (show (c : Int) = 48 by omega)) ?_
      exact bad (.inr ⟨c2, c3⟩)
    · refine if_no (d_no (show (c : Int) ≠ 48 by omega)) ?_
      exact fin (fun z => by omega)
  · refine if_no (decide_eq_false (by omega)) ?_
    refine if_no rfl ?_
    exact fin (fun z => by omega)
theorem ok_token_at (F : Fun K "token_at" "token_at" s_token_at f fd) (d_is_letter : Df P w K mg base CX0 1 "is_letter" (sp_pred Vbndal.isLetter)) (d_is_digit : Df P w K mg base CX0 1 "is_digit" (sp_pred Vbndal.isDigit)) (c_SEMICOLON_BYTE : Gv mg "SEMICOLON_BYTE" (.int 59)) (k_Token : Mke P w K mg base CX0 1 "Token" Ck (sp_tk_init Ck)) (c_INVALID : Gv mg "INVALID" (.str "invalid")) (d_word_token : Df P w K mg base CX0 3 "word_token" (sp_wtok K Ck)) (d_number_token : Df P w K mg base CX0 3 "number_token" (sp_ntok K Ck)) (c_SEMICOLON : Gv mg "SEMICOLON" (.str "semicolon")) : FnOk P w K mg base CX0 4 f fd ["text", "start"] (sp_tokat K Ck) := by
  refine F.ok sc_token_at (fun vs H Q E h => ?_) (fun cdv A outer s H vs Q E hr h => ⟨_, (pss_cons (ps_set (i := 2) sc_token_at.nd rfl (Or.inl rfl) (pe_ix ix_list (pv 0) (pv 1) (fun _ _ => rfl)))
      (pss_cons (ps_if (pt_val (by exact (pe_d d_is_letter pass0 hr (by decide) rfl (pa_cons (pv 2) pa_nil))))
      (pss_one (ps_ret (by exact (pe_d d_word_token pass0 hr (by decide) rfl (pa_cons (pv 0) (pa_cons (pv 1) pa_nil))))))
      pss_nil)
      (pss_cons (ps_if (pt_val (by exact (pe_d d_is_digit pass0 hr (by decide) rfl (pa_cons (pv 2) pa_nil))))
      (pss_one (ps_ret (by exact (pe_d d_number_token pass0 hr (by decide) rfl (pa_cons (pv 0) (pa_cons (pv 1) pa_nil))))))
      pss_nil)
      (pss_cons (ps_if (pt_cmpR op_eq (pv 2) (pe_gv rfl c_SEMICOLON_BYTE) (nomark _))
      (pss_one (ps_ret (by exact (pe_k k_Token pass0 hr (by decide) rfl (pa_cons (pe_gv rfl c_SEMICOLON) (pa_cons pe_non (pa_cons (pv 1) (pa_cons (pe_op op_add (pv 1) pe_int) pa_nil))))))))
      pss_nil)
      (pss_one (ps_ret (by exact (pe_k k_Token pass0 hr (by decide) rfl (pa_cons (pe_gv rfl c_INVALID) (pa_cons pe_non (pa_cons (pv 1) (pa_cons (pe_op op_add (pv 1) pe_int) pa_nil)))))))))))), ?_⟩)
  · obtain ⟨a, text, t, st, c, rfl, _⟩ := h
    rfl
  obtain ⟨a, text, t, st, c, rfl, sq, hlen, hd, hc, q⟩ := h
  have hst0 : text[st]? = some c := by
    have z : (text.drop st)[0]? = some c := by rw [hd]; rfl
    rw [List.getElem?_drop] at z
    exact z
  refine ⟨_, rfl, _, rfl, a, _, _, .int c, rfl, rfl, sq, atI_nat (by rw [List.getElem?_map, hst0]; rfl), ?_⟩
  refine ⟨_, rfl, c, rfl, _, rfl, ?_⟩
  cases c1 : Vbndal.isLetter c with
  | true =>
    refine if_yes rfl ?_
    exact ⟨_, rfl, _, rfl, a, text, t, st, c, rfl, sq, hlen, hd, c1, q⟩
  | false =>
    refine if_no rfl ?_
    refine ⟨_, rfl, c, rfl, _, rfl, ?_⟩
    cases c2 : Vbndal.isDigit c with
    | true =>
      refine if_yes rfl ?_
      exact ⟨_, rfl, _, rfl, a, text, t, st, c, rfl, sq, hlen, hd, (by dsimp only; rw [c1, c2]; rfl), q⟩
    | false =>
      refine if_no rfl ?_
      refine ⟨_, rfl, rfl, _, rfl, ?_⟩
      have ek : tkOf st (c :: t) = if c = 59 then ⟨.semi, st, st + 1⟩ else ⟨.bad, st, st + 1⟩ := by
        rw [tk_cons, if_neg (by rw [c1]; exact Bool.false_ne_true), if_neg (by rw [c2]; exact Bool.false_ne_true)]
      by_cases c3 : c = 59
      · refine if_yes (d_yes (show (c : Int) = 59 by omega)) ?_
        refine ⟨_, rfl, _, rfl, _, _, rfl, rfl, fun x dx nx nd ne => ⟨x, dx, _, _, _, _, rfl, upd_same, fun H' h1 b1 => ⟨rfl, ?_⟩⟩⟩
        refine q H' x nx (made nx nd b1) ⟨dx, ?_⟩
        rw [ek, if_pos c3]
        exact h1
      · refine if_no (d_no (show (c : Int) ≠ 59 by omega)) ?_
        refine ⟨_, rfl, _, rfl, _, _, rfl, rfl, fun x dx nx nd ne => ⟨x, dx, _, _, _, _, rfl, upd_same, fun H' h1 b1 => ⟨rfl, ?_⟩⟩⟩
        refine q H' x nx (made nx nd b1) ⟨dx, ?_⟩
        rw [ek, if_neg c3]
        exact h1
theorem Tks.same {Ck : Addr} {H H' : Hp} {rs : List Addr} {l : List Tk} (h : Tks Ck H rs l) (s : Same H H') : Tks Ck H' rs l := ⟨h.1, fun j a k e1 e2 => (h.2 j a k e1 e2).same s⟩
theorem Tks.snoc {Ck : Addr} {H : Hp} {rs : List Addr} {l : List Tk} {b : Addr} {k : Tk} (h : Tks Ck H rs l) (hb : TkAt Ck H b k) : Tks Ck H (rs ++ [b]) (l ++ [k]) := by
  refine ⟨by rw [List.length_append, List.length_append, h.1]; rfl, fun j a y e1 e2 => ?_⟩
  by_cases c : j < rs.length
  · rw [List.getElem?_append_left c] at e1
    rw [List.getElem?_append_left (by rw [← h.1]; exact c)] at e2
    exact h.2 j a y e1 e2
  · rw [List.getElem?_append_right (Nat.le_of_not_lt c)] at e1
    rw [List.getElem?_append_right (by rw [← h.1]; exact Nat.le_of_not_lt c), ← h.1] at e2
    cases q : j - rs.length with
    | zero =>
      rw [q] at e1 e2
      simp at e1 e2
      subst e1 e2
      exact hb
    | succ n =>
      rw [q] at e1
      simp at e1
/-- an address that holds a list holds no token -/
theorem TkAt.ne {Ck : Addr} {H : Hp} {a d : Addr} {k : Tk} {xs : List V} (h : TkAt Ck H a k) (hd : H d = some (.lst xs)) : a ≠ d := by
  obtain ⟨dx, e⟩ := h
  exact ne_of e hd (by intro z; cases z)
theorem TkAt.upd {Ck : Addr} {H : Hp} {a d : Addr} {k : Tk} {xs : List V} {o : HO} (h : TkAt Ck H a k) (hd : H d = some (.lst xs)) : TkAt Ck (upd H d o) a k := by
  have n := h.ne hd
  obtain ⟨dx, e⟩ := h
  exact ⟨dx, by rw [upd_ne n]; exact e⟩
theorem Tks.upd {Ck : Addr} {H : Hp} {rs : List Addr} {l : List Tk} {d : Addr} {xs : List V} {o : HO} (h : Tks Ck H rs l) (hd : H d = some (.lst xs)) : Tks Ck (upd H d o) rs l := ⟨h.1, fun j a k e1 e2 => (h.2 j a k e1 e2).upd hd⟩
theorem none_of {H H' : Hp} (s : Same H H') {x : Addr} (n : H' x = none) : H x = none := s.free n
theorem ok_tokens_of (T : TkT K Ck) (F : Fun K "tokens_of" "tokens_of" s_tokens_of f fd) (n_len : mg "len" = none) (c_WHITE_SPACE : Gv mg "WHITE_SPACE" (.ref aWS)) (t_WHITE_SPACE : ∀ H : Hp, SqT K H aWS [.int 32, .int 10]) (k_Token : Mke P w K mg base CX0 1 "Token" Ck (sp_tk_init Ck)) (c_END : Gv mg "END" (.str "end")) (d_token_at : Df P w K mg base CX0 4 "token_at" (sp_tokat K Ck)) : FnOk P w K mg base CX0 5 f fd ["text"] (sp_toks K Ck) := by
  refine F.ok sc_tokens_of (fun vs H Q E h => ?_) (fun cdv A outer s H vs Q E hr h => ⟨_, (pss_cons (ps_set (i := 1) sc_tokens_of.nd rfl (Or.inl rfl) (pe_lst pa_nil))
      (pss_cons (ps_set (i := 2) sc_tokens_of.nd rfl (Or.inl rfl) pe_int)
      (pss_cons (ps_while PassesOwn.never (pt_cmpR op_lt (pv 2) (pe_callB call_len_seq (by rfl) n_len PySem.boot_len (pa_cons (pv 0) pa_nil)) (nomark _))
      (pss_one (ps_if (pt_cmpR op_in_seq (pe_ix ix_list (pv 0) (pv 2) (fun _ _ => rfl)) (pe_gv rfl c_WHITE_SPACE) (by rfl))
      (pss_one (ps_aug (i := 2) sc_tokens_of.nd rfl (Or.inl rfl) pe_int ip_add))
      (pss_cons (ps_set (i := 3) sc_tokens_of.nd rfl (Or.inl rfl) (by exact (pe_d d_token_at pass0 hr (by decide) rfl (pa_cons (pv 0) (pa_cons (pv 2) pa_nil)))))
      (pss_cons (ps_expr (pe_bm PySem.F.plainAttrs_list PySem.F.slot_list_append PySem.F.type_list_append mt_append (pv 1) (pa_cons (pv 3) pa_nil)))
      (pss_one (ps_set (i := 2) sc_tokens_of.nd rfl (Or.inl rfl) (pe_fld (pv 3) rfl))))))))
      (pss_cons (ps_expr (pe_bm PySem.F.plainAttrs_list PySem.F.slot_list_append PySem.F.type_list_append mt_append (pv 1) (pa_cons (by exact (pe_k k_Token pass0 hr (by decide) rfl (pa_cons (pe_gv rfl c_END) (pa_cons pe_non (pa_cons (pv 2) (pa_cons (pv 2) pa_nil)))))) pa_nil)))
      (pss_one (ps_ret (pv 1))))))), ?_⟩)
  · obtain ⟨a, text, rfl, _⟩ := h
    rfl
  obtain ⟨a, text, rfl, sq, hlen, q⟩ := h
  refine ⟨(by show 0 ≤ sizeLine; decide), fun D hD => ?_⟩
  have hl : (((VN text).length : Nat) : Int) = text.length := by rw [List.length_map]
  refine while_go (fun σ H' => ∃ (i g : Nat) (done : List Tk) (rs : List Addr) (v : Option V), σ = [some (.ref a), some (.ref D), some (.int i), v] ∧ i ≤ text.length ∧ Same H H' ∧ H' D = some (.lst (rs.map V.ref)) ∧ Tks Ck H' rs done ∧
      done.length ≤ i ∧ text.length - i < g ∧ toksFrom (text.length + 1) 0 text = done ++ toksFrom g i (text.drop i))
    (fun σ _ => match σ with
      | [_, _, some (.int e), _] => 2000 - e.toNat
      | _ => 0) ⟨0, text.length + 1, [], [], none, rfl, Nat.zero_le _, Same.new hD, upd_same, ⟨rfl, fun j a k e _ => by simp at e⟩, Nat.le_refl _, by omega, rfl⟩ ?_
  rintro σ H' ⟨i, g, done, rs, v, rfl, hi, sm, hDD, htk, hdl, hg, inv⟩
  have sq' := sm.seq sq
  refine ⟨_, rfl, _, rfl, a, _, rfl, .inl sq', _, _, rfl, rfl, _, rfl, ?_⟩
  by_cases c : i < text.length
  · refine if_yes (decide_eq_true (by rw [hl]; omega)) ?_
    have hc : text[i]? = some text[i] := List.getElem?_eq_getElem c
    have hdr : text.drop i = text[i] :: text.drop (i + 1) := List.drop_eq_getElem_cons c
    obtain ⟨g', rfl⟩ : ∃ g', g = g' + 1 := ⟨g - 1, by omega⟩
    refine ⟨fun σ' H2 => (∃ (i g : Nat) (done : List Tk) (rs : List Addr) (v : Option V), σ' = [some (.ref a), some (.ref D), some (.int i), v] ∧ i ≤ text.length ∧ Same H H2 ∧ H2 D = some (.lst (rs.map V.ref)) ∧ Tks Ck H2 rs done ∧
      done.length ≤ i ∧ text.length - i < g ∧ toksFrom (text.length + 1) 0 text = done ++ toksFrom g i (text.drop i)) ∧ _ < _, fun σ' H2 q => ⟨_, q.2, rfl, q.1⟩, ?_⟩
    generalize hch : text[i] = ch at hc hdr
    refine ⟨_, rfl, _, rfl, a, _, _, .int ch, rfl, rfl, sq', atI_nat (by rw [List.getElem?_map, hc]; rfl), aWS, _, rfl, .inr (t_WHITE_SPACE _), rfl, rfl, _, rfl, ?_⟩
    have etf : toksFrom (g' + 1) i (text.drop i) = if ch = 32 ∨ ch = 10 then toksFrom g' (i + 1) (text.drop (i + 1)) else tkOf i (ch :: text.drop (i + 1)) :: toksFrom g' (tkOf i (ch :: text.drop (i + 1))).fin ((ch :: text.drop (i + 1)).drop ((tkOf i (ch :: text.drop (i + 1))).fin - i)) := by
      rw [hdr]
      rfl
    have ein : inV (V.int (ch : Int)) [V.int 32, V.int 10] = decide (ch = 32 ∨ ch = 10) := by
      show ((32 : Int) == (ch : Int) || ((10 : Int) == (ch : Int) || false)) = _
      by_cases c32 : ch = 32
      · rw [c32]
        decide
      · by_cases c10 : ch = 10
        · rw [c10]
          decide
        · rw [decide_eq_false (by omega), beq_false_of_ne (by omega : (32 : Int) ≠ ch), beq_false_of_ne (by omega : (10 : Int) ≠ ch)]
          rfl
    show if inV (V.int (ch : Int)) [V.int 32, V.int 10] = true then _ else _
    rw [ein]
    by_cases cw : ch = 32 ∨ ch = 10
    · refine if_yes (decide_eq_true cw) ?_
      rw [if_pos cw] at etf
      refine ⟨_, rfl, _, _, rfl, rfl, ⟨i + 1, g', done, rs, v, rfl, by omega, sm, hDD, htk, by omega, by omega, by rw [← etf]; exact inv⟩, ?_⟩
      show 2000 - ((i : Int) + 1).toNat < 2000 - (i : Int).toNat
      omega
    · refine if_no (decide_eq_false cw) ?_
      rw [if_neg cw] at etf
      have hfin := tk_fin i ch (text.drop (i + 1))
      rw [← hdr] at hfin
      rw [List.length_drop] at hfin
      rw [← hdr] at etf
      refine ⟨_, rfl, _, rfl, a, text, text.drop (i + 1), i, ch, rfl, sq', hlen, hdr, rfl, fun H2 b nb s2 hb => ?_⟩
      rw [← hdr] at hb
      have hD2 := s2 _ _ hDD
      have nbD : b ≠ D := hb.ne hD2
      -- tokens.append(token)
      refine ⟨_, rfl, .inl ⟨rfl, _, SqL.of hD2⟩, ?_⟩
      refine ⟨_, rfl, D, _, _, rfl, rfl, hD2, ?_, ?_⟩
      · rw [List.length_map, htk.1]
        exact less_line (by omega)
      have hb2 := hb.upd (o := .lst (rs.map V.ref ++ [.ref b])) hD2
      obtain ⟨dx, hb2'⟩ := id hb2
      refine ⟨_, rfl, b, Ck, dx, _, _, rfl, hb2', T.cl, T.n4, tkF_end, ⟨(tkOf i (text.drop i)).fin, g', done ++ [tkOf i (text.drop i)], rs ++ [b], some (.ref b), rfl, by omega, ?_, ?_, ?_, ?_, ?_, ?_⟩, ?_⟩
      · exact fun b' o e => by
          by_cases z : b' = D
          · rw [z, hD] at e
            cases e
          · rw [upd_ne z]
            exact s2 _ _ (sm _ _ e)
      · rw [upd_same, List.map_append]
        rfl
      · exact ((htk.same s2).upd hD2).snoc hb2
      · rw [List.length_append]
        show done.length + 1 ≤ _
        omega
      · omega
      · rw [inv, etf, List.append_assoc, List.drop_drop, show i + ((tkOf i (text.drop i)).fin - i) = (tkOf i (text.drop i)).fin by omega]
        rfl
      · show 2000 - ((((tkOf i (text.drop i)).fin : Nat) : Int)).toNat < 2000 - (i : Int).toNat
        omega
  · refine if_no (decide_eq_false (by rw [hl]; omega)) ?_
    have ei : i = text.length := by omega
    subst ei
    have etail : toksFrom g text.length (text.drop text.length) = [] := by
      rw [List.drop_length]
      cases g <;> rfl
    rw [etail, List.append_nil] at inv
    -- tokens.append(Token(END, None, place, place))
    refine ⟨_, rfl, .inl ⟨rfl, _, SqL.of hDD⟩, ?_⟩
    refine ⟨_, rfl, _, rfl, fun x dx nx nd ne => ⟨x, dx, _, _, _, _, rfl, upd_same, fun H2 h1 b1 => ⟨rfl, ?_⟩⟩⟩
    have s2 := made nx nd b1
    have hD2 := s2 _ _ hDD
    refine ⟨D, _, _, rfl, rfl, hD2, ?_, ?_⟩
    · rw [List.length_map, htk.1]
      exact less_line (by omega)
    have hx : TkAt Ck H2 x ⟨.fin, text.length, text.length⟩ := ⟨dx, h1⟩
    refine ⟨_, rfl, q _ D (rs ++ [x]) hD ?_ ?_ ?_⟩
    · exact fun b' o e => by
        by_cases z : b' = D
        · rw [z, hD] at e
          cases e
        · rw [upd_ne z]
          exact s2 _ _ (sm _ _ e)
    · rw [upd_same, List.map_append]
      rfl
    · unfold allToks
      rw [inv]
      exact ((htk.same s2).upd hD2).snoc (hx.upd hD2)
end
end Cl
set_option Elab.async false
set_option maxRecDepth 100000
/-! # What the specification's reader makes of a row of tokens -/
namespace Cl
open Vbndal
def Good (k : Tk) : Prop := match k.v with
  | .word w => w.length ≤ 8
  | .num m => m < 1000
  | .fin => False
  | _ => True
/-- a rest of all tokens of a text of n bytes -/
def VT (n : Nat) (rem : List Tk) : Prop := ∃ pre, rem = pre ++ [⟨.fin, n, n⟩] ∧ ∀ k ∈ pre, Good k
theorem VT.split {n : Nat} {rem : List Tk} (h : VT n rem) : ∃ t r, rem = t :: r ∧ ((t = ⟨.fin, n, n⟩ ∧ r = []) ∨ (Good t ∧ VT n r)) := by
  obtain ⟨pre, rfl, g⟩ := h
  cases pre with
  | nil => exact ⟨_, _, rfl, .inl ⟨rfl, rfl⟩⟩
  | cons t p => exact ⟨t, p ++ [⟨.fin, n, n⟩], rfl, .inr ⟨g t List.mem_cons_self, p, rfl, fun k hk => g k (List.mem_cons_of_mem _ hk)⟩⟩
theorem VT.tail {n : Nat} {t : Tk} {r : List Tk} (h : VT n (t :: r)) (hf : t.v ≠ .fin) : Good t ∧ VT n r := by
  obtain ⟨t', r', e, h⟩ := h.split
  cases e
  rcases h with ⟨rfl, _⟩ | h
  · exact absurd rfl hf
  · exact h
theorem cur_off {n : Nat} {t : Tk} {r : List Tk} (h : VT n (t :: r)) : currentOffset n (conv (t :: r)) = t.off := by
  obtain ⟨t', r', e, h⟩ := h.split
  cases e
  obtain ⟨v, o, e⟩ := t
  rcases h with ⟨h, _⟩ | ⟨h, _⟩
  · cases h
    rfl
  · cases v with
    | fin => exact h.elim
    | _ => rfl
def tvTok : TV → Option Token
  | .word w => some (.word w)
  | .num n => some (.number n)
  | .semi => some .semicolon
  | .bad => some .invalid
  | .fin => none
theorem conv_cons {t : Tk} {r : List Tk} {k : Token} (h : tvTok t.v = some k) (hb : t.v ≠ .bad) : conv (t :: r) = (t.off, k) :: conv r := by
  obtain ⟨v, o, e⟩ := t
  cases v with
  | fin => cases h
  | bad => exact absurd rfl hb
  | _ =>
    cases h
    rfl
theorem conv_bad {t : Tk} {r : List Tk} (h : t.v = .bad) : conv (t :: r) = [(t.off, .invalid)] := by
  obtain ⟨v, o, e⟩ := t
  cases h
  rfl
theorem conv_fin {t : Tk} {r : List Tk} (h : t.v = .fin) : conv (t :: r) = [] := by
  obtain ⟨v, o, e⟩ := t
  cases h
  rfl
/-- a token that is expected: it stands there -/
theorem exp_ok {n : Nat} {t : Tk} {r : List Tk} {k : Token} (h : tvTok t.v = some k) (hb : t.v ≠ .bad) : expect n k (conv (t :: r)) = .ok (conv r) := by
  unfold expect nextIs
  rw [conv_cons h hb]
  simp
theorem exp_no {n : Nat} {t : Tk} {r : List Tk} {k : Token} (vt : VT n (t :: r)) (h : tvTok t.v ≠ some k) : expect n k (conv (t :: r)) = .error ⟨1, t.off⟩ := by
  unfold expect
  have e : nextIs k (conv (t :: r)) = false := by
    unfold nextIs
    cases hv : t.v with
    | fin =>
      rw [conv_fin hv]
      rfl
    | bad =>
      rw [conv_bad hv]
      rw [hv] at h
      simpa [tvTok] using h
    | word w =>
      rw [conv_cons (k := .word w) (by rw [hv]; rfl) (by rw [hv]; intro z; cases z)]
      rw [hv] at h
      simpa [tvTok] using h
    | num w =>
      rw [conv_cons (k := .number w) (by rw [hv]; rfl) (by rw [hv]; intro z; cases z)]
      rw [hv] at h
      simpa [tvTok] using h
    | semi =>
      rw [conv_cons (k := .semicolon) (by rw [hv]; rfl) (by rw [hv]; intro z; cases z)]
      rw [hv] at h
      simpa [tvTok] using h
  rw [e, if_neg Bool.false_ne_true, cur_off vt]
theorem num_ok {n : Nat} {ok : Nat → Bool} {t : Tk} {r : List Tk} {m : Nat} (h : t.v = .num m) : parseNumber n ok (conv (t :: r)) = if ok m = true then .ok ((t.off, m), conv r) else .error ⟨4, t.off⟩ := by
  rw [conv_cons (k := .number m) (by rw [h]; rfl) (by rw [h]; intro z; cases z)]
  rfl
theorem num_no {n : Nat} {ok : Nat → Bool} {t : Tk} {r : List Tk} (vt : VT n (t :: r)) (h : ∀ m, t.v ≠ .num m) : parseNumber n ok (conv (t :: r)) = .error ⟨1, t.off⟩ := by
  have c := cur_off vt
  cases hv : t.v with
  | fin =>
    rw [conv_fin hv] at c ⊢
    unfold parseNumber
    rw [c]
  | bad =>
    rw [conv_bad hv] at c ⊢
    unfold parseNumber
    rfl
  | word w =>
    rw [conv_cons (k := .word w) (by rw [hv]; rfl) (by rw [hv]; intro z; cases z)] at c ⊢
    unfold parseNumber
    rfl
  | num w => exact absurd hv (h w)
  | semi =>
    rw [conv_cons (k := .semicolon) (by rw [hv]; rfl) (by rw [hv]; intro z; cases z)] at c ⊢
    unfold parseNumber
    rfl
theorem name_ok {n : Nat} {t : Tk} {r : List Tk} {w : List Nat} (h : t.v = .word w) : parseName n (conv (t :: r)) = if keywords.contains w = true then .error ⟨1, t.off⟩ else .ok ((t.off, w), conv r) := by
  rw [conv_cons (k := .word w) (by rw [h]; rfl) (by rw [h]; intro z; cases z)]
  rfl
theorem name_no {n : Nat} {t : Tk} {r : List Tk} (vt : VT n (t :: r)) (h : ∀ m, t.v ≠ .word m) : parseName n (conv (t :: r)) = .error ⟨1, t.off⟩ := by
  have c := cur_off vt
  cases hv : t.v with
  | fin =>
    rw [conv_fin hv] at c ⊢
    unfold parseName
    rw [c]
  | bad =>
    rw [conv_bad hv] at c ⊢
    unfold parseName
    rfl
  | word w => exact absurd hv (h w)
  | num w =>
    rw [conv_cons (k := .number w) (by rw [hv]; rfl) (by rw [hv]; intro z; cases z)] at c ⊢
    unfold parseName
    rfl
  | semi =>
    rw [conv_cons (k := .semicolon) (by rw [hv]; rfl) (by rw [hv]; intro z; cases z)] at c ⊢
    unfold parseName
    rfl
theorem dec_le : ∀ (l : List Nat) (a b : Nat), (∀ c ∈ l, isDigit c = true) → a < b → l.foldl (fun n c => 10 * n + (c - 48)) a < b * 10 ^ l.length
  | [], a, b, _, h => by simpa using h
  | c :: r, a, b, hd, h => by
    have hc := hd c List.mem_cons_self
    unfold isDigit at hc
    rw [Bool.and_eq_true, decide_eq_true_iff, decide_eq_true_iff] at hc
    have z := dec_le r (10 * a + (c - 48)) (10 * b) (fun x hx => hd x (List.mem_cons_of_mem _ hx)) (by omega)
    rw [List.foldl_cons, List.length_cons, Nat.pow_succ]
    rw [show 10 * b * 10 ^ r.length = b * (10 ^ r.length * 10) by rw [Nat.mul_comm 10 b, Nat.mul_assoc, Nat.mul_comm 10 (10 ^ r.length)]] at z
    exact z
theorem tw_mem (p : Nat → Bool) {c : Nat} : ∀ {l : List Nat}, c ∈ l.takeWhile p → p c = true
  | [], h => by simp at h
  | x :: r, h => by
    rw [List.takeWhile_cons] at h
    cases hx : p x with
    | false =>
      rw [hx] at h
      simp at h
    | true =>
      rw [hx] at h
      rcases List.mem_cons.mp h with e | e
      · rw [e]
        exact hx
      · exact tw_mem p e
theorem good_tk (i c : Nat) (t : List Nat) : Good (tkOf i (c :: t)) := by
  rw [tk_cons]
  split
  · split
    · trivial
    · unfold Good
      dsimp only
      omega
  · split
    · split
      · trivial
      · rename_i h
        unfold Good
        dsimp only
        have hl : ((c :: t).takeWhile isDigit).length ≤ 3 := by omega
        have z := dec_le ((c :: t).takeWhile isDigit) 0 1 (fun x hx => tw_mem isDigit hx) (by omega)
        have y : 10 ^ ((c :: t).takeWhile isDigit).length ≤ 10 ^ 3 := Nat.pow_le_pow_right (by omega) hl
        unfold decimalValue
        omega
    · split <;> trivial
theorem good_toks : ∀ (f i : Nat) (s : List Nat), ∀ k ∈ toksFrom f i s, Good k
  | 0, _, _, k, h => by cases h
  | _ + 1, _, [], k, h => by cases h
  | f + 1, i, c :: t, k, h => by
    unfold toksFrom at h
    split at h
    · exact good_toks f (i + 1) t k h
    · rcases List.mem_cons.mp h with e | e
      · rw [e]
        exact good_tk i c t
      · exact good_toks f _ _ k e
theorem vt_all (text : List Nat) : VT text.length (allToks text) := ⟨_, rfl, good_toks _ _ _⟩
theorem conv_len {n : Nat} : ∀ {rem : List Tk}, VT n rem → (conv rem).length ≤ rem.length
  | [], _ => Nat.le_refl _
  | t :: r, h => by
    obtain ⟨t', r', e, h⟩ := h.split
    cases e
    rcases h with ⟨rfl, rfl⟩ | ⟨_, h⟩
    · exact Nat.zero_le _
    · have ih := conv_len h
      obtain ⟨v, o, e⟩ := t
      cases v with
      | fin => exact Nat.zero_le _
      | bad => exact Nat.succ_le_succ (Nat.zero_le _)
      | _ => exact Nat.succ_le_succ ih
theorem conv_empty {n : Nat} {t : Tk} {r : List Tk} (h : VT n (t :: r)) : (conv (t :: r)).isEmpty = true ↔ t.v = .fin := by
  obtain ⟨v, o, e⟩ := t
  cases v <;> simp [conv]
end Cl
set_option Elab.async false
set_option maxRecDepth 100000
set_option maxHeartbeats 4000000
/-! # Errors of the program's own, over Exception: one without __init__, made without arguments; one whose __init__ stores two numbers -/
namespace Cl
open PySem PySem.Spec PyProof.Rows L2
/-- what the head tells of a plain error class -/
structure Xp (K : Fr) (mg : Str → Option Value) (x : Str) (C : Addr) : Prop where
  exc : PySem.W.excIn K C PySem.ESX.exTail "Exception.__new__" = true
  glo : mg x = some (.ref C)
  kep : KeepT K C
  sub : PySem.W.subIn K (.ref C) (.type "BaseException") = some true
  typ : PySem.W.typeIn K (.ref C) = some (.type "type")
theorem pmk_own0 {X : Cx} {C : Addr} {x : Str} {p pos : Pos} (D : Xp X.K X.mg x C) (hg : Gl X x) (h1 : (x == ("__debug__" : Str)) = false := by decide) :
    PMk X (.Call (.Name x p) [] [] pos) (fun _ H Q => Q (.ref C) none H) := by
  intro pins s σ H Q J hq
  refine wpAny_Call_Name_kw (ld_glob J hg D.glo ?_ h1)
  refine PySem.W.callWith_K0 J.kIn D.kep ?_
  obtain ⟨v1, v2, v3, v4, v5, v6, v7, v8, v9, v10, v11, v12, v13, v14, v15, v16, v17, c1, c2, c3, c4⟩ := exc_obj J.kIn D.exc
  refine wpAny_call_exc_subT F.excBase_Exception c4 c1 c2 c3 (fun h' e made => ?_) (Nat.zero_le _)
  exact mk_of J made (raises_own D.sub D.typ) hq (J.hok.gone made.new)
/-- what the head tells of an error class with an __init__ of its own -/
structure Xi (K : Fr) (C : Addr) : Prop where
  cls : ∃ n1 n2 n3 n4 n5 n6 n7 n8 n9 m0 m1 m2 m3 m5, K.lookup C = some (excClassObj n1 n2 C n3 n4 PySem.ESX.exTail true n5 n6 n7 n8 n9 m0 m1 m2 m3 m5 "Exception.__new__")
  sa : PySem.W.findIn K (.ref C) "__setattr__" = some (some (.builtin "object.__setattr__"))
  sub : PySem.W.subIn K (.ref C) (.type "BaseException") = some true
  typ : PySem.W.typeIn K (.ref C) = some (.type "type")
  kep : KeepT K C
section
variable {X : Cx} {pins : List (Addr × Obj)} {σ : L2.St} {H : Hp} {s : Shared} {a C dx : Addr} {g : Str} {y : V} {u : Value} {fs : List (Str × V)} {Q : Unit → Shared → Prop} {E : Value → Shared → Prop} {A : Around}
/-- the first field: the error gets its dict -/
theorem xi_new (T : Xi X.K C) (I : Inv X pins σ H s) (e : H a = some (exo a C none)) (no : PySem.W.findIn X.K (.ref C) g = some none) (ry : RelV y u)
    (h : ∀ dx s', H dx = none → dx ≠ a → Inv X pins σ (upd (upd H dx (exd dx [(g, y)])) a (exo a C (some dx))) s' → Q () s') : wpAny (model X.prog X.w) A (setAttr (.ref a) g u) Q E s := by
  obtain ⟨n1, n2, n3, n4, n5, n6, n7, n8, n9, m0, m1, m2, m3, m5, hC⟩ := T.cls
  have cl : PySem.W.clsIn X.K C = some { name := n1, bases := n4, mro := .ref C :: PySem.ESX.exTail, ns := n3, qualname := n2, hasDict := true, slotNames := n5, subclasses := n6, abstract := n7, collection := n8, hasDel := false } := by
    unfold PySem.W.clsIn
    rw [hC] <;> rfl
  obtain ⟨t1, ho⟩ := exo_at I.hok e
  obtain ⟨hp, gs, dr, t, os⟩ := s
  refine PySem.W.set_plain I.kIn (ox := { cls := .ref C, dict := none, data := .fields #[.ref t1, .none, .none, .none, .bool false, .none] }) (od := none) ⟨ho, rfl, rfl, trivial⟩ T.sa ?_
  refine PySem.ESX.osa_new I.kIn ho cl rfl rfl no (fun h' tk' dx k dn dne hx hn => ?_)
  have fresh : H dx = none := I.hok.fresh dn
  have apart : ∀ {b : Addr} {o : Obj}, hp.get? b = some o → b ≠ dx := fun {b o} z => Nat.ne_of_lt (Nat.lt_of_lt_of_le (Heap.lt_size z) dn)
  have notA : ∀ {b : Addr}, H b = none → b ≠ a := fun {b} n z => by
    rw [z, e] at n
    cases n
  have U : Un X.fs [] H (upd (upd H dx (exd dx [(g, y)])) a (exo a C (some dx))) hp h' :=
    { keep := fun b o z n _ _ => k b o (notA n) z
      slot := fun b o z n _ _ => ⟨o.slots, k b o (notA n) z⟩
      free := fun b o z n _ => by
        rw [upd_ne (notA n), upd_ne (apart z)]
        exact n
      there := fun b o z _ => by
        by_cases hb : b = a
        · exact ⟨_, by rw [hb]; exact hx⟩
        · exact ⟨o, k b o hb z⟩
      tups := fun b xs z => by
        rw [upd_ne (at_ne e z exo_tup), upd_ne (ne_of_none z fresh)]
        exact z
      frzs := fun b o v z => by
        rw [upd_ne (at_ne e z exo_frz), upd_ne (ne_of_none z fresh)]
        exact z
      tbls := fun b ps z => ⟨#[], by rw [upd_ne (at_ne e z exo_tbl), upd_ne (ne_of_none z fresh), z]; simp⟩ }
  refine h dx _ fresh dne (I.un (t' := tk') U fun b o z => ?_)
  by_cases hb : b = a
  · subst hb
    rw [upd_same] at z
    cases z
    exact exo_ok hx
  · rw [upd_ne hb] at z
    by_cases hd : b = dx
    · subst hd
      rw [upd_same] at z
      cases z
      exact exd_ok hn (relO_put (fs := []) ry fun _ => True.intro)
    · rw [upd_ne hd] at z
      refine (I.hok b o z).stay (fun c v hc r => k c v (fun q => ?_) r) (fun c hc => ?_) fun c xs hc => ?_
      · rcases hc with hc | hc
        · exact hb (hc.symm.trans q)
        · exact at_ne e hc exo_own q
      · rw [upd_ne (at_ne e hc exo_own), upd_ne (ne_of_none hc fresh)]
        exact hc
      · rw [upd_ne (at_ne e hc exo_tup), upd_ne (ne_of_none hc fresh)]
        exact hc
/-- a further field -/
theorem xi_old (T : Xi X.K C) (I : Inv X pins σ H s) (e : H a = some (exo a C (some dx))) (ed : H dx = some (exd dx fs)) (few : fs.length ≤ 900) (no : PySem.W.findIn X.K (.ref C) g = some none) (ry : RelV y u)
    (h : ∀ s', Inv X pins σ (upd H dx (exd dx ((g, y) :: fs))) s' → Q () s') : wpAny (model X.prog X.w) A (setAttr (.ref a) g u) Q E s := by
  obtain ⟨n1, n2, n3, n4, n5, n6, n7, n8, n9, m0, m1, m2, m3, m5, hC⟩ := T.cls
  have cl : PySem.W.clsIn X.K C = some { name := n1, bases := n4, mro := .ref C :: PySem.ESX.exTail, ns := n3, qualname := n2, hasDict := true, slotNames := n5, subclasses := n6, abstract := n7, collection := n8, hasDel := false } := by
    unfold PySem.W.clsIn
    rw [hC] <;> rfl
  obtain ⟨t1, ho⟩ := exo_at I.hok e
  obtain ⟨mA, ns, rel⟩ := exd_at I.hok ed
  have wi := within_of rel
  obtain ⟨hp, gs, dr, t, os⟩ := s
  obtain ⟨oD, _, _, hoD, _, _⟩ := ns.count wi
  refine PySem.W.set_plain I.kIn (ox := { cls := .ref C, dict := some dx, data := .fields #[.ref t1, .none, .none, .none, .bool false, .none] }) (od := some oD) ⟨ho, rfl, rfl, hoD⟩ T.sa ?_
  refine PySem.ESX.osa_old I.kIn ho ns wi (by rw [List.length_map]; omega) cl rfl rfl no (fun h' tk' k hn => ?_)
  obtain ⟨oe, _, _, he2, _⟩ := id hn
  exact h _ (I.write (t' := tk') (x := dx) (e := dx) (o := exd dx ((g, y) :: fs)) (by rw [ed]; exact True.intro) (.inl rfl) k ⟨oe, he2⟩ (exd_ok hn (relO_put ry rel)))
end
/-- self.f = e of an error that is being made -/
def tXs (K : Fr) (f : Str) (to te : TE) : TS := fun D σ H => te σ H fun y H1 => to σ H1 fun x H2 => ∃ a C : Addr, x = .ref a ∧ Xi K C ∧ PySem.W.findIn K (.ref C) f = some none ∧
  ((H2 a = some (exo a C none) ∧ ∀ dx, H2 dx = none → dx ≠ a → D.nx σ (upd (upd H2 dx (exd dx [(f, y)])) a (exo a C (some dx)))) ∨
    ∃ (dx : Addr) (fs : List (Str × V)), H2 a = some (exo a C (some dx)) ∧ H2 dx = some (exd dx fs) ∧ fs.length ≤ 900 ∧ D.nx σ (upd H2 dx (exd dx ((f, y) :: fs))))
theorem ps_xs {X : Cx} {o e : Expr} {to te : TE} {f : Str} {p' pos : Pos} (ho : PE X o to) (he : PE X e te) (hs : swapsWith e (some (.Attribute o f p')) pos.line X.env = pure false := by rfl) : PS X (.Assign [.Attribute o f p'] e pos) (tXs X.K f to te) := by
  refine ⟨fun pins s σ H D I h => ?_⟩
  refine plainObj_wpAny_Assign_Attribute (thn (he.run pins s σ H _ I h) fun v s1 ⟨y, H1, I1, r1, q1⟩ => thn (ho.run pins s1 σ H1 _ I1 q1) fun w s2 ⟨x, H2, I2, r2, a, C, ex, T, no, q⟩ => ?_) hs
  subst ex
  obtain rfl : w = Value.ref a := r2
  rcases q with ⟨ea, q⟩ | ⟨dx, fs, ea, ed, few, q⟩
  · exact xi_new T I2 ea no r1 fun dx s' n ne J => ⟨σ, _, J, q dx n ne⟩
  · exact xi_old T I2 ea ed few no r1 fun s' J => ⟨σ, _, J, q⟩
/-- C(e, ..), C's own __init__ keeping sp -/
theorem pmk_xi {X : Cx} {c : CXT} {x : Str} {C fI : Addr} {k : Nat} {fd : FuncData} {ps : List Str} {sp : Sp} {p pos : Pos} {e : Expr} {es : List Expr} {ta : TA} (T : Xi X.K C) (iC : PySem.W.findIn X.K (.ref C) "__init__" = some (some (.ref fI))) (tI : PySem.W.typeIn X.K (.ref fI) = some (.type "function"))
    (F1 : FnOk X.prog X.w X.K X.mg X.base c k fI fd ps sp) (hr : Room (k + 1) X.A) (hb : Binds X.K fd ps []) (hx : Passes c X (fun _ _ _ => False)) (hg : Gl X x) (hm : X.mg x = some (.ref C)) (ha : PA X (e :: es) ta)
    (h1 : (x == ("__debug__" : Str)) = false := by decide) (h2 : starEach (e :: es) X.env = (false, eval e X.env) :: starEach es X.env := by rfl) (h3 : (backTo pos (starEach es X.env)).any (·.1) = false := by rfl) :
    PMk X (.Call (.Name x p) (e :: es) [] pos) (tMkO C sp [] ta) := by
  intro pins s σ H Q I h
  obtain ⟨n1, n2, n3, n4, n5, n6, n7, n8, n9, m0, m1, m2, m3, m5, hC⟩ := T.cls
  refine wpAny_Call_Name_kw (ld_glob I hg hm ?_ h1)
  refine PySem.W.callWith_K (h₀ := X.base) I.ok.mod.kin T.kep (thn (ha.run pos pins s σ H _ I h) fun us s1 ⟨vs, H1, I1, r1, hz, q1⟩ => ⟨I1.kIn, ?_⟩) h2 h3
  show wpAny _ _ (call (.ref C) us) _ _ _
  obtain ⟨hp, gs, dr, tk, os⟩ := s1
  have le1 : hp.objs.size ≤ hp.objs.size + 1 := Nat.le_succ _
  have n0 : H1 (hp.objs.size + 1) = none := I1.hok.fresh le1
  have hq := q1 (hp.objs.size + 1) n0
  have keep : ∀ b o, hp.get? b = some o → ((hp.push (PySem.W.kdv_tup us)).push (PySem.HandSPX.excO C hp.objs.size)).get? b = some o := fun b o z => Heap.get?_push_of_some _ (Heap.get?_push_of_some _ z)
  have got : ((hp.push (PySem.W.kdv_tup us)).push (PySem.HandSPX.excO C hp.objs.size)).get? (hp.objs.size + 1) = some (PySem.HandSPX.excO C hp.objs.size) := by heap_get
  have I2 : Inv X pins σ (upd H1 (hp.objs.size + 1) (exo (hp.objs.size + 1) C none)) ⟨(hp.push (PySem.W.kdv_tup us)).push (PySem.HandSPX.excO C hp.objs.size), gs, dr, tk, os⟩ :=
    I1.laid (t' := tk) (a := hp.objs.size + 1) (o := exo (hp.objs.size + 1) C none) (h' := (hp.push (PySem.W.kdv_tup us)).push (PySem.HandSPX.excO C hp.objs.size)) keep le1 (exo_ok got)
  have vals : Vals (V.ref (hp.objs.size + 1) :: (vs ++ [])) (Value.ref (hp.objs.size + 1) :: us) := by
    rw [List.append_nil]
    exact .cons rfl r1
  have len : (Value.ref (hp.objs.size + 1) :: us ++ []).length = ps.length := by
    have z := vals.length
    rw [F1.len _ _ _ _ hq] at z
    rw [List.append_nil]
    exact z.symm
  have bound := hb ⟨(hp.push (PySem.W.kdv_tup us)).push (PySem.HandSPX.excO C hp.objs.size), gs, dr, tk, os⟩ (Value.ref (hp.objs.size + 1) :: us) I2.kIn len
  rw [List.append_nil] at bound
  have small : us.length ≤ sizeLine := by
    rw [← Paired.length r1, sizeLine_eq]
    omega
  refine wpAny_call (PySem.HandSPX.call_own F.excBase_Exception (fun Y => rfl) (I1.kIn _ _ hC) (PySem.W.looks_findIn I1.kIn iC) (fun self => PySem.W.bind_fn I1.kIn self tI) small
    (codeAny_mono (F1.run _ X.stack _ _ ⟨Value.ref (hp.objs.size + 1) :: us, []⟩ (Value.ref (hp.objs.size + 1) :: us) _ _ (fun _ _ _ => False) (hr.make C us []) (I2.env0.make C us []) bound vals hq) fun r s' hq' => ?_))
  cases r with
  | error er => exact hx pins σ _ _ er s' I2 hq'
  | ok fl =>
    cases fl with
    | ret v =>
      obtain ⟨z, H2, os2, bare2, un2, hok2, rv, ev, d, fs, ea, ed, hd1, q2⟩ := hq'
      subst ev
      obtain ⟨h2, g2, d2, t2, os'⟩ := s'
      exact ⟨rv, mk_end (raises_own T.sub T.typ) I1 le1 keep un2 hok2 os2 bare2 ea ed hd1 q2⟩
    | next => exact False.elim hq'
    | brk => exact False.elim hq'
    | cont => exact False.elim hq'
end Cl
set_option Elab.async false
set_option linter.unusedVariables false
set_option maxRecDepth 100000
set_option maxHeartbeats 4000000
/-! # The program's errors -/
namespace Cl
open PySem PySem.Spec PyProof.Rows L2
abbrev s_InvalidText___init__ : Stmt := inClass (top 25) 0
abbrev n_InvalidText___init__ : List Str := ["self", "code", "offset"]
theorem sc_InvalidText___init__ : FnScope n_InvalidText___init__ ["self", "code", "offset"] (defScope s_InvalidText___init__) := ⟨rfl, rfl, rfl, by decide +kernel, rfl, by decide +kernel, by decide +kernel⟩
def itF (c o : Int) : List (Str × V) := [("offset", .int o), ("code", .int c)]
theorem itF_code {c o : Int} : (itF c o).lookup ("code" : Str) = some (.int c) := lkp lkh
theorem itF_offset {c o : Int} : (itF c o).lookup ("offset" : Str) = some (.int o) := lkh
def sp_it_init (K : Fr) (Cx : Addr) : Sp := fun vs H Q _ => ∃ (a : Addr) (c o : Int), vs = [.ref a, .int c, .int o] ∧ H a = some (exo a Cx none) ∧
  ∀ d, H d = none → d ≠ a → Q .non (upd (upd (upd H d (exd d [("code", .int c)])) a (exo a Cx (some d))) d (exd d (itF c o)))
/-- what is told of InvalidText -/
structure Xt (P : Program) (w : World) (K : Fr) (mg : Str → Option Value) (base : Heap) (x : Str) (C : Addr) : Prop where
  xi : Xi K C
  glo : mg x = some (.ref C)
  ini : ∃ (fI : Addr) (fd : FuncData) (ps : List Str), PySem.W.findIn K (.ref C) "__init__" = some (some (.ref fI)) ∧ PySem.W.typeIn K (.ref fI) = some (.type "function") ∧ FnOk P w K mg base CX0 1 fI fd ps (sp_it_init K C) ∧ Binds K fd ps []
  xf : XfC K C
  no_code : PySem.W.findIn K (.ref C) "code" = some none
  no_offset : PySem.W.findIn K (.ref C) "offset" = some none
section
variable {P : Program} {w : World} {K : Fr} {mg : Str → Option Value} {base : Heap} {f : Addr} {fd : FuncData} {Cx : Addr}
theorem ok_it_init (T : Xi K Cx) (n1 : PySem.W.findIn K (.ref Cx) "code" = some none) (n2 : PySem.W.findIn K (.ref Cx) "offset" = some none) (F : Fun K "__init__" "InvalidText.__init__" s_InvalidText___init__ f fd)  : FnOk P w K mg base CX0 1 f fd ["self", "code", "offset"] (sp_it_init K Cx) := by
  refine F.ok sc_InvalidText___init__ (fun vs H Q E h => ?_) (fun cdv A outer s H vs Q E hr h => ⟨_, (pss_cons (ps_xs (pv 0) (pv 1))
      (pss_one (ps_xs (pv 0) (pv 2)))), ?_⟩)
  · obtain ⟨a, c, o, rfl, _⟩ := h
    rfl
  obtain ⟨a, c, o, rfl, ha, q⟩ := h
  refine ⟨_, rfl, _, rfl, a, Cx, rfl, T, n1, .inl ⟨ha, fun d nd ne => ?_⟩⟩
  refine ⟨_, rfl, _, rfl, a, Cx, rfl, T, n2, .inr ⟨d, _, upd_same, ?_, (by show 1 ≤ 900; decide), q d nd ne⟩⟩
  rw [upd_ne ne]
  exact upd_same
end
/-- a reading of arguments, of which less is asked -/
def taM (ta : TA) : TA := fun σ H Q => ∃ Q0 : List V → Hp → Prop, ta σ H Q0 ∧ ∀ vs H1, Q0 vs H1 → Q vs H1
theorem pa_m {X : Cx} {es : List Expr} {ta : TA} (h : PA X es ta) : PA X es (taM ta) := ⟨fun pos pins s σ H Q I ⟨Q0, h0, i⟩ => thn (h.run pos pins s σ H Q0 I h0) fun us s1 ⟨vs, H1, I1, r1, q1⟩ => ⟨vs, H1, I1, r1, i vs H1 q1⟩⟩
def tMk2 (C : Addr) (ta : TA) : L2.St → Hp → XK → Prop := fun σ H Q => ta σ H fun vs H1 => ∃ c o : Int, vs = [.int c, .int o] ∧ ∀ d, H1 d = none → Q (.ref C) (some d) (upd H1 d (.xd (itF c o)))
theorem pmk_own2 {X : Cx} {x : Str} {C : Addr} {j : Nat} {p pos : Pos} {e : Expr} {es : List Expr} {ta : TA} (D : Xt X.prog X.w X.K X.mg X.base x C) (hr : Room j X.A) (hk : 2 ≤ j) (hg : Gl X x) (ha : PA X (e :: es) ta)
    (h1 : (x == ("__debug__" : Str)) = false := by decide) (h2 : starEach (e :: es) X.env = (false, eval e X.env) :: starEach es X.env := by rfl) (h3 : (backTo pos (starEach es X.env)).any (·.1) = false := by rfl) :
    PMk X (.Call (.Name x p) (e :: es) [] pos) (tMk2 C ta) := by
  intro pins s σ H Q I h
  obtain ⟨fI, fd, ps, e1, e2, F1, hb⟩ := D.ini
  refine pmk_xi (c := CX0) (k := 1) (sp := sp_it_init X.K C) D.xi e1 e2 F1 (hr.mono hk) hb pass0 hg D.glo (pa_m ha) h1 h2 h3 pins s σ H Q I ⟨_, h, ?_⟩
  rintro vs H1 ⟨c, o, rfl, q⟩
  refine ⟨(by show 2 ≤ 1000; decide), fun a na => ⟨a, c, o, rfl, upd_same, fun d nd ne => ⟨rfl, d, itF c o, ?_, upd_same, ?_, ?_⟩⟩⟩
  · rw [upd_ne ne.symm]
    exact upd_same
  · rw [upd_ne ne] at nd
    exact nd
  · have z : upd (del (upd (upd (upd (upd H1 a (exo a C none)) d (exd d [("code", V.int c)])) a (exo a C (some d))) d (exd d (itF c o))) a) d (HO.xd (itF c o)) = upd H1 d (HO.xd (itF c o)) := by
      funext b
      by_cases hd : b = d
      · rw [hd, upd_same, upd_same]
      · rw [upd_ne hd, upd_ne hd]
        by_cases hb2 : b = a
        · rw [hb2, del_same]
          exact na.symm
        · rw [del_ne hb2, upd_ne hd, upd_ne hb2, upd_ne hd, upd_ne hb2]
    rw [z]
    refine q d ?_
    rw [upd_ne ne] at nd
    exact nd
end Cl
set_option Elab.async false
set_option linter.unusedVariables false
set_option maxRecDepth 100000
set_option maxHeartbeats 4000000
/-! # The reader of the tokens -/
namespace Cl
open PySem PySem.Spec PyProof.Rows L2
abbrev s_TokenReader___init__ : Stmt := inClass (top 97) 0
abbrev n_TokenReader___init__ : List Str := ["self", "tokens"]
theorem sc_TokenReader___init__ : FnScope n_TokenReader___init__ ["self", "tokens"] (defScope s_TokenReader___init__) := ⟨rfl, rfl, rfl, by decide +kernel, rfl, by decide +kernel, by decide +kernel⟩
abbrev s_TokenReader_is_at : Stmt := inClass (top 97) 1
abbrev n_TokenReader_is_at : List Str := ["self", "kind"]
theorem sc_TokenReader_is_at : FnScope n_TokenReader_is_at ["self", "kind"] (defScope s_TokenReader_is_at) := ⟨rfl, rfl, rfl, by decide +kernel, rfl, by decide +kernel, by decide +kernel⟩
abbrev s_TokenReader_take : Stmt := inClass (top 97) 2
abbrev n_TokenReader_take : List Str := ["self", "kind", "token"]
theorem sc_TokenReader_take : FnScope n_TokenReader_take ["self", "kind"] (defScope s_TokenReader_take) := ⟨rfl, rfl, rfl, by decide +kernel, rfl, by decide +kernel, by decide +kernel⟩
abbrev s_TokenReader_take_keyword : Stmt := inClass (top 97) 3
abbrev n_TokenReader_take_keyword : List Str := ["self", "word", "token"]
theorem sc_TokenReader_take_keyword : FnScope n_TokenReader_take_keyword ["self", "word"] (defScope s_TokenReader_take_keyword) := ⟨rfl, rfl, rfl, by decide +kernel, rfl, by decide +kernel, by decide +kernel⟩
def trF (L : Addr) (i : Nat) : List (Str × V) := [("tokens", .ref L), ("place", .int i)]
structure TrT (K : Fr) (Ct : Addr) : Prop where
  cl : Cls K Ct
  n1 : NoAttr K Ct "tokens"
  n2 : NoAttr K Ct "place"
theorem trF_tokens {L : Addr} {i : Nat} : (trF L i).lookup ("tokens" : Str) = some (.ref L) := lkh
theorem trF_place {L : Addr} {i : Nat} : (trF L i).lookup ("place" : Str) = some (.int i) := lkp lkh
theorem trF_put {L : Addr} {i : Nat} {v : V} : putF "place" v (trF L i) = ([("tokens", .ref L), ("place", v)] : List (Str × V)) := ptp pth
theorem trF_take {L : Addr} {i : Nat} : (trF L i).lookup ("take" : Str) = none := lkn (lkn lk0)
theorem trF_kw {L : Addr} {i : Nat} : (trF L i).lookup ("take_keyword" : Str) = none := lkn (lkn lk0)
theorem trF_at {L : Addr} {i : Nat} : (trF L i).lookup ("is_at" : Str) = none := lkn (lkn lk0)
/-- a reader at a, the rest of the tokens -/
def Rdr (Ct Ck : Addr) (H : Hp) (a : Addr) (rem : List Tk) : Prop := ∃ (dx L : Addr) (rs : List Addr) (l : List Tk) (i : Nat), H a = some (.ins Ct dx (trF L i)) ∧ H L = some (.lst (rs.map V.ref)) ∧ Tks Ck H rs l ∧ rem = l.drop i
theorem Rdr.ins {Ct Ck : Addr} {H : Hp} {a : Addr} {rem : List Tk} (h : Rdr Ct Ck H a rem) : ∃ dx fs, H a = some (.ins Ct dx fs) ∧ fs.lookup ("take" : Str) = none ∧ fs.lookup ("take_keyword" : Str) = none ∧ fs.lookup ("is_at" : Str) = none := by
  obtain ⟨dx, L, rs, l, i, h1, _⟩ := h
  exact ⟨dx, _, h1, trF_take, trF_kw, trF_at⟩
theorem Rdr.same {Ct Ck : Addr} {H H' : Hp} {a : Addr} {rem : List Tk} (h : Rdr Ct Ck H a rem) (s : Same H H') : Rdr Ct Ck H' a rem := by
  obtain ⟨dx, L, rs, l, i, h1, h2, h3, e⟩ := h
  exact ⟨dx, L, rs, l, i, s _ _ h1, s _ _ h2, h3.same s, e⟩
def BadT (Cx a : Addr) (H : Hp) (E : XK) (c o : Nat) : Prop := ∀ H' d, But a H H' → H d = none → H' d = some (.xd (itF c o)) → E (.ref Cx) (some d) H'
def sp_tr_init (Ct : Addr) : Sp := fun vs H Q _ => ∃ p dx L : Addr, vs = [.ref p, .ref L] ∧ H p = some (.ins Ct dx []) ∧ ∀ H', H' p = some (.ins Ct dx (trF L 0)) → But p H H' → Q .non H'
def sp_is_at (Ct Ck : Addr) : Sp := fun vs H Q _ => ∃ (a : Addr) (t : Tk) (r : List Tk) (k : Str), vs = [.ref a, .str k] ∧ Rdr Ct Ck H a (t :: r) ∧ Q (.bl (decide (kindS t.v = k))) H
def sp_take (Ct Ck Cx : Addr) : Sp := fun vs H Q E => ∃ (a : Addr) (t : Tk) (r : List Tk) (k : Str), vs = [.ref a, .str k] ∧ Rdr Ct Ck H a (t :: r) ∧
  (kindS t.v = k → ∀ H' b, Rdr Ct Ck H' a r → TkAt Ck H' b t → But a H H' → Q (.ref b) H') ∧ (kindS t.v ≠ k → BadT Cx a H E 1 t.off)
def sp_kw (Ct Ck Cx : Addr) : Sp := fun vs H Q E => ∃ (a : Addr) (t : Tk) (r : List Tk) (k : List Nat), vs = [.ref a, .str (tx k)] ∧ Rdr Ct Ck H a (t :: r) ∧
  (t.v = .word k → ∀ H', Rdr Ct Ck H' a r → But a H H' → Q .non H') ∧ (t.v ≠ .word k → BadT Cx a H E 1 t.off)
theorem tx_inj {a b : List Nat} (h : tx a = tx b) : a = b := SX.S_inj h
section
variable {P : Program} {w : World} {K : Fr} {mg : Str → Option Value} {base : Heap} {f : Addr} {fd : FuncData} {Ct Ck Cx : Addr}
theorem ok_TokenReader_init (T : TrT K Ct) (F : Fun K "__init__" "TokenReader.__init__" s_TokenReader___init__ f fd)  : FnOk P w K mg base CX0 1 f fd ["self", "tokens"] (sp_tr_init Ct) := by
  refine F.ok sc_TokenReader___init__ (fun vs H Q E h => ?_) (fun cdv A outer s H vs Q E hr h => ⟨_, (pss_cons (ps_fld (pv 0) (pv 1) rfl)
      (pss_one (ps_fld (pv 0) pe_int rfl))), ?_⟩)
  · obtain ⟨p, dx, L, rfl, _⟩ := h
    rfl
  obtain ⟨p, dx, L, rfl, hp, k⟩ := h
  refine ⟨_, rfl, _, rfl, p, Ct, dx, _, rfl, hp, T.cl, T.n1, (by show 0 < 1000; decide), ?_⟩
  refine ⟨_, rfl, p, Ct, dx, _, rfl, upd_same, T.cl, T.n2, (by show 1 < 1000; decide), ?_⟩
  rw [upd_upd]
  have e : putF "place" (V.int 0) (putF "tokens" (V.ref L) []) = trF L 0 := ptp rfl
  exact k _ (by rw [upd_same, e]) But.upd
theorem ok_is_at (T : TrT K Ct) (T2 : TkT K Ck) (F : Fun K "is_at" "TokenReader.is_at" s_TokenReader_is_at f fd)  : FnOk P w K mg base CX0 1 f fd ["self", "kind"] (sp_is_at Ct Ck) := by
  refine F.ok sc_TokenReader_is_at (fun vs H Q E h => ?_) (fun cdv A outer s H vs Q E hr h => ⟨_, (pss_one (ps_ret (pe_cmpR op_eq (pe_fld (pe_ix ix_list (pe_fld (pv 0) rfl) (pe_fld (pv 0) rfl) (fun _ _ => rfl)) rfl) (pv 1) (nomark _)))), ?_⟩)
  · obtain ⟨a, t, r, k, rfl, _⟩ := h
    rfl
  obtain ⟨a, t, r, k, rfl, ⟨dx, L, rs, l, i, h1, h2, h3, h4⟩, q⟩ := h
  have hi : l[i]? = some t := by
    have z : (l.drop i)[0]? = some t := by rw [← h4]; rfl
    rw [List.getElem?_drop] at z
    exact z
  have hlt : i < rs.length := by rw [h3.1]; exact (List.getElem?_eq_some_iff.mp hi).1
  have hrs : rs[i]? = some rs[i] := List.getElem?_eq_getElem hlt
  obtain ⟨dk, hk⟩ := h3.2 i _ t hrs hi
  refine ⟨_, rfl, a, Ct, dx, _, _, rfl, h1, T.cl, T.n1, trF_tokens, ?_⟩
  refine ⟨_, rfl, a, Ct, dx, _, _, rfl, h1, T.cl, T.n2, trF_place, L, _, _, .ref rs[i], rfl, rfl, SqL.of h2, atI_nat (by rw [List.getElem?_map, hrs]; rfl), ?_⟩
  refine ⟨_, Ck, dk, _, _, rfl, hk, T2.cl, T2.n1, tkF_kind, _, rfl, rfl, ?_⟩
  have e : decide (V.str (kindS t.v) = V.str k) = decide (kindS t.v = k) := decide_eq_decide.mpr ⟨fun z => V.str.inj z, fun z => congrArg V.str z⟩
  rw [← e] at q
  exact q
theorem ok_take (T : TrT K Ct) (T2 : TkT K Ck) (F : Fun K "take" "TokenReader.take" s_TokenReader_take f fd) (x_InvalidText : Xt P w K mg base "InvalidText" Cx) (c_NOT_ALLOWED : Gv mg "NOT_ALLOWED" (.int 1)) : FnOk P w K mg base (L2.CX P w) 3 f fd ["self", "kind"] (sp_take Ct Ck Cx) := by
  refine F.okX sc_TokenReader_take (fun vs H Q E h => ?_) (fun cdv A outer s H vs Q E hr h => ⟨_, (pss_cons (ps_set (i := 2) sc_TokenReader_take.nd rfl (Or.inl rfl) (pe_ix ix_list (pe_fld (pv 0) rfl) (pe_fld (pv 0) rfl) (fun _ _ => rfl)))
      (pss_cons (ps_if (pt_cmpR op_ne (pe_fld (pv 2) rfl) (pv 1) (nomark _))
      (pss_one (ps_raise rfl (takes_of rfl rfl rfl rfl) (by exact (pmk_own2 x_InvalidText hr (by decide) rfl (pa_cons (pe_gv rfl c_NOT_ALLOWED) (pa_cons (pe_fld (pv 2) rfl) pa_nil))))))
      pss_nil)
      (pss_cons (ps_fldaug (pv 0) pe_int in_add)
      (pss_one (ps_ret (pv 2)))))), ?_⟩)
  · obtain ⟨a, t, r, k, rfl, _⟩ := h
    rfl
  obtain ⟨a, t, r, k, rfl, ⟨dx, L, rs, l, i, h1, h2, h3, h4⟩, q1, q2⟩ := h
  have hi : l[i]? = some t := by
    have z : (l.drop i)[0]? = some t := by rw [← h4]; rfl
    rw [List.getElem?_drop] at z
    exact z
  have hr2 : r = l.drop (i + 1) := by
    have z : (l.drop i).drop 1 = r := by rw [← h4]; rfl
    rw [List.drop_drop] at z
    exact z.symm
  have hlt : i < rs.length := by rw [h3.1]; exact (List.getElem?_eq_some_iff.mp hi).1
  have hrs : rs[i]? = some rs[i] := List.getElem?_eq_getElem hlt
  obtain ⟨dk, hk⟩ := h3.2 i _ t hrs hi
  refine ⟨_, rfl, a, Ct, dx, _, _, rfl, h1, T.cl, T.n1, trF_tokens, ?_⟩
  refine ⟨_, rfl, a, Ct, dx, _, _, rfl, h1, T.cl, T.n2, trF_place, L, _, _, .ref rs[i], rfl, rfl, SqL.of h2, atI_nat (by rw [List.getElem?_map, hrs]; rfl), ?_⟩
  refine ⟨_, rfl, _, Ck, dk, _, _, rfl, hk, T2.cl, T2.n1, tkF_kind, _, rfl, rfl, _, rfl, ?_⟩
  by_cases c : kindS t.v = k
  · have e : (!decide (V.str (kindS t.v) = V.str k)) = false := by rw [ds_yes c]; rfl
    refine if_no e ?_
    refine ⟨_, rfl, a, Ct, dx, _, _, rfl, h1, T.cl, T.n2, trF_place, _, _, rfl, rfl, dx, _, h1, (by show 2 < 1000; decide), ?_⟩
    have h1' : upd H a (HO.ins Ct dx (putF "place" (V.int ((i : Int) + 1)) (trF L i))) a = some (.ins Ct dx (trF L (i + 1))) := by
      rw [upd_same, trF_put]
      rfl
    have keep : But a H (upd H a (HO.ins Ct dx (putF "place" (V.int ((i : Int) + 1)) (trF L i)))) := But.upd
    have nL : L ≠ a := ne_of h2 h1 (by intro z; cases z)
    have tk : Tks Ck (upd H a (HO.ins Ct dx (putF "place" (V.int ((i : Int) + 1)) (trF L i)))) rs l := ⟨h3.1, fun j b k' e1 e2 => by
      have z := h3.2 j b k' e1 e2
      obtain ⟨dz, ez⟩ := z
      refine ⟨dz, keep _ _ ez fun zz => ?_⟩
      rw [zz, h1] at ez
      have z5 := Option.some.inj ez
      injection z5 with y1 y2 y3
      have z6 := congrArg (fun q : List (Str × V) => q.length) y3
      cases z6⟩
    exact ⟨_, rfl, q1 c _ _ ⟨dx, L, rs, l, i + 1, h1', keep _ _ h2 nL, tk, hr2⟩ (tk.2 i _ t hrs hi) keep⟩
  · have e : (!decide (V.str (kindS t.v) = V.str k)) = true := by rw [ds_no c]; rfl
    refine if_yes e ?_
    refine ⟨_, rfl, _, Ck, dk, _, _, rfl, hk, T2.cl, T2.n3, tkF_offset, 1, t.off, rfl, fun d hd => ?_⟩
    exact q2 c _ d (But.of_same (Same.new hd)) hd upd_same
theorem kind_word {v : TV} : kindS v = ("word" : Str) ↔ ∃ u, v = .word u := by
  constructor
  · intro h
    cases v with
    | word u => exact ⟨u, rfl⟩
    | num n => exact absurd h (show ¬ ("number" : Str) = ("word" : Str) by decide +kernel)
    | semi => exact absurd h (by decide +kernel)
    | bad => exact absurd h (by decide +kernel)
    | fin => exact absurd h (by decide +kernel)
  · rintro ⟨u, rfl⟩
    rfl
theorem kind_num {v : TV} : kindS v = ("number" : Str) ↔ ∃ u, v = .num u := by
  constructor
  · intro h
    cases v with
    | num u => exact ⟨u, rfl⟩
    | word n => exact absurd h (show ¬ ("word" : Str) = ("number" : Str) by decide +kernel)
    | semi => exact absurd h (by decide +kernel)
    | bad => exact absurd h (by decide +kernel)
    | fin => exact absurd h (by decide +kernel)
  · rintro ⟨u, rfl⟩
    rfl
theorem kind_semi {v : TV} : kindS v = ("semicolon" : Str) ↔ v = .semi := by
  constructor
  · intro h
    cases v with
    | semi => rfl
    | word n => exact absurd h (show ¬ ("word" : Str) = ("semicolon" : Str) by decide +kernel)
    | num n => exact absurd h (show ¬ ("number" : Str) = ("semicolon" : Str) by decide +kernel)
    | bad => exact absurd h (by decide +kernel)
    | fin => exact absurd h (by decide +kernel)
  · rintro rfl
    rfl
theorem kind_end {v : TV} : kindS v = ("end" : Str) ↔ v = .fin := by
  constructor
  · intro h
    cases v with
    | fin => rfl
    | word n => exact absurd h (show ¬ ("word" : Str) = ("end" : Str) by decide +kernel)
    | num n => exact absurd h (show ¬ ("number" : Str) = ("end" : Str) by decide +kernel)
    | bad => exact absurd h (by decide +kernel)
    | semi => exact absurd h (by decide +kernel)
  · rintro rfl
    rfl
theorem ok_take_keyword (T : TrT K Ct) (T2 : TkT K Ck) (F : Fun K "take_keyword" "TokenReader.take_keyword" s_TokenReader_take_keyword f fd) (m_TokenReader_take : Mt P w K mg base (L2.CX P w) 3 Ct "take" (sp_take Ct Ck Cx)) (c_WORD : Gv mg "WORD" (.str "word")) (x_InvalidText : Xt P w K mg base "InvalidText" Cx) (c_NOT_ALLOWED : Gv mg "NOT_ALLOWED" (.int 1)) : FnOk P w K mg base (L2.CX P w) 4 f fd ["self", "word"] (sp_kw Ct Ck Cx) := by
  refine F.okX sc_TokenReader_take_keyword (fun vs H Q E h => ?_) (fun cdv A outer s H vs Q E hr h => ⟨_, (pss_cons (ps_set (i := 2) sc_TokenReader_take_keyword.nd rfl (Or.inl rfl) (by exact (pe_m m_TokenReader_take (pass_up (takes_of rfl rfl rfl rfl)) hr (by decide) (pv 0) (pa_cons (pe_gv rfl c_WORD) pa_nil))))
      (pss_one (ps_if (pt_cmpR op_ne (pe_fld (pv 2) rfl) (pv 1) (nomark _))
      (pss_one (ps_raise rfl (takes_of rfl rfl rfl rfl) (by exact (pmk_own2 x_InvalidText hr (by decide) rfl (pa_cons (pe_gv rfl c_NOT_ALLOWED) (pa_cons (pe_fld (pv 2) rfl) pa_nil))))))
      pss_nil))), ?_⟩)
  · obtain ⟨a, t, r, k, rfl, _⟩ := h
    rfl
  obtain ⟨a, t, r, k, rfl, hrd, q1, q2⟩ := h
  obtain ⟨dx, fs, hin, l1, l2, l3⟩ := hrd.ins
  refine ⟨_, rfl, a, dx, fs, rfl, hin, l1, a, t, r, _, rfl, hrd, fun hk H1 b g1 g2 g3 => ?_, fun hk => q2 fun z => hk (kind_word.mpr ⟨_, z⟩)⟩
  obtain ⟨u, hu⟩ := kind_word.mp hk
  obtain ⟨dk, hb⟩ := id g2
  refine ⟨_, rfl, b, Ck, dk, _, _, rfl, hb, T2.cl, T2.n2, tkF_value, _, rfl, ?_⟩
  rw [hu]
  refine ⟨rfl, _, rfl, ?_⟩
  by_cases c : u = k
  · have e : (!decide (V.str (tx u) = V.str (tx k))) = false := by rw [ds_yes (congrArg tx c)]; rfl
    refine if_no e ?_
    exact q1 (by rw [hu, c]) H1 g1 g3
  · have e : (!decide (V.str (tx u) = V.str (tx k))) = true := by rw [ds_no fun z => c (tx_inj z)]; rfl
    refine if_yes e ?_
    refine ⟨_, rfl, b, Ck, dk, _, _, rfl, hb, T2.cl, T2.n3, tkF_offset, 1, t.off, rfl, fun d hd => ?_⟩
    refine q2 (by rw [hu]; intro z; exact c (TV.word.inj z)) _ d (g3.trans (But.of_same (Same.new hd))) ?_ upd_same
    cases z : H d with
    | none => rfl
    | some o =>
      by_cases q : d = a
      · obtain ⟨_, _, h9, _⟩ := g1.ins
        rw [q, h9] at hd
        cases hd
      · have y := g3 _ _ z q
        rw [hd] at y
        cases y
end
end Cl
set_option Elab.async false
/-! # The mathematics, apart from the program: powers, primes -/
namespace Cl
open Vbndal
/-! ### powers -/
theorem mp_eq : ∀ (f p x k : Nat), k < 2 ^ f → modularPower f p x k = x ^ k % p
  | 0, p, x, k, h => by
    have e : k = 0 := by simpa using h
    subst e
    rfl
  | f + 1, p, x, k, h => by
    unfold modularPower
    by_cases h0 : k = 0
    · subst h0
      simp
    · rw [if_neg h0]
      have hk : k / 2 < 2 ^ f := by
        rw [Nat.pow_succ] at h
        omega
      have ih := mp_eq f p (x * x % p) (k / 2) hk
      have e2 : (x * x % p) ^ (k / 2) % p = x ^ (2 * (k / 2)) % p := by
        rw [← Nat.pow_mod, Nat.pow_mul, Nat.pow_two]
      show (if k % 2 = 0 then modularPower f p (x * x % p) (k / 2) else x * modularPower f p (x * x % p) (k / 2) % p) = x ^ k % p
      rw [ih, e2]
      by_cases hm : k % 2 = 0
      · rw [if_pos hm]
        have e : 2 * (k / 2) = k := by omega
        rw [e]
      · rw [if_neg hm]
        have e : k = 2 * (k / 2) + 1 := by omega
        have e3 : x ^ k = x * x ^ (2 * (k / 2)) := by
          conv => lhs; rw [e, Nat.pow_succ, Nat.mul_comm]
        rw [e3, Nat.mul_mod x (x ^ (2 * (k / 2)) % p), Nat.mod_mod, ← Nat.mul_mod]
theorem lock_eq {p x k : Nat} (h : k < 1048576) : lockCard p x k = x ^ k % p := by
  unfold lockCard
  rw [mp_eq 20 p (x % p) k (by simpa using h), ← Nat.pow_mod]
theorem lock_lt {p x k : Nat} (hp : 0 < p) (h : k < 1048576) : lockCard p x k < p := by
  rw [lock_eq h]
  exact Nat.mod_lt _ hp
/-- one turn of the squaring loop keeps what is meant -/
theorem pow_turn_odd {m r f l : Nat} (h : l % 2 = 1) : (r * f % m) * (f * f % m) ^ (l / 2) % m = r * f ^ l % m := by
  have e : l = 2 * (l / 2) + 1 := by omega
  have e3 : f ^ l = f * (f * f) ^ (l / 2) := by
    conv => lhs; rw [e, Nat.pow_succ, Nat.mul_comm, Nat.pow_mul, Nat.pow_two]
  rw [e3, ← Nat.mul_assoc, Nat.mul_mod (r * f % m), Nat.mod_mod, ← Nat.pow_mod, ← Nat.mul_mod]
theorem pow_turn_even {m r f l : Nat} (h : ¬ l % 2 = 1) : r * (f * f % m) ^ (l / 2) % m = r * f ^ l % m := by
  have e : l = 2 * (l / 2) := by omega
  have e3 : f ^ l = (f * f) ^ (l / 2) := by
    conv => lhs; rw [e, Nat.pow_mul, Nat.pow_two]
  rw [e3, Nat.mul_mod r, ← Nat.pow_mod, ← Nat.mul_mod]
/-! ### primes -/
theorem prime_iff {n : Nat} : isPrime n = true ↔ 2 ≤ n ∧ ∀ d, 2 ≤ d → d < n → n % d ≠ 0 := by
  unfold isPrime
  rw [Bool.and_eq_true, decide_eq_true_iff, List.all_eq_true]
  constructor
  · rintro ⟨h1, h2⟩
    refine ⟨h1, fun d hd hn e => ?_⟩
    have h3 := h2 d (List.mem_range.mpr hn)
    rw [e] at h3
    simp at h3
    omega
  · rintro ⟨h1, h2⟩
    refine ⟨h1, fun d hd => ?_⟩
    by_cases hl : d < 2
    · simp [hl]
    · have h3 := h2 d (by omega) (List.mem_range.mp hd)
      simp [h3]
theorem prime_no {n d : Nat} (h2 : 2 ≤ d) (hd : d * d ≤ n) (h : n % d = 0) : isPrime n = false := by
  cases e : isPrime n with
  | false => rfl
  | true =>
    have lt : d < n := by
      have : d * 2 ≤ d * d := Nat.mul_le_mul_left d h2
      omega
    exact absurd h ((prime_iff.mp e).2 d h2 lt)
theorem prime_yes {n d : Nat} (h2 : 2 ≤ n) (hd : n < d * d) (h : ∀ e, 2 ≤ e → e < d → n % e ≠ 0) : isPrime n = true := by
  refine prime_iff.mpr ⟨h2, fun e he hn z => ?_⟩
  by_cases c : e < d
  · exact h e he c z
  · obtain ⟨f, hf⟩ := Nat.dvd_of_mod_eq_zero z
    have hf2 : 2 ≤ f := by
      rcases f with _ | _ | f
      · omega
      · omega
      · omega
    have hfd : f < d := by
      rcases Nat.lt_or_ge f d with q | q
      · exact q
      · have := Nat.mul_le_mul (Nat.le_of_not_lt c) q
        omega
    exact h f hf2 hfd (by rw [hf]; exact Nat.mul_mod_left e f)
/-- a number of at most three digits: beyond 983 there is none -/
theorem safe_small : ∀ n : Nat, n < 1000 → 983 < n → isSafePrime n = false := by
  have h : ∀ k : Fin 16, isSafePrime (984 + k.val) = false := by decide +kernel
  intro n h1 h2
  have e : n = 984 + (n - 984) := by omega
  rw [e]
  exact h ⟨n - 984, by omega⟩
/-- a table's prime -/
structure TP (p : Nat) : Prop where
  lo : 11 ≤ p
  hi : p ≤ 983
  sf : isSafePrime p = true
theorem TP.odd {p : Nat} (t : TP p) : p % 2 = 1 := by
  have h := t.sf
  unfold isSafePrime at h
  rw [Bool.and_eq_true] at h
  simpa using h.1
theorem TP.prime {p : Nat} (t : TP p) : isPrime p = true := by
  have h := t.sf
  unfold isSafePrime at h
  rw [Bool.and_eq_true, Bool.and_eq_true] at h
  exact h.2.1
theorem TP.half {p : Nat} (t : TP p) : isPrime (p / 2) = true := by
  have h := t.sf
  unfold isSafePrime at h
  rw [Bool.and_eq_true, Bool.and_eq_true] at h
  exact h.2.2
theorem safe_of {n : Nat} (h : 11 ≤ n) (h1 : isPrime n = true) : isSafePrime n = isPrime ((n - 1) / 2) := by
  have ho : n % 2 = 1 := by
    have := (prime_iff.mp h1).2 2 (Nat.le_refl 2) (by omega)
    omega
  have e : (n - 1) / 2 = n / 2 := by omega
  unfold isSafePrime
  rw [e, h1, ho]
  simp
theorem safe_not {n : Nat} (h1 : isPrime n = false) : isSafePrime n = false := by
  unfold isSafePrime
  rw [h1]
  simp
/-- the numbers that the program tests are those of the document -/
theorem TP.halfz {p : Nat} (t : TP p) : (((p : Int) - 1) / 2) = ((p / 2 : Nat) : Int) := by
  have := t.odd
  have := t.lo
  omega
end Cl
set_option Elab.async false
set_option maxRecDepth 100000
/-! # The specification's reader of a table, cut as the program is cut -/
namespace Cl
open Vbndal
def sPrime (n : Nat) (l : Tokens) : Except ParseError (Nat × Tokens) :=
  match expectWord n "prime" l with
  | .error b => .error b
  | .ok l => match parseNumber n (fun n => decide (11 ≤ n) && isSafePrime n) l with
    | .error b => .error b
    | .ok p => match expect n .semicolon p.2 with
      | .error b => .error b
      | .ok l => .ok (p.1.2, l)
def sDeck (n p : Nat) (l : Tokens) : Except ParseError (List Nat × Tokens) :=
  match expectWord n "deck" l with
  | .error b => .error b
  | .ok l => parseCards n p (l.length + 1) [] l
def sCard (n p : Nat) (m : List Nat) (l : Tokens) : Except ParseError (Nat × Tokens) :=
  match parseNumber n (isCard p) l with
  | .error b => .error b
  | .ok x => if m.contains x.1.2 = true ∨ maxCards ≤ m.length then .error ⟨3, x.1.1⟩ else .ok (x.1.2, x.2)
theorem cards_stop {n p f : Nat} {m : List Nat} {l : Tokens} (h : nextIs .semicolon l = true ∧ 2 ≤ m.length) : parseCards n p (f + 1) m l = .ok (m, l.drop 1) := if_pos h
theorem cards_go {n p f : Nat} {m : List Nat} {l : Tokens} (h : ¬ (nextIs .semicolon l = true ∧ 2 ≤ m.length)) : parseCards n p (f + 1) m l = match sCard n p m l with
    | .error b => .error b
    | .ok x => parseCards n p f (m ++ [x.1]) x.2 := by
  have e : parseCards n p (f + 1) m l = if nextIs .semicolon l = true ∧ 2 ≤ m.length then .ok (m, l.drop 1) else (do
    let x ← parseNumber n (isCard p) l
    if m.contains x.1.2 = true ∨ maxCards ≤ m.length then .error ⟨3, x.1.1⟩ else parseCards n p f (m ++ [x.1.2]) x.2) := rfl
  rw [e, if_neg h]
  unfold sCard
  cases parseNumber n (isCard p) l with
  | error b => rfl
  | ok x =>
    show (if m.contains x.1.2 = true ∨ maxCards ≤ m.length then Except.error ⟨3, x.1.1⟩ else parseCards n p f (m ++ [x.1.2]) x.2) = _
    dsimp only
    by_cases c : m.contains x.1.2 = true ∨ maxCards ≤ m.length
    · rw [if_pos c, if_pos c]
    · rw [if_neg c, if_neg c]
def sName (n : Nat) (m : List Player) (l : Tokens) : Except ParseError (List Nat × Tokens) :=
  match parseName n l with
  | .error b => .error b
  | .ok x => if (m.any fun y => y.name == x.1.2) = true ∨ maxPlayers ≤ m.length then .error ⟨3, x.1.1⟩ else .ok (x.1.2, x.2)
def sKey (n p : Nat) (l : Tokens) : Except ParseError (Nat × Tokens) :=
  match expectWord n "key" l with
  | .error b => .error b
  | .ok l => match parseNumber n (isKey p) l with
    | .error b => .error b
    | .ok x => .ok (x.1.2, x.2)
def sPlayer (n p : Nat) (m : List Player) (l : Tokens) : Except ParseError (Player × Tokens) :=
  match expectWord n "player" l with
  | .error b => .error b
  | .ok l => match sName n m l with
    | .error b => .error b
    | .ok x => match sKey n p x.2 with
      | .error b => .error b
      | .ok k => match expect n .semicolon k.2 with
        | .error b => .error b
        | .ok l => .ok (⟨x.1, k.1⟩, l)
theorem players_stop {n p f : Nat} {m : List Player} {l : Tokens} (h : l.isEmpty = true) : parsePlayers n p (f + 1) m l = .ok m := if_pos h
theorem players_go {n p f : Nat} {m : List Player} {l : Tokens} (h : ¬ l.isEmpty = true) : parsePlayers n p (f + 1) m l = match sPlayer n p m l with
    | .error b => .error b
    | .ok x => parsePlayers n p f (m ++ [x.1]) x.2 := by
  have e : parsePlayers n p (f + 1) m l = if l.isEmpty = true then .ok m else (do
    let w ← expectWord n "player" l
    let x ← parseName n w
    if (m.any fun y => y.name == x.1.2) = true ∨ maxPlayers ≤ m.length then .error ⟨3, x.1.1⟩
    else do
      let w ← expectWord n "key" x.2
      let k ← parseNumber n (isKey p) w
      let r ← expect n .semicolon k.2
      parsePlayers n p f (m ++ [⟨x.1.2, k.1.2⟩]) r) := rfl
  rw [e, if_neg h]
  unfold sPlayer
  cases expectWord n "player" l with
  | error b => rfl
  | ok w =>
    show (do
      let x ← parseName n w
      if (m.any fun y => y.name == x.1.2) = true ∨ maxPlayers ≤ m.length then (.error ⟨3, x.1.1⟩ : Except ParseError (List Player))
      else do
        let w ← expectWord n "key" x.2
        let k ← parseNumber n (isKey p) w
        let r ← expect n .semicolon k.2
        parsePlayers n p f (m ++ [(⟨x.1.2, k.1.2⟩ : Player)]) r) = _
    unfold sName
    dsimp only
    cases parseName n w with
    | error b => rfl
    | ok x =>
      show (if (m.any fun y => y.name == x.1.2) = true ∨ maxPlayers ≤ m.length then (Except.error ⟨3, x.1.1⟩ : Except ParseError (List Player))
      else do
        let w ← expectWord n "key" x.2
        let k ← parseNumber n (isKey p) w
        let r ← expect n .semicolon k.2
        parsePlayers n p f (m ++ [(⟨x.1.2, k.1.2⟩ : Player)]) r) = _
      dsimp only
      by_cases c : (m.any fun y => y.name == x.1.2) = true ∨ maxPlayers ≤ m.length
      · rw [if_pos c, if_pos c]
      · rw [if_neg c, if_neg c]
        unfold sKey
        dsimp only
        cases expectWord n "key" x.2 with
        | error b => rfl
        | ok w2 =>
          show (do
            let k ← parseNumber n (isKey p) w2
            let r ← expect n .semicolon k.2
            parsePlayers n p f (m ++ [(⟨x.1.2, k.1.2⟩ : Player)]) r) = _
          dsimp only
          cases parseNumber n (isKey p) w2 with
          | error b => rfl
          | ok k =>
            show (do
              let r ← expect n .semicolon k.2
              parsePlayers n p f (m ++ [(⟨x.1.2, k.1.2⟩ : Player)]) r) = _
            dsimp only
            cases expect n .semicolon k.2 with
            | error b => rfl
            | ok r => rfl
def sTable (n : Nat) (l : Tokens) : Except ParseError Table :=
  match sPrime n l with
  | .error b => .error b
  | .ok p => match sDeck n p.1 p.2 with
    | .error b => .error b
    | .ok c => match parsePlayers n p.1 (c.2.length + 1) [] c.2 with
      | .error b => .error b
      | .ok m => .ok ⟨p.1, c.1, m⟩
theorem table_is (t : List Nat) : parseTable t = sTable t.length (tokenizeFrom (t.length + 1) 0 t) := by
  generalize hl : tokenizeFrom (t.length + 1) 0 t = l
  have e : parseTable t = (do
    let l ← expectWord t.length "prime" (tokenizeFrom (t.length + 1) 0 t)
    let p ← parseNumber t.length (fun n => decide (11 ≤ n) && isSafePrime n) l
    let l ← expect t.length .semicolon p.2
    let l ← expectWord t.length "deck" l
    let c ← parseCards t.length p.1.2 (l.length + 1) [] l
    let m ← parsePlayers t.length p.1.2 (c.2.length + 1) [] c.2
    return ⟨p.1.2, c.1, m⟩) := rfl
  rw [e, hl]
  unfold sTable sPrime
  cases expectWord t.length "prime" l with
  | error b => rfl
  | ok l1 =>
    show (do
      let p ← parseNumber t.length (fun n => decide (11 ≤ n) && isSafePrime n) l1
      let l ← expect t.length .semicolon p.2
      let l ← expectWord t.length "deck" l
      let c ← parseCards t.length p.1.2 (l.length + 1) [] l
      let m ← parsePlayers t.length p.1.2 (c.2.length + 1) [] c.2
      return (⟨p.1.2, c.1, m⟩ : Table)) = _
    dsimp only
    cases parseNumber t.length (fun n => decide (11 ≤ n) && isSafePrime n) l1 with
    | error b => rfl
    | ok p =>
      show (do
        let l ← expect t.length .semicolon p.2
        let l ← expectWord t.length "deck" l
        let c ← parseCards t.length p.1.2 (l.length + 1) [] l
        let m ← parsePlayers t.length p.1.2 (c.2.length + 1) [] c.2
        return (⟨p.1.2, c.1, m⟩ : Table)) = _
      dsimp only
      cases expect t.length .semicolon p.2 with
      | error b => rfl
      | ok l2 =>
        show (do
          let l ← expectWord t.length "deck" l2
          let c ← parseCards t.length p.1.2 (l.length + 1) [] l
          let m ← parsePlayers t.length p.1.2 (c.2.length + 1) [] c.2
          return (⟨p.1.2, c.1, m⟩ : Table)) = _
        unfold sDeck
        dsimp only
        cases expectWord t.length "deck" l2 with
        | error b => rfl
        | ok l3 =>
          show (do
            let c ← parseCards t.length p.1.2 (l3.length + 1) [] l3
            let m ← parsePlayers t.length p.1.2 (c.2.length + 1) [] c.2
            return (⟨p.1.2, c.1, m⟩ : Table)) = _
          dsimp only
          cases parseCards t.length p.1.2 (l3.length + 1) [] l3 with
          | error b => rfl
          | ok c =>
            show (do
              let m ← parsePlayers t.length p.1.2 (c.2.length + 1) [] c.2
              return (⟨p.1.2, c.1, m⟩ : Table)) = _
            dsimp only
            cases parsePlayers t.length p.1.2 (c.2.length + 1) [] c.2 with
            | error b => rfl
            | ok m => rfl
theorem num_len {n : Nat} {ok : Nat → Bool} {l : Tokens} {x : (Nat × Nat) × Tokens} (h : parseNumber n ok l = .ok x) : x.2.length < l.length ∧ ok x.1.2 = true := by
  unfold parseNumber at h
  split at h
  · rename_i i m r
    by_cases c : ok m = true
    · rw [if_pos c] at h
      cases h
      exact ⟨Nat.lt_succ_self _, c⟩
    · rw [if_neg c] at h
      cases h
  · cases h
theorem expect_len {n : Nat} {k : Token} {l l' : Tokens} (h : expect n k l = .ok l') : l'.length < l.length := by
  unfold expect at h
  by_cases c : nextIs k l = true
  · rw [if_pos c] at h
    cases h
    cases l with
    | nil =>
      unfold nextIs at c
      simp at c
    | cons y r => exact Nat.lt_succ_self _
  · rw [if_neg c] at h
    cases h
theorem card_len {n p : Nat} {m : List Nat} {l : Tokens} {x : Nat × Tokens} (h : sCard n p m l = .ok x) : x.2.length < l.length ∧ isCard p x.1 = true ∧ x.1 ∉ m ∧ m.length < 10 := by
  unfold sCard at h
  cases e : parseNumber n (isCard p) l with
  | error b => rw [e] at h; cases h
  | ok y =>
    rw [e] at h
    dsimp only at h
    have z := num_len e
    by_cases c : m.contains y.1.2 = true ∨ maxCards ≤ m.length
    · rw [if_pos c] at h
      cases h
    · rw [if_neg c] at h
      cases h
      refine ⟨z.1, z.2, fun q => c (.inl (List.contains_iff_mem.mpr q)), ?_⟩
      rcases Nat.lt_or_ge m.length 10 with q | q
      · exact q
      · exact absurd (.inr q) c
theorem name_len {n : Nat} {m : List Player} {l : Tokens} {x : List Nat × Tokens} (h : sName n m l = .ok x) : x.2.length < l.length ∧ m.length < 4 := by
  unfold sName at h
  cases e : parseName n l with
  | error b => rw [e] at h; cases h
  | ok y =>
    rw [e] at h
    dsimp only at h
    have z : y.2.length < l.length := by
      unfold parseName at e
      split at e
      · rename_i i w r
        by_cases c : keywords.contains w = true
        · rw [if_pos c] at e
          cases e
        · rw [if_neg c] at e
          cases e
          exact Nat.lt_succ_self _
      · cases e
    by_cases c : (m.any fun y' => y'.name == y.1.2) = true ∨ maxPlayers ≤ m.length
    · rw [if_pos c] at h
      cases h
    · rw [if_neg c] at h
      cases h
      refine ⟨z, ?_⟩
      rcases Nat.lt_or_ge m.length 4 with q | q
      · exact q
      · exact absurd (.inr q) c
theorem key_len {n p : Nat} {l : Tokens} {x : Nat × Tokens} (h : sKey n p l = .ok x) : x.2.length < l.length ∧ isKey p x.1 = true := by
  unfold sKey at h
  cases e : expectWord n "key" l with
  | error b => rw [e] at h; cases h
  | ok l1 =>
    rw [e] at h
    dsimp only at h
    have z1 : l1.length < l.length := expect_len e
    cases e2 : parseNumber n (isKey p) l1 with
    | error b => rw [e2] at h; cases h
    | ok y =>
      rw [e2] at h
      cases h
      have z2 := num_len e2
      exact ⟨Nat.lt_trans z2.1 z1, z2.2⟩
theorem player_len {n p : Nat} {m : List Player} {l : Tokens} {x : Player × Tokens} (h : sPlayer n p m l = .ok x) : x.2.length < l.length ∧ isKey p x.1.key = true ∧ m.length < 4 := by
  unfold sPlayer at h
  cases e : expectWord n "player" l with
  | error b => rw [e] at h; cases h
  | ok l1 =>
    rw [e] at h
    dsimp only at h
    have z1 : l1.length < l.length := expect_len e
    cases e2 : sName n m l1 with
    | error b => rw [e2] at h; cases h
    | ok y =>
      rw [e2] at h
      dsimp only at h
      have z2 := name_len e2
      cases e3 : sKey n p y.2 with
      | error b => rw [e3] at h; cases h
      | ok k =>
        rw [e3] at h
        dsimp only at h
        have z3 := key_len e3
        cases e4 : expect n .semicolon k.2 with
        | error b => rw [e4] at h; cases h
        | ok l4 =>
          rw [e4] at h
          cases h
          have z4 := expect_len e4
          exact ⟨show l4.length < l.length by omega, z3.2, z2.2⟩
/-- what is known of a table that was read -/
structure TOk (t : Table) : Prop where
  tp : TP t.prime
  two : 2 ≤ t.deck.length
  ten : t.deck.length ≤ 10
  crd : ∀ x ∈ t.deck, isCard t.prime x = true
  nd : t.deck.Nodup
  four : t.players.length ≤ 4
  ply : ∀ y ∈ t.players, y.name.length ≤ 8 ∧ isKey t.prime y.key = true
end Cl
set_option Elab.async false
set_option maxRecDepth 100000
set_option maxHeartbeats 4000000
/-! # Powers and primes -/
namespace Cl
open PySem PySem.Spec PyProof.Rows L2
abbrev s_power : Stmt := top 4
abbrev n_power : List Str := ["base", "exponent", "modulus", "result", "factor", "left"]
theorem sc_power : FnScope n_power ["base", "exponent", "modulus"] (defScope s_power) := ⟨rfl, rfl, rfl, by decide +kernel, rfl, by decide +kernel, by decide +kernel⟩
def sp_power : Sp := fun vs H Q _ => ∃ b e m : Nat, vs = [.int b, .int e, .int m] ∧ 2 ≤ m ∧ m ≤ 1000 ∧ Q (.int ((b ^ e % m : Nat) : Int)) H
theorem natmod (a m : Nat) : ((a : Int) % (m : Int)) = ((a % m : Nat) : Int) := by omega
theorem small64 {a : Nat} (h : a ≤ 1000) : CMul (a : Int) (b : Int) := by
  refine Or.inl ⟨?_, ?_⟩
  · have : (0 : Int) ≤ (a : Int) := Int.natCast_nonneg a
    omega
  · omega
theorem small64' {a : Nat} (h : a ≤ 1001) : CMul (a : Int) (b : Int) := by
  refine Or.inl ⟨?_, ?_⟩
  · have : (0 : Int) ≤ (a : Int) := Int.natCast_nonneg a
    omega
  · omega
theorem ok_power {P : Program} {w : World} {K : Fr} {mg : Str → Option Value} {base : Heap} {f : Addr} {fd : FuncData} (F : Fun K "power" "power" s_power f fd)  : FnOk P w K mg base CX0 1 f fd ["base", "exponent", "modulus"] sp_power := by
  refine F.ok sc_power (fun vs H Q E h => ?_) (fun cdv A outer s H vs Q E hr h => ⟨_, (pss_cons (ps_set (i := 3) sc_power.nd rfl (Or.inl rfl) pe_int)
      (pss_cons (ps_set (i := 4) sc_power.nd rfl (Or.inl rfl) (pe_op op_mod (pv 0) (pv 2)))
      (pss_cons (ps_set (i := 5) sc_power.nd rfl (Or.inl rfl) (pv 1))
      (pss_cons (ps_while PassesOwn.never (pt_cmpR op_gt (pv 5) pe_int (nomark _))
      (pss_cons (ps_if (pt_cmpR op_eq (pe_op op_mod (pv 5) pe_int) pe_int (nomark _))
      (pss_one (ps_set (i := 3) sc_power.nd rfl (Or.inl rfl) (pe_op op_mod (pe_op op_mul (pv 3) (pv 4)) (pv 2))))
      pss_nil)
      (pss_cons (ps_set (i := 4) sc_power.nd rfl (Or.inl rfl) (pe_op op_mod (pe_op op_mul (pv 4) (pv 4)) (pv 2)))
      (pss_one (ps_set (i := 5) sc_power.nd rfl (Or.inl rfl) (pe_op op_fdiv (pv 5) pe_int))))))
      (pss_one (ps_ret (pv 3))))))), ?_⟩)
  · obtain ⟨b, e, m, rfl, _⟩ := h
    rfl
  obtain ⟨b, e, m, rfl, hm, hm2, k⟩ := h
  have mpos : (0 : Int) < (m : Int) := by omega
  refine ⟨_, rfl, _, rfl, b, m, rfl, rfl, mpos, _, rfl, ?_⟩
  refine while_go (fun σ H' => H' = H ∧ ∃ r fc l : Nat, σ = [some (.int b), some (.int e), some (.int m), some (.int r), some (.int fc), some (.int l)] ∧ r < m ∧ fc < m ∧ r * fc ^ l % m = b ^ e % m)
    (fun σ _ => match σ with
      | [_, _, _, _, _, some (.int l)] => l.toNat
      | _ => 0) ⟨rfl, 1, b % m, e, ?_, by omega, Nat.mod_lt _ (by omega), ?_⟩ ?_
  · exact congrArg (fun z => ([some (.int b), some (.int e), some (.int m), some (.int 1), some (.int z), some (.int e)] : L2.St)) (natmod b m)
  · rw [Nat.one_mul, ← Nat.pow_mod]
  · rintro σ H' ⟨rfl, r, fc, l, rfl, hr1, hf1, inv⟩
    refine ⟨_, rfl, _, _, rfl, rfl, _, rfl, ?_⟩
    by_cases c : l = 0
    · subst c
      refine if_no (by decide) ?_
      refine ⟨_, rfl, ?_⟩
      rw [Nat.pow_zero, Nat.mul_one, Nat.mod_eq_of_lt hr1] at inv
      show Q (.int (r : Int)) H'
      rw [inv]
      exact k
    · refine if_yes (decide_eq_true (by omega)) ?_
      refine ⟨fun σ' H2 => (H2 = H' ∧ ∃ r fc l : Nat, σ' = [some (.int b), some (.int e), some (.int m), some (.int r), some (.int fc), some (.int l)] ∧ r < m ∧ fc < m ∧ r * fc ^ l % m = b ^ e % m) ∧ _ < _, fun σ' H2 q => ⟨_, q.2, rfl, q.1⟩, ?_⟩
      have tl : ∀ (r' : Nat), r' < m → r' * (fc * fc % m) ^ (l / 2) % m = b ^ e % m → ((H' = H' ∧ ∃ r2 f2 l2 : Nat, ([some (.int b), some (.int e), some (.int m), some (.int (r' : Int)), some (.int ((fc * fc % m : Nat) : Int)), some (.int ((l / 2 : Nat) : Int))] : L2.St) = [some (.int b), some (.int e), some (.int m), some (.int r2), some (.int f2), some (.int l2)] ∧ r2 < m ∧ f2 < m ∧ r2 * f2 ^ l2 % m = b ^ e % m) ∧ (((l / 2 : Nat) : Int)).toNat < ((l : Int)).toNat) := fun r' h1 h2 =>
        ⟨⟨rfl, r', fc * fc % m, l / 2, rfl, h1, Nat.mod_lt _ (by omega), h2⟩, by omega⟩
      have ef : ((fc : Int) * (fc : Int) % (m : Int)) = ((fc * fc % m : Nat) : Int) := by rw [← natmod, Int.natCast_mul]
      have el : ((l : Int) / 2) = ((l / 2 : Nat) : Int) := by omega
      refine ⟨_, rfl, _, _, rfl, rfl, (by decide : (0 : Int) < 2), rfl, _, rfl, ?_⟩
      by_cases o : l % 2 = 1
      · refine if_yes (d_yes (show (l : Int) % 2 = 1 by omega)) ?_
        refine ⟨_, rfl, _, rfl, _, _, rfl, rfl, small64 (by omega), _, rfl, _, _, rfl, rfl, mpos, ?_⟩
        refine ⟨_, rfl, _, rfl, _, _, rfl, rfl, small64 (by omega), _, rfl, _, _, rfl, rfl, mpos, ?_⟩
        refine ⟨_, rfl, _, _, rfl, rfl, ⟨by decide, by decide⟩, ?_⟩
        have er : ((r : Int) * (fc : Int) % (m : Int)) = ((r * fc % m : Nat) : Int) := by rw [← natmod, Int.natCast_mul]
        have z := tl (r * fc % m) (Nat.mod_lt _ (by omega)) (by rw [pow_turn_odd o]; exact inv)
        rw [← ef, ← el, ← er] at z
        exact z
      · refine if_no (d_no (show (l : Int) % 2 ≠ 1 by omega)) ?_
        refine ⟨_, rfl, _, rfl, _, _, rfl, rfl, small64 (by omega), _, rfl, _, _, rfl, rfl, mpos, ?_⟩
        refine ⟨_, rfl, _, _, rfl, rfl, ⟨by decide, by decide⟩, ?_⟩
        have z := tl r hr1 (by rw [pow_turn_even o]; exact inv)
        rw [← ef, ← el] at z
        exact z
abbrev s_is_prime : Stmt := top 5
abbrev n_is_prime : List Str := ["number", "divisor"]
theorem sc_is_prime : FnScope n_is_prime ["number"] (defScope s_is_prime) := ⟨rfl, rfl, rfl, by decide +kernel, rfl, by decide +kernel, by decide +kernel⟩
def sp_prime : Sp := fun vs H Q _ => ∃ n : Nat, vs = [.int n] ∧ n ≤ 1000 ∧ Q (.bl (Vbndal.isPrime n)) H
section
variable {P : Program} {w : World} {K : Fr} {mg : Str → Option Value} {base : Heap} {f : Addr} {fd : FuncData}
theorem ok_is_prime (F : Fun K "is_prime" "is_prime" s_is_prime f fd)  : FnOk P w K mg base CX0 1 f fd ["number"] sp_prime := by
  refine F.ok sc_is_prime (fun vs H Q E h => ?_) (fun cdv A outer s H vs Q E hr h => ⟨_, (pss_cons (ps_if (pt_cmpR op_lt (pv 0) pe_int (nomark _))
      (pss_one (ps_ret pe_bl))
      pss_nil)
      (pss_cons (ps_set (i := 1) sc_is_prime.nd rfl (Or.inl rfl) pe_int)
      (pss_cons (ps_while PassesOwn.never (pt_cmpR op_le (pe_op op_mul (pv 1) (pv 1)) (pv 0) (nomark _))
      (pss_cons (ps_if (pt_cmpR op_eq (pe_op op_mod (pv 0) (pv 1)) pe_int (nomark _))
      (pss_one (ps_ret pe_bl))
      pss_nil)
      (pss_one (ps_aug (i := 1) sc_is_prime.nd rfl (Or.inl rfl) pe_int ip_add))))
      (pss_one (ps_ret pe_bl))))), ?_⟩)
  · obtain ⟨n, rfl, _⟩ := h
    rfl
  obtain ⟨n, rfl, hn, k⟩ := h
  refine ⟨_, rfl, _, _, rfl, rfl, _, rfl, ?_⟩
  by_cases c : n < 2
  · refine if_yes (decide_eq_true (by omega)) ?_
    have e : Vbndal.isPrime n = false := by
      cases q : Vbndal.isPrime n with
      | false => rfl
      | true => exact absurd (prime_iff.mp q).1 (by omega)
    rw [e] at k
    exact k
  refine if_no (decide_eq_false (by omega)) ?_
  refine while_go (fun σ H' => H' = H ∧ ∃ d : Nat, σ = [some (.int n), some (.int d)] ∧ 2 ≤ d ∧ d ≤ 1001 ∧ ∀ e, 2 ≤ e → e < d → n % e ≠ 0)
    (fun σ _ => match σ with
      | [_, some (.int d)] => 1001 - d.toNat
      | _ => 0) ⟨rfl, 2, rfl, by omega, by omega, fun e h1 h2 => absurd h2 (by omega)⟩ ?_
  rintro σ H' ⟨rfl, d, rfl, hd, hd2, inv⟩
  refine ⟨_, rfl, _, rfl, _, _, rfl, rfl, small64' hd2, _, rfl, _, _, rfl, rfl, _, rfl, ?_⟩
  have sq : ((d : Int) * (d : Int) ≤ (n : Int)) ↔ d * d ≤ n := by
    rw [← Int.natCast_mul]
    exact Int.ofNat_le
  by_cases c2 : d * d ≤ n
  · refine if_yes (decide_eq_true (sq.mpr c2)) ?_
    have hd3 : d ≤ 1000 := by
      have := Nat.mul_le_mul_right d (show 1 ≤ d by omega)
      omega
    refine ⟨fun σ' H2 => (H2 = H' ∧ ∃ d : Nat, σ' = [some (.int n), some (.int d)] ∧ 2 ≤ d ∧ d ≤ 1001 ∧ ∀ e, 2 ≤ e → e < d → n % e ≠ 0) ∧ _ < _, fun σ' H2 q => ⟨_, q.2, rfl, q.1⟩, ?_⟩
    refine ⟨_, rfl, _, rfl, _, _, rfl, rfl, (by show (0 : Int) < (d : Int); omega), rfl, _, rfl, ?_⟩
    by_cases c3 : n % d = 0
    · refine if_yes (d_yes (show (n : Int) % (d : Int) = 0 by omega)) ?_
      show Q (.bl false) H'
      have e := prime_no hd c2 c3
      rw [e] at k
      exact k
    · refine if_no (d_no (show (n : Int) % (d : Int) ≠ 0 by omega)) ?_
      refine ⟨_, rfl, _, _, rfl, rfl, ⟨rfl, d + 1, rfl, by omega, by omega, fun e h1 h2 => ?_⟩, ?_⟩
      · by_cases q : e = d
        · rw [q]
          exact c3
        · exact inv e h1 (by omega)
      · show 1001 - ((d : Int) + 1).toNat < 1001 - (d : Int).toNat
        omega
  · refine if_no (decide_eq_false fun q => c2 (sq.mp q)) ?_
    show Q (.bl true) H'
    have e := prime_yes (by omega) (by omega : n < d * d) inv
    rw [e] at k
    exact k
abbrev s_key_modulus : Stmt := top 11
abbrev n_key_modulus : List Str := ["prime"]
theorem sc_key_modulus : FnScope n_key_modulus ["prime"] (defScope s_key_modulus) := ⟨rfl, rfl, rfl, by decide +kernel, rfl, by decide +kernel, by decide +kernel⟩
def sp_half : Sp := fun vs H Q _ => ∃ n : Nat, vs = [.int n] ∧ 1 ≤ n ∧ Q (.int (((n - 1) / 2 : Nat) : Int)) H
theorem ok_key_modulus (F : Fun K "key_modulus" "key_modulus" s_key_modulus f fd)  : FnOk P w K mg base CX0 1 f fd ["prime"] sp_half := by
  refine F.ok sc_key_modulus (fun vs H Q E h => ?_) (fun cdv A outer s H vs Q E hr h => ⟨_, (pss_one (ps_ret (pe_op op_fdiv (pe_op op_sub (pv 0) pe_int) pe_int))), ?_⟩)
  · obtain ⟨n, rfl, _⟩ := h
    rfl
  obtain ⟨n, rfl, hn, k⟩ := h
  refine ⟨_, rfl, _, _, rfl, rfl, _, _, rfl, rfl, ⟨by decide, by decide⟩, ?_⟩
  have e : (((n - 1) / 2 : Nat) : Int) = ((n : Int) - 1) / 2 := by omega
  rw [e] at k
  exact k
abbrev s_is_table_prime : Stmt := top 12
abbrev n_is_table_prime : List Str := ["number"]
theorem sc_is_table_prime : FnScope n_is_table_prime ["number"] (defScope s_is_table_prime) := ⟨rfl, rfl, rfl, by decide +kernel, rfl, by decide +kernel, by decide +kernel⟩
def sp_tprime : Sp := fun vs H Q _ => ∃ n : Nat, vs = [.int n] ∧ n < 1000 ∧ Q (.bl (decide (11 ≤ n) && Vbndal.isSafePrime n)) H
theorem ok_is_table_prime (F : Fun K "is_table_prime" "is_table_prime" s_is_table_prime f fd) (c_LEAST_PRIME : Gv mg "LEAST_PRIME" (.int 11)) (c_GREATEST_PRIME : Gv mg "GREATEST_PRIME" (.int 983)) (d_is_prime : Df P w K mg base CX0 1 "is_prime" sp_prime) (d_key_modulus : Df P w K mg base CX0 1 "key_modulus" sp_half) : FnOk P w K mg base CX0 2 f fd ["number"] sp_tprime := by
  refine F.ok sc_is_table_prime (fun vs H Q E h => ?_) (fun cdv A outer s H vs Q E hr h => ⟨_, (pss_cons (ps_if (PW.pt (pw_or (pt_cmpR op_lt (pv 0) (pe_gv rfl c_LEAST_PRIME) (nomark _)) (pw_or1 (pt_cmpR op_gt (pv 0) (pe_gv rfl c_GREATEST_PRIME) (nomark _)))))
      (pss_one (ps_ret pe_bl))
      pss_nil)
      (pss_one (ps_ret (pe_and (by exact (pe_d d_is_prime pass0 hr (by decide) rfl (pa_cons (pv 0) pa_nil))) (pe_one (by exact (pe_d d_is_prime pass0 hr (by decide) rfl (pa_cons (by exact (pe_d d_key_modulus pass0 hr (by decide) rfl (pa_cons (pv 0) pa_nil))) pa_nil)))))))), ?_⟩)
  · obtain ⟨n, rfl, _⟩ := h
    rfl
  obtain ⟨n, rfl, hn, k⟩ := h
  refine ⟨_, rfl, _, _, rfl, rfl, _, rfl, ?_⟩
  by_cases c : n < 11
  · refine if_yes (decide_eq_true (by omega)) ?_
    refine if_yes rfl ?_
    have e : decide (11 ≤ n) = false := decide_eq_false (by omega)
    rw [e] at k
    exact k
  refine if_no (decide_eq_false (by omega)) ?_
  refine ⟨_, rfl, _, _, rfl, rfl, _, rfl, ?_⟩
  have e11 : decide (11 ≤ n) = true := decide_eq_true (by omega)
  by_cases c2 : 983 < n
  · refine if_yes (decide_eq_true (by omega)) ?_
    have e := safe_small n hn c2
    rw [e11, e] at k
    exact k
  refine if_no (decide_eq_false (by omega)) ?_
  refine ⟨_, rfl, n, rfl, by omega, _, rfl, ?_⟩
  cases e : Vbndal.isPrime n with
  | false =>
    refine if_no rfl ?_
    rw [safe_not e, Bool.and_false] at k
    exact k
  | true =>
    refine if_yes rfl ?_
    refine ⟨_, rfl, n, rfl, by omega, ?_⟩
    refine ⟨_, rfl, by omega, ?_⟩
    rw [safe_of (by omega) e, e11, Bool.true_and] at k
    exact k
abbrev s_are_coprime : Stmt := top 6
abbrev n_are_coprime : List Str := ["one", "other", "greater", "rest", "remainder"]
theorem sc_are_coprime : FnScope n_are_coprime ["one", "other"] (defScope s_are_coprime) := ⟨rfl, rfl, rfl, by decide +kernel, rfl, by decide +kernel, by decide +kernel⟩
def sp_coprime : Sp := fun vs H Q _ => ∃ a b : Nat, vs = [.int a, .int b] ∧ Q (.bl (Nat.gcd a b == 1)) H
theorem ok_are_coprime (F : Fun K "are_coprime" "are_coprime" s_are_coprime f fd)  : FnOk P w K mg base CX0 1 f fd ["one", "other"] sp_coprime := by
  refine F.ok sc_are_coprime (fun vs H Q E h => ?_) (fun cdv A outer s H vs Q E hr h => ⟨_, (pss_cons (ps_set (i := 2) sc_are_coprime.nd rfl (Or.inl rfl) (pv 0))
      (pss_cons (ps_set (i := 3) sc_are_coprime.nd rfl (Or.inl rfl) (pv 1))
      (pss_cons (ps_while PassesOwn.never (pt_cmpR op_gt (pv 3) pe_int (nomark _))
      (pss_cons (ps_set (i := 4) sc_are_coprime.nd rfl (Or.inl rfl) (pe_op op_mod (pv 2) (pv 3)))
      (pss_cons (ps_set (i := 2) sc_are_coprime.nd rfl (Or.inl rfl) (pv 3))
      (pss_one (ps_set (i := 3) sc_are_coprime.nd rfl (Or.inl rfl) (pv 4))))))
      (pss_one (ps_ret (pe_cmpR op_eq (pv 2) pe_int (nomark _))))))), ?_⟩)
  · obtain ⟨a, b, rfl, _⟩ := h
    rfl
  obtain ⟨a, b, rfl, k⟩ := h
  refine ⟨_, rfl, _, rfl, ?_⟩
  refine while_go (fun σ H' => H' = H ∧ ∃ (g r : Nat) (v : Option V), σ = [some (.int a), some (.int b), some (.int g), some (.int r), v] ∧ Nat.gcd g r = Nat.gcd a b)
    (fun σ _ => match σ with
      | [_, _, _, some (.int r), _] => r.toNat
      | _ => 0) ⟨rfl, a, b, none, rfl, rfl⟩ ?_
  rintro σ H' ⟨rfl, g, r, v, rfl, inv⟩
  refine ⟨_, rfl, _, _, rfl, rfl, _, rfl, ?_⟩
  by_cases c : r = 0
  · subst c
    refine if_no (by decide) ?_
    rw [Nat.gcd_zero_right] at inv
    refine ⟨_, rfl, rfl, ?_⟩
    rw [← inv] at k
    have e : (g == 1) = decide (V.int (g : Int) = V.int 1) := by
      by_cases z : g = 1
      · subst z
        rfl
      · rw [d_no (by omega)]
        exact beq_false_of_ne z
    rw [← e]
    exact k
  · refine if_yes (decide_eq_true (by omega)) ?_
    refine ⟨fun σ' H2 => (H2 = H' ∧ ∃ (g r : Nat) (v : Option V), σ' = [some (.int a), some (.int b), some (.int g), some (.int r), v] ∧ Nat.gcd g r = Nat.gcd a b) ∧ _ < _, fun σ' H2 q => ⟨_, q.2, rfl, q.1⟩, ?_⟩
    refine ⟨_, rfl, _, rfl, _, _, rfl, rfl, (by show (0 : Int) < (r : Int); omega), ?_⟩
    refine ⟨_, rfl, _, rfl, ?_⟩
    have e : ((g : Int) % (r : Int)) = ((g % r : Nat) : Int) := natmod g r
    refine ⟨⟨rfl, r, g % r, some (.int ((g : Int) % (r : Int))), ?_, ?_⟩, ?_⟩
    · rw [← e]
      rfl
    · rw [← inv, Nat.gcd_comm g r, Nat.gcd_rec r g, Nat.gcd_comm]
    · show ((g : Int) % (r : Int)).toNat < ((r : Int)).toNat
      rw [e]
      have := Nat.mod_lt g (Nat.pos_of_ne_zero c)
      omega
abbrev s_factorial : Stmt := top 7
abbrev n_factorial : List Str := ["number", "product", "factor"]
theorem sc_factorial : FnScope n_factorial ["number"] (defScope s_factorial) := ⟨rfl, rfl, rfl, by decide +kernel, rfl, by decide +kernel, by decide +kernel⟩
def sp_fact : Sp := fun vs H Q _ => ∃ n : Nat, vs = [.int n] ∧ n ≤ 10 ∧ Q (.int (Vbndal.factorial n : Nat)) H
theorem fact_small : ∀ n : Nat, n ≤ 11 → Vbndal.factorial n ≤ 39916800 := by
  have h : ∀ k : Fin 12, Vbndal.factorial k.val ≤ 39916800 := by decide +kernel
  exact fun n hn => h ⟨n, by omega⟩
theorem ok_factorial (F : Fun K "factorial" "factorial" s_factorial f fd) (n_range : mg "range" = none) : FnOk P w K mg base CX0 1 f fd ["number"] sp_fact := by
  refine F.ok sc_factorial (fun vs H Q E h => ?_) (fun cdv A outer s H vs Q E hr h => ⟨_, (pss_cons (ps_set (i := 1) sc_factorial.nd rfl (Or.inl rfl) pe_int)
      (pss_cons (ps_for PassesOwn.never rfl (pi_range2 rfl n_range (pa_cons pe_int (pa_cons (pe_op op_add (pv 0) pe_int) pa_nil))) (pg_name (i := 2) sc_factorial.nd rfl (Or.inl rfl))
      (pss_one (ps_set (i := 1) sc_factorial.nd rfl (Or.inl rfl) (pe_op op_mul (pv 1) (pv 2)))))
      (pss_one (ps_ret (pv 1))))), ?_⟩)
  · obtain ⟨n, rfl, _⟩ := h
    rfl
  obtain ⟨n, rfl, hn, k⟩ := h
  refine ⟨_, rfl, _, _, rfl, rfl, 2, _, rfl, ⟨by decide, by decide, by omega, by omega⟩, ?_⟩
  refine for_range (lo := 2) (n := ((n : Int) + 1 - 2).toNat) (fun i σ H' => H' = H ∧ ∃ v : Option V, σ = [some (.int n), some (.int (Vbndal.factorial (i + 1) : Nat)), v]) ⟨rfl, none, rfl⟩ ?_ ?_
  · rintro i σ H' hi ⟨rfl, v, rfl⟩
    have hs := fact_small (i + 1) (by omega)
    refine ⟨_, rfl, _, rfl, _, _, rfl, rfl, Or.inl ⟨by omega, by omega⟩, ⟨rfl, some (.int (2 + (i : Int))), ?_⟩⟩
    have e : ((Vbndal.factorial (i + 1) : Nat) : Int) * (2 + (i : Int)) = ((Vbndal.factorial (i + 1 + 1) : Nat) : Int) := by
      rw [show Vbndal.factorial (i + 1 + 1) = (i + 1 + 1) * Vbndal.factorial (i + 1) from rfl, Int.natCast_mul, Int.mul_comm]
      congr 1
      omega
    rw [← e]
    rfl
  · rintro σ H' ⟨rfl, v, rfl⟩
    have e : Vbndal.factorial (((n : Int) + 1 - 2).toNat + 1) = Vbndal.factorial n := by
      rcases n with _ | n
      · rfl
      · congr 1
        omega
    rw [e]
    exact ⟨_, rfl, k⟩
end
end Cl
set_option Elab.async false
set_option maxRecDepth 100000
set_option maxHeartbeats 4000000
/-! # Cards, keys, locks -/
namespace Cl
open PySem PySem.Spec PyProof.Rows L2
/-- as the specification tells an argument that is a card, a key -/
def crd (p : Nat) (x : Int) : Bool := Vbndal.inRange x 2 ((p : Int) - 1) && Vbndal.isCard p x.toNat
def kyd (p : Nat) (k : Int) : Bool := Vbndal.inRange k 1 ((Vbndal.subgroupOrder p : Int) - 1)
theorem crd_iff {p : Nat} {x : Int} : crd p x = true ↔ ∃ n : Nat, x = n ∧ 2 ≤ n ∧ n < p ∧ Vbndal.isCard p n = true := by
  unfold crd Vbndal.inRange
  rw [Bool.and_eq_true, Bool.and_eq_true, decide_eq_true_iff, decide_eq_true_iff]
  constructor
  · rintro ⟨⟨h1, h2⟩, h3⟩
    exact ⟨x.toNat, by omega, by omega, by omega, h3⟩
  · rintro ⟨n, rfl, h1, h2, h3⟩
    exact ⟨⟨by omega, by omega⟩, h3⟩
theorem kyd_iff {p : Nat} {x : Int} : kyd p x = true ↔ ∃ n : Nat, x = n ∧ 1 ≤ n ∧ n < p / 2 := by
  unfold kyd Vbndal.inRange Vbndal.subgroupOrder
  rw [Bool.and_eq_true, decide_eq_true_iff, decide_eq_true_iff]
  constructor
  · rintro ⟨h1, h2⟩
    exact ⟨x.toNat, by omega, by omega, by omega⟩
  · rintro ⟨n, rfl, h1, h2⟩
    exact ⟨by omega, by omega⟩
theorem TP.q1 {p : Nat} (t : TP p) : (p - 1) / 2 = p / 2 := by
  have := t.odd
  have := t.lo
  omega
abbrev s_is_square : Stmt := top 13
abbrev n_is_square : List Str := ["number", "prime"]
theorem sc_is_square : FnScope n_is_square ["number", "prime"] (defScope s_is_square) := ⟨rfl, rfl, rfl, by decide +kernel, rfl, by decide +kernel, by decide +kernel⟩
abbrev s_is_card : Stmt := top 14
abbrev n_is_card : List Str := ["number", "prime"]
theorem sc_is_card : FnScope n_is_card ["number", "prime"] (defScope s_is_card) := ⟨rfl, rfl, rfl, by decide +kernel, rfl, by decide +kernel, by decide +kernel⟩
abbrev s_is_key : Stmt := top 15
abbrev n_is_key : List Str := ["number", "prime"]
theorem sc_is_key : FnScope n_is_key ["number", "prime"] (defScope s_is_key) := ⟨rfl, rfl, rfl, by decide +kernel, rfl, by decide +kernel, by decide +kernel⟩
abbrev s_cards_of : Stmt := top 16
abbrev n_cards_of : List Str := ["prime", "number"]
theorem sc_cards_of : FnScope n_cards_of ["prime"] (defScope s_cards_of) := ⟨rfl, rfl, rfl, by decide +kernel, rfl, by decide +kernel, by decide +kernel⟩
abbrev s_locked : Stmt := top 17
abbrev n_locked : List Str := ["card", "key", "prime"]
theorem sc_locked : FnScope n_locked ["card", "key", "prime"] (defScope s_locked) := ⟨rfl, rfl, rfl, by decide +kernel, rfl, by decide +kernel, by decide +kernel⟩
abbrev s_inverse_of : Stmt := top 18
abbrev n_inverse_of : List Str := ["key", "prime", "modulus"]
theorem sc_inverse_of : FnScope n_inverse_of ["key", "prime"] (defScope s_inverse_of) := ⟨rfl, rfl, rfl, by decide +kernel, rfl, by decide +kernel, by decide +kernel⟩
abbrev s_unlocked : Stmt := top 19
abbrev n_unlocked : List Str := ["card", "key", "prime"]
theorem sc_unlocked : FnScope n_unlocked ["card", "key", "prime"] (defScope s_unlocked) := ⟨rfl, rfl, rfl, by decide +kernel, rfl, by decide +kernel, by decide +kernel⟩
abbrev s_joint_of : Stmt := top 20
abbrev n_joint_of : List Str := ["keys", "prime", "joint", "key"]
theorem sc_joint_of : FnScope n_joint_of ["keys", "prime"] (defScope s_joint_of) := ⟨rfl, rfl, rfl, by decide +kernel, rfl, by decide +kernel, by decide +kernel⟩
def sp_square : Sp := fun vs H Q _ => ∃ x p : Nat, vs = [.int x, .int p] ∧ TP p ∧ Q (.bl (decide (Vbndal.lockCard p x (p / 2) = 1))) H
def sp_card : Sp := fun vs H Q _ => ∃ (x : Int) (p : Nat), vs = [.int x, .int p] ∧ TP p ∧ Q (.bl (crd p x)) H
def sp_key : Sp := fun vs H Q _ => ∃ (x : Int) (p : Nat), vs = [.int x, .int p] ∧ TP p ∧ Q (.bl (kyd p x)) H
def sp_cards : Sp := fun vs H Q _ => ∃ p : Nat, vs = [.int p] ∧ TP p ∧ ∀ (H' : Hp) (d : Addr), H d = none → Same H H' → H' d = some (.lst ((Vbndal.allCards p).map fun n : Nat => V.int n)) → Q (.ref d) H'
def sp_locked : Sp := fun vs H Q _ => ∃ x k p : Nat, vs = [.int x, .int k, .int p] ∧ TP p ∧ k < 1000 ∧ Q (.int (Vbndal.lockCard p x k : Nat)) H
def sp_inv : Sp := fun vs H Q _ => ∃ k p : Nat, vs = [.int k, .int p] ∧ TP p ∧ Q (.int (Vbndal.inverseKey p k : Nat)) H
def sp_unlocked : Sp := fun vs H Q _ => ∃ x k p : Nat, vs = [.int x, .int k, .int p] ∧ TP p ∧ Q (.int (Vbndal.lockCard p x (Vbndal.inverseKey p k) : Nat)) H
def sp_joint (K : Fr) : Sp := fun vs H Q _ => ∃ (a : Addr) (ks : List Nat) (p : Nat), vs = [.ref a, .int p] ∧ TP p ∧ SqL K H a (ks.map fun n : Nat => V.int n) ∧ Q (.int (Vbndal.jointKey p ks : Nat)) H
section
variable {P : Program} {w : World} {K : Fr} {mg : Str → Option Value} {base : Heap} {f : Addr} {fd : FuncData}
theorem ok_is_square (F : Fun K "is_square" "is_square" s_is_square f fd) (d_power : Df P w K mg base CX0 1 "power" sp_power) (d_key_modulus : Df P w K mg base CX0 1 "key_modulus" sp_half) : FnOk P w K mg base CX0 2 f fd ["number", "prime"] sp_square := by
  refine F.ok sc_is_square (fun vs H Q E h => ?_) (fun cdv A outer s H vs Q E hr h => ⟨_, (pss_one (ps_ret (pe_cmpR op_eq (by exact (pe_d d_power pass0 hr (by decide) rfl (pa_cons (pv 0) (pa_cons (by exact (pe_d d_key_modulus pass0 hr (by decide) rfl (pa_cons (pv 1) pa_nil))) (pa_cons (pv 1) pa_nil))))) pe_int (nomark _)))), ?_⟩)
  · obtain ⟨x, p, rfl, _⟩ := h
    rfl
  obtain ⟨x, p, rfl, tp, k⟩ := h
  have hlo := tp.lo
  have hhi := tp.hi
  refine ⟨_, rfl, _, rfl, p, rfl, by omega, _, rfl, x, (p - 1) / 2, p, rfl, by omega, by omega, rfl, ?_⟩
  have e : decide (Vbndal.lockCard p x (p / 2) = 1) = decide (V.int ((x ^ ((p - 1) / 2) % p : Nat) : Int) = V.int 1) := by
    rw [tp.q1, lock_eq (by omega)]
    by_cases q : x ^ (p / 2) % p = 1
    · rw [d_yes (by rw [q]; rfl), q] <;> rfl
    · rw [d_no (by omega)]
      exact decide_eq_false q
  rw [e] at k
  exact k
theorem ok_is_card (F : Fun K "is_card" "is_card" s_is_card f fd) (d_is_square : Df P w K mg base CX0 2 "is_square" sp_square) : FnOk P w K mg base CX0 3 f fd ["number", "prime"] sp_card := by
  refine F.ok sc_is_card (fun vs H Q E h => ?_) (fun cdv A outer s H vs Q E hr h => ⟨_, (pss_one (ps_ret (pe_and (pe_cmpR op_ge (pv 0) pe_int (nomark _)) (pe_and (pe_cmpR op_le (pv 0) (pe_op op_sub (pv 1) pe_int) (nomark _)) (pe_one (by exact (pe_d d_is_square pass0 hr (by decide) rfl (pa_cons (pv 0) (pa_cons (pv 1) pa_nil))))))))), ?_⟩)
  · obtain ⟨x, p, rfl, _⟩ := h
    rfl
  obtain ⟨x, p, rfl, tp, k⟩ := h
  have hlo := tp.lo
  have hhi := tp.hi
  refine ⟨_, rfl, _, _, rfl, rfl, _, rfl, ?_⟩
  by_cases c : 2 ≤ x
  · refine if_yes (decide_eq_true c) ?_
    refine ⟨_, rfl, _, rfl, _, _, rfl, rfl, _, _, rfl, rfl, _, rfl, ?_⟩
    by_cases c2 : x ≤ (p : Int) - 1
    · refine if_yes (decide_eq_true c2) ?_
      obtain ⟨n, rfl⟩ : ∃ n : Nat, x = n := ⟨x.toNat, by omega⟩
      refine ⟨_, rfl, _, rfl, n, p, rfl, tp, ?_⟩
      have e : crd p (n : Int) = decide (Vbndal.lockCard p n (p / 2) = 1) := by
        have e1 : Vbndal.inRange (n : Int) 2 ((p : Int) - 1) = true := by
          unfold Vbndal.inRange
          rw [decide_eq_true (show (2 : Int) ≤ n by omega), decide_eq_true (show (n : Int) ≤ (p : Int) - 1 by omega)] <;> rfl
        unfold crd Vbndal.isCard
        rw [e1, Bool.true_and, Int.toNat_natCast, decide_eq_true (show 2 ≤ n ∧ n < p by omega), Bool.true_and]
        unfold Vbndal.subgroupOrder
        rw [Bool.eq_iff_iff, beq_iff_eq, decide_eq_true_iff]
      rw [e] at k
      exact k
    · refine if_no (decide_eq_false c2) ?_
      have e : crd p x = false := by
        cases q : crd p x with
        | false => rfl
        | true =>
          obtain ⟨n, rfl, h1, h2, _⟩ := crd_iff.mp q
          omega
      rw [e] at k
      exact k
  · refine if_no (decide_eq_false c) ?_
    have e : crd p x = false := by
      cases q : crd p x with
      | false => rfl
      | true =>
        obtain ⟨n, rfl, h1, _⟩ := crd_iff.mp q
        omega
    rw [e] at k
    exact k
theorem ok_is_key (F : Fun K "is_key" "is_key" s_is_key f fd) (d_key_modulus : Df P w K mg base CX0 1 "key_modulus" sp_half) : FnOk P w K mg base CX0 2 f fd ["number", "prime"] sp_key := by
  refine F.ok sc_is_key (fun vs H Q E h => ?_) (fun cdv A outer s H vs Q E hr h => ⟨_, (pss_one (ps_ret (pe_and (pe_cmpR op_ge (pv 0) pe_int (nomark _)) (pe_one (pe_cmpR op_le (pv 0) (pe_op op_sub (by exact (pe_d d_key_modulus pass0 hr (by decide) rfl (pa_cons (pv 1) pa_nil))) pe_int) (nomark _)))))), ?_⟩)
  · obtain ⟨x, p, rfl, _⟩ := h
    rfl
  obtain ⟨x, p, rfl, tp, k⟩ := h
  have hlo := tp.lo
  refine ⟨_, rfl, _, _, rfl, rfl, _, rfl, ?_⟩
  by_cases c : 1 ≤ x
  · refine if_yes (decide_eq_true c) ?_
    refine ⟨_, rfl, _, rfl, p, rfl, by omega, _, _, rfl, rfl, _, _, rfl, rfl, ?_⟩
    have e : kyd p x = decide (x ≤ (((p - 1) / 2 : Nat) : Int) - 1) := by
      unfold kyd Vbndal.inRange Vbndal.subgroupOrder
      rw [decide_eq_true c, Bool.true_and, tp.q1]
    rw [e] at k
    exact k
  · refine if_no (decide_eq_false c) ?_
    have e : kyd p x = false := by
      unfold kyd Vbndal.inRange
      rw [decide_eq_false c, Bool.false_and]
    rw [e] at k
    exact k
theorem ok_locked (F : Fun K "locked" "locked" s_locked f fd) (d_power : Df P w K mg base CX0 1 "power" sp_power) : FnOk P w K mg base CX0 2 f fd ["card", "key", "prime"] sp_locked := by
  refine F.ok sc_locked (fun vs H Q E h => ?_) (fun cdv A outer s H vs Q E hr h => ⟨_, (pss_one (ps_ret (by exact (pe_d d_power pass0 hr (by decide) rfl (pa_cons (pv 0) (pa_cons (pv 1) (pa_cons (pv 2) pa_nil))))))), ?_⟩)
  · obtain ⟨x, k, p, rfl, _⟩ := h
    rfl
  obtain ⟨x, k, p, rfl, tp, hk, q⟩ := h
  have hlo := tp.lo
  have hhi := tp.hi
  refine ⟨_, rfl, _, rfl, _, rfl, x, k, p, rfl, by omega, by omega, ?_⟩
  rw [lock_eq (by omega)] at q
  exact q
theorem ok_inverse_of (F : Fun K "inverse_of" "inverse_of" s_inverse_of f fd) (d_key_modulus : Df P w K mg base CX0 1 "key_modulus" sp_half) (d_power : Df P w K mg base CX0 1 "power" sp_power) : FnOk P w K mg base CX0 2 f fd ["key", "prime"] sp_inv := by
  refine F.ok sc_inverse_of (fun vs H Q E h => ?_) (fun cdv A outer s H vs Q E hr h => ⟨_, (pss_cons (ps_set (i := 2) sc_inverse_of.nd rfl (Or.inl rfl) (by exact (pe_d d_key_modulus pass0 hr (by decide) rfl (pa_cons (pv 1) pa_nil))))
      (pss_one (ps_ret (by exact (pe_d d_power pass0 hr (by decide) rfl (pa_cons (pv 0) (pa_cons (pe_op op_sub (pv 2) pe_int) (pa_cons (pv 2) pa_nil)))))))), ?_⟩)
  · obtain ⟨k, p, rfl, _⟩ := h
    rfl
  obtain ⟨k, p, rfl, tp, q⟩ := h
  have hlo := tp.lo
  have hhi := tp.hi
  refine ⟨_, rfl, p, rfl, by omega, ?_⟩
  refine ⟨_, rfl, _, rfl, _, _, rfl, rfl, _, rfl, k, (p - 1) / 2 - 2, (p - 1) / 2, ?_, by omega, by omega, ?_⟩
  · have e : (((p - 1) / 2 : Nat) : Int) - 2 = (((p - 1) / 2 - 2 : Nat) : Int) := by omega
    exact congrArg (fun z => [V.int (k : Int), V.int z, V.int (((p - 1) / 2 : Nat) : Int)]) e
  · unfold Vbndal.inverseKey Vbndal.subgroupOrder at q
    rw [lock_eq (by omega), ← tp.q1] at q
    exact q
theorem ok_unlocked (F : Fun K "unlocked" "unlocked" s_unlocked f fd) (d_locked : Df P w K mg base CX0 2 "locked" sp_locked) (d_inverse_of : Df P w K mg base CX0 2 "inverse_of" sp_inv) : FnOk P w K mg base CX0 3 f fd ["card", "key", "prime"] sp_unlocked := by
  refine F.ok sc_unlocked (fun vs H Q E h => ?_) (fun cdv A outer s H vs Q E hr h => ⟨_, (pss_one (ps_ret (by exact (pe_d d_locked pass0 hr (by decide) rfl (pa_cons (pv 0) (pa_cons (by exact (pe_d d_inverse_of pass0 hr (by decide) rfl (pa_cons (pv 1) (pa_cons (pv 2) pa_nil)))) (pa_cons (pv 2) pa_nil))))))), ?_⟩)
  · obtain ⟨x, k, p, rfl, _⟩ := h
    rfl
  obtain ⟨x, k, p, rfl, tp, q⟩ := h
  have hlo := tp.lo
  have hhi := tp.hi
  have hi : Vbndal.inverseKey p k < 1000 := by
    unfold Vbndal.inverseKey Vbndal.subgroupOrder
    have := lock_lt (p := p / 2) (x := k) (k := p / 2 - 2) (by omega) (by omega)
    omega
  exact ⟨_, rfl, _, rfl, _, rfl, k, p, rfl, tp, _, rfl, x, _, p, rfl, tp, hi, q⟩
theorem joint_step (p : Nat) (ks : List Nat) (k : Nat) : Vbndal.jointKey p (ks ++ [k]) = Vbndal.jointKey p ks * k % Vbndal.subgroupOrder p := by
  unfold Vbndal.jointKey
  rw [List.foldl_append]
  rfl
theorem joint_lt {p : Nat} (h : 2 ≤ p / 2) (ks : List Nat) : Vbndal.jointKey p ks < p / 2 := by
  have g : ∀ (l : List Nat) (a : Nat), a < p / 2 → l.foldl (fun a k => a * k % Vbndal.subgroupOrder p) a < p / 2 := by
    intro l
    induction l with
    | nil => exact fun a ha => ha
    | cons x r ih => exact fun a _ => ih _ (Nat.mod_lt _ (by unfold Vbndal.subgroupOrder; omega))
  exact g ks 1 (by omega)
/-- the i-th of mapped -/
theorem map_at {α β : Type} {g : α → β} {l : List α} {i : Nat} {y : β} (h : (l.map g)[i]? = some y) : ∃ x, l[i]? = some x ∧ y = g x := by
  rw [List.getElem?_map] at h
  cases e : l[i]? with
  | none =>
    rw [e] at h
    cases h
  | some x =>
    rw [e] at h
    exact ⟨x, rfl, (Option.some.inj h).symm⟩
theorem take_one {α : Type} {l : List α} {i : Nat} {x : α} (h : l[i]? = some x) : l.take (i + 1) = l.take i ++ [x] := by
  obtain ⟨h1, h2⟩ := List.getElem?_eq_some_iff.mp h
  rw [← h2, List.take_append_getElem]
theorem ok_joint_of (F : Fun K "joint_of" "joint_of" s_joint_of f fd) (d_key_modulus : Df P w K mg base CX0 1 "key_modulus" sp_half) : FnOk P w K mg base CX0 2 f fd ["keys", "prime"] (sp_joint K) := by
  refine F.ok sc_joint_of (fun vs H Q E h => ?_) (fun cdv A outer s H vs Q E hr h => ⟨_, (pss_cons (ps_set (i := 2) sc_joint_of.nd rfl (Or.inl rfl) pe_int)
      (pss_cons (ps_for PassesOwn.never rfl (pi_list (pv 0)) (pg_name (i := 3) sc_joint_of.nd rfl (Or.inl rfl))
      (pss_one (ps_set (i := 2) sc_joint_of.nd rfl (Or.inl rfl) (pe_op op_mod (pe_op op_mul (pv 2) (pv 3)) (by exact (pe_d d_key_modulus pass0 hr (by decide) rfl (pa_cons (pv 1) pa_nil)))))))
      (pss_one (ps_ret (pv 2))))), ?_⟩)
  · obtain ⟨a, ks, p, rfl, _⟩ := h
    rfl
  obtain ⟨a, ks, p, rfl, tp, sq, q⟩ := h
  have hlo := tp.lo
  have hhi := tp.hi
  refine ⟨_, rfl, a, rfl, ⟨_, sq⟩, for_list (K := K) (a := a) (xs := ks.map fun n : Nat => V.int n) (fun i σ H' => H' = H ∧ ∃ v, σ = [some (.ref a), some (.int p), some (.int (Vbndal.jointKey p (ks.take i) : Nat)), v])
    ⟨rfl, none, rfl⟩ (fun i σ H' _ z => by rw [z.1]; exact sq) ?_ ?_⟩
  · rintro i y σ H' hi ⟨rfl, v, rfl⟩
    obtain ⟨k, hk, rfl⟩ := map_at hi
    have hj := joint_lt (p := p) (by omega) (ks.take i)
    have hj2 : (Vbndal.jointKey p (List.take i ks)) ≤ 1000 := by omega
    refine ⟨_, rfl, _, rfl, _, _, rfl, rfl, small64 hj2, _, rfl, p, rfl, by omega, _, _, rfl, rfl, (by show (0 : Int) < (((p - 1) / 2 : Nat) : Int); omega), ⟨rfl, some (.int (k : Int)), ?_⟩⟩
    rw [take_one hk, joint_step]
    unfold Vbndal.subgroupOrder
    have e : ((Vbndal.jointKey p (ks.take i) : Nat) : Int) * (k : Int) % (((p - 1) / 2 : Nat) : Int) = ((Vbndal.jointKey p (ks.take i) * k % (p / 2) : Nat) : Int) := by
      rw [← Int.natCast_mul, natmod, tp.q1]
    rw [← e]
    rfl
  · rintro σ H' ⟨rfl, v, rfl⟩
    rw [List.length_map, List.take_length]
    exact ⟨_, rfl, q⟩
theorem cards_zero (p : Nat) : (List.range 2).filter (Vbndal.isCard p) = [] := by
  have h0 : Vbndal.isCard p 0 = false := by
    unfold Vbndal.isCard
    rw [decide_eq_false (by omega), Bool.false_and]
  have h1 : Vbndal.isCard p 1 = false := by
    unfold Vbndal.isCard
    rw [decide_eq_false (by omega), Bool.false_and]
  have e : List.range 2 = [0, 1] := rfl
  rw [e, List.filter_cons_of_neg (by rw [h0]; exact Bool.false_ne_true), List.filter_cons_of_neg (by rw [h1]; exact Bool.false_ne_true)]
  rfl
theorem crd_nat {p n : Nat} (h : n < p) : crd p (n : Int) = Vbndal.isCard p n := by
  unfold crd Vbndal.inRange
  rw [Int.toNat_natCast, decide_eq_true (show (n : Int) ≤ (p : Int) - 1 by omega), Bool.and_true]
  by_cases c : 2 ≤ n
  · rw [decide_eq_true (by omega), Bool.true_and]
  · unfold Vbndal.isCard
    rw [decide_eq_false (by omega), Bool.false_and, decide_eq_false (by omega), Bool.false_and]
theorem ok_cards_of (F : Fun K "cards_of" "cards_of" s_cards_of f fd) (n_range : mg "range" = none) (d_is_card : Df P w K mg base CX0 3 "is_card" sp_card) : FnOk P w K mg base CX0 4 f fd ["prime"] sp_cards := by
  refine F.ok sc_cards_of (fun vs H Q E h => ?_) (fun cdv A outer s H vs Q E hr h => ⟨_, (pss_one (ps_ret (pe_lc (own := [("number", 1)]) (g := gName 1) rfl sc_cards_of.nd (pi_range2 rfl n_range (pa_cons pe_int (pa_cons (pv 0) pa_nil))) (blkOk_by (N := n_cards_of) (sc := defScope s_cards_of) (by decide +kernel)) (fun _ _ _ _ _ => (pg_name (i := 1) sc_cards_of.nd rfl (Or.inl rfl))) (fun _ _ _ _ _ => (pts_one (pt_val (by exact (pe_d d_is_card pass0 hr (by decide) rfl (pa_cons (pv 1) (pa_cons (pv 0) pa_nil))))))) (fun _ _ _ _ _ => (pv 1))))), ?_⟩)
  · obtain ⟨p, rfl, _⟩ := h
    rfl
  obtain ⟨p, rfl, tp, q⟩ := h
  have hlo := tp.lo
  have hhi := tp.hi
  refine ⟨_, rfl, 2, p, rfl, ⟨by omega, by omega, by omega, by omega⟩, fun D hD => ?_⟩
  refine lc_range (lo := 2) (n := ((p : Int) - 2).toNat) (fun i H' => H' D = some (.lst (((List.range (i + 2)).filter (Vbndal.isCard p)).map fun n : Nat => V.int n)) ∧ Same H H') ?_ ?_ ?_
  · refine ⟨?_, fun b o e => by rw [upd_ne (ne_of_none e hD)]; exact e⟩
    rw [cards_zero]
    exact upd_same
  · rintro i H' hi ⟨h1, h2⟩
    have ei : (2 : Int) + (i : Int) = ((i + 2 : Nat) : Int) := by omega
    rw [ei]
    refine ⟨rfl, _, rfl, _, rfl, ((i + 2 : Nat) : Int), p, rfl, tp, _, rfl, ?_⟩
    rw [crd_nat (by omega)]
    have es : (List.range (i + 1 + 2)).filter (Vbndal.isCard p) = (List.range (i + 2)).filter (Vbndal.isCard p) ++ (if Vbndal.isCard p (i + 2) = true then [i + 2] else []) := by
      rw [show i + 1 + 2 = (i + 2) + 1 by omega, List.range_succ, List.filter_append]
      congr 1
      by_cases c : Vbndal.isCard p (i + 2) = true
      · rw [if_pos c, List.filter_cons_of_pos c]
        rfl
      · rw [if_neg c, List.filter_cons_of_neg c]
        rfl
    cases c : Vbndal.isCard p (i + 2) with
    | true =>
      refine if_yes rfl ?_
      refine ⟨_, rfl, _, h1, ?_, ?_, ?_⟩
      · rw [List.length_map]
        have := List.length_filter_le (Vbndal.isCard p) (List.range (i + 2))
        rw [List.length_range] at this
        exact Nat.lt_of_le_of_lt this (Nat.lt_of_le_of_lt (by omega : i + 2 ≤ 1000) (by decide))
      · rw [es, if_pos c, List.map_append]
        exact upd_same
      · exact fun b o e => by
          rw [upd_ne (ne_of_none e hD)]
          exact h2 b o e
    | false =>
      refine if_no rfl ?_
      refine ⟨?_, h2⟩
      rw [es, if_neg (by rw [c]; exact Bool.false_ne_true), List.append_nil]
      exact h1
  · rintro H' ⟨h1, h2⟩
    have e : ((p : Int) - 2).toNat + 2 = p := by omega
    rw [e] at h1
    exact q H' D hD h2 h1
end
end Cl
set_option Elab.async false
set_option linter.unusedVariables false
set_option maxRecDepth 100000
set_option maxHeartbeats 4000000
/-! # A table, read from its text -/
namespace Cl
open PySem PySem.Spec PyProof.Rows L2
open Vbndal (Tokens ParseError)
abbrev s_Table___init__ : Stmt := inClass (top 58) 0
abbrev n_Table___init__ : List Str := ["self", "prime", "deck", "players"]
theorem sc_Table___init__ : FnScope n_Table___init__ ["self", "prime", "deck", "players"] (defScope s_Table___init__) := ⟨rfl, rfl, rfl, by decide +kernel, rfl, by decide +kernel, by decide +kernel⟩
abbrev s_read_prime : Stmt := top 98
abbrev n_read_prime : List Str := ["reader", "token"]
theorem sc_read_prime : FnScope n_read_prime ["reader"] (defScope s_read_prime) := ⟨rfl, rfl, rfl, by decide +kernel, rfl, by decide +kernel, by decide +kernel⟩
abbrev s_read_card : Stmt := top 99
abbrev n_read_card : List Str := ["reader", "prime", "deck", "token"]
theorem sc_read_card : FnScope n_read_card ["reader", "prime", "deck"] (defScope s_read_card) := ⟨rfl, rfl, rfl, by decide +kernel, rfl, by decide +kernel, by decide +kernel⟩
abbrev s_read_deck : Stmt := top 100
abbrev n_read_deck : List Str := ["reader", "prime", "deck"]
theorem sc_read_deck : FnScope n_read_deck ["reader", "prime"] (defScope s_read_deck) := ⟨rfl, rfl, rfl, by decide +kernel, rfl, by decide +kernel, by decide +kernel⟩
abbrev s_read_name : Stmt := top 101
abbrev n_read_name : List Str := ["reader", "players", "token", "used", "name", "key"]
theorem sc_read_name : FnScope n_read_name ["reader", "players"] (defScope s_read_name) := ⟨rfl, rfl, rfl, by decide +kernel, rfl, by decide +kernel, by decide +kernel⟩
abbrev s_read_key : Stmt := top 102
abbrev n_read_key : List Str := ["reader", "prime", "token"]
theorem sc_read_key : FnScope n_read_key ["reader", "prime"] (defScope s_read_key) := ⟨rfl, rfl, rfl, by decide +kernel, rfl, by decide +kernel, by decide +kernel⟩
abbrev s_read_player : Stmt := top 103
abbrev n_read_player : List Str := ["reader", "prime", "players", "name", "key"]
theorem sc_read_player : FnScope n_read_player ["reader", "prime", "players"] (defScope s_read_player) := ⟨rfl, rfl, rfl, by decide +kernel, rfl, by decide +kernel, by decide +kernel⟩
abbrev s_read_table : Stmt := top 104
abbrev n_read_table : List Str := ["text", "reader", "prime", "deck", "players"]
theorem sc_read_table : FnScope n_read_table ["text"] (defScope s_read_table) := ⟨rfl, rfl, rfl, by decide +kernel, rfl, by decide +kernel, by decide +kernel⟩
theorem But.none {a : Addr} {H H1 : Hp} {u : HO} {d : Addr} (b : But a H H1) (ha : H1 a = some u) (n : H1 d = none) : H d = none := by
  cases z : H d with
  | none => rfl
  | some o =>
    by_cases q : d = a
    · rw [q, ha] at n
      cases n
    · have y := b _ _ z q
      rw [n] at y
      cases y
theorem BadT.but {Ct Ck Cx a : Addr} {H H1 : Hp} {E : XK} {c o : Nat} {rem : List Tk} (h : BadT Cx a H E c o) (b : But a H H1) (r : Rdr Ct Ck H1 a rem) : BadT Cx a H1 E c o := fun H' d b2 n e => by
  obtain ⟨dx, fs, hin, _⟩ := r.ins
  exact h H' d (b.trans b2) (b.none hin n) e
/-- what a part of the reading gives: a value and the rest, or an error -/
def RdP {α : Type} (Ct Ck Cx : Addr) (n : Nat) (a : Addr) (H : Hp) (E : XK) (r : Except ParseError (α × Tokens)) (k : α → Hp → Prop) : Prop := match r with
  | .ok (x, l) => ∀ H' rem, Rdr Ct Ck H' a rem → VT n rem → conv rem = l → But a H H' → k x H'
  | .error b => BadT Cx a H E b.code b.offset
theorem RdP.err {α : Type} {Ct Ck Cx : Addr} {n : Nat} {a : Addr} {H : Hp} {E : XK} {r : Except ParseError (α × Tokens)} {k : α → Hp → Prop} {b : ParseError} (h : RdP Ct Ck Cx n a H E r k) (e : r = .error b) : BadT Cx a H E b.code b.offset := by
  rw [e] at h
  exact h
theorem RdP.ok {α : Type} {Ct Ck Cx : Addr} {n : Nat} {a : Addr} {H : Hp} {E : XK} {r : Except ParseError (α × Tokens)} {k : α → Hp → Prop} {x : α} {l : Tokens} (h : RdP Ct Ck Cx n a H E r k) (e : r = .ok (x, l)) : ∀ H' rem, Rdr Ct Ck H' a rem → VT n rem → conv rem = l → But a H H' → k x H' := by
  rw [e] at h
  exact h
theorem kw_prime : (PySem.Str.ofString "prime") = tx (Vbndal.toBytes "prime") := by decide +kernel
theorem kw_deck : (PySem.Str.ofString "deck") = tx (Vbndal.toBytes "deck") := by decide +kernel
theorem kw_player : (PySem.Str.ofString "player") = tx (Vbndal.toBytes "player") := by decide +kernel
theorem kw_key : (PySem.Str.ofString "key") = tx (Vbndal.toBytes "key") := by decide +kernel
theorem ew_ok {n : Nat} {t : Tk} {r : List Tk} {s : String} (h : t.v = .word (Vbndal.toBytes s)) : Vbndal.expectWord n s (conv (t :: r)) = .ok (conv r) := exp_ok (by rw [h]; rfl) (by rw [h]; intro z; cases z)
theorem ew_no {n : Nat} {t : Tk} {r : List Tk} {s : String} (vt : VT n (t :: r)) (h : t.v ≠ .word (Vbndal.toBytes s)) : Vbndal.expectWord n s (conv (t :: r)) = .error ⟨1, t.off⟩ := exp_no vt fun z => h (by
  cases hv : t.v with
  | word w =>
    rw [hv] at z
    injection z with z
    injection z with z
    rw [z]
  | num m =>
    rw [hv] at z
    injection z with z
    cases z
  | semi =>
    rw [hv] at z
    injection z with z
    cases z
  | bad =>
    rw [hv] at z
    injection z with z
    cases z
  | fin =>
    rw [hv] at z
    cases z)
theorem semi_ok {n : Nat} {t : Tk} {r : List Tk} (h : t.v = .semi) : Vbndal.expect n .semicolon (conv (t :: r)) = .ok (conv r) := exp_ok (by rw [h]; rfl) (by rw [h]; intro z; cases z)
theorem semi_no {n : Nat} {t : Tk} {r : List Tk} (vt : VT n (t :: r)) (h : t.v ≠ .semi) : Vbndal.expect n .semicolon (conv (t :: r)) = .error ⟨1, t.off⟩ := exp_no vt fun z => h (by
  cases hv : t.v with
  | semi => rfl
  | word w =>
    rw [hv] at z
    injection z with z
    cases z
  | num m =>
    rw [hv] at z
    injection z with z
    cases z
  | bad =>
    rw [hv] at z
    injection z with z
    cases z
  | fin =>
    rw [hv] at z
    cases z)
def sp_rprime (Ct Ck Cx : Addr) : Sp := fun vs H Q E => ∃ (a : Addr) (n : Nat) (rem : List Tk), vs = [.ref a] ∧ Rdr Ct Ck H a rem ∧ VT n rem ∧ RdP Ct Ck Cx n a H E (sPrime n (conv rem)) fun p H' => TP p → Q (.int (p : Nat)) H'
def sp_rkey (Ct Ck Cx : Addr) : Sp := fun vs H Q E => ∃ (a : Addr) (p n : Nat) (rem : List Tk), vs = [.ref a, .int p] ∧ TP p ∧ Rdr Ct Ck H a rem ∧ VT n rem ∧ RdP Ct Ck Cx n a H E (sKey n p (conv rem)) fun k H' => Vbndal.isKey p k = true → Q (.int (k : Nat)) H'
def sp_rcard (K : Fr) (Ct Ck Cx : Addr) : Sp := fun vs H Q E => ∃ (a d : Addr) (p n : Nat) (rem : List Tk) (m : List Nat), vs = [.ref a, .int p, .ref d] ∧ TP p ∧ Rdr Ct Ck H a rem ∧ VT n rem ∧ H d = some (.lst (VN m)) ∧ m.length ≤ 10 ∧
  RdP Ct Ck Cx n a H E (sCard n p m (conv rem)) fun x H' => Vbndal.isCard p x = true → x ∉ m → m.length < 10 → Q (.int (x : Nat)) H'
structure DeckOk (p : Nat) (m : List Nat) : Prop where
  two : 2 ≤ m.length
  ten : m.length ≤ 10
  crd : ∀ x ∈ m, Vbndal.isCard p x = true
  nd : m.Nodup
def sp_rdeck (Ct Ck Cx : Addr) : Sp := fun vs H Q E => ∃ (a : Addr) (p n : Nat) (rem : List Tk), vs = [.ref a, .int p] ∧ TP p ∧ Rdr Ct Ck H a rem ∧ VT n rem ∧
  RdP Ct Ck Cx n a H E (sDeck n p (conv rem)) fun m H' => DeckOk p m → ∀ d, H d = none → H' d = some (.lst (VN m)) → Q (.ref d) H'
/-- players at d -/
def PlsAt (H : Hp) (d : Addr) (ps : List Vbndal.Player) : Prop := ∃ rs : List Addr, H d = some (.lst (rs.map V.ref)) ∧ rs.length = ps.length ∧ ∀ (j : Nat) (r : Addr) (y : Vbndal.Player), rs[j]? = some r → ps[j]? = some y → H r = some (.tup [.str (tx y.name), .int y.key])
theorem PlsAt.same {H H' : Hp} {d : Addr} {ps : List Vbndal.Player} (h : PlsAt H d ps) (s : Same H H') : PlsAt H' d ps := by
  obtain ⟨rs, h1, h2, h3⟩ := h
  exact ⟨rs, s _ _ h1, h2, fun j r y e1 e2 => s _ _ (h3 j r y e1 e2)⟩
def sp_rname (K : Fr) (Ct Ck Cx : Addr) : Sp := fun vs H Q E => ∃ (a d : Addr) (n : Nat) (rem : List Tk) (m : List Vbndal.Player), vs = [.ref a, .ref d] ∧ Rdr Ct Ck H a rem ∧ VT n rem ∧ PlsAt H d m ∧ m.length ≤ 4 ∧
  RdP Ct Ck Cx n a H E (sName n m (conv rem)) fun u H' => u.length ≤ 8 → Q (.str (tx u)) H'
def sp_rplayer (K : Fr) (Ct Ck Cx : Addr) : Sp := fun vs H Q E => ∃ (a d : Addr) (p n : Nat) (rem : List Tk) (m : List Vbndal.Player), vs = [.ref a, .int p, .ref d] ∧ TP p ∧ Rdr Ct Ck H a rem ∧ VT n rem ∧ PlsAt H d m ∧ m.length ≤ 4 ∧
  RdP Ct Ck Cx n a H E (sPlayer n p m (conv rem)) fun y H' => y.name.length ≤ 8 → Vbndal.isKey p y.key = true → ∀ t, H t = none → H' t = some (.tup [.str (tx y.name), .int y.key]) → Q (.ref t) H'
/-- a while, what holds told with a number that falls -/
theorem while_gr {c : TT} {tb : TS} {D : Ends} {σ : L2.St} {H : Hp} (Pv : Nat → L2.St → Hp → Prop) (m0 : Nat) (h0 : Pv m0 σ H)
    (hs : ∀ m σ H, Pv m σ H → c σ H fun b H1 => if b = true then ∃ N : L2.St → Hp → Prop, (∀ σ' H', N σ' H' → ∃ m', m' < m ∧ Pv m' σ' H') ∧ tb { D with nx := N, ct := N, bk := D.nx } σ H1 else D.nx σ H1) :
    tWhile c tb D σ H := ⟨Pv, ⟨m0, h0⟩, hs⟩
section
variable {P : Program} {w : World} {K : Fr} {mg : Str → Option Value} {base : Heap} {f : Addr} {fd : FuncData} {Ct Ck Cx Cb aKW : Addr}
theorem ok_read_prime (T2 : TkT K Ck) (F : Fun K "read_prime" "read_prime" s_read_prime f fd) (m_TokenReader_take_keyword : Mt P w K mg base (L2.CX P w) 4 Ct "take_keyword" (sp_kw Ct Ck Cx)) (m_TokenReader_take : Mt P w K mg base (L2.CX P w) 3 Ct "take" (sp_take Ct Ck Cx)) (c_NUMBER : Gv mg "NUMBER" (.str "number")) (c_SEMICOLON : Gv mg "SEMICOLON" (.str "semicolon")) (d_is_table_prime : Df P w K mg base CX0 2 "is_table_prime" sp_tprime) (x_InvalidText : Xt P w K mg base "InvalidText" Cx) (c_WRONG_NUMBER : Gv mg "WRONG_NUMBER" (.int 4)) : FnOk P w K mg base (L2.CX P w) 5 f fd ["reader"] (sp_rprime Ct Ck Cx) := by
  refine F.okX sc_read_prime (fun vs H Q E h => ?_) (fun cdv A outer s H vs Q E hr h => ⟨_, (pss_cons (ps_expr (by exact (pe_m m_TokenReader_take_keyword (pass_up (takes_of rfl rfl rfl rfl)) hr (by decide) (pv 0) (pa_cons pe_str pa_nil))))
      (pss_cons (ps_set (i := 1) sc_read_prime.nd rfl (Or.inl rfl) (by exact (pe_m m_TokenReader_take (pass_up (takes_of rfl rfl rfl rfl)) hr (by decide) (pv 0) (pa_cons (pe_gv rfl c_NUMBER) pa_nil))))
      (pss_cons (ps_if (pt_not (pt_val (by exact (pe_d d_is_table_prime pass0 hr (by decide) rfl (pa_cons (pe_fld (pv 1) rfl) pa_nil)))))
      (pss_one (ps_raise rfl (takes_of rfl rfl rfl rfl) (by exact (pmk_own2 x_InvalidText hr (by decide) rfl (pa_cons (pe_gv rfl c_WRONG_NUMBER) (pa_cons (pe_fld (pv 1) rfl) pa_nil))))))
      pss_nil)
      (pss_cons (ps_expr (by exact (pe_m m_TokenReader_take (pass_up (takes_of rfl rfl rfl rfl)) hr (by decide) (pv 0) (pa_cons (pe_gv rfl c_SEMICOLON) pa_nil))))
      (pss_one (ps_ret (pe_fld (pv 1) rfl))))))), ?_⟩)
  · obtain ⟨a, n, rem, rfl, _⟩ := h
    rfl
  obtain ⟨a, n, rem, rfl, hrd, vt, q⟩ := h
  obtain ⟨t, r, rfl, vts⟩ := vt.split
  obtain ⟨dx, fs, hin, l1, l2, l3⟩ := hrd.ins
  refine ⟨_, rfl, a, dx, fs, rfl, hin, l2, a, t, r, Vbndal.toBytes "prime", congrArg (fun z => [V.ref a, V.str z]) kw_prime, hrd, fun hk H1 g1 b1 => ?_, fun hk => ?_⟩
  · obtain ⟨_, vt1⟩ := vt.tail (by rw [hk]; intro z; cases z)
    obtain ⟨t1, r1, rfl, vts1⟩ := vt1.split
    obtain ⟨dx1, fs1, hin1, l1', l2', l3'⟩ := g1.ins
    have e1 := ew_ok (n := n) (r := t1 :: r1) hk
    refine ⟨_, rfl, a, dx1, fs1, rfl, hin1, l1', a, t1, r1, _, rfl, g1, fun hk1 H2 b g2 gt b2 => ?_, fun hk1 => ?_⟩
    · obtain ⟨m, hm⟩ := kind_num.mp hk1
      obtain ⟨gd, vt2⟩ := vt1.tail (by rw [hm]; intro z; cases z)
      unfold Good at gd
      rw [hm] at gd
      obtain ⟨dk, hb⟩ := id gt
      rw [hm] at hb
      have e2 := num_ok (n := n) (ok := fun n => decide (11 ≤ n) && Vbndal.isSafePrime n) (r := r1) hm
      refine ⟨_, rfl, b, Ck, dk, _, _, rfl, hb, T2.cl, T2.n2, tkF_value, ⟨m, rfl, gd, _, rfl, ?_⟩⟩
      cases c : (decide (11 ≤ m) && Vbndal.isSafePrime m) with
      | false =>
        refine if_yes rfl ?_
        refine ⟨_, rfl, b, Ck, dk, _, _, rfl, hb, T2.cl, T2.n3, tkF_offset, 4, t1.off, rfl, fun d hd => ?_⟩
        have er : sPrime n (conv (t :: t1 :: r1)) = .error ⟨4, t1.off⟩ := by
          unfold sPrime
          rw [e1]
          dsimp only
          rw [e2, if_neg (by rw [c]; exact Bool.false_ne_true)]
        exact ((q.err er).but (b1.trans b2) g2) _ d (But.of_same (Same.new hd)) hd upd_same
      | true =>
        refine if_no rfl ?_
        rw [if_pos c] at e2
        obtain ⟨t2, r2, rfl, vts2⟩ := vt2.split
        obtain ⟨dx2, fs2, hin2, l1'', l2'', l3''⟩ := g2.ins
        refine ⟨_, rfl, a, dx2, fs2, rfl, hin2, l1'', a, t2, r2, _, rfl, g2, fun hk2 H3 b' g3 gt3 b3 => ?_, fun hk2 => ?_⟩
        · have hs := kind_semi.mp hk2
          obtain ⟨_, vt3⟩ := vt2.tail (by rw [hs]; intro z; cases z)
          have er : sPrime n (conv (t :: t1 :: t2 :: r2)) = .ok (m, conv r2) := by
            unfold sPrime
            rw [e1]
            dsimp only
            rw [e2]
            dsimp only
            rw [semi_ok hs]
          rw [Bool.and_eq_true, decide_eq_true_iff] at c
          have tp : TP m := ⟨c.1, by
            rcases Nat.lt_or_ge 983 m with z | z
            · have := safe_small m gd z
              rw [c.2] at this
              cases this
            · exact z, c.2⟩
          have hb3 : H3 b = some (.ins Ck dk (tkF (kindS (.num m)) (valV (.num m)) t1.off t1.fin)) := b3 _ _ hb fun z => by
            rw [z, hin2] at hb
            have z5 := Option.some.inj hb
            injection z5 with y1 y2 y3
            rw [y3] at l2''
            obtain ⟨dz, Lz, rz, lz, iz, hz, _⟩ := g2
            rw [hin2] at hz
            have z7 := Option.some.inj hz
            injection z7 with w1 w2 w3
            rw [w3] at y3
            have z6 := congrArg (fun q : List (Str × V) => q.length) y3
            cases z6
          refine ⟨_, rfl, b, Ck, dk, _, _, rfl, hb3, T2.cl, T2.n2, tkF_value, ?_⟩
          exact q.ok er H3 r2 g3 vt3 rfl ((b1.trans b2).trans b3) tp
        · have hs : t2.v ≠ .semi := fun z => hk2 (kind_semi.mpr z)
          have er : sPrime n (conv (t :: t1 :: t2 :: r2)) = .error ⟨1, t2.off⟩ := by
            unfold sPrime
            rw [e1]
            dsimp only
            rw [e2]
            dsimp only
            rw [semi_no vt2 hs]
          exact (q.err er).but (b1.trans b2) g2
    · have hs : ∀ m, t1.v ≠ .num m := fun m z => hk1 (kind_num.mpr ⟨m, z⟩)
      have er : sPrime n (conv (t :: t1 :: r1)) = .error ⟨1, t1.off⟩ := by
        unfold sPrime
        rw [e1]
        dsimp only
        rw [num_no vt1 hs]
      exact (q.err er).but b1 g1
  · have er : sPrime n (conv (t :: r)) = .error ⟨1, t.off⟩ := by
      unfold sPrime
      rw [ew_no vt hk]
    exact q.err er
theorem tk_ne {H : Hp} {a b : Addr} {t : Tk} {rem : List Tk} (h : Rdr Ct Ck H a rem) (hb : TkAt Ck H b t) : b ≠ a := fun z => by
  obtain ⟨dx, L, rs, l, i, h1, _⟩ := h
  obtain ⟨dk, hk⟩ := hb
  rw [z, h1] at hk
  have z5 := Option.some.inj hk
  injection z5 with y1 y2 y3
  have z6 := congrArg (fun q : List (Str × V) => q.length) y3
  cases z6
theorem tk_but {H H' : Hp} {a b : Addr} {t : Tk} {rem : List Tk} (h : Rdr Ct Ck H a rem) (hb : TkAt Ck H b t) (k : But a H H') : TkAt Ck H' b t := by
  have n := tk_ne h hb
  obtain ⟨dk, hk⟩ := hb
  exact ⟨dk, k _ _ hk n⟩
theorem lst_ne {H : Hp} {a d : Addr} {xs : List V} {rem : List Tk} (h : Rdr Ct Ck H a rem) (hd : H d = some (.lst xs)) : d ≠ a := by
  obtain ⟨dx, fs, hin, _⟩ := h.ins
  exact ne_of hd hin (by intro z; cases z)
theorem Rdr.upd {H : Hp} {a D : Addr} {rem : List Tk} {n : Nat} {o : HO} {xs : List V} (h : Rdr Ct Ck H a rem) (vt : VT n rem) (hD : H D = some (.lst xs)) (hx : xs = [] ∨ ∃ y ys, xs = y :: ys ∧ ∀ b k, y = .ref b → ¬ TkAt Ck H b k) : Rdr Ct Ck (upd H D o) a rem := by
  have nD := lst_ne h hD
  obtain ⟨dy, L, rs, ll, i, w1, w2, w3, w4⟩ := h
  have nL : L ≠ D := fun z => by
    rw [z, hD] at w2
    have z2 := HO.lst.inj (Option.some.inj w2)
    obtain ⟨t, r, er, _⟩ := vt.split
    have hlen : 0 < rs.length := by
      rw [w3.1]
      rcases Nat.eq_zero_or_pos ll.length with q | q
      · rw [List.length_eq_zero_iff.mp q] at w4
        rw [er] at w4
        simp at w4
      · exact q
    cases rs with
    | nil => cases hlen
    | cons r0 r1 =>
      rcases hx with hx | ⟨y, ys, hx, hy⟩
      · rw [hx] at z2
        cases z2
      · rw [hx] at z2
        obtain ⟨e1, _⟩ := List.cons.inj z2
        cases ll with
        | nil =>
          have z3 := w3.1
          cases z3
        | cons k0 k1 => exact hy r0 k0 e1 (w3.2 0 r0 k0 rfl rfl)
  exact ⟨dy, L, rs, ll, i, by rw [upd_ne nD.symm]; exact w1, by rw [upd_ne nL]; exact w2, w3.upd hD, w4⟩
theorem isKey_iff {p m : Nat} : kyd p (m : Int) = Vbndal.isKey p m := by
  unfold kyd Vbndal.inRange Vbndal.isKey
  cases h : decide (1 ≤ m ∧ m < Vbndal.subgroupOrder p) with
  | true =>
    have g := of_decide_eq_true h
    rw [decide_eq_true (by omega), decide_eq_true (by omega)]
    rfl
  | false =>
    have g := of_decide_eq_false h
    by_cases c : 1 ≤ m
    · rw [decide_eq_false (show ¬ (m : Int) ≤ (Vbndal.subgroupOrder p : Int) - 1 by omega), Bool.and_false]
    · rw [decide_eq_false (show ¬ (1 : Int) ≤ (m : Int) by omega), Bool.false_and]
theorem isCard_iff {p m : Nat} : crd p (m : Int) = Vbndal.isCard p m := by
  unfold crd Vbndal.inRange
  rw [Int.toNat_natCast]
  unfold Vbndal.isCard
  by_cases c : 2 ≤ m ∧ m < p
  · rw [decide_eq_true (show (2 : Int) ≤ m by omega), decide_eq_true (show (m : Int) ≤ (p : Int) - 1 by omega)]
    rfl
  · rw [decide_eq_false c, Bool.false_and, Bool.and_false]
theorem ok_read_key (T2 : TkT K Ck) (F : Fun K "read_key" "read_key" s_read_key f fd) (m_TokenReader_take_keyword : Mt P w K mg base (L2.CX P w) 4 Ct "take_keyword" (sp_kw Ct Ck Cx)) (m_TokenReader_take : Mt P w K mg base (L2.CX P w) 3 Ct "take" (sp_take Ct Ck Cx)) (c_NUMBER : Gv mg "NUMBER" (.str "number")) (d_is_key : Df P w K mg base CX0 2 "is_key" sp_key) (x_InvalidText : Xt P w K mg base "InvalidText" Cx) (c_WRONG_NUMBER : Gv mg "WRONG_NUMBER" (.int 4)) : FnOk P w K mg base (L2.CX P w) 5 f fd ["reader", "prime"] (sp_rkey Ct Ck Cx) := by
  refine F.okX sc_read_key (fun vs H Q E h => ?_) (fun cdv A outer s H vs Q E hr h => ⟨_, (pss_cons (ps_expr (by exact (pe_m m_TokenReader_take_keyword (pass_up (takes_of rfl rfl rfl rfl)) hr (by decide) (pv 0) (pa_cons pe_str pa_nil))))
      (pss_cons (ps_set (i := 2) sc_read_key.nd rfl (Or.inl rfl) (by exact (pe_m m_TokenReader_take (pass_up (takes_of rfl rfl rfl rfl)) hr (by decide) (pv 0) (pa_cons (pe_gv rfl c_NUMBER) pa_nil))))
      (pss_cons (ps_if (pt_not (pt_val (by exact (pe_d d_is_key pass0 hr (by decide) rfl (pa_cons (pe_fld (pv 2) rfl) (pa_cons (pv 1) pa_nil))))))
      (pss_one (ps_raise rfl (takes_of rfl rfl rfl rfl) (by exact (pmk_own2 x_InvalidText hr (by decide) rfl (pa_cons (pe_gv rfl c_WRONG_NUMBER) (pa_cons (pe_fld (pv 2) rfl) pa_nil))))))
      pss_nil)
      (pss_one (ps_ret (pe_fld (pv 2) rfl)))))), ?_⟩)
  · obtain ⟨a, p, n, rem, rfl, _⟩ := h
    rfl
  obtain ⟨a, p, n, rem, rfl, tp, hrd, vt, q⟩ := h
  obtain ⟨t, r, rfl, vts⟩ := vt.split
  obtain ⟨dx, fs, hin, l1, l2, l3⟩ := hrd.ins
  refine ⟨_, rfl, a, dx, fs, rfl, hin, l2, a, t, r, Vbndal.toBytes "key", congrArg (fun z => [V.ref a, V.str z]) kw_key, hrd, fun hk H1 g1 b1 => ?_, fun hk => ?_⟩
  · obtain ⟨_, vt1⟩ := vt.tail (by rw [hk]; intro z; cases z)
    obtain ⟨t1, r1, rfl, vts1⟩ := vt1.split
    obtain ⟨dx1, fs1, hin1, l1', l2', l3'⟩ := g1.ins
    have e1 := ew_ok (n := n) (r := t1 :: r1) hk
    refine ⟨_, rfl, a, dx1, fs1, rfl, hin1, l1', a, t1, r1, _, rfl, g1, fun hk1 H2 b g2 gt b2 => ?_, fun hk1 => ?_⟩
    · obtain ⟨m, hm⟩ := kind_num.mp hk1
      obtain ⟨gd, vt2⟩ := vt1.tail (by rw [hm]; intro z; cases z)
      obtain ⟨dk, hb⟩ := id gt
      rw [hm] at hb
      have e2 := num_ok (n := n) (ok := Vbndal.isKey p) (r := r1) hm
      refine ⟨_, rfl, b, Ck, dk, _, _, rfl, hb, T2.cl, T2.n2, tkF_value, _, rfl, ⟨m, p, rfl, tp, _, rfl, ?_⟩⟩
      rw [isKey_iff]
      cases c : Vbndal.isKey p m with
      | false =>
        refine if_yes rfl ?_
        refine ⟨_, rfl, b, Ck, dk, _, _, rfl, hb, T2.cl, T2.n3, tkF_offset, 4, t1.off, rfl, fun d hd => ?_⟩
        have er : sKey n p (conv (t :: t1 :: r1)) = .error ⟨4, t1.off⟩ := by
          unfold sKey
          rw [e1]
          dsimp only
          rw [e2, if_neg (by rw [c]; exact Bool.false_ne_true)]
        exact ((q.err er).but (b1.trans b2) g2) _ d (But.of_same (Same.new hd)) hd upd_same
      | true =>
        refine if_no rfl ?_
        rw [if_pos c] at e2
        have er : sKey n p (conv (t :: t1 :: r1)) = .ok (m, conv r1) := by
          unfold sKey
          rw [e1]
          dsimp only
          rw [e2]
        refine ⟨_, rfl, b, Ck, dk, _, _, rfl, hb, T2.cl, T2.n2, tkF_value, ?_⟩
        exact q.ok er H2 r1 g2 vt2 rfl (b1.trans b2) c
    · have hs : ∀ m, t1.v ≠ .num m := fun m z => hk1 (kind_num.mpr ⟨m, z⟩)
      have er : sKey n p (conv (t :: t1 :: r1)) = .error ⟨1, t1.off⟩ := by
        unfold sKey
        rw [e1]
        dsimp only
        rw [num_no vt1 hs]
      exact (q.err er).but b1 g1
  · have er : sKey n p (conv (t :: r)) = .error ⟨1, t.off⟩ := by
      unfold sKey
      rw [ew_no vt hk]
    exact q.err er
theorem in_nat (x : Nat) (m : List Nat) : inV (V.int (x : Int)) (VN m) = m.contains x := by
  induction m with
  | nil => rfl
  | cons y r ih =>
    have e : inV (V.int (x : Int)) (VN (y :: r)) = (((y : Int) == (x : Int)) || inV (V.int (x : Int)) (VN r)) := rfl
    rw [e, ih, List.contains_cons]
    congr 1
    by_cases c : x = y
    · rw [c, beq_self_eq_true, beq_self_eq_true]
    · rw [beq_false_of_ne c, beq_false_of_ne (by omega)]
theorem flat_nat (m : List Nat) : (VN m).all flatV = true := by
  rw [List.all_map]
  exact List.all_eq_true.mpr fun _ _ => rfl
theorem ok_read_card (T2 : TkT K Ck) (F : Fun K "read_card" "read_card" s_read_card f fd) (m_TokenReader_take : Mt P w K mg base (L2.CX P w) 3 Ct "take" (sp_take Ct Ck Cx)) (c_NUMBER : Gv mg "NUMBER" (.str "number")) (d_is_card : Df P w K mg base CX0 3 "is_card" sp_card) (x_InvalidText : Xt P w K mg base "InvalidText" Cx) (c_WRONG_NUMBER : Gv mg "WRONG_NUMBER" (.int 4)) (c_MOST_CARDS : Gv mg "MOST_CARDS" (.int 10)) (c_REPEATED_OR_TOO_MANY : Gv mg "REPEATED_OR_TOO_MANY" (.int 3)) (n_len : mg "len" = none) : FnOk P w K mg base (L2.CX P w) 4 f fd ["reader", "prime", "deck"] (sp_rcard K Ct Ck Cx) := by
  refine F.okX sc_read_card (fun vs H Q E h => ?_) (fun cdv A outer s H vs Q E hr h => ⟨_, (pss_cons (ps_set (i := 3) sc_read_card.nd rfl (Or.inl rfl) (by exact (pe_m m_TokenReader_take (pass_up (takes_of rfl rfl rfl rfl)) hr (by decide) (pv 0) (pa_cons (pe_gv rfl c_NUMBER) pa_nil))))
      (pss_cons (ps_if (pt_not (pt_val (by exact (pe_d d_is_card pass0 hr (by decide) rfl (pa_cons (pe_fld (pv 3) rfl) (pa_cons (pv 1) pa_nil))))))
      (pss_one (ps_raise rfl (takes_of rfl rfl rfl rfl) (by exact (pmk_own2 x_InvalidText hr (by decide) rfl (pa_cons (pe_gv rfl c_WRONG_NUMBER) (pa_cons (pe_fld (pv 3) rfl) pa_nil))))))
      pss_nil)
      (pss_cons (ps_if (PW.pt (pw_or (pt_cmpR op_in_seq (pe_fld (pv 3) rfl) (pv 2) (by rfl)) (pw_or1 (pt_cmpR op_eq (pe_callB call_len_seq (by rfl) n_len PySem.boot_len (pa_cons (pv 2) pa_nil)) (pe_gv rfl c_MOST_CARDS) (nomark _)))))
      (pss_one (ps_raise rfl (takes_of rfl rfl rfl rfl) (by exact (pmk_own2 x_InvalidText hr (by decide) rfl (pa_cons (pe_gv rfl c_REPEATED_OR_TOO_MANY) (pa_cons (pe_fld (pv 3) rfl) pa_nil))))))
      pss_nil)
      (pss_one (ps_ret (pe_fld (pv 3) rfl)))))), ?_⟩)
  · obtain ⟨a, d, p, n, rem, m, rfl, _⟩ := h
    rfl
  obtain ⟨a, d, p, n, rem, m, rfl, tp, hrd, vt, hd, hm10, q⟩ := h
  obtain ⟨t, r, rfl, vts⟩ := vt.split
  obtain ⟨dx, fs, hin, l1, l2, l3⟩ := hrd.ins
  refine ⟨_, rfl, a, dx, fs, rfl, hin, l1, a, t, r, _, rfl, hrd, fun hk1 H2 b g2 gt b2 => ?_, fun hk1 => ?_⟩
  · obtain ⟨x, hx⟩ := kind_num.mp hk1
    obtain ⟨gd, vt2⟩ := vt.tail (by rw [hx]; intro z; cases z)
    obtain ⟨dk, hb⟩ := id gt
    rw [hx] at hb
    have hd2 := b2 _ _ hd (lst_ne hrd hd)
    have e2 := num_ok (n := n) (ok := Vbndal.isCard p) (r := r) hx
    refine ⟨_, rfl, b, Ck, dk, _, _, rfl, hb, T2.cl, T2.n2, tkF_value, _, rfl, ⟨x, p, rfl, tp, _, rfl, ?_⟩⟩
    rw [isCard_iff]
    cases c : Vbndal.isCard p x with
    | false =>
      refine if_yes rfl ?_
      refine ⟨_, rfl, b, Ck, dk, _, _, rfl, hb, T2.cl, T2.n3, tkF_offset, 4, t.off, rfl, fun d' hd' => ?_⟩
      have er : sCard n p m (conv (t :: r)) = .error ⟨4, t.off⟩ := by
        unfold sCard
        rw [e2, if_neg (by rw [c]; exact Bool.false_ne_true)]
      exact ((q.err er).but b2 g2) _ d' (But.of_same (Same.new hd')) hd' upd_same
    | true =>
      refine if_no rfl ?_
      rw [if_pos c] at e2
      have bad : (m.contains x = true ∨ Vbndal.maxCards ≤ m.length) → BadT Cx a H2 E 3 t.off := fun z => by
        have er : sCard n p m (conv (t :: r)) = .error ⟨3, t.off⟩ := by
          unfold sCard
          rw [e2]
          dsimp only
          rw [if_pos z]
        exact (q.err er).but b2 g2
      refine ⟨_, rfl, b, Ck, dk, _, _, rfl, hb, T2.cl, T2.n2, tkF_value, _, rfl, d, _, rfl, .inl (SqL.of hd2), rfl, flat_nat m, _, rfl, ?_⟩
      show if inV (V.int (x : Int)) (VN m) = true then _ else _
      rw [in_nat]
      cases c2 : m.contains x with
      | true =>
        refine if_yes rfl ?_
        refine if_yes rfl ?_
        refine ⟨_, rfl, b, Ck, dk, _, _, rfl, hb, T2.cl, T2.n3, tkF_offset, 3, t.off, rfl, fun d' hd' => ?_⟩
        exact (bad (.inl c2)) _ d' (But.of_same (Same.new hd')) hd' upd_same
      | false =>
        refine if_no rfl ?_
        refine ⟨_, rfl, d, _, rfl, .inl (SqL.of hd2), rfl, _, rfl, ?_⟩
        have hl : (((VN m).length : Nat) : Int) = (m.length : Int) := by rw [List.length_map]
        by_cases c3 : m.length = 10
        · refine if_yes (d_yes (by rw [hl]; omega)) ?_
          refine ⟨_, rfl, b, Ck, dk, _, _, rfl, hb, T2.cl, T2.n3, tkF_offset, 3, t.off, rfl, fun d' hd' => ?_⟩
          exact (bad (.inr (by show 10 ≤ m.length; omega))) _ d' (But.of_same (Same.new hd')) hd' upd_same
        · refine if_no (d_no (by rw [hl]; omega)) ?_
          have er : sCard n p m (conv (t :: r)) = .ok (x, conv r) := by
            unfold sCard
            rw [e2]
            dsimp only
            rw [if_neg]
            rintro (z | z)
            · rw [c2] at z
              cases z
            · have z2 : 10 ≤ m.length := z
              omega
          refine ⟨_, rfl, b, Ck, dk, _, _, rfl, hb, T2.cl, T2.n2, tkF_value, ?_⟩
          refine q.ok er H2 r g2 vt2 rfl b2 c (fun z => ?_) (by omega)
          rw [List.contains_iff_mem.mpr z] at c2
          cases c2
  · have hs : ∀ m, t.v ≠ .num m := fun m z => hk1 (kind_num.mpr ⟨m, z⟩)
    have er : sCard n p m (conv (t :: r)) = .error ⟨1, t.off⟩ := by
      unfold sCard
      rw [num_no vt hs]
    exact q.err er
theorem next_semi {t : Tk} {r : List Tk} : Vbndal.nextIs .semicolon (conv (t :: r)) = true ↔ t.v = .semi := by
  obtain ⟨v, o, e⟩ := t
  unfold Vbndal.nextIs
  cases v <;> simp [conv]
theorem ok_read_deck (F : Fun K "read_deck" "read_deck" s_read_deck f fd) (m_TokenReader_take_keyword : Mt P w K mg base (L2.CX P w) 4 Ct "take_keyword" (sp_kw Ct Ck Cx)) (m_TokenReader_take : Mt P w K mg base (L2.CX P w) 3 Ct "take" (sp_take Ct Ck Cx)) (m_TokenReader_is_at : Mt P w K mg base CX0 1 Ct "is_at" (sp_is_at Ct Ck)) (c_SEMICOLON : Gv mg "SEMICOLON" (.str "semicolon")) (c_FEWEST_CARDS : Gv mg "FEWEST_CARDS" (.int 2)) (c_NUMBER : Gv mg "NUMBER" (.str "number")) (n_len : mg "len" = none) (d_read_card : Df P w K mg base (L2.CX P w) 4 "read_card" (sp_rcard K Ct Ck Cx)) : FnOk P w K mg base (L2.CX P w) 5 f fd ["reader", "prime"] (sp_rdeck Ct Ck Cx) := by
  refine F.okX sc_read_deck (fun vs H Q E h => ?_) (fun cdv A outer s H vs Q E hr h => ⟨_, (pss_cons (ps_expr (by exact (pe_m m_TokenReader_take_keyword (pass_up (takes_of rfl rfl rfl rfl)) hr (by decide) (pv 0) (pa_cons pe_str pa_nil))))
      (pss_cons (ps_set (i := 2) sc_read_deck.nd rfl (Or.inl rfl) (pe_lst pa_nil))
      (pss_cons (ps_while (passes_of rfl) (PW.pt (pw_or (pt_cmpR op_lt (pe_callB call_len_seq (by rfl) n_len PySem.boot_len (pa_cons (pv 2) pa_nil)) (pe_gv rfl c_FEWEST_CARDS) (nomark _)) (pw_or1 (pt_val (by exact (pe_m m_TokenReader_is_at pass0 hr (by decide) (pv 0) (pa_cons (pe_gv rfl c_NUMBER) pa_nil)))))))
      (pss_one (ps_expr (pe_bm PySem.F.plainAttrs_list PySem.F.slot_list_append PySem.F.type_list_append mt_append (pv 2) (pa_cons (by exact (pe_d d_read_card (pass_up (takes_of rfl rfl rfl rfl)) hr (by decide) rfl (pa_cons (pv 0) (pa_cons (pv 1) (pa_cons (pv 2) pa_nil))))) pa_nil)))))
      (pss_cons (ps_expr (by exact (pe_m m_TokenReader_take (pass_up (takes_of rfl rfl rfl rfl)) hr (by decide) (pv 0) (pa_cons (pe_gv rfl c_SEMICOLON) pa_nil))))
      (pss_one (ps_ret (pv 2))))))), ?_⟩)
  · obtain ⟨a, p, n, rem, rfl, _⟩ := h
    rfl
  obtain ⟨a, p, n, rem, rfl, tp, hrd, vt, q⟩ := h
  obtain ⟨t, r, rfl, vts⟩ := vt.split
  obtain ⟨dx, fs, hin, l1, l2, l3⟩ := hrd.ins
  refine ⟨_, rfl, a, dx, fs, rfl, hin, l2, a, t, r, Vbndal.toBytes "deck", congrArg (fun z => [V.ref a, V.str z]) kw_deck, hrd, fun hk H1 g1 b1 => ?_, fun hk => ?_⟩
  · obtain ⟨_, vt1⟩ := vt.tail (by rw [hk]; intro z; cases z)
    have e1 := ew_ok (n := n) (r := r) hk
    have er : sDeck n p (conv (t :: r)) = Vbndal.parseCards n p ((conv r).length + 1) [] (conv r) := by
      unfold sDeck
      rw [e1]
    rw [er] at q
    generalize hR : Vbndal.parseCards n p ((conv r).length + 1) [] (conv r) = R at q
    refine ⟨(by show 0 ≤ sizeLine; decide), fun D hD => ?_⟩
    have hDH : H D = none := by
      obtain ⟨_, _, h9, _⟩ := g1.ins
      exact b1.none h9 hD
    refine while_gr (fun k σ H' => σ = [some (.ref a), some (.int p), some (.ref D)] ∧ ∃ (rem : List Tk) (g : Nat) (m : List Nat), Rdr Ct Ck H' a rem ∧ VT n rem ∧ (conv rem).length = k ∧ H' D = some (.lst (VN m)) ∧ But a H H' ∧
        Vbndal.parseCards n p g m (conv rem) = R ∧ (conv rem).length < g ∧ m.length ≤ 10 ∧ (∀ x ∈ m, Vbndal.isCard p x = true) ∧ m.Nodup) (conv r).length
      ⟨rfl, r, (conv r).length + 1, [], g1.same (Same.new hD), vt1, rfl, upd_same, b1.trans (But.of_same (Same.new hD)), hR, Nat.lt_succ_self _, Nat.zero_le _, fun x hx => by simp at hx, List.nodup_nil⟩ ?_
    rintro k σ H' ⟨rfl, rem, g, m, hrd', vt', hk', hD', b', hR', hg, hm10, hmc, hnd⟩
    obtain ⟨t', r', rfl, vts'⟩ := vt'.split
    obtain ⟨dx', fs', hin', l1', l2', l3'⟩ := hrd'.ins
    obtain ⟨g', rfl⟩ : ∃ g', g = g' + 1 := ⟨g - 1, by omega⟩
    have hl : (((VN m).length : Nat) : Int) = (m.length : Int) := by rw [List.length_map]
    have tst : ∀ Qc : Bool → Hp → Prop, Qc (decide (m.length < 2) || decide (kindS t'.v = ("number" : Str))) H' → tOr (tTest (tOp (rI0 fun i j => .bl (decide (i < j))) (tCB (fun xs H Q => ∃ p ys, xs = [.ref p] ∧ (SqL K H p ys ∨ SqT K H p ys) ∧ Q (.int ys.length) H) (tCons (tVar 2) tNil)) (tC (.int 2))))
        (tB (tMeth Ct "is_at" (sp_is_at Ct Ck) [] E0 (tVar 0) (tCons (tC (.str "number")) tNil))) [some (.ref a), some (.int p), some (.ref D)] H' Qc := fun Qc hq => by
      refine ⟨_, rfl, D, _, rfl, .inl (SqL.of hD'), _, _, rfl, rfl, _, rfl, ?_⟩
      by_cases c : m.length < 2
      · refine if_yes (decide_eq_true (by rw [hl]; omega)) ?_
        rw [decide_eq_true c, Bool.true_or] at hq
        exact hq
      · refine if_no (decide_eq_false (by rw [hl]; omega)) ?_
        rw [decide_eq_false c, Bool.false_or] at hq
        exact ⟨_, rfl, a, dx', fs', rfl, hin', l3', a, t', r', _, rfl, hrd', _, rfl, hq⟩
    refine tst _ ?_
    cases hc : (decide (m.length < 2) || decide (kindS t'.v = ("number" : Str))) with
    | true =>
      have ng : ¬ (Vbndal.nextIs .semicolon (conv (t' :: r')) = true ∧ 2 ≤ m.length) := fun ⟨z1, z2⟩ => by
        rw [decide_eq_false (by omega), Bool.false_or, next_semi.mp z1] at hc
        exact absurd (of_decide_eq_true hc) (show ¬ ("semicolon" : Str) = ("number" : Str) by decide +kernel)
      have hgo := cards_go (n := n) (p := p) (f := g') (m := m) (l := conv (t' :: r')) ng
      rw [hR'] at hgo
      refine if_yes rfl ?_
      refine ⟨fun σ' H2 => ∃ m', m' < k ∧ (σ' = [some (.ref a), some (.int p), some (.ref D)] ∧ ∃ (rem : List Tk) (g : Nat) (m : List Nat), Rdr Ct Ck H2 a rem ∧ VT n rem ∧ (conv rem).length = m' ∧ H2 D = some (.lst (VN m)) ∧ But a H H2 ∧
            Vbndal.parseCards n p g m (conv rem) = R ∧ (conv rem).length < g ∧ m.length ≤ 10 ∧ (∀ x ∈ m, Vbndal.isCard p x = true) ∧ m.Nodup), fun σ' H2 z => z, ?_⟩
      refine ⟨_, rfl, .inl ⟨rfl, _, SqL.of hD'⟩, ?_⟩
      refine ⟨_, rfl, _, rfl, _, rfl, a, D, p, n, t' :: r', m, rfl, tp, hrd', vt', hD', hm10, ?_⟩
      cases hS : sCard n p m (conv (t' :: r')) with
      | error b =>
        rw [hS] at hgo
        dsimp only at hgo
        rw [hgo] at q
        exact BadT.but q b' hrd'
      | ok x =>
        obtain ⟨x, l⟩ := x
        rw [hS] at hgo
        dsimp only at hgo
        have hlen := card_len hS
        rintro H2 rem2 g2 vt2 ec2 b2 hcx hxm hm9
        have hD2 := b2 _ _ hD' (lst_ne hrd' hD')
        refine ⟨D, _, _, rfl, rfl, hD2, ?_, ?_⟩
        · rw [List.length_map]
          exact less_line (by omega)
        have nDa := lst_ne g2 hD2
        refine ⟨(conv rem2).length, ?_, rfl, rem2, g', m ++ [x], ?_, vt2, rfl, ?_, ?_, ?_, ?_, ?_, ?_, ?_⟩
        · rw [ec2, ← hk']
          exact hlen.1
        · refine g2.upd vt2 hD2 ?_
          cases m with
          | nil => exact .inl rfl
          | cons m0 m1 => exact .inr ⟨_, _, rfl, fun b k z => by cases z⟩
        · rw [upd_same]
          show some (HO.lst (VN m ++ [V.int (x : Int)])) = some (HO.lst (VN (m ++ [x])))
          rw [show VN (m ++ [x]) = VN m ++ [V.int (x : Int)] from List.map_append]
        · intro c o e nc
          by_cases z : c = D
          · rw [z, hDH] at e
            cases e
          · rw [upd_ne z]
            exact b2 _ _ (b' _ _ e nc) nc
        · rw [ec2]
          exact hgo.symm
        · rw [ec2]
          have := hlen.1
          show l.length < g'
          dsimp only at this
          omega
        · rw [List.length_append]
          show m.length + 1 ≤ 10
          omega
        · intro y hy
          rcases List.mem_append.mp hy with hy | hy
          · exact hmc y hy
          · rw [List.mem_singleton.mp hy]
            exact hcx
        · refine List.nodup_append.mpr ⟨hnd, List.nodup_cons.mpr ⟨by simp, List.nodup_nil⟩, fun y hy z hz => ?_⟩
          rw [List.mem_singleton.mp hz]
          rintro rfl
          exact hxm hy
    | false =>
      refine if_no rfl ?_
      rw [Bool.or_eq_false_iff] at hc
      have h2 : 2 ≤ m.length := by
        have := of_decide_eq_false hc.1
        omega
      have hnn := of_decide_eq_false hc.2
      refine ⟨_, rfl, a, dx', fs', rfl, hin', l1', a, t', r', _, rfl, hrd', fun hk2 H3 b g3 gt3 b3 => ?_, fun hk2 => ?_⟩
      · have hs := kind_semi.mp hk2
        obtain ⟨_, vt3⟩ := vt'.tail (by rw [hs]; intro z; cases z)
        have e5 := cards_stop (n := n) (p := p) (f := g') (m := m) (l := conv (t' :: r')) ⟨next_semi.mpr hs, h2⟩
        rw [hR'] at e5
        have e6 : (conv (t' :: r')).drop 1 = conv r' := by
          rw [conv_cons (k := .semicolon) (by rw [hs]; rfl) (by rw [hs]; intro z; cases z)]
          rfl
        rw [e6] at e5
        refine ⟨_, rfl, q.ok e5 H3 r' g3 vt3 rfl (b'.trans b3) ⟨h2, hm10, hmc, hnd⟩ D hDH (b3 _ _ hD' (lst_ne hrd' hD'))⟩
      · have hs : t'.v ≠ .semi := fun z => hk2 (kind_semi.mpr z)
        have hgo := cards_go (n := n) (p := p) (f := g') (m := m) (l := conv (t' :: r')) (fun z => hs (next_semi.mp z.1))
        rw [hR'] at hgo
        have hS : sCard n p m (conv (t' :: r')) = .error ⟨1, t'.off⟩ := by
          unfold sCard
          rw [num_no vt' fun mm z => hnn (kind_num.mpr ⟨mm, z⟩)]
        rw [hS] at hgo
        exact (q.err hgo).but b' hrd'
  · have er : sDeck n p (conv (t :: r)) = .error ⟨1, t.off⟩ := by
      unfold sDeck
      rw [ew_no vt hk]
    exact q.err er
theorem PlsAt.but {H H' : Hp} {a d : Addr} {ps : List Vbndal.Player} {rem : List Tk} (h : PlsAt H d ps) (k : But a H H') (hr : Rdr Ct Ck H a rem) : PlsAt H' d ps := by
  obtain ⟨rs, h1, h2, h3⟩ := h
  obtain ⟨dx, fs, hin, _⟩ := hr.ins
  exact ⟨rs, k _ _ h1 (ne_of h1 hin (by intro z; cases z)), h2, fun j r y e1 e2 => k _ _ (h3 j r y e1 e2) (ne_of (h3 j r y e1 e2) hin (by intro z; cases z))⟩
theorem in_kw (u : List Nat) : inV (V.str (tx u)) [.str "prime", .str "deck", .str "player", .str "key"] = Vbndal.keywords.contains u := by
  have e : ∀ (s : String), ((PySem.Str.ofString s : Str) == tx u) = (u == (PySem.Str.ofString s).cps.toList) := fun s => by
    have z := SX.S_beq (PySem.Str.ofString s).cps.toList u
    rw [show SX.S (PySem.Str.ofString s).cps.toList = PySem.Str.ofString s from SX.S_tl _] at z
    rw [show (u == (PySem.Str.ofString s).cps.toList) = ((PySem.Str.ofString s).cps.toList == u) from Bool.eq_iff_iff.mpr ⟨fun q => by rw [beq_iff_eq] at q ⊢; exact q.symm, fun q => by rw [beq_iff_eq] at q ⊢; exact q.symm⟩]
    exact z
  have k : Vbndal.keywords = [(PySem.Str.ofString "prime").cps.toList, (PySem.Str.ofString "deck").cps.toList, (PySem.Str.ofString "player").cps.toList, (PySem.Str.ofString "key").cps.toList] := by decide +kernel
  rw [k]
  show ((PySem.Str.ofString "prime" == tx u) || ((PySem.Str.ofString "deck" == tx u) || ((PySem.Str.ofString "player" == tx u) || ((PySem.Str.ofString "key" == tx u) || false)))) = _
  rw [e, e, e, e]
  simp only [List.contains_cons, List.contains_nil]
theorem in_used (u : List Nat) (ps : List Vbndal.Player) : inV (V.str (tx u)) (ps.map fun y => V.str (tx y.name)) = ps.any fun y => y.name == u := by
  induction ps with
  | nil => rfl
  | cons y r ih =>
    show ((tx y.name == tx u) || inV (V.str (tx u)) (r.map fun y => V.str (tx y.name))) = _
    rw [ih, List.any_cons]
    congr 1
    exact SX.S_beq y.name u
theorem ok_read_name (T2 : TkT K Ck) (F : Fun K "read_name" "read_name" s_read_name f fd) (m_TokenReader_take : Mt P w K mg base (L2.CX P w) 3 Ct "take" (sp_take Ct Ck Cx)) (c_WORD : Gv mg "WORD" (.str "word")) (c_KEYWORDS : Gv mg "KEYWORDS" (.ref aKW)) (t_KEYWORDS : ∀ H : Hp, SqT K H aKW [.str "prime", .str "deck", .str "player", .str "key"]) (x_InvalidText : Xt P w K mg base "InvalidText" Cx) (c_NOT_ALLOWED : Gv mg "NOT_ALLOWED" (.int 1)) (c_MOST_PLAYERS : Gv mg "MOST_PLAYERS" (.int 4)) (c_REPEATED_OR_TOO_MANY : Gv mg "REPEATED_OR_TOO_MANY" (.int 3)) (n_len : mg "len" = none) : FnOk P w K mg base (L2.CX P w) 4 f fd ["reader", "players"] (sp_rname K Ct Ck Cx) := by
  refine F.okX sc_read_name (fun vs H Q E h => ?_) (fun cdv A outer s H vs Q E hr h => ⟨_, (pss_cons (ps_set (i := 2) sc_read_name.nd rfl (Or.inl rfl) (by exact (pe_m m_TokenReader_take (pass_up (takes_of rfl rfl rfl rfl)) hr (by decide) (pv 0) (pa_cons (pe_gv rfl c_WORD) pa_nil))))
      (pss_cons (ps_if (pt_cmpR op_in_seq (pe_fld (pv 2) rfl) (pe_gv rfl c_KEYWORDS) (by rfl))
      (pss_one (ps_raise rfl (takes_of rfl rfl rfl rfl) (by exact (pmk_own2 x_InvalidText hr (by decide) rfl (pa_cons (pe_gv rfl c_NOT_ALLOWED) (pa_cons (pe_fld (pv 2) rfl) pa_nil))))))
      pss_nil)
      (pss_cons (ps_setLc (i := 3) (own := [("name", 4), ("key", 5)]) (g := gTup K 2 (gCons (gName 4) (gCons (gName 5) gNil))) rfl sc_read_name.nd rfl rfl (sw_true rfl rfl rfl (by decide +kernel)) (pi_list (pv 1)) (blkOk_by (N := n_read_name) (sc := defScope s_read_name) (by decide +kernel)) (fun _ _ _ _ _ => (pg_tup rfl (pgs_cons (pg_name (i := 4) sc_read_name.nd rfl (Or.inl rfl)) (pgs_cons (pg_name (i := 5) sc_read_name.nd rfl (Or.inl rfl)) pgs_nil)))) (fun _ _ _ _ _ => pts_nil) (fun _ _ _ _ _ => (pv 4)))
      (pss_cons (ps_if (PW.pt (pw_or (pt_cmpR op_in_seq (pe_fld (pv 2) rfl) (pv 3) (by rfl)) (pw_or1 (pt_cmpR op_eq (pe_callB call_len_seq (by rfl) n_len PySem.boot_len (pa_cons (pv 1) pa_nil)) (pe_gv rfl c_MOST_PLAYERS) (nomark _)))))
      (pss_one (ps_raise rfl (takes_of rfl rfl rfl rfl) (by exact (pmk_own2 x_InvalidText hr (by decide) rfl (pa_cons (pe_gv rfl c_REPEATED_OR_TOO_MANY) (pa_cons (pe_fld (pv 2) rfl) pa_nil))))))
      pss_nil)
      (pss_one (ps_ret (pe_fld (pv 2) rfl))))))), ?_⟩)
  · obtain ⟨a, d, n, rem, m, rfl, _⟩ := h
    rfl
  obtain ⟨a, d, n, rem, m, rfl, hrd, vt, hd, hm4, q⟩ := h
  obtain ⟨t, r, rfl, vts⟩ := vt.split
  obtain ⟨dx, fs, hin, l1, l2, l3⟩ := hrd.ins
  refine ⟨_, rfl, a, dx, fs, rfl, hin, l1, a, t, r, _, rfl, hrd, fun hk1 H2 b g2 gt b2 => ?_, fun hk1 => ?_⟩
  · obtain ⟨u, hu⟩ := kind_word.mp hk1
    obtain ⟨gd, vt2⟩ := vt.tail (by rw [hu]; intro z; cases z)
    unfold Good at gd
    rw [hu] at gd
    obtain ⟨dk, hb⟩ := id gt
    rw [hu] at hb
    have hd2 := hd.but b2 hrd
    have e2 := name_ok (n := n) (r := r) hu
    refine ⟨_, rfl, b, Ck, dk, _, _, rfl, hb, T2.cl, T2.n2, tkF_value, aKW, _, rfl, .inr (t_KEYWORDS _), rfl, rfl, _, rfl, ?_⟩
    show if inV (V.str (tx u)) [.str "prime", .str "deck", .str "player", .str "key"] = true then _ else _
    rw [in_kw]
    cases c : Vbndal.keywords.contains u with
    | true =>
      refine if_yes rfl ?_
      rw [if_pos c] at e2
      refine ⟨_, rfl, b, Ck, dk, _, _, rfl, hb, T2.cl, T2.n3, tkF_offset, 1, t.off, rfl, fun d' hd' => ?_⟩
      have er : sName n m (conv (t :: r)) = .error ⟨1, t.off⟩ := by
        unfold sName
        rw [e2]
      exact ((q.err er).but b2 g2) _ d' (But.of_same (Same.new hd')) hd' upd_same
    | false =>
      refine if_no rfl ?_
      rw [if_neg (by rw [c]; exact Bool.false_ne_true)] at e2
      obtain ⟨rs, h1, h2, h3⟩ := hd2
      refine ⟨_, rfl, d, rfl, ⟨_, SqL.of h1⟩, fun D hD => ?_⟩
      have hDd : d ≠ D := ne_of_none h1 hD
      refine lc_list (K := K) (a := d) (xs := rs.map V.ref) (fun j H' => Same H2 H' ∧ H' D = some (.lst ((m.take j).map fun y => V.str (tx y.name)))) ?_ (fun j H' _ z => SqL.of (z.1 _ _ h1)) ?_ ?_
      · exact ⟨Same.new hD, by rw [upd_same]; rfl⟩
      · rintro j y H' hj ⟨s1, s2⟩
        obtain ⟨rj, hrj, rfl⟩ := map_at' hj
        have hjl : j < m.length := by
          rw [← h2]
          exact (List.getElem?_eq_some_iff.mp hrj).1
        have hmj : m[j]? = some m[j] := List.getElem?_eq_getElem hjl
        have ht := s1 _ _ (h3 j rj m[j] hrj hmj)
        refine ⟨rj, _, rfl, .inl (.inl ht), rfl, _, _, rfl, _, _, rfl, rfl, rfl, ?_⟩
        unfold tYes
        refine iteT ?_
        refine ⟨_, rfl, _, s2, ?_, fun b' o e => ?_, ?_⟩
        · rw [List.length_map, List.length_take]
          exact less_line (by omega)
        · rw [upd_ne (ne_of_none e hD)]
          exact s1 _ _ e
        · rw [upd_same, take_one'' hmj, List.map_append]
          rfl
      · rintro H' ⟨s1, s2⟩
        rw [List.length_map, h2, List.take_length] at s2
        have hb' := s1 _ _ hb
        have g2' := g2.same s1
        have b2' : But a H H' := b2.trans (But.of_same s1)
        refine ⟨_, rfl, b, Ck, dk, _, _, rfl, hb', T2.cl, T2.n2, tkF_value, _, rfl, D, _, rfl, .inl (SqL.of s2), rfl, ?_, _, rfl, ?_⟩
        · rw [List.all_map]
          exact List.all_eq_true.mpr fun _ _ => rfl
        show if inV (V.str (tx u)) (m.map fun y => V.str (tx y.name)) = true then _ else _
        rw [in_used]
        have bad : ((m.any fun y => y.name == u) = true ∨ Vbndal.maxPlayers ≤ m.length) → BadT Cx a H' E 3 t.off := fun z => by
          have er : sName n m (conv (t :: r)) = .error ⟨3, t.off⟩ := by
            unfold sName
            rw [e2]
            dsimp only
            rw [if_pos z]
          exact (q.err er).but b2' g2'
        cases c2 : m.any fun y => y.name == u with
        | true =>
          refine if_yes rfl ?_
          refine if_yes rfl ?_
          refine ⟨_, rfl, b, Ck, dk, _, _, rfl, hb', T2.cl, T2.n3, tkF_offset, 3, t.off, rfl, fun d' hd' => ?_⟩
          exact (bad (.inl c2)) _ d' (But.of_same (Same.new hd')) hd' upd_same
        | false =>
          refine if_no rfl ?_
          refine ⟨_, rfl, d, _, rfl, .inl (SqL.of (s1 _ _ h1)), rfl, _, rfl, ?_⟩
          have hl : (((rs.map V.ref).length : Nat) : Int) = (m.length : Int) := by rw [List.length_map, h2]
          by_cases c3 : m.length = 4
          · refine if_yes (d_yes (by rw [hl]; omega)) ?_
            refine ⟨_, rfl, b, Ck, dk, _, _, rfl, hb', T2.cl, T2.n3, tkF_offset, 3, t.off, rfl, fun d' hd' => ?_⟩
            exact (bad (.inr (by show 4 ≤ m.length; omega))) _ d' (But.of_same (Same.new hd')) hd' upd_same
          · refine if_no (d_no (by rw [hl]; omega)) ?_
            have er : sName n m (conv (t :: r)) = .ok (u, conv r) := by
              unfold sName
              rw [e2]
              dsimp only
              rw [if_neg]
              rintro (z | z)
              · rw [c2] at z
                cases z
              · have z2 : 4 ≤ m.length := z
                omega
            refine ⟨_, rfl, b, Ck, dk, _, _, rfl, hb', T2.cl, T2.n2, tkF_value, ?_⟩
            exact q.ok er H' r g2' vt2 rfl b2' gd
  · have hs : ∀ m, t.v ≠ .word m := fun m z => hk1 (kind_word.mpr ⟨m, z⟩)
    have er : sName n m (conv (t :: r)) = .error ⟨1, t.off⟩ := by
      unfold sName
      rw [name_no vt hs]
    exact q.err er
theorem ok_read_player (F : Fun K "read_player" "read_player" s_read_player f fd) (m_TokenReader_take_keyword : Mt P w K mg base (L2.CX P w) 4 Ct "take_keyword" (sp_kw Ct Ck Cx)) (m_TokenReader_take : Mt P w K mg base (L2.CX P w) 3 Ct "take" (sp_take Ct Ck Cx)) (d_read_name : Df P w K mg base (L2.CX P w) 4 "read_name" (sp_rname K Ct Ck Cx)) (d_read_key : Df P w K mg base (L2.CX P w) 5 "read_key" (sp_rkey Ct Ck Cx)) (c_SEMICOLON : Gv mg "SEMICOLON" (.str "semicolon")) : FnOk P w K mg base (L2.CX P w) 6 f fd ["reader", "prime", "players"] (sp_rplayer K Ct Ck Cx) := by
  refine F.okX sc_read_player (fun vs H Q E h => ?_) (fun cdv A outer s H vs Q E hr h => ⟨_, (pss_cons (ps_expr (by exact (pe_m m_TokenReader_take_keyword (pass_up (takes_of rfl rfl rfl rfl)) hr (by decide) (pv 0) (pa_cons pe_str pa_nil))))
      (pss_cons (ps_set (i := 3) sc_read_player.nd rfl (Or.inl rfl) (by exact (pe_d d_read_name (pass_up (takes_of rfl rfl rfl rfl)) hr (by decide) rfl (pa_cons (pv 0) (pa_cons (pv 2) pa_nil)))))
      (pss_cons (ps_set (i := 4) sc_read_player.nd rfl (Or.inl rfl) (by exact (pe_d d_read_key (pass_up (takes_of rfl rfl rfl rfl)) hr (by decide) rfl (pa_cons (pv 0) (pa_cons (pv 1) pa_nil)))))
      (pss_cons (ps_expr (by exact (pe_m m_TokenReader_take (pass_up (takes_of rfl rfl rfl rfl)) hr (by decide) (pv 0) (pa_cons (pe_gv rfl c_SEMICOLON) pa_nil))))
      (pss_one (ps_ret (pe_tup (pa_cons (pv 3) (pa_cons (pv 4) pa_nil))))))))), ?_⟩)
  · obtain ⟨a, d, p, n, rem, m, rfl, _⟩ := h
    rfl
  obtain ⟨a, d, p, n, rem, m, rfl, tp, hrd, vt, hd, hm4, q⟩ := h
  obtain ⟨t, r, rfl, vts⟩ := vt.split
  obtain ⟨dx, fs, hin, l1, l2, l3⟩ := hrd.ins
  refine ⟨_, rfl, a, dx, fs, rfl, hin, l2, a, t, r, Vbndal.toBytes "player", congrArg (fun z => [V.ref a, V.str z]) kw_player, hrd, fun hk H1 g1 b1 => ?_, fun hk => ?_⟩
  · obtain ⟨_, vt1⟩ := vt.tail (by rw [hk]; intro z; cases z)
    have e1 := ew_ok (n := n) (r := r) hk
    have hd1 := hd.but b1 hrd
    refine ⟨_, rfl, _, rfl, a, d, n, r, m, rfl, g1, vt1, hd1, hm4, ?_⟩
    cases hS : sName n m (conv r) with
    | error b =>
      have er : sPlayer n p m (conv (t :: r)) = .error b := by
        unfold sPlayer
        rw [e1]
        dsimp only
        rw [hS]
      exact BadT.but (q.err er) b1 g1
    | ok x =>
      obtain ⟨u, l⟩ := x
      rintro H2 rem2 g2 vt2 ec2 b2 hu8
      refine ⟨_, rfl, _, rfl, a, p, n, rem2, rfl, tp, g2, vt2, ?_⟩
      rw [ec2]
      cases hK : sKey n p l with
      | error b =>
        have er : sPlayer n p m (conv (t :: r)) = .error b := by
          unfold sPlayer
          rw [e1]
          dsimp only
          rw [hS]
          dsimp only
          rw [hK]
        exact BadT.but (q.err er) (b1.trans b2) g2
      | ok x3 =>
        obtain ⟨k, l3⟩ := x3
        rintro H3 rem3 g3 vt3 ec3 b3 hkk
        obtain ⟨t3, r3, rfl, vts3⟩ := vt3.split
        obtain ⟨dx3, fs3, hin3, l1', l2', l3'⟩ := g3.ins
        refine ⟨_, rfl, a, dx3, fs3, rfl, hin3, l1', a, t3, r3, _, rfl, g3, fun hk4 H4 b g4 gt4 b4 => ?_, fun hk4 => ?_⟩
        · have hs := kind_semi.mp hk4
          obtain ⟨_, vt4⟩ := vt3.tail (by rw [hs]; intro z; cases z)
          have e4 := semi_ok (n := n) (r := r3) hs
          rw [ec3] at e4
          have er : sPlayer n p m (conv (t :: r)) = .ok (⟨u, k⟩, conv r3) := by
            unfold sPlayer
            rw [e1]
            dsimp only
            rw [hS]
            dsimp only
            rw [hK]
            dsimp only
            rw [e4]
          refine ⟨_, rfl, _, rfl, (by show 2 ≤ sizeLine; decide), fun tt htt => ?_⟩
          have bAll : But a H H4 := ((b1.trans b2).trans b3).trans b4
          obtain ⟨_, _, h9, _⟩ := g4.ins
          exact q.ok er _ r3 (g4.same (Same.new htt)) vt4 rfl (bAll.trans (But.of_same (Same.new htt))) hu8 hkk tt (bAll.none h9 htt) upd_same
        · have hs : t3.v ≠ .semi := fun z => hk4 (kind_semi.mpr z)
          have e4 := semi_no (n := n) vt3 hs
          rw [ec3] at e4
          have er : sPlayer n p m (conv (t :: r)) = .error ⟨1, t3.off⟩ := by
            unfold sPlayer
            rw [e1]
            dsimp only
            rw [hS]
            dsimp only
            rw [hK]
            dsimp only
            rw [e4]
          exact BadT.but (q.err er) ((b1.trans b2).trans b3) g3
  · have er : sPlayer n p m (conv (t :: r)) = .error ⟨1, t.off⟩ := by
      unfold sPlayer
      rw [ew_no vt hk]
    exact q.err er
end
def tbF (p : Nat) (D L : Addr) : List (Str × V) := [("prime", .int p), ("deck", .ref D), ("players", .ref L)]
theorem tbF_prime {p : Nat} {D L : Addr} : (tbF p D L).lookup ("prime" : Str) = some (.int p) := lkh
theorem tbF_deck {p : Nat} {D L : Addr} : (tbF p D L).lookup ("deck" : Str) = some (.ref D) := lkp lkh
theorem tbF_players {p : Nat} {D L : Addr} : (tbF p D L).lookup ("players" : Str) = some (.ref L) := lkp (lkp lkh)
structure TbT (K : Fr) (Cb : Addr) : Prop where
  cl : Cls K Cb
  n1 : NoAttr K Cb "prime"
  n2 : NoAttr K Cb "deck"
  n3 : NoAttr K Cb "players"
/-- the table t at b -/
def TabAt (Cb : Addr) (H : Hp) (b : Addr) (t : Vbndal.Table) : Prop := ∃ dx D L : Addr, H b = some (.ins Cb dx (tbF t.prime D L)) ∧ H D = some (.lst (VN t.deck)) ∧ PlsAt H L t.players
theorem TabAt.same {Cb : Addr} {H H' : Hp} {b : Addr} {t : Vbndal.Table} (h : TabAt Cb H b t) (s : Same H H') : TabAt Cb H' b t := by
  obtain ⟨dx, D, L, h1, h2, h3⟩ := h
  exact ⟨dx, D, L, s _ _ h1, s _ _ h2, h3.same s⟩
/-- the table t at b, its lists nowhere in Av -/
def TabAv (Av : Addr → Prop) (Cb : Addr) (H : Hp) (b : Addr) (t : Vbndal.Table) : Prop := ∃ dx D L : Addr, H b = some (.ins Cb dx (tbF t.prime D L)) ∧ H D = some (.lst (VN t.deck)) ∧ PlsAt H L t.players ∧ ¬ Av D ∧ ¬ Av L
theorem TabAv.at {Av : Addr → Prop} {Cb : Addr} {H : Hp} {b : Addr} {t : Vbndal.Table} (h : TabAv Av Cb H b t) : TabAt Cb H b t := by
  obtain ⟨dx, D, L, h1, h2, h3, _⟩ := h
  exact ⟨dx, D, L, h1, h2, h3⟩
theorem TabAv.same {Av : Addr → Prop} {Cb : Addr} {H H' : Hp} {b : Addr} {t : Vbndal.Table} (h : TabAv Av Cb H b t) (s : Same H H') : TabAv Av Cb H' b t := by
  obtain ⟨dx, D, L, h1, h2, h3, h4⟩ := h
  exact ⟨dx, D, L, s _ _ h1, s _ _ h2, h3.same s, h4⟩
theorem TabAv.less {Av Bv : Addr → Prop} {Cb : Addr} {H : Hp} {b : Addr} {t : Vbndal.Table} (h : TabAv Av Cb H b t) (l : ∀ x, Bv x → Av x) : TabAv Bv Cb H b t := by
  obtain ⟨dx, D, L, h1, h2, h3, h4, h5⟩ := h
  exact ⟨dx, D, L, h1, h2, h3, fun z => h4 (l _ z), fun z => h5 (l _ z)⟩
def sp_tb_init (Cb : Addr) : Sp := fun vs H Q _ => ∃ (p dx : Addr) (n : Nat) (D L : Addr), vs = [.ref p, .int n, .ref D, .ref L] ∧ H p = some (.ins Cb dx []) ∧ ∀ H', H' p = some (.ins Cb dx (tbF n D L)) → But p H H' → Q .non H'
def sp_rtable (K : Fr) (Cb Cx : Addr) : Sp := fun vs H Q E => ∃ (a : Addr) (text : List Nat), vs = [.ref a] ∧ SqL K H a (VN text) ∧ text.length ≤ 1000 ∧ (match Vbndal.parseTable text with
  | .ok t => ∀ H' b, Same H H' → H b = none → TabAv (fun x => H x ≠ none) Cb H' b t → TOk t → Q (.ref b) H'
  | .error e => ∀ H' d, Same H H' → H d = none → H' d = some (.xd (itF e.code e.offset)) → E (.ref Cx) (some d) H')
section
variable {P : Program} {w : World} {K : Fr} {mg : Str → Option Value} {base : Heap} {f : Addr} {fd : FuncData} {Ct Ck Cx Cb aKW : Addr}
theorem ok_Table_init (T : TbT K Cb) (F : Fun K "__init__" "Table.__init__" s_Table___init__ f fd)  : FnOk P w K mg base CX0 1 f fd ["self", "prime", "deck", "players"] (sp_tb_init Cb) := by
  refine F.ok sc_Table___init__ (fun vs H Q E h => ?_) (fun cdv A outer s H vs Q E hr h => ⟨_, (pss_cons (ps_fld (pv 0) (pv 1) rfl)
      (pss_cons (ps_fld (pv 0) (pv 2) rfl)
      (pss_one (ps_fld (pv 0) (pv 3) rfl)))), ?_⟩)
  · obtain ⟨p, dx, n, D, L, rfl, _⟩ := h
    rfl
  obtain ⟨p, dx, n, D, L, rfl, hp, q⟩ := h
  refine ⟨_, rfl, _, rfl, p, Cb, dx, _, rfl, hp, T.cl, T.n1, (by show 0 < 1000; decide), ?_⟩
  refine ⟨_, rfl, _, rfl, p, Cb, dx, _, rfl, upd_same, T.cl, T.n2, (by show 1 < 1000; decide), ?_⟩
  rw [upd_upd]
  refine ⟨_, rfl, _, rfl, p, Cb, dx, _, rfl, upd_same, T.cl, T.n3, (by show 2 < 1000; decide), ?_⟩
  rw [upd_upd]
  have z : putF "players" (V.ref L) (putF "deck" (V.ref D) (putF "prime" (V.int n) [])) = tbF n D L := by
    have e2 : putF "deck" (V.ref D) ([("prime", .int (n : Int))] : List (Str × V)) = ([("prime", .int (n : Int)), ("deck", .ref D)] : List (Str × V)) := ptp rfl
    have e3 : putF "players" (V.ref L) ([("prime", .int (n : Int)), ("deck", .ref D)] : List (Str × V)) = tbF n D L := ptp (ptp rfl)
    rw [show putF "prime" (V.int n) [] = ([("prime", .int (n : Int))] : List (Str × V)) from rfl, e2, e3]
  exact q _ (by rw [upd_same, z]) But.upd
def tabR (p : Nat) (m : List Nat) : Except ParseError (List Vbndal.Player) → Except ParseError Vbndal.Table
  | .error b => .error b
  | .ok ps => .ok ⟨p, m, ps⟩
theorem PlsAt.snoc {H : Hp} {L t : Addr} {ps : List Vbndal.Player} {y : Vbndal.Player} {rs : List Addr} (h1 : H L = some (.lst (rs.map V.ref))) (h2 : rs.length = ps.length) (h3 : ∀ (j : Nat) (r : Addr) (y : Vbndal.Player), rs[j]? = some r → ps[j]? = some y → H r = some (.tup [.str (tx y.name), .int y.key]))
    (ht : H t = some (.tup [.str (tx y.name), .int y.key])) : PlsAt (upd H L (.lst (rs.map V.ref ++ [.ref t]))) L (ps ++ [y]) := by
  refine ⟨rs ++ [t], by rw [upd_same, List.map_append]; rfl, by rw [List.length_append, List.length_append, h2]; rfl, fun j r z e1 e2 => ?_⟩
  have key : H r = some (.tup [.str (tx z.name), .int z.key]) := by
    by_cases c : j < rs.length
    · rw [List.getElem?_append_left c] at e1
      rw [List.getElem?_append_left (by rw [← h2]; exact c)] at e2
      exact h3 j r z e1 e2
    · rw [List.getElem?_append_right (Nat.le_of_not_lt c)] at e1
      rw [List.getElem?_append_right (by rw [← h2]; exact Nat.le_of_not_lt c), ← h2] at e2
      cases q : j - rs.length with
      | zero =>
        rw [q] at e1 e2
        simp at e1 e2
        subst e1 e2
        exact ht
      | succ n =>
        rw [q] at e1
        simp at e1
  rw [upd_ne (ne_of key h1 (by intro q; cases q))]
  exact key
theorem ok_read_table (F : Fun K "read_table" "read_table" s_read_table f fd) (k_TokenReader : Mke P w K mg base CX0 1 "TokenReader" Ct (sp_tr_init Ct)) (d_read_prime : Df P w K mg base (L2.CX P w) 5 "read_prime" (sp_rprime Ct Ck Cx)) (d_read_deck : Df P w K mg base (L2.CX P w) 5 "read_deck" (sp_rdeck Ct Ck Cx)) (m_TokenReader_is_at : Mt P w K mg base CX0 1 Ct "is_at" (sp_is_at Ct Ck)) (k_Table : Mke P w K mg base CX0 1 "Table" Cb (sp_tb_init Cb)) (d_tokens_of : Df P w K mg base CX0 5 "tokens_of" (sp_toks K Ck)) (c_END : Gv mg "END" (.str "end")) (d_read_player : Df P w K mg base (L2.CX P w) 6 "read_player" (sp_rplayer K Ct Ck Cx)) : FnOk P w K mg base (L2.CX P w) 7 f fd ["text"] (sp_rtable K Cb Cx) := by
  refine F.okX sc_read_table (fun vs H Q E h => ?_) (fun cdv A outer s H vs Q E hr h => ⟨_, (pss_cons (ps_set (i := 1) sc_read_table.nd rfl (Or.inl rfl) (by exact (pe_k k_TokenReader pass0 hr (by decide) rfl (pa_cons (by exact (pe_d d_tokens_of pass0 hr (by decide) rfl (pa_cons (pv 0) pa_nil))) pa_nil))))
      (pss_cons (ps_set (i := 2) sc_read_table.nd rfl (Or.inl rfl) (by exact (pe_d d_read_prime (pass_up (takes_of rfl rfl rfl rfl)) hr (by decide) rfl (pa_cons (pv 1) pa_nil))))
      (pss_cons (ps_set (i := 3) sc_read_table.nd rfl (Or.inl rfl) (by exact (pe_d d_read_deck (pass_up (takes_of rfl rfl rfl rfl)) hr (by decide) rfl (pa_cons (pv 1) (pa_cons (pv 2) pa_nil)))))
      (pss_cons (ps_set (i := 4) sc_read_table.nd rfl (Or.inl rfl) (pe_lst pa_nil))
      (pss_cons (ps_while (passes_of rfl) (pt_not (pt_val (by exact (pe_m m_TokenReader_is_at pass0 hr (by decide) (pv 1) (pa_cons (pe_gv rfl c_END) pa_nil)))))
      (pss_one (ps_expr (pe_bm PySem.F.plainAttrs_list PySem.F.slot_list_append PySem.F.type_list_append mt_append (pv 4) (pa_cons (by exact (pe_d d_read_player (pass_up (takes_of rfl rfl rfl rfl)) hr (by decide) rfl (pa_cons (pv 1) (pa_cons (pv 2) (pa_cons (pv 4) pa_nil))))) pa_nil)))))
      (pss_one (ps_ret (by exact (pe_k k_Table pass0 hr (by decide) rfl (pa_cons (pv 2) (pa_cons (pv 3) (pa_cons (pv 4) pa_nil)))))))))))), ?_⟩)
  · obtain ⟨a, text, rfl, _⟩ := h
    rfl
  obtain ⟨a, text, rfl, sq, hlen, q⟩ := h
  rw [table_is, all_conv] at q
  have vt := vt_all text
  generalize hn : text.length = n at q vt
  -- reader = TokenReader(tokens_of(text))
  refine ⟨_, rfl, a, text, rfl, sq, hlen, fun H1 D rs nD s1 hD htk => ?_⟩
  refine fun x dx nx nd ne => ⟨x, dx, D, rfl, upd_same, fun H2 w1 w2 => ⟨rfl, ?_⟩⟩
  have s2 := made nx nd w2
  have s02 : Same H H2 := s1.trans s2
  have hrd : Rdr Ct Ck H2 x (allToks text) := ⟨dx, D, rs, _, 0, w1, s2 _ _ hD, htk.same s2, rfl⟩
  have nxH : H x = none := s1.free nx
  have fin : ∀ {H' : Hp} {E : XK} {c o : Nat}, But x H2 H' → (∀ H' d, Same H H' → H d = none → H' d = some (.xd (itF c o)) → E (.ref Cx) (some d) H') → (∃ rem, Rdr Ct Ck H' x rem) → BadT Cx x H' E c o := fun b k ⟨rem, hr⟩ H3 d b3 nd' e => by
    obtain ⟨_, _, h9, _⟩ := hr.ins
    refine k H3 d ((But.of_same s02).trans (b.trans b3) |>.same nxH) ?_ e
    exact s02.free (b.none h9 nd')
  -- prime = read_prime(reader)
  refine ⟨_, rfl, x, n, _, rfl, hrd, vt, ?_⟩
  cases hP : sPrime n (conv (allToks text)) with
  | error b =>
    unfold sTable at q
    rw [hP] at q
    exact fin (But.refl _ _) q ⟨_, hrd⟩
  | ok y =>
    obtain ⟨p, l1⟩ := y
    rintro H3 rem3 g3 vt3 ec3 b3 tp
    refine ⟨_, rfl, _, rfl, x, p, n, rem3, rfl, tp, g3, vt3, ?_⟩
    rw [ec3]
    cases hC : sDeck n p l1 with
    | error b =>
      unfold sTable at q
      rw [hP] at q
      dsimp only at q
      rw [hC] at q
      exact fin b3 q ⟨_, g3⟩
    | ok y =>
      obtain ⟨m, l2⟩ := y
      rintro H4 rem4 g4 vt4 ec4 b4 dok Dk nDk hDk
      have b04 : But x H2 H4 := b3.trans b4
      have nDk2 : H2 Dk = none := by
        obtain ⟨_, _, h9, _⟩ := g3.ins
        exact b3.none h9 nDk
      -- players = []
      refine ⟨(by show 0 ≤ sizeLine; decide), fun L hL => ?_⟩
      obtain ⟨_, _, h94, _⟩ := g4.ins
      have hL2 : H2 L = none := b04.none h94 hL
      have nLD : Dk ≠ L := ne_of_none hDk hL
      generalize hR : Vbndal.parsePlayers n p (l2.length + 1) [] l2 = R
      have eT : sTable n (conv (allToks text)) = tabR p m R := by
        unfold sTable
        rw [hP]
        dsimp only
        rw [hC]
        dsimp only
        rw [hR]
        cases R <;> rfl
      rw [eT] at q
      refine while_gr (fun k σ H' => σ = [some (.ref a), some (.ref x), some (.int p), some (.ref Dk), some (.ref L)] ∧ ∃ (rem : List Tk) (g : Nat) (ps : List Vbndal.Player), Rdr Ct Ck H' x rem ∧ VT n rem ∧ (conv rem).length = k ∧ PlsAt H' L ps ∧ But x H2 H' ∧ H' Dk = some (.lst (VN m)) ∧
          Vbndal.parsePlayers n p g ps (conv rem) = R ∧ (conv rem).length < g ∧ ps.length ≤ 4 ∧ ∀ y ∈ ps, y.name.length ≤ 8 ∧ Vbndal.isKey p y.key = true) (conv rem4).length
        ⟨rfl, rem4, l2.length + 1, [], g4.same (Same.new hL), vt4, rfl, ⟨[], upd_same, rfl, fun j r y e _ => by simp at e⟩, b04.trans (But.of_same (Same.new hL)), (by rw [upd_ne nLD]; exact hDk), (by rw [ec4]; exact hR), (by rw [ec4]; exact Nat.lt_succ_self _), Nat.zero_le _, fun y hy => by simp at hy⟩ ?_
      rintro k σ H' ⟨rfl, rem, g, ps, hrd', vt', hk', hps, b', hDk', hR', hg, hps4, hpo⟩
      obtain ⟨t', r', rfl, vts'⟩ := vt'.split
      obtain ⟨dx', fs', hin', l1', l2', l3'⟩ := hrd'.ins
      obtain ⟨g', rfl⟩ : ∃ g', g = g' + 1 := ⟨g - 1, by omega⟩
      refine ⟨_, rfl, x, dx', fs', rfl, hin', l3', x, t', r', _, rfl, hrd', _, rfl, ?_⟩
      by_cases c : kindS t'.v = ("end" : Str)
      · -- the end: Table(prime, deck, players)
        have e1 : (!decide (kindS t'.v = ("end" : Str))) = false := by rw [decide_eq_true c]; rfl
        refine if_no e1 ?_
        have hv := kind_end.mp c
        have hst := players_stop (n := n) (p := p) (f := g') (m := ps) ((conv_empty vt').mpr hv)
        rw [hR'] at hst
        rw [hst] at q
        unfold tabR at q
        dsimp only at q
        refine ⟨_, rfl, _, rfl, _, rfl, fun b db nb nd ne => ⟨b, db, p, Dk, L, rfl, upd_same, fun H5 w3 w4 => ⟨rfl, ?_⟩⟩⟩
        have s5 := made nb nd w4
        have bAll : But x H H5 := (But.of_same s02).trans (b'.trans (But.of_same s5))
        refine q H5 b (bAll.same nxH) (s02.free (b'.none hin' nb)) ⟨db, Dk, L, w3, s5 _ _ hDk', hps.same s5, fun z => z (s02.free nDk2), fun z => z (s02.free hL2)⟩ ?_
        exact ⟨tp, dok.two, dok.ten, dok.crd, dok.nd, hps4, hpo⟩
      · have e1 : (!decide (kindS t'.v = ("end" : Str))) = true := by rw [decide_eq_false c]; rfl
        refine if_yes e1 ?_
        have hne : ¬ (conv (t' :: r')).isEmpty = true := fun z => c (kind_end.mpr ((conv_empty vt').mp z))
        have hgo := players_go (n := n) (p := p) (f := g') (m := ps) hne
        rw [hR'] at hgo
        refine ⟨fun σ' H6 => ∃ m', m' < k ∧ (σ' = [some (.ref a), some (.ref x), some (.int p), some (.ref Dk), some (.ref L)] ∧ ∃ (rem : List Tk) (g : Nat) (ps : List Vbndal.Player), Rdr Ct Ck H6 x rem ∧ VT n rem ∧ (conv rem).length = m' ∧ PlsAt H6 L ps ∧ But x H2 H6 ∧ H6 Dk = some (.lst (VN m)) ∧
          Vbndal.parsePlayers n p g ps (conv rem) = R ∧ (conv rem).length < g ∧ ps.length ≤ 4 ∧ ∀ y ∈ ps, y.name.length ≤ 8 ∧ Vbndal.isKey p y.key = true), fun σ' H6 z => z, ?_⟩
        obtain ⟨rs', hl1, hl2, hl3⟩ := id hps
        refine ⟨_, rfl, .inl ⟨rfl, _, SqL.of hl1⟩, ?_⟩
        refine ⟨_, rfl, _, rfl, _, rfl, x, L, p, n, t' :: r', ps, rfl, tp, hrd', vt', hps, hps4, ?_⟩
        cases hY : sPlayer n p ps (conv (t' :: r')) with
        | error b =>
          rw [hY] at hgo
          dsimp only at hgo
          rw [hgo] at q
          unfold tabR at q
          dsimp only at q
          exact fin b' q ⟨_, hrd'⟩
        | ok z =>
          obtain ⟨y, l6⟩ := z
          rw [hY] at hgo
          dsimp only at hgo
          have hlen' := player_len hY
          rintro H6 rem6 g6 vt6 ec6 b6 hy8 hyk t nt ht
          obtain ⟨rs6, hm1, hm2, hm3⟩ := hps.but b6 hrd'
          have hD6 : H6 Dk = some (.lst (VN m)) := b6 _ _ hDk' (lst_ne hrd' hDk')
          refine ⟨L, _, _, rfl, rfl, hm1, ?_, ?_⟩
          · rw [List.length_map, hm2]
            exact less_line (by omega)
          have nLx := lst_ne g6 hm1
          refine ⟨(conv rem6).length, ?_, rfl, rem6, g', ps ++ [y], ?_, vt6, rfl, PlsAt.snoc hm1 hm2 hm3 ht, ?_, ?_, ?_, ?_, ?_, ?_⟩
          · rw [ec6, ← hk']
            exact hlen'.1
          · refine g6.upd vt6 hm1 ?_
            cases rs6 with
            | nil => exact .inl rfl
            | cons r0 r1 =>
              refine .inr ⟨_, _, rfl, fun b k z hbk => ?_⟩
              cases z
              cases ps with
              | nil => cases hm2
              | cons y0 y1 =>
                obtain ⟨dk, hk⟩ := hbk
                rw [hm3 0 r0 y0 rfl rfl] at hk
                cases hk
          · intro c o e nc
            by_cases z : c = L
            · rw [z, hL2] at e
              cases e
            · rw [upd_ne z]
              exact b6 _ _ (b' _ _ e nc) nc
          · rw [upd_ne nLD]
            exact hD6
          · rw [ec6]
            exact hgo.symm
          · rw [ec6]
            have := hlen'.1
            show l6.length < g'
            dsimp only at this
            omega
          · rw [List.length_append]
            show ps.length + 1 ≤ 4
            have := hlen'.2.2
            omega
          · intro y2 hy2
            rcases List.mem_append.mp hy2 with hy2 | hy2
            · exact hpo y2 hy2
            · rw [List.mem_singleton.mp hy2]
              exact ⟨hy8, hyk⟩
end
end Cl
set_option Elab.async false
set_option linter.unusedVariables false
set_option maxRecDepth 100000
set_option maxHeartbeats 4000000
/-! # The canonical text -/
namespace Cl
open PySem PySem.Spec PyProof.Rows L2
abbrev s_canonical_lines : Stmt := top 60
abbrev n_canonical_lines : List Str := ["table", "prime", "cards", "lines", "name", "key", "card"]
theorem sc_canonical_lines : FnScope n_canonical_lines ["table"] (defScope s_canonical_lines) := ⟨rfl, rfl, rfl, by decide +kernel, rfl, by decide +kernel, by decide +kernel⟩
abbrev s_canonical_bytes : Stmt := top 61
abbrev n_canonical_bytes : List Str := ["table", "text", "sign", "line"]
theorem sc_canonical_bytes : FnScope n_canonical_bytes ["table"] (defScope s_canonical_bytes) := ⟨rfl, rfl, rfl, by decide +kernel, rfl, by decide +kernel, by decide +kernel⟩
abbrev dec (n : Nat) : List Nat := Vbndal.decimalBytes n
theorem dec_num (n : Nat) : dec n = TL.numL n := by
  unfold dec Vbndal.decimalBytes TL.numL
  show (toString n).toList.map _ = _
  rw [show (toString n).toList = Nat.toDigits 10 n from by simp [toString, Nat.repr]]
theorem str_num (n : Nat) : PySem.Str.ofString (toString ((n : Nat) : Int)) = tx (dec n) := by
  rw [dec_num]
  exact SX.num_S n
theorem dec_small : ∀ n : Nat, n < 1000 → (dec n).length ≤ 3 := by
  have h : ∀ n : Fin 1000, (dec n.val).length ≤ 3 := by decide +kernel
  exact fun n hn => h ⟨n, hn⟩
def lnP (p : Nat) : List Nat := [112, 114, 105, 109, 101, 32] ++ (dec p ++ [59])
def lnD (d : List Nat) : List Nat := [100, 101, 99, 107, 32] ++ (TL.joinL [32] (d.map dec) ++ [59])
def lnY (y : Vbndal.Player) : List Nat := [112, 108, 97, 121, 101, 114, 32] ++ (y.name ++ ([32, 107, 101, 121, 32] ++ (dec y.key ++ [59])))
def lns (t : Vbndal.Table) : List (List Nat) := lnP t.prime :: lnD t.deck :: t.players.map lnY
theorem join_fold : ∀ (l : List (List Nat)) (a : List Nat), a ++ (l.flatMap fun y => 32 :: y) = l.foldl (fun a y => a ++ (32 :: y)) a
  | [], a => by simp
  | x :: r, a => by
    rw [List.foldl_cons, ← join_fold r, List.flatMap_cons, List.append_assoc]
theorem joinL_flat : ∀ (x : List Nat) (r : List (List Nat)), TL.joinL [32] (x :: r) = x ++ (r.flatMap fun y => 32 :: y)
  | x, [] => by simp [TL.joinL]
  | x, y :: r => by
    show x ++ ([32] ++ TL.joinL [32] (y :: r)) = _
    rw [joinL_flat y r, List.flatMap_cons]
    rfl
theorem print_lines (t : Vbndal.Table) (h : t.deck ≠ []) : Vbndal.printTable t = (lns t).flatMap fun l => l ++ [10] := by
  unfold Vbndal.printTable lns
  rw [List.flatMap_cons, List.flatMap_cons, List.flatMap_map]
  congr 1
  · have e : Vbndal.toBytes "prime" = [112, 114, 105, 109, 101] := by decide +kernel
    unfold Vbndal.printLine lnP
    rw [e]
    show ([112, 114, 105, 109, 101] ++ (32 :: Vbndal.decimalBytes t.prime)) ++ [59, 10] = _
    simp
  congr 1
  · have e : Vbndal.toBytes "deck" = [100, 101, 99, 107] := by decide +kernel
    unfold Vbndal.printLine lnD
    rw [e]
    show (t.deck.map dec).foldl (fun a y => a ++ (32 :: y)) [100, 101, 99, 107] ++ [59, 10] = _
    rw [← join_fold]
    cases hd : t.deck with
    | nil => exact absurd hd h
    | cons x r =>
      rw [List.map_cons, joinL_flat, List.flatMap_cons]
      simp
  · congr 1
    funext y
    have e : Vbndal.toBytes "player" = [112, 108, 97, 121, 101, 114] := by decide +kernel
    have e2 : Vbndal.toBytes "key" = [107, 101, 121] := by decide +kernel
    unfold Vbndal.printLine lnY
    rw [e, e2]
    show ((([112, 108, 97, 121, 101, 114] ++ (32 :: y.name)) ++ (32 :: [107, 101, 121])) ++ (32 :: Vbndal.decimalBytes y.key)) ++ [59, 10] = _
    simp
/-- a comprehension over a text's signs -/
theorem lc_signs {x : Str} {g : TG} {tt : TT} {te : TE} {vs : List Nat} {σ : L2.St} {H1 : Hp} {D : Addr} {Qd : Hp → Prop} (Pv : Nat → Hp → Prop) (h0 : Pv 0 (upd H1 D (.lst [])))
    (hs : ∀ i c H, x.cps[i]? = some c → Pv i H → g (.str ⟨#[c]⟩) (wipe σ vs) H fun σ2 H2 => wipe σ2 vs = wipe σ vs ∧ tt σ2 H2 fun b H3 =>
      if b = true then te σ2 H3 fun y H4 => ∃ acc, H4 D = some (.lst acc) ∧ acc.length < sizeLine ∧ Pv (i + 1) (upd H4 D (.lst (acc ++ [y]))) else Pv (i + 1) H3) (hd : ∀ H, Pv x.cps.size H → Qd H) :
    ∃ W : Nat → Nat → Hp → Prop, (∃ m, W 0 m (upd H1 D (.lst []))) ∧ ∀ i m H, W i m H →
      ((Its x).stop i H ∧ Qd H) ∨ ((Its x).go i H ∧ ∃ Nx : Hp → Prop, (∀ H', Nx H' → ∃ m', m' < m ∧ W (i + 1) m' H') ∧ ∀ v H', (Its x).yld i H v H' → g v (wipe σ vs) H' fun σ2 H2 => wipe σ2 vs = wipe σ vs ∧ tt σ2 H2 fun b H3 =>
        if b = true then te σ2 H3 fun y H4 => ∃ acc, H4 D = some (.lst acc) ∧ acc.length < sizeLine ∧ Nx (upd H4 D (.lst (acc ++ [y]))) else Nx H3) := by
  refine ⟨fun i m H => m = x.cps.size - i ∧ i ≤ x.cps.size ∧ Pv i H, ⟨x.cps.size, by simp, Nat.zero_le _, h0⟩, ?_⟩
  rintro i m H ⟨rfl, hi, p⟩
  by_cases lt : i < x.cps.size
  · refine .inr ⟨lt, Pv (i + 1), fun H' p' => ⟨x.cps.size - (i + 1), by omega, rfl, lt, p'⟩, ?_⟩
    rintro v H' ⟨rfl, c, hc, rfl⟩
    exact hs i c _ hc p
  · have e : i = x.cps.size := by omega
    subst e
    exact .inl ⟨Nat.le_refl _, hd H p⟩
def sp_lines (Cb : Addr) : Sp := fun vs H Q _ => ∃ (b : Addr) (t : Vbndal.Table), vs = [.ref b] ∧ TabAt Cb H b t ∧ TOk t ∧ ∀ H' d, Same H H' → H d = none → H' d = some (.lst ((lns t).map fun l => V.str (tx l))) → Q (.ref d) H'
def sp_bytes (Cb : Addr) : Sp := fun vs H Q _ => ∃ (b : Addr) (t : Vbndal.Table), vs = [.ref b] ∧ TabAt Cb H b t ∧ TOk t ∧ ∀ H' d, Same H H' → H d = none → H' d = some (.lst (VN (Vbndal.printTable t))) → Q (.ref d) H'
theorem tx_cat (a b : List Nat) : tx a ++ tx b = tx (a ++ b) := SX.S_cat a b
theorem tx_len (a : List Nat) : (tx a).length = a.length := SX.S_len a
theorem joinL_len : ∀ (l : List (List Nat)), (∀ x ∈ l, x.length ≤ 3) → (TL.joinL [32] l).length ≤ 4 * l.length
  | [], _ => Nat.zero_le _
  | [x], h => by
    have := h x List.mem_cons_self
    show x.length ≤ 4
    omega
  | x :: y :: r, h => by
    have h1 := h x List.mem_cons_self
    have h2 := joinL_len (y :: r) fun z hz => h z (List.mem_cons_of_mem _ hz)
    show (x ++ ([32] ++ TL.joinL [32] (y :: r))).length ≤ _
    rw [List.length_append, List.length_append]
    rw [List.length_cons] at h2 ⊢
    simp only [List.length_cons, List.length_nil] at h2 ⊢
    omega
theorem key_small {p k : Nat} (tp : TP p) (h : Vbndal.isKey p k = true) : k < 1000 := by
  unfold Vbndal.isKey Vbndal.subgroupOrder at h
  have := of_decide_eq_true h
  have := tp.hi
  omega
theorem card_small {p k : Nat} (tp : TP p) (h : Vbndal.isCard p k = true) : 2 ≤ k ∧ k < p := by
  unfold Vbndal.isCard at h
  rw [Bool.and_eq_true, decide_eq_true_iff] at h
  exact h.1
section
variable {P : Program} {w : World} {K : Fr} {mg : Str → Option Value} {base : Heap} {f : Addr} {fd : FuncData} {Cb : Addr}
theorem log_small {n : Nat} (h : n < 1000) : ((n : Int)).natAbs.log2 < 1920 := by
  rw [Int.natAbs_natCast]
  have : n.log2 ≤ n := Nat.log2_le_self n
  omega
theorem sum_three : ∀ l : List Str, (∀ x ∈ l, x.length ≤ 3) → (l.map (·.length)).sum ≤ 3 * l.length
  | [], _ => Nat.le_refl _
  | x :: r, h => by
    have h1 := h x List.mem_cons_self
    have h2 := sum_three r fun z hz => h z (List.mem_cons_of_mem _ hz)
    rw [List.map_cons, List.sum_cons, List.length_cons]
    omega
theorem txt_P (p : Nat) : ((Str.empty ++ PySem.Str.ofString "prime ") ++ PySem.Str.ofString (toString (p : Int))) ++ PySem.Str.ofString ";" = tx (lnP p) := by
  rw [str_num, show Str.empty = tx [] from rfl, show PySem.Str.ofString "prime " = tx [112, 114, 105, 109, 101, 32] by decide +kernel, show PySem.Str.ofString ";" = tx [59] by decide +kernel, tx_cat, tx_cat, tx_cat]
  unfold lnP
  simp
theorem txt_D (d : List Nat) : ((Str.empty ++ PySem.Str.ofString "deck ") ++ tx (TL.joinL [32] (d.map dec))) ++ PySem.Str.ofString ";" = tx (lnD d) := by
  rw [show Str.empty = tx [] from rfl, show PySem.Str.ofString "deck " = tx [100, 101, 99, 107, 32] by decide +kernel, show PySem.Str.ofString ";" = tx [59] by decide +kernel, tx_cat, tx_cat, tx_cat]
  unfold lnD
  simp
theorem txt_Y (y : Vbndal.Player) : ((((Str.empty ++ PySem.Str.ofString "player ") ++ tx y.name) ++ PySem.Str.ofString " key ") ++ PySem.Str.ofString (toString (y.key : Int))) ++ PySem.Str.ofString ";" = tx (lnY y) := by
  rw [str_num, show Str.empty = tx [] from rfl, show PySem.Str.ofString "player " = tx [112, 108, 97, 121, 101, 114, 32] by decide +kernel, show PySem.Str.ofString " key " = tx [32, 107, 101, 121, 32] by decide +kernel, show PySem.Str.ofString ";" = tx [59] by decide +kernel, tx_cat, tx_cat, tx_cat, tx_cat, tx_cat]
  unfold lnY
  simp
theorem len_cat (a b : Str) : (a ++ b).length = a.length + b.length := by
  have e : a ++ b = tx (a.cps.toList ++ b.cps.toList) := by
    rw [← tx_cat]
  rw [e, tx_len, List.length_append, Array.length_toList, Array.length_toList]
  rfl
theorem len_num (n : Nat) (h : n < 1000) : (PySem.Str.ofString (toString (n : Int))).length ≤ 3 := by
  rw [str_num, tx_len]
  exact dec_small n h
theorem ok_canonical_lines (T : TbT K Cb) (F : Fun K "canonical_lines" "canonical_lines" s_canonical_lines f fd) (n_str : mg "str" = none) : FnOk P w K mg base CX0 1 f fd ["table"] (sp_lines Cb) := by
  refine F.ok sc_canonical_lines (fun vs H Q E h => ?_) (fun cdv A outer s H vs Q E hr h => ⟨_, (pss_cons (ps_set (i := 1) sc_canonical_lines.nd rfl (Or.inl rfl) (pe_fld (pv 0) rfl))
      (pss_cons (ps_set (i := 2) sc_canonical_lines.nd rfl (Or.inl rfl) (pe_join pe_str (pe_lc (own := [("card", 6)]) (g := gName 6) rfl sc_canonical_lines.nd (pi_list (pe_fld (pv 0) rfl)) (blkOk_by (N := n_canonical_lines) (sc := defScope s_canonical_lines) (by decide +kernel)) (fun _ _ _ _ _ => (pg_name (i := 6) sc_canonical_lines.nd rfl (Or.inl rfl))) (fun _ _ _ _ _ => pts_nil) (fun _ _ _ _ _ => (pe_callTy call_str_int (by rfl) n_str (by decide +kernel) (pa_cons (pv 6) pa_nil))))))
      (pss_cons (ps_set (i := 3) sc_canonical_lines.nd rfl (Or.inl rfl) (pe_lst (pa_cons (pe_joined (PJ.cons pe_str (PJ.cons (pe_fmt (pv 1)) (PJ.cons pe_str PJ.nil)))) (pa_cons (pe_joined (PJ.cons pe_str (PJ.cons (pe_fmt (pv 2)) (PJ.cons pe_str PJ.nil)))) pa_nil))))
      (pss_cons (ps_for PassesOwn.never rfl (pi_list (pe_fld (pv 0) rfl)) (pg_tup rfl (pgs_cons (pg_name (i := 4) sc_canonical_lines.nd rfl (Or.inl rfl)) (pgs_cons (pg_name (i := 5) sc_canonical_lines.nd rfl (Or.inl rfl)) pgs_nil)))
      (pss_one (ps_expr (pe_bm PySem.F.plainAttrs_list PySem.F.slot_list_append PySem.F.type_list_append mt_append (pv 3) (pa_cons (pe_joined (PJ.cons pe_str (PJ.cons (pe_fmt (pv 4)) (PJ.cons pe_str (PJ.cons (pe_fmt (pv 5)) (PJ.cons pe_str PJ.nil)))))) pa_nil)))))
      (pss_one (ps_ret (pv 3))))))), ?_⟩)
  · obtain ⟨b, t, rfl, _⟩ := h
    rfl
  obtain ⟨b, t, rfl, ⟨dx, D, L, h1, h2, h3⟩, tok, q⟩ := h
  have hp := tok.tp.hi
  refine ⟨_, rfl, b, Cb, dx, _, _, rfl, h1, T.cl, T.n1, tbF_prime, ?_⟩
  -- cards = " ".join([str(card) for card in table.deck])
  refine ⟨⟨_, rfl⟩, _, rfl, b, Cb, dx, _, _, rfl, h1, T.cl, T.n2, tbF_deck, D, rfl, ⟨_, SqL.of h2⟩, fun N hN => ?_⟩
  refine lc_list (K := K) (a := D) (xs := VN t.deck) (fun j H' => Same H H' ∧ H' N = some (.lst (((t.deck.take j).map fun c => tx (dec c)).map V.str))) ⟨Same.new hN, by rw [upd_same]; rfl⟩ (fun j H' _ z => SqL.of (z.1 _ _ h2)) ?_ ?_
  · rintro j y H' hj ⟨s1, s2⟩
    obtain ⟨c, hc, rfl⟩ := map_at' hj
    have hcs := card_small tok.tp (tok.crd c (List.mem_of_getElem? hc))
    refine ⟨rfl, ?_⟩
    unfold tYes
    refine iteT ?_
    refine ⟨_, rfl, _, rfl, log_small (by omega), ?_⟩
    rw [str_num]
    refine ⟨_, s2, ?_, fun b' o e => ?_, ?_⟩
    · rw [List.length_map, List.length_map, List.length_take]
      have := tok.ten
      exact less_line (by omega)
    · rw [upd_ne (ne_of_none e hN)]
      exact s1 _ _ e
    · rw [upd_same, take_one'' hc, List.map_append, List.map_append]
      rfl
  rintro H1 ⟨s1, s2⟩
  rw [List.length_map, List.take_length] at s2
  have hd3 : ∀ x ∈ t.deck.map dec, x.length ≤ 3 := fun x hx => by
    obtain ⟨c, hc, rfl⟩ := List.mem_map.mp hx
    have := card_small tok.tp (tok.crd c hc)
    exact dec_small c (by omega)
  refine ⟨tx [32], N, t.deck.map fun c => tx (dec c), rfl, rfl, .inl (SqL.of s2), ?_, ?_⟩
  · have z := sum_three (t.deck.map fun c => tx (dec c)) fun x hx => by
      obtain ⟨c, hc, rfl⟩ := List.mem_map.mp hx
      rw [tx_len]
      exact hd3 _ (List.mem_map.mpr ⟨c, hc, rfl⟩)
    have := tok.ten
    rw [List.length_map] at z ⊢
    show _ + t.deck.length * 1 ≤ 16777216
    omega
  have ej : Txt.join (tx [32]) (t.deck.map fun c => tx (dec c)) = tx (TL.joinL [32] (t.deck.map dec)) := by
    have := SX.join_S [32] (t.deck.map dec)
    rw [List.map_map] at this
    exact this
  rw [ej]
  have lj : (tx (TL.joinL [32] (t.deck.map dec))).length ≤ 40 := by
    rw [tx_len]
    have z := joinL_len (t.deck.map dec) hd3
    rw [List.length_map] at z
    have := tok.ten
    omega
  have c0 : Str.empty.length = 0 := rfl
  have c1 : (PySem.Str.ofString "prime ").length = 6 := by decide +kernel
  have c2 : (PySem.Str.ofString ";").length = 1 := by decide +kernel
  have c3 : (PySem.Str.ofString "deck ").length = 5 := by decide +kernel
  have c4 : (PySem.Str.ofString "player ").length = 7 := by decide +kernel
  have c5 : (PySem.Str.ofString " key ").length = 5 := by decide +kernel
  have lp := len_num t.prime (by omega)
  have nNH : H N = none := hN
  -- lines = [f"prime {prime};", f"deck {cards};"]
  refine ⟨_, rfl, small_line (by rw [len_cat]; omega), _, rfl, .inr ⟨_, rfl, log_small (by omega), _, rfl, small_line (by rw [len_cat, len_cat]; omega), _, rfl, small_line (by rw [len_cat, len_cat, len_cat]; omega), ?_⟩⟩
  rw [txt_P]
  refine ⟨_, rfl, small_line (by rw [len_cat]; omega), _, rfl, .inl ⟨_, rfl, small_line (by omega), _, rfl, small_line (by rw [len_cat, len_cat]; omega), _, rfl, small_line (by rw [len_cat, len_cat, len_cat]; omega), ?_⟩⟩
  rw [txt_D]
  refine ⟨(by show 2 ≤ sizeLine; decide), fun M hM => ?_⟩
  have h1' := s1 _ _ h1
  have h2' := s1 _ _ h2
  have h3' := h3.same s1
  have nMH : H M = none := s1.free hM
  obtain ⟨rs, g1, g2, g3⟩ := h3'
  have nLM : L ≠ M := ne_of_none g1 hM
  -- for name, key in table.players
  refine ⟨_, rfl, b, Cb, dx, _, _, rfl, (by rw [upd_ne (ne_of_none h1' hM)]; exact h1'), T.cl, T.n3, tbF_players, L, rfl, ⟨rs.map V.ref, SqL.of (by rw [upd_ne nLM]; exact g1)⟩, ?_⟩
  refine for_list (K := K) (a := L) (xs := rs.map V.ref) (fun j σ H' => Same H1 H' ∧ H' M = some (.lst ((lnP t.prime :: lnD t.deck :: (t.players.take j).map lnY).map fun l => V.str (tx l))) ∧
    ∃ v1 v2 v3, σ = [some (.ref b), some (.int t.prime), some (.str (tx (TL.joinL [32] (t.deck.map dec)))), some (.ref M), v1, v2, v3]) ?_ ?_ ?_ ?_
  · exact ⟨Same.new hM, upd_same, none, none, none, rfl⟩
  · exact fun j σ H' _ z => SqL.of (z.1 _ _ g1)
  · rintro j y σ H' hj ⟨k1, k2, v1, v2, v3, rfl⟩
    obtain ⟨rj, hrj, rfl⟩ := map_at' hj
    have hjl : j < t.players.length := by
      rw [← g2]
      exact (List.getElem?_eq_some_iff.mp hrj).1
    have hmj : t.players[j]? = some t.players[j] := List.getElem?_eq_getElem hjl
    generalize hy : t.players[j] = y at hmj
    have ht := k1 _ _ (g3 j rj y hrj hmj)
    have hyo := tok.ply y (List.mem_of_getElem? hmj)
    have hk3 := len_num y.key (key_small tok.tp hyo.2)
    have hn8 : (tx y.name).length ≤ 8 := by rw [tx_len]; exact hyo.1
    refine ⟨rj, _, rfl, .inl (.inl ht), rfl, _, _, rfl, _, _, rfl, rfl, ?_⟩
    refine ⟨_, rfl, .inl ⟨rfl, _, SqL.of k2⟩, ?_⟩
    refine ⟨_, rfl, small_line (by rw [len_cat]; omega), _, rfl, .inl ⟨_, rfl, small_line (by omega), _, rfl, small_line (by rw [len_cat, len_cat]; omega), _, rfl, small_line (by rw [len_cat, len_cat, len_cat]; omega), _, rfl, .inr ⟨_, rfl, log_small (key_small tok.tp hyo.2), _, rfl,
      small_line (by rw [len_cat, len_cat, len_cat, len_cat]; omega), _, rfl, small_line (by rw [len_cat, len_cat, len_cat, len_cat, len_cat]; omega), ?_⟩⟩⟩
    rw [txt_Y]
    refine ⟨M, _, _, rfl, rfl, k2, ?_, ?_⟩
    · rw [List.length_map, List.length_cons, List.length_cons, List.length_map, List.length_take]
      have := tok.four
      exact less_line (by omega)
    · refine ⟨fun b' o e => ?_, ?_, _, _, _, rfl⟩
      · rw [upd_ne (ne_of_none e hM)]
        exact k1 _ _ e
      · rw [upd_same, take_one'' hmj, List.map_append]
        simp
  · rintro σ H' ⟨k1, k2, v1, v2, v3, rfl⟩
    rw [List.length_map, g2, List.take_length] at k2
    refine ⟨_, rfl, q H' M (s1.trans k1) nMH k2⟩
theorem lns_len {t : Vbndal.Table} (h : TOk t) : (lns t).length ≤ 6 := by
  unfold lns
  have := h.four
  rw [List.length_cons, List.length_cons, List.length_map]
  omega
theorem lns_small {t : Vbndal.Table} (h : TOk t) : ∀ l ∈ lns t, l.length ≤ 100 := fun l hl => by
  unfold lns at hl
  rcases List.mem_cons.mp hl with e | hl
  · rw [e]
    have := dec_small t.prime (by have := h.tp.hi; omega)
    unfold lnP
    simp only [List.length_append, List.length_cons, List.length_nil]
    omega
  rcases List.mem_cons.mp hl with e | hl
  · rw [e]
    have z := joinL_len (t.deck.map dec) fun x hx => by
      obtain ⟨c, hc, rfl⟩ := List.mem_map.mp hx
      have := card_small h.tp (h.crd c hc)
      have := h.tp.hi
      exact dec_small c (by omega)
    rw [List.length_map] at z
    have := h.ten
    unfold lnD
    simp only [List.length_append, List.length_cons, List.length_nil]
    omega
  · obtain ⟨y, hy, rfl⟩ := List.mem_map.mp hl
    have z := h.ply y hy
    have := dec_small y.key (key_small h.tp z.2)
    unfold lnY
    simp only [List.length_append, List.length_cons, List.length_nil]
    omega
theorem sum_small : ∀ l : List Str, (∀ x ∈ l, x.length ≤ 101) → (l.map (·.length)).sum ≤ 101 * l.length
  | [], _ => Nat.le_refl _
  | x :: r, h => by
    have h1 := h x List.mem_cons_self
    have h2 := sum_small r fun z hz => h z (List.mem_cons_of_mem _ hz)
    rw [List.map_cons, List.sum_cons, List.length_cons]
    omega
theorem flat_aux : ∀ l : List (List Nat), (∀ x ∈ l, x.length ≤ 100) → (l.flatMap fun l => l ++ [10]).length ≤ 101 * l.length
  | [], _ => Nat.le_refl _
  | x :: r, h => by
    have h1 := h x List.mem_cons_self
    have h2 := flat_aux r fun z hz => h z (List.mem_cons_of_mem _ hz)
    rw [List.flatMap_cons]
    simp only [List.length_append, List.length_cons, List.length_nil]
    omega
theorem flat_small (l : List (List Nat)) (h : ∀ x ∈ l, x.length ≤ 100) (h2 : l.length ≤ 6) : (l.flatMap fun l => l ++ [10]).length ≤ 1000 := by
  have := flat_aux l h
  omega
theorem join_none : ∀ l : List (List Nat), TL.joinL [] l = l.flatten
  | [] => rfl
  | [x] => by simp [TL.joinL]
  | x :: y :: r => by
    show x ++ ([] ++ TL.joinL [] (y :: r)) = _
    rw [join_none (y :: r)]
    rfl
theorem ok_canonical_bytes (F : Fun K "canonical_bytes" "canonical_bytes" s_canonical_bytes f fd) (n_ord : mg "ord" = none) (d_canonical_lines : Df P w K mg base CX0 1 "canonical_lines" (sp_lines Cb)) : FnOk P w K mg base CX0 2 f fd ["table"] (sp_bytes Cb) := by
  refine F.ok sc_canonical_bytes (fun vs H Q E h => ?_) (fun cdv A outer s H vs Q E hr h => ⟨_, (pss_cons (ps_set (i := 1) sc_canonical_bytes.nd rfl (Or.inl rfl) (pe_join pe_str (pe_lc (own := [("line", 3)]) (g := gName 3) rfl sc_canonical_bytes.nd (pi_list (by exact (pe_d d_canonical_lines pass0 hr (by decide) rfl (pa_cons (pv 0) pa_nil)))) (blkOk_by (N := n_canonical_bytes) (sc := defScope s_canonical_bytes) (by decide +kernel)) (fun _ _ _ _ _ => (pg_name (i := 3) sc_canonical_bytes.nd rfl (Or.inl rfl))) (fun _ _ _ _ _ => pts_nil) (fun _ _ _ _ _ => (pe_op op_add_str (pv 3) pe_str)))))
      (pss_one (ps_ret (pe_lc (own := [("sign", 2)]) (g := gName 2) rfl sc_canonical_bytes.nd (pi_str (pv 1)) (blkOk_by (N := n_canonical_bytes) (sc := defScope s_canonical_bytes) (by decide +kernel)) (fun _ _ _ _ _ => (pg_name (i := 2) sc_canonical_bytes.nd rfl (Or.inl rfl))) (fun _ _ _ _ _ => pts_nil) (fun _ _ _ _ _ => (pe_callB call_ord (by rfl) n_ord (by decide +kernel) (pa_cons (pv 2) pa_nil))))))), ?_⟩)
  · obtain ⟨b, t, rfl, _⟩ := h
    rfl
  obtain ⟨b, t, rfl, hb, tok, q⟩ := h
  refine ⟨⟨_, rfl⟩, _, rfl, b, t, rfl, hb, tok, fun H1 d s1 nd hd => ?_⟩
  refine ⟨d, rfl, ⟨_, SqL.of hd⟩, fun N hN => ?_⟩
  refine lc_list (K := K) (a := d) (xs := (lns t).map fun l => V.str (tx l)) (fun j H' => Same H1 H' ∧ H' N = some (.lst ((((lns t).take j).map fun l => tx (l ++ [10])).map V.str))) ⟨Same.new hN, by rw [upd_same]; rfl⟩ (fun j H' _ z => SqL.of (z.1 _ _ hd)) ?_ ?_
  · rintro j y H' hj ⟨k1, k2⟩
    obtain ⟨l, hl, rfl⟩ := map_at' hj
    have hll := lns_small tok l (List.mem_of_getElem? hl)
    refine ⟨rfl, ?_⟩
    unfold tYes
    refine iteT ?_
    have c1 : (PySem.Str.ofString "\n").length = 1 := by decide +kernel
    refine ⟨_, rfl, _, _, rfl, rfl, (by rw [tx_len, c1]; exact small_line (by omega)), ?_⟩
    rw [show PySem.Str.ofString "\n" = tx [10] by decide +kernel, tx_cat]
    refine ⟨_, k2, ?_, fun b' o e => ?_, ?_⟩
    · rw [List.length_map, List.length_map, List.length_take]
      have := lns_len tok
      exact less_line (by omega)
    · rw [upd_ne (ne_of_none e hN)]
      exact k1 _ _ e
    · rw [upd_same, take_one'' hl, List.map_append, List.map_append]
      rfl
  rintro H2 ⟨k1, k2⟩
  rw [List.length_map, List.take_length] at k2
  refine ⟨tx [], N, (lns t).map fun l => tx (l ++ [10]), rfl, rfl, .inl (SqL.of k2), ?_, ?_⟩
  · have z := sum_small ((lns t).map fun l => tx (l ++ [10])) fun x hx => by
      obtain ⟨l, hl, rfl⟩ := List.mem_map.mp hx
      rw [tx_len, List.length_append]
      have := lns_small tok l hl
      show l.length + 1 ≤ 101
      omega
    have y := lns_len tok
    rw [List.length_map] at z ⊢
    show _ + (lns t).length * 0 ≤ 16777216
    omega
  have ej : Txt.join (tx []) ((lns t).map fun l => tx (l ++ [10])) = tx (Vbndal.printTable t) := by
    have z := SX.join_S [] ((lns t).map fun l => l ++ [10])
    rw [List.map_map] at z
    rw [print_lines t (by have := tok.two; intro q; rw [q] at this; simp at this), List.flatMap_def, ← join_none]
    exact z
  rw [ej]
  generalize hT : Vbndal.printTable t = T at q
  have hTl : T.length ≤ 1000 := by
    rw [← hT, print_lines t (by have := tok.two; intro q; rw [q] at this; simp at this)]
    exact flat_small (lns t) (lns_small tok) (lns_len tok)
  -- [ord(sign) for sign in text]
  refine ⟨_, rfl, _, rfl, fun M hM => ?_⟩
  refine lc_signs (x := tx T) (fun j H' => Same H2 H' ∧ H' M = some (.lst (VN (T.take j)))) ⟨Same.new hM, by rw [upd_same]; rfl⟩ ?_ ?_
  · rintro j c H' hj ⟨m1, m2⟩
    have hc : T[j]? = some c := by
      have z : (T.toArray)[j]? = some c := hj
      rw [List.getElem?_toArray] at z
      exact z
    refine ⟨rfl, ?_⟩
    unfold tYes
    refine iteT ?_
    refine ⟨_, rfl, _, rfl, rfl, _, m2, ?_, fun b' o e => ?_, ?_⟩
    · rw [List.length_map, List.length_take]
      exact less_line (by omega)
    · rw [upd_ne (ne_of_none e hM)]
      exact m1 _ _ e
    · rw [upd_same, take_one'' hc]
      show some (HO.lst (VN (T.take j) ++ [V.int (c : Int)])) = some (HO.lst (VN (T.take j ++ [c])))
      rw [show VN (T.take j ++ [c]) = VN (T.take j) ++ [V.int (c : Int)] from List.map_append]
  · rintro H' ⟨m1, m2⟩
    have e : (tx T).cps.size = T.length := by simp
    rw [e, List.take_length] at m2
    exact q H' M ((s1.trans k1).trans m1) ((s1.trans k1).free hM) m2
end
end Cl
set_option Elab.async false
/-! # How the one list is taken apart into calls -/
namespace Cl
open PyFlat
theorem rows_zero {r t : List Int} {xs : List (List Int)} (h : rows 0 r = some (xs, t)) : xs = [] ∧ t = r := by
  have h' : some (([] : List (List Int)), r) = some (xs, t) := h
  cases h'
  exact ⟨rfl, rfl⟩
theorem rows_succ {k : Nat} {r t : List Int} {xs : List (List Int)} (h : rows (k + 1) r = some (xs, t)) :
    ∃ (n : Int) (r1 : List Int) (ys : List (List Int)), r = n :: r1 ∧ 0 ≤ n ∧ n.toNat ≤ r1.length ∧ rows k (r1.drop n.toNat) = some (ys, t) ∧ xs = r1.take n.toNat :: ys := by
  cases r with
  | nil => cases h
  | cons n r1 =>
    by_cases c : 0 ≤ n ∧ n.toNat ≤ r1.length
    · have e : row (n :: r1) = some (r1.take n.toNat, r1.drop n.toNat) := if_pos c
      unfold rows at h
      rw [e] at h
      dsimp only at h
      cases q : rows k (r1.drop n.toNat) with
      | none => rw [q] at h; cases h
      | some z =>
        obtain ⟨ys, t1⟩ := z
        rw [q] at h
        cases h
        exact ⟨n, r1, ys, rfl, c.1, c.2, q, rfl⟩
    · have e : row (n :: r1) = none := if_neg c
      unfold rows at h
      rw [e] at h
      cases h
theorem calls_nil {shape : Int → Option (Nat × Nat)} {f : Nat} {cs : List (List (List Int))} (h : calls shape f [] = some cs) : cs = [] := by
  cases f <;> · unfold calls at h; cases h; rfl
theorem calls_cons {shape : Int → Option (Nat × Nat)} {f : Nat} {p : Int} {r : List Int} {cs : List (List (List Int))} (h : calls shape f (p :: r) = some cs) :
    ∃ (g n k : Nat) (xs : List (List Int)) (t : List Int) (ds : List (List (List Int))), shape p = some (n, k) ∧ n ≤ r.length ∧ rows k (r.drop n) = some (xs, t) ∧ calls shape g t = some ds ∧ cs = ((p :: r.take n) :: xs) :: ds := by
  cases f with
  | zero => unfold calls at h; cases h
  | succ g =>
    unfold calls call at h
    dsimp only at h
    cases e : shape p with
    | none => rw [e] at h; cases h
    | some nk =>
      obtain ⟨n, k⟩ := nk
      rw [e] at h
      dsimp only at h
      by_cases c : r.length < n
      · rw [if_pos c] at h; cases h
      · rw [if_neg c] at h
        cases q : rows k (r.drop n) with
        | none => rw [q] at h; cases h
        | some z =>
          obtain ⟨xs, t⟩ := z
          rw [q] at h
          dsimp only at h
          cases q2 : calls shape g t with
          | none => rw [q2] at h; cases h
          | some ds =>
            rw [q2] at h
            cases h
            exact ⟨g, n, k, xs, t, ds, rfl, Nat.le_of_not_lt c, q, q2, rfl⟩
theorem whole_id (c : List (List Int)) : PyVbndal.whole c = c := by
  unfold PyVbndal.whole
  split <;> rfl
theorem whole_map (cs : List (List (List Int))) : cs.map PyVbndal.whole = cs := by
  have e : PyVbndal.whole = id := funext whole_id
  rw [e, List.map_id]
/-- what is asked of the list, taken apart -/
structure Asked (l : List Int) (cs : List (List (List Int))) : Prop where
  got : calls PyVbndal.shape l.length l = some cs
  few : cs.length ≤ 120
  one : cs ≠ []
  each : ∀ c ∈ cs, PyInside.call PyVbndal.bound c = true
  ask1 : ∀ c ∈ cs, VbndalNeutral.asked1 c = true
  ans : PyVbndal.answers l = told (played VbndalNeutral.step VbndalNeutral.start cs)
  short : (PyVbndal.answers l).length ≤ 10000000
theorem asked_of {l : List Int} (h : PyVbndal.answers_asked l = true) : ∃ cs, Asked l cs := by
  unfold PyVbndal.answers_asked at h
  cases e : calls PyVbndal.shape l.length l with
  | none => rw [e] at h; cases h
  | some cs =>
    rw [e] at h
    simp only [Bool.and_eq_true] at h
    obtain ⟨⟨⟨⟨h1, h2⟩, h3⟩, h4⟩, h5⟩ := h
    have an : PyVbndal.answers l = told (played VbndalNeutral.step VbndalNeutral.start cs) := by
      unfold PyVbndal.answers PyVbndal.calls
      rw [e]
      show told (played VbndalNeutral.step VbndalNeutral.start (cs.map PyVbndal.whole)) = _
      rw [whole_map]
    refine ⟨cs, ⟨e, of_decide_eq_true h2, ?_, ?_, ?_, an, of_decide_eq_true h5⟩⟩
    · rintro rfl
      cases h1
    · exact fun c hc => List.all_eq_true.mp h3 c hc
    · rw [whole_map] at h4
      unfold VbndalNeutral.asked at h4
      simp only [Bool.and_eq_true] at h4
      exact fun c hc => List.all_eq_true.mp h4.2.2 c hc
theorem told_cons (a : List Int) (r : List (List Int)) : told (a :: r) = ((a.length : Int) :: a) ++ told r := by
  unfold told
  rw [List.flatMap_cons]
theorem played_cons {S : Type} (step : S → List (List Int) → S × List Int) (s : S) (c : List (List Int)) (r : List (List (List Int))) : played step s (c :: r) = (step s c).2 :: played step (step s c).1 r := rfl
/-- the places of the document's operations -/
theorem shape_some {p : Int} {n k : Nat} (h : PyVbndal.shape p = some (n, k)) : 0 ≤ p ∧ p < 20 := by
  refine Decidable.byContradiction fun hn => ?_
  have hne : ∀ q : Int, 0 ≤ q → q < 20 → ¬ p = q := fun q h1 h2 e => hn (by omega)
  unfold PyVbndal.shape at h
  rw [if_neg (hne 0 (by decide) (by decide)), if_neg (hne 1 (by decide) (by decide)), if_neg (hne 2 (by decide) (by decide)), if_neg (hne 3 (by decide) (by decide)), if_neg (hne 4 (by decide) (by decide)), if_neg (hne 5 (by decide) (by decide)), if_neg (hne 6 (by decide) (by decide)), if_neg (hne 7 (by decide) (by decide)), if_neg (hne 8 (by decide) (by decide)), if_neg (hne 9 (by decide) (by decide)), if_neg (hne 10 (by decide) (by decide)), if_neg (hne 11 (by decide) (by decide)), if_neg (hne 12 (by decide) (by decide)), if_neg (hne 13 (by decide) (by decide)), if_neg (hne 14 (by decide) (by decide)), if_neg (hne 15 (by decide) (by decide)), if_neg (hne 16 (by decide) (by decide)), if_neg (hne 17 (by decide) (by decide)), if_neg (hne 18 (by decide) (by decide)), if_neg (hne 19 (by decide) (by decide))] at h
  cases h
end Cl
set_option Elab.async false
set_option maxRecDepth 100000
set_option maxHeartbeats 4000000
/-! # The reader of the one list -/
namespace Cl
open PySem PySem.Spec PyProof.Rows L2
theorem take_one' {α : Type} {l : List α} {i : Nat} {x : α} (h : l[i]? = some x) : l.take (i + 1) = l.take i ++ [x] := by
  obtain ⟨h1, h2⟩ := List.getElem?_eq_some_iff.mp h
  rw [← h2, List.take_append_getElem]
abbrev s_Call___init__ : Stmt := inClass (top 1) 0
abbrev n_Call___init__ : List Str := ["self", "scalars", "rows"]
theorem sc_Call___init__ : FnScope n_Call___init__ ["self", "scalars", "rows"] (defScope s_Call___init__) := ⟨rfl, rfl, rfl, by decide +kernel, rfl, by decide +kernel, by decide +kernel⟩
abbrev s_CallReader___init__ : Stmt := inClass (top 2) 0
abbrev n_CallReader___init__ : List Str := ["self", "calls"]
theorem sc_CallReader___init__ : FnScope n_CallReader___init__ ["self", "calls"] (defScope s_CallReader___init__) := ⟨rfl, rfl, rfl, by decide +kernel, rfl, by decide +kernel, by decide +kernel⟩
abbrev s_CallReader_at_end : Stmt := inClass (top 2) 1
abbrev n_CallReader_at_end : List Str := ["self"]
theorem sc_CallReader_at_end : FnScope n_CallReader_at_end ["self"] (defScope s_CallReader_at_end) := ⟨rfl, rfl, rfl, by decide +kernel, rfl, by decide +kernel, by decide +kernel⟩
abbrev s_CallReader_take_number : Stmt := inClass (top 2) 2
abbrev n_CallReader_take_number : List Str := ["self", "number"]
theorem sc_CallReader_take_number : FnScope n_CallReader_take_number ["self"] (defScope s_CallReader_take_number) := ⟨rfl, rfl, rfl, by decide +kernel, rfl, by decide +kernel, by decide +kernel⟩
abbrev s_CallReader_take_row : Stmt := inClass (top 2) 3
abbrev n_CallReader_take_row : List Str := ["self", "length", "start"]
theorem sc_CallReader_take_row : FnScope n_CallReader_take_row ["self"] (defScope s_CallReader_take_row) := ⟨rfl, rfl, rfl, by decide +kernel, rfl, by decide +kernel, by decide +kernel⟩
abbrev s_CallReader_take_call : Stmt := inClass (top 2) 4
abbrev n_CallReader_take_call : List Str := ["self", "scalar_count", "row_count", "scalars", "rows", "turn"]
theorem sc_CallReader_take_call : FnScope n_CallReader_take_call ["self", "scalar_count", "row_count"] (defScope s_CallReader_take_call) := ⟨rfl, rfl, rfl, by decide +kernel, rfl, by decide +kernel, by decide +kernel⟩
def crF (L : Addr) (i : Nat) : List (Str × V) := [("calls", .ref L), ("place", .int i)]
def CrAt (Cr : Addr) (H : Hp) (a L : Addr) (i : Nat) : Prop := ∃ dx, H a = some (.ins Cr dx (crF L i))
def ccF (s r : Addr) : List (Str × V) := [("scalars", .ref s), ("rows", .ref r)]
def CcAt (Cc : Addr) (H : Hp) (a s r : Addr) : Prop := ∃ dx, H a = some (.ins Cc dx (ccF s r))
theorem crF_calls {L : Addr} {i : Nat} : (crF L i).lookup ("calls" : Str) = some (.ref L) := lkh
theorem crF_place {L : Addr} {i : Nat} : (crF L i).lookup ("place" : Str) = some (.int i) := lkp lkh
theorem crF_put {L : Addr} {i : Nat} {v : V} : putF "place" v (crF L i) = ([("calls", .ref L), ("place", v)] : List (Str × V)) := ptp pth
theorem crF_tn {L : Addr} {i : Nat} : (crF L i).lookup ("take_number" : Str) = none := lkn (lkn lk0)
theorem crF_tr {L : Addr} {i : Nat} : (crF L i).lookup ("take_row" : Str) = none := lkn (lkn lk0)
theorem crF_tc {L : Addr} {i : Nat} : (crF L i).lookup ("take_call" : Str) = none := lkn (lkn lk0)
theorem crF_ae {L : Addr} {i : Nat} : (crF L i).lookup ("at_end" : Str) = none := lkn (lkn lk0)
structure CrT (K : Fr) (Cr : Addr) : Prop where
  cl : Cls K Cr
  n1 : NoAttr K Cr "calls"
  n2 : NoAttr K Cr "place"
structure CcT (K : Fr) (Cc : Addr) : Prop where
  cl : Cls K Cc
  n1 : NoAttr K Cc "scalars"
  n2 : NoAttr K Cc "rows"
theorem CrAt.but {Cr : Addr} {H H' : Hp} {a L b : Addr} {i : Nat} (h : CrAt Cr H a L i) (x : But b H H') (n : a ≠ b) : CrAt Cr H' a L i := by
  obtain ⟨dx, e⟩ := h
  exact ⟨dx, x _ _ e n⟩
theorem CrAt.same {Cr : Addr} {H H' : Hp} {a L : Addr} {i : Nat} (h : CrAt Cr H a L i) (x : Same H H') : CrAt Cr H' a L i := by
  obtain ⟨dx, e⟩ := h
  exact ⟨dx, x _ _ e⟩
theorem But.seqC {K : Fr} {Cr : Addr} {a : Addr} {H H' : Hp} {L M : Addr} {i : Nat} {xs : List V} (x : But a H H') (ha : CrAt Cr H a M i) (h : SqL K H L xs) : SqL K H' L xs := by
  obtain ⟨dx, e⟩ := ha
  exact x.seq e h
def sp_call_init (Cc : Addr) : Sp := fun vs H Q _ => ∃ p dx s r : Addr, vs = [.ref p, .ref s, .ref r] ∧ H p = some (.ins Cc dx []) ∧ ∀ H', H' p = some (.ins Cc dx (ccF s r)) → But p H H' → Q .non H'
def sp_cr_init (Cr : Addr) : Sp := fun vs H Q _ => ∃ p dx L : Addr, vs = [.ref p, .ref L] ∧ H p = some (.ins Cr dx []) ∧ ∀ H', H' p = some (.ins Cr dx (crF L 0)) → But p H H' → Q .non H'
def sp_at_end (K : Fr) (Cr : Addr) : Sp := fun vs H Q _ => ∃ (a L : Addr) (i : Nat) (l : List Int), vs = [.ref a] ∧ CrAt Cr H a L i ∧ SqL K H L (VI l) ∧ Q (.bl (decide (l.length ≤ i))) H
def sp_tnum (K : Fr) (Cr : Addr) : Sp := fun vs H Q _ => ∃ (a L : Addr) (i : Nat) (l : List Int) (n : Int), vs = [.ref a] ∧ CrAt Cr H a L i ∧ SqL K H L (VI l) ∧ l[i]? = some n ∧
  ∀ H', CrAt Cr H' a L (i + 1) → But a H H' → Q (.int n) H'
def sp_trow (K : Fr) (Cr : Addr) : Sp := fun vs H Q _ => ∃ (a L : Addr) (i n : Nat) (l : List Int), vs = [.ref a] ∧ CrAt Cr H a L i ∧ SqL K H L (VI l) ∧ l[i]? = some (n : Int) ∧ i + 1 + n ≤ l.length ∧
  ∀ H' d, CrAt Cr H' a L (i + 1 + n) → But a H H' → H d = none → H' d = some (.lst (VI ((l.drop (i + 1)).take n))) → Q (.ref d) H'
def sp_tcall (K : Fr) (Cr Cc : Addr) : Sp := fun vs H Q _ => ∃ (a L : Addr) (i n k : Nat) (l t : List Int) (xs : List (List Int)), vs = [.ref a, .int n, .int k] ∧ CrAt Cr H a L i ∧ SqL K H L (VI l) ∧ n + i ≤ l.length ∧ n ≤ 1000 ∧ k ≤ 1000 ∧
  PyFlat.rows k (l.drop (n + i)) = some (xs, t) ∧
  ∀ H' c s r rs, CrAt Cr H' a L (l.length - t.length) → But a H H' → H c = none → CcAt Cc H' c s r → H' s = some (.lst (VI ((l.drop i).take n))) → H' r = some (.lst (rs.map V.ref)) → Rws H' rs xs → (t = l.drop (l.length - t.length) ∧ t.length ≤ l.length) → Q (.ref c) H'
section
variable {P : Program} {w : World} {K : Fr} {mg : Str → Option Value} {base : Heap} {f : Addr} {fd : FuncData} {Cr Cc : Addr}
theorem ok_Call_init (T : CcT K Cc) (F : Fun K "__init__" "Call.__init__" s_Call___init__ f fd)  : FnOk P w K mg base CX0 1 f fd ["self", "scalars", "rows"] (sp_call_init Cc) := by
  refine F.ok sc_Call___init__ (fun vs H Q E h => ?_) (fun cdv A outer s H vs Q E hr h => ⟨_, (pss_cons (ps_fld (pv 0) (pv 1) rfl)
      (pss_one (ps_fld (pv 0) (pv 2) rfl))), ?_⟩)
  · obtain ⟨p, dx, s, r, rfl, _⟩ := h
    rfl
  obtain ⟨p, dx, s, r, rfl, hp, k⟩ := h
  refine ⟨_, rfl, _, rfl, p, Cc, dx, _, rfl, hp, T.cl, T.n1, (by show 0 < 1000; decide), ?_⟩
  refine ⟨_, rfl, _, rfl, p, Cc, dx, _, rfl, upd_same, T.cl, T.n2, (by show 1 < 1000; decide), ?_⟩
  rw [upd_upd]
  have e : putF "rows" (V.ref r) (putF "scalars" (V.ref s) []) = ccF s r := ptp rfl
  exact k _ (by rw [upd_same, e]) But.upd
theorem ok_CallReader_init (T : CrT K Cr) (F : Fun K "__init__" "CallReader.__init__" s_CallReader___init__ f fd)  : FnOk P w K mg base CX0 1 f fd ["self", "calls"] (sp_cr_init Cr) := by
  refine F.ok sc_CallReader___init__ (fun vs H Q E h => ?_) (fun cdv A outer s H vs Q E hr h => ⟨_, (pss_cons (ps_fld (pv 0) (pv 1) rfl)
      (pss_one (ps_fld (pv 0) pe_int rfl))), ?_⟩)
  · obtain ⟨p, dx, L, rfl, _⟩ := h
    rfl
  obtain ⟨p, dx, L, rfl, hp, k⟩ := h
  refine ⟨_, rfl, _, rfl, p, Cr, dx, _, rfl, hp, T.cl, T.n1, (by show 0 < 1000; decide), ?_⟩
  refine ⟨_, rfl, p, Cr, dx, _, rfl, upd_same, T.cl, T.n2, (by show 1 < 1000; decide), ?_⟩
  rw [upd_upd]
  have e : putF "place" (V.int 0) (putF "calls" (V.ref L) []) = crF L 0 := ptp rfl
  exact k _ (by rw [upd_same, e]) But.upd
theorem ok_at_end (T : CrT K Cr) (F : Fun K "at_end" "CallReader.at_end" s_CallReader_at_end f fd) (n_len : mg "len" = none) : FnOk P w K mg base CX0 1 f fd ["self"] (sp_at_end K Cr) := by
  refine F.ok sc_CallReader_at_end (fun vs H Q E h => ?_) (fun cdv A outer s H vs Q E hr h => ⟨_, (pss_one (ps_ret (pe_cmpR op_ge (pe_fld (pv 0) rfl) (pe_callB call_len_seq (by rfl) n_len PySem.boot_len (pa_cons (pe_fld (pv 0) rfl) pa_nil)) (nomark _)))), ?_⟩)
  · obtain ⟨a, L, i, l, rfl, _⟩ := h
    rfl
  obtain ⟨a, L, i, l, rfl, ⟨dx, h1⟩, sq, k⟩ := h
  refine ⟨_, rfl, a, Cr, dx, _, _, rfl, h1, T.cl, T.n2, crF_place, ?_⟩
  refine ⟨_, rfl, a, Cr, dx, _, _, rfl, h1, T.cl, T.n1, crF_calls, L, _, rfl, .inl sq, _, _, rfl, rfl, ?_⟩
  have e : decide ((((VI l).length : Nat) : Int) ≤ (i : Int)) = decide (l.length ≤ i) := by
    rw [List.length_map]
    exact decide_eq_decide.mpr Int.ofNat_le
  rw [← e] at k
  exact k
theorem ok_take_number (T : CrT K Cr) (F : Fun K "take_number" "CallReader.take_number" s_CallReader_take_number f fd)  : FnOk P w K mg base CX0 1 f fd ["self"] (sp_tnum K Cr) := by
  refine F.ok sc_CallReader_take_number (fun vs H Q E h => ?_) (fun cdv A outer s H vs Q E hr h => ⟨_, (pss_cons (ps_set (i := 1) sc_CallReader_take_number.nd rfl (Or.inl rfl) (pe_ix ix_list (pe_fld (pv 0) rfl) (pe_fld (pv 0) rfl) (fun _ _ => rfl)))
      (pss_cons (ps_fldaug (pv 0) pe_int in_add)
      (pss_one (ps_ret (pv 1))))), ?_⟩)
  · obtain ⟨a, L, i, l, n, rfl, _⟩ := h
    rfl
  obtain ⟨a, L, i, l, n, rfl, ⟨dx, h1⟩, sq, hn, k⟩ := h
  refine ⟨_, rfl, a, Cr, dx, _, _, rfl, h1, T.cl, T.n1, crF_calls, ?_⟩
  refine ⟨_, rfl, a, Cr, dx, _, _, rfl, h1, T.cl, T.n2, crF_place, L, _, _, .int n, rfl, rfl, sq, atI_nat (by rw [List.getElem?_map, hn]; rfl), ?_⟩
  refine ⟨_, rfl, a, Cr, dx, _, _, rfl, h1, T.cl, T.n2, crF_place, _, _, rfl, rfl, dx, _, h1, (by show 2 < 1000; decide), ?_⟩
  refine ⟨_, rfl, k _ ⟨dx, ?_⟩ But.upd⟩
  rw [upd_same, crF_put]
  rfl
theorem ok_take_row (T : CrT K Cr) (F : Fun K "take_row" "CallReader.take_row" s_CallReader_take_row f fd) (m_CallReader_take_number : Mt P w K mg base CX0 1 Cr "take_number" (sp_tnum K Cr)) : FnOk P w K mg base CX0 2 f fd ["self"] (sp_trow K Cr) := by
  refine F.ok sc_CallReader_take_row (fun vs H Q E h => ?_) (fun cdv A outer s H vs Q E hr h => ⟨_, (pss_cons (ps_set (i := 1) sc_CallReader_take_row.nd rfl (Or.inl rfl) (by exact (pe_m0' m_CallReader_take_number pass0 hr (by decide) (pv 0))))
      (pss_cons (ps_set (i := 2) sc_CallReader_take_row.nd rfl (Or.inl rfl) (pe_fld (pv 0) rfl))
      (pss_cons (ps_fldaug (pv 0) (pv 1) in_add)
      (pss_one (ps_ret (pe_slice sl_list (pe_fld (pv 0) rfl) (po_some (pv 2)) (po_some (pe_fld (pv 0) rfl)))))))), ?_⟩)
  · obtain ⟨a, L, i, n, l, rfl, _⟩ := h
    rfl
  obtain ⟨a, L, i, n, l, rfl, h1, sq, hn, hl, k⟩ := h
  obtain ⟨dx, h1'⟩ := id h1
  refine ⟨_, rfl, a, dx, _, rfl, h1', crF_tn, a, L, i, l, _, rfl, h1, sq, hn, fun H1 h2 b1 => ?_⟩
  have sq1 := b1.seqC h1 sq
  obtain ⟨dy, h2'⟩ := id h2
  refine ⟨_, rfl, a, Cr, dy, _, _, rfl, h2', T.cl, T.n2, crF_place, ?_⟩
  refine ⟨_, rfl, a, Cr, dy, _, _, rfl, h2', T.cl, T.n2, crF_place, _, rfl, _, _, rfl, rfl, dy, _, h2', (by show 2 < 1000; decide), ?_⟩
  have e3 : upd H1 a (.ins Cr dy (putF "place" (.int (((i + 1 : Nat) : Int) + (n : Int))) (crF L (i + 1)))) a = some (.ins Cr dy (crF L (i + 1 + n))) := by
    rw [upd_same, crF_put]
    have : ((i + 1 : Nat) : Int) + (n : Int) = ((i + 1 + n : Nat) : Int) := by omega
    rw [this]
    rfl
  have b2 : But a H1 (upd H1 a (.ins Cr dy (putF "place" (.int (((i + 1 : Nat) : Int) + (n : Int))) (crF L (i + 1))))) := But.upd
  have sq2 := b2.seqC h2 sq1
  refine ⟨_, rfl, a, Cr, dy, _, _, rfl, e3, T.cl, T.n1, crF_calls, ?_⟩
  refine ⟨_, rfl, _, rfl, ?_⟩
  refine ⟨_, rfl, a, Cr, dy, _, _, rfl, e3, T.cl, T.n2, crF_place, _, rfl, L, _, rfl, sq2, fun p hp => ?_⟩
  have ne : a ≠ p := ne_of_none e3 hp
  refine k _ p ⟨dy, (upd_ne ne).trans e3⟩ ((b1.trans b2).trans (But.of_same (Same.new hp))) ?_ ?_
  · cases q : H p with
    | none => rfl
    | some o =>
      have z := (b1.trans b2) p o q ne.symm
      rw [hp] at z
      cases z
  · rw [upd_same]
    refine congrArg (fun z => some (HO.lst z)) ?_
    rw [cut_mid (by omega) (by rw [List.length_map]; exact hl), ← List.map_drop, ← List.map_take, show i + 1 + n - (i + 1) = n by omega]
theorem ok_take_call (T : CrT K Cr) (F : Fun K "take_call" "CallReader.take_call" s_CallReader_take_call f fd) (m_CallReader_take_number : Mt P w K mg base CX0 1 Cr "take_number" (sp_tnum K Cr)) (m_CallReader_take_row : Mt P w K mg base CX0 2 Cr "take_row" (sp_trow K Cr)) (k_Call : Mke P w K mg base CX0 1 "Call" Cc (sp_call_init Cc)) (n_range : mg "range" = none) : FnOk P w K mg base CX0 3 f fd ["self", "scalar_count", "row_count"] (sp_tcall K Cr Cc) := by
  refine F.ok sc_CallReader_take_call (fun vs H Q E h => ?_) (fun cdv A outer s H vs Q E hr h => ⟨_, (pss_cons (ps_setLc (i := 3) (own := [("turn", 5)]) (g := gName 5) rfl sc_CallReader_take_call.nd rfl rfl (sw_true rfl rfl rfl (by decide +kernel)) (pi_range1 rfl n_range (pa_cons (pv 1) pa_nil)) (blkOk_by (N := n_CallReader_take_call) (sc := defScope s_CallReader_take_call) (by decide +kernel)) (fun _ _ _ _ _ => (pg_name (i := 5) sc_CallReader_take_call.nd rfl (Or.inl rfl))) (fun _ _ _ _ _ => pts_nil) (fun _ _ _ _ _ => (by exact (pe_m0' m_CallReader_take_number pass0 hr (by decide) (pv 0)))))
      (pss_cons (ps_setLc (i := 4) (own := [("turn", 5)]) (g := gName 5) rfl sc_CallReader_take_call.nd rfl rfl (sw_true rfl rfl rfl (by decide +kernel)) (pi_range1 rfl n_range (pa_cons (pv 2) pa_nil)) (blkOk_by (N := n_CallReader_take_call) (sc := defScope s_CallReader_take_call) (by decide +kernel)) (fun _ _ _ _ _ => (pg_name (i := 5) sc_CallReader_take_call.nd rfl (Or.inl rfl))) (fun _ _ _ _ _ => pts_nil) (fun _ _ _ _ _ => (by exact (pe_m0' m_CallReader_take_row pass0 hr (by decide) (pv 0)))))
      (pss_one (ps_ret (by exact (pe_k k_Call pass0 hr (by decide) rfl (pa_cons (pv 3) (pa_cons (pv 4) pa_nil)))))))), ?_⟩)
  · obtain ⟨a, L, i, n, k, l, t, xs, rfl, _⟩ := h
    rfl
  obtain ⟨a, L, i, n, k, l, t, xs, rfl, h1, sq, hl, hn, hk, hrows, q⟩ := h
  -- scalars = [self.take_number() for turn in range(scalar_count)]
  refine ⟨_, rfl, n, rfl, by omega, by omega, fun D hD => ?_⟩
  have hDa : H D = none := hD
  obtain ⟨dx, h1'⟩ := id h1
  have naD : a ≠ D := ne_of_none h1' hD
  refine lc_range (lo := 0) (n := (n : Int).toNat) (fun j H' => CrAt Cr H' a L (i + j) ∧ But a H H' ∧ H' D = some (.lst (VI ((l.drop i).take j)))) ?_ ?_ ?_
  · exact ⟨⟨dx, by rw [upd_ne naD]; exact h1'⟩, But.of_same (Same.new hD), by rw [upd_same]; rfl⟩
  · rintro j H' hj ⟨g1, g2, g3⟩
    have hj' : j < n := by omega
    obtain ⟨dy, g1'⟩ := id g1
    have sq' := g2.seqC h1 sq
    obtain ⟨z, hz⟩ : ∃ z, l[i + j]? = some z := ⟨_, List.getElem?_eq_getElem (by omega)⟩
    refine ⟨rfl, ?_⟩
    unfold tYes
    refine iteT ?_
    refine ⟨_, rfl, a, dy, _, rfl, g1', crF_tn, a, L, i + j, l, z, rfl, g1, sq', hz, fun H2 k1 k2 => ?_⟩
    have e3 : H2 D = some (.lst (VI ((l.drop i).take j))) := k2 D _ g3 naD.symm
    refine ⟨_, e3, ?_, ⟨?_, ?_, ?_⟩⟩
    · rw [List.length_map, List.length_take]
      exact less_line (by omega)
    · obtain ⟨dz, k1'⟩ := k1
      exact ⟨dz, by rw [upd_ne naD]; exact k1'⟩
    · intro b o e nb
      by_cases c : b = D
      · rw [c, hD] at e
        cases e
      · rw [upd_ne c]
        exact k2 b o (g2 b o e nb) nb
    · rw [upd_same]
      have hd : (l.drop i)[j]? = some z := by rw [List.getElem?_drop]; exact hz
      rw [take_one' hd]
      show some (HO.lst (VI ((l.drop i).take j) ++ [V.int z])) = some (HO.lst (VI ((l.drop i).take j ++ [z])))
      rw [show VI ((l.drop i).take j ++ [z]) = VI ((l.drop i).take j) ++ [V.int z] from List.map_append]
  rintro H1 ⟨g1, g2, g3⟩
  have en : (n : Int).toNat = n := by omega
  rw [en] at g1 g3
  have sq1 := g2.seqC h1 sq
  obtain ⟨dx1, g1'⟩ := id g1
  -- rows = [self.take_row() for turn in range(row_count)]
  refine ⟨_, rfl, k, rfl, by omega, by omega, fun D2 hD2 => ?_⟩
  have naD2 : a ≠ D2 := ne_of_none g1' hD2
  have nDD : D ≠ D2 := ne_of_none g3 hD2
  refine lc_range (lo := 0) (n := (k : Int).toNat) (fun j H' => ∃ (rs : List Addr) (ys zs : List (List Int)) (p : Nat), CrAt Cr H' a L p ∧ But a H1 H' ∧ H' D2 = some (.lst (rs.map V.ref)) ∧ Rws H' rs ys ∧ xs = ys ++ zs ∧ ys.length = j ∧
    p ≤ l.length ∧ j ≤ k ∧ PyFlat.rows (k - j) (l.drop p) = some (zs, t)) ?_ ?_ ?_
  · exact ⟨[], [], xs, i + n, ⟨dx1, by rw [upd_ne naD2]; exact g1'⟩, But.of_same (Same.new hD2), by rw [upd_same]; rfl, Rws.nil _, rfl, rfl, by omega, by omega, by rw [Nat.add_comm i n]; exact hrows⟩
  · rintro j H' hj ⟨rs, ys, zs, p, c1, c2, c3, c4, c5, c6, c7, c8, c9⟩
    have hj' : j < k := by omega
    obtain ⟨dy, c1'⟩ := id c1
    have sq' := c2.seqC g1 sq1
    have ek : k - j = (k - (j + 1)) + 1 := by omega
    rw [ek] at c9
    obtain ⟨m, r1, ws, e1, e2, e3, e4, e5⟩ := rows_succ c9
    have hm : l[p]? = some m := by
      have z : (l.drop p)[0]? = some m := by rw [e1]; rfl
      rw [List.getElem?_drop] at z
      exact z
    have hr1 : r1 = l.drop (p + 1) := by
      have z : (l.drop p).drop 1 = r1 := by rw [e1]; rfl
      rw [List.drop_drop] at z
      exact z.symm
    have hlen : r1.length = l.length - (p + 1) := by rw [hr1, List.length_drop]
    have hp : p < l.length := (List.getElem?_eq_some_iff.mp hm).1
    refine ⟨rfl, ?_⟩
    unfold tYes
    refine iteT ?_
    refine ⟨_, rfl, a, dy, _, rfl, c1', crF_tr, a, L, p, m.toNat, l, rfl, c1, sq', ?_, by omega, fun H2 d k1 k2 k3 k4 => ?_⟩
    · rw [hm]
      exact congrArg some (by omega)
    have nd2 : d ≠ D2 := fun z => by
      rw [z, c3] at k3
      cases k3
    have c3' : H2 D2 = some (.lst (rs.map V.ref)) := k2 D2 _ c3 naD2.symm
    have c4' : Rws H2 rs ys := ⟨c4.1, fun jj b x q1 q2 => k2 _ _ (c4.2 jj b x q1 q2) fun z => by
      have z2 := c4.2 jj b x q1 q2
      rw [z, c1'] at z2
      cases z2⟩
    refine ⟨_, c3', ?_, ⟨rs ++ [d], ys ++ [r1.take m.toNat], ws, p + 1 + m.toNat, ?_, ?_, ?_, ?_, ?_, ?_, by omega, by omega, ?_⟩⟩
    · rw [List.length_map, c4.1, c6]
      exact less_line (by omega)
    · obtain ⟨dz, k1'⟩ := k1
      exact ⟨dz, by rw [upd_ne naD2]; exact k1'⟩
    · intro b o e nb
      by_cases c : b = D2
      · rw [c, hD2] at e
        cases e
      · rw [upd_ne c]
        exact k2 b o (c2 b o e nb) nb
    · rw [upd_same, List.map_append]
      rfl
    · have z : Rws H2 (rs ++ [d]) (ys ++ [r1.take m.toNat]) := c4'.snoc (by rw [k4, hr1])
      refine ⟨z.1, fun jj b x q1 q2 => ?_⟩
      have z3 := z.2 jj b x q1 q2
      rw [upd_ne fun z4 => ?_]
      · exact z3
      · rw [z4, c3'] at z3
        have z5 := HO.lst.inj (Option.some.inj z3)
        cases rs with
        | nil =>
          cases jj with
          | zero => exact nd2 ((Option.some.inj q1).trans z4)
          | succ jj => simp at q1
        | cons r0 r1 =>
          cases x with
          | nil => cases z5
          | cons x0 x1 =>
            have z6 := (List.cons.inj z5).1
            cases z6
    · rw [c5, e5, List.append_assoc]
      rfl
    · rw [List.length_append, c6]
      rfl
    · rw [← e4, hr1, List.drop_drop]
  rintro H2 ⟨rs, ys, zs, p, c1, c2, c3, c4, c5, c6, c7, c8, c9⟩
  have ek : (k : Int).toNat = k := by omega
  rw [ek] at c6 c8 c9
  rw [Nat.sub_self] at c9
  obtain ⟨rfl, et⟩ := rows_zero c9
  rw [List.append_nil] at c5
  subst c5
  have g3' : H2 D = some (.lst (VI ((l.drop i).take n))) := c2 D _ g3 (naD.symm)
  -- return Call(scalars, rows)
  refine ⟨_, rfl, _, rfl, fun c dc nc nd ne => ⟨c, dc, D, D2, rfl, upd_same, fun H3 w1 w2 => ⟨rfl, ?_⟩⟩⟩
  have s3 : Same H2 H3 := made nc nd w2
  have hlt : t.length = l.length - p := by rw [et, List.length_drop]
  have ep : l.length - t.length = p := by omega
  refine q H3 c D D2 rs ?_ ?_ ?_ ⟨dc, w1⟩ (s3 _ _ g3') (s3 _ _ c3) (c4.same s3) ⟨?_, by omega⟩
  · rw [ep]
    exact c1.same s3
  · exact ((g2.trans c2)).trans (But.of_same s3)
  · cases z : H c with
    | none => rfl
    | some o =>
      by_cases ca : c = a
      · obtain ⟨dq, hq⟩ := c1
        rw [ca, hq] at nc
        cases nc
      · have z2 := (g2.trans c2) c o z ca
        rw [nc] at z2
        cases z2
  · rw [ep]
    exact et
end
end Cl
set_option Elab.async false
set_option linter.unusedVariables false
set_option maxRecDepth 100000
set_option maxHeartbeats 4000000
/-! # A list comprehension whose items may raise: an error of a def that is called for an item leaves the comprehension, then the def -/
namespace Cl
open PySem PySem.Spec PyProof.Rows L2
theorem note_eq {x : Value} {e1 e2 : Env} (h : e1.frame = e2.frame) : noteFrame x e1 = noteFrame x e2 := by
  unfold noteFrame PySem.frameOf
  rw [h]
/-- the end of a comprehension's block. An error: behind the letting go of the block's own names it is passed on, at the frame fr -/
def cEnd (M : Model) (A : Around) (E : Value → Shared → Prop) (use : Option (Value → Sem Unit)) (Q : Value → Shared → Prop) (acc : Value) (C : Addr) (fr : Option Addr) (r : Result) (s' : Shared) : Prop := match r with
  | .ok f => compPost M A E use Q acc C (.ok f) s'
  | .error x => ∃ m, s'.heap.Ns C m ∧ ∀ h', Heap.SameBut C s'.heap h' → ∀ ce : Env, ce.locals = C → ce.frame = fr → wpAny M A (passOn "comprehension.variables-let-go" x ce : Sem Value) (fun _ _ => False) E { s' with heap := h' }
theorem comp_end {M : Model} {A : Around} {E : Value → Shared → Prop} {s : Shared} {env : Env} {e : Expr} {scope : Scope} {pos : Pos} {mk first : Sem Value} {g : Comprehension} {gs : List Comprehension} {cl : List (Str × Addr)} {use : Option (Value → Sem Unit)} {Q : Value → Shared → Prop}
    (h1 : clausesOf e = g :: gs) (h2 : ∀ x, foldedSetIterable g.iter env x = pure x) (h3 : closureFor scope env = pure cl) (h4 : scope.kind = .function) (h5 : ∀ x ∈ scope.names, x.2 = .local → scope.names.lookup x.1 = some .local)
    (h : wpAny M A first (fun x t1 => wpAny M A (pyIter x) (fun it t2 => wpAny M A mk (fun acc t3 => wpAny M A (newFunctionEnv scope env.globals cl [] env.qual none .none (some env)) (fun ce t4 =>
        codeAny M A (.compStart e 0 it acc { ce with scope := relabel scope env }) (cEnd M A E use Q acc ce.locals ce.frame) t4) E t3) E t2) E t1) E s) :
    wpAny M A (comprehension e scope env pos mk false first use) Q E s := by
  unfold comprehension
  rw [h3, h1]
  refine wpAny_bind (wpAny_mono h (fun x t1 g1 => ?_) fun _ _ z => z)
  refine wpAny_bind (wpAny_standAt (wpAny_bind (wpAny_of_eq (h2 x) (wpAny_bind (wpAny_holding (wpAny_mono g1 (fun it t2 g2 => ?_) fun _ _ z => z))))))
  refine wpAny_standIf (wpAny_bind (wpAny_mono g2 (fun acc t3 g3 => ?_) fun _ _ z => z))
  refine wpAny_bind (wpAny_pure (wpAny_bind (wpAny_mono g3 (fun ce t4 g4 => ?_) fun _ _ z => z)))
  dsimp only
  have loc : ∀ x ∈ (scope.names.filter fun x => (x.2 == .local || x.2 == .cell) && x.1 != (".0" : Str)).reverse, x.2 = .local → Env.kindOf { ce with scope := relabel scope env } x.1 = some .local :=
    fun x hx hl => lookup_relabel_local (h5 x (List.mem_filter.mp (List.mem_reverse.mp hx)).1 hl)
  have loc' : ∀ x ∈ (scope.names.filter fun x => (x.2 == .local || x.2 == .cell) && x.1 != (".0" : Str)).reverse.drop 1 ++ (scope.names.filter fun x => (x.2 == .local || x.2 == .cell) && x.1 != (".0" : Str)).reverse.take 1,
      x.2 = .local → Env.kindOf { ce with scope := relabel scope env } x.1 = some .local := fun x hx hl => by
    rcases List.mem_append.mp hx with q | q
    · exact loc x (List.mem_of_mem_drop q) hl
    · exact loc x (List.mem_of_mem_take q) hl
  refine wpAny_holding (wpAny_bind (wpAny_attempt (wpAny_holding (wpAny_run (codeAny_mono g4 fun r s' hr => ?_)))))
  cases r with
  | ok fl =>
    cases use with
    | none =>
      obtain ⟨m, hn, hr⟩ := hr
      refine wpAny_bind (wpAny_holding (wpAny_comp_letGo (cenv := { ce with scope := relabel scope env }) h4 _ s' m loc hn fun h' m' _ sb => ?_))
      exact wpAny_pure (hr h' sb)
    | some u =>
      refine wpAny_bind (wpAny_rule (wpAny_bind (wpAny_holding (wpAny_mono hr (fun _ s'' hr' => ?_) fun _ _ z => z))))
      obtain ⟨m, hn, hr'⟩ := hr'
      refine wpAny_bind (wpAny_comp_letGo (cenv := { ce with scope := relabel scope env }) h4 _ s'' m loc' hn fun h' m' _ sb => ?_)
      exact wpAny_pure (hr' h' sb)
  | error x =>
    obtain ⟨m, hn, hr⟩ : ∃ m, s'.heap.Ns ce.locals m ∧ ∀ h', Heap.SameBut ce.locals s'.heap h' → ∀ e' : Env, e'.locals = ce.locals → e'.frame = ce.frame → wpAny M A (passOn "comprehension.variables-let-go" x e' : Sem Value) (fun _ _ => False) E { s' with heap := h' } := hr
    refine wpAny_bind (wpAny_holding (wpAny_comp_letGo (cenv := { ce with scope := relabel scope env }) h4 _ s' m loc hn fun h' m' _ sb => ?_))
    exact wpAny_mono (hr h' sb _ rfl rfl) (fun _ _ z => z.elim) fun _ _ z => z
/-- the heap without the object at C -/
theorem without (h : Heap) (C : Addr) : ∃ G : Heap, (∀ b, b ≠ C → G.get? b = h.get? b) ∧ G.get? C = none := by
  obtain ⟨G, g1, g2⟩ := restrict h fun b => decide (b ≠ C)
  exact ⟨G, fun b hb => g1 b (decide_eq_true hb), g2 C (by simp)⟩
theorem ff_keep {h h' base B : Heap} : ∀ {l : List Env}, h.FunFrames base l → (∀ L ∈ frs l, B.get? L = none ∧ ∀ o, h.get? L = some o → (∀ vs, o.data ≠ .fields vs) → ∃ o', h'.get? L = some o' ∧ o'.data = o.data) → h'.FunFrames B l
  | [], _, _ => trivial
  | env :: l, ⟨hk, ⟨L, o, hf, _, ho, hd⟩, hr⟩, k => by
    obtain ⟨z1, z2⟩ := k L (List.mem_filterMap.mpr ⟨env, List.mem_cons_self, hf⟩)
    obtain ⟨o', ho', hd'⟩ := z2 o ho hd
    refine ⟨hk, ⟨L, o', hf, z1, ho', fun vs => hd' ▸ hd vs⟩, ff_keep hr fun b hb => ?_⟩
    obtain ⟨e, he, q⟩ := List.mem_filterMap.mp hb
    exact k b (List.mem_filterMap.mpr ⟨e, List.mem_cons_of_mem _ he, q⟩)
section
variable {X : Cx} {E : XK}
/-- an error of a def that is called within the block, and the block's end -/
theorem comp_err {use : Option (Value → Sem Unit)} {Qf : Value → Shared → Prop} {acc : Value} {pins : List (Addr × Obj)} {σ : L2.St} {H2 : Hp} {t3 : Shared} {scope : Scope} {cl : List (Str × Addr)} {C : Addr} {fp : List Addr}
    (hs : X.stack = X.env :: X.outer) (hf : X.env.frame = some X.env.locals) (tk : Takes X (fun cls d _ H => E cls d H))
    (I : Inv X pins σ H2 t3) (hC : C = t3.heap.objs.size) (hfp : ∀ b ∈ fp, FpOk X pins H2 b ∧ b < t3.heap.objs.size)
    {pn pins' : List (Addr × Obj)} {xe : Value → Shared → Prop} {σ' : L2.St} {H : Hp} {s s' : Shared} {e : Value} (J : Inv ((X.blk t3 H2 scope (compEnvC scope cl C X.env) fp).tr pn xe) pins' σ' H s)
    (c : L2.CX X.prog X.w X.stack H s E e s') :
    wpAny (model X.prog X.w) X.A (noteFrame e (compEnvC scope cl C X.env)) (fun _ s'' => cEnd (model X.prog X.w) X.A X.xe use Qf acc C X.env.frame (.error e) s'') (fun e' s'' => cEnd (model X.prog X.w) X.A X.xe use Qf acc C X.env.frame (.error e') s'') s' := by
  obtain ⟨a, B, H', cls, d, rfl, fl, hok, ub, na, os, ag, hE⟩ := c
  have fr0 : X.A.frames = some (X.env :: X.outer) := by rw [I.ok.frames, hs]
  rw [note_eq (e1 := compEnvC scope cl C X.env) (e2 := X.env) rfl]
  rw [hs] at fl
  refine HandSPX.looks_onZ Zc.steady fr0 hf fl fun h1 held up1 => ?_
  -- the block's names stand in the ground
  obtain ⟨m, hn, _⟩ := J.loc
  have hn : s.heap.Ns C m := hn
  have hCH : H C = none := J.free
  have hCf : C ∉ frs X.stack := fun z => by
    obtain ⟨_, o, ho, _⟩ := I.stack.mem z
    have lt := Heap.lt_size ho
    rw [hC] at lt
    exact Nat.lt_irrefl _ lt
  have base : Un (frs X.stack) fp H2 H t3.heap s.heap := J.base
  obtain ⟨k1, k2, k3, k4⟩ := held
  have hB : ∀ b o, s.heap.get? b = some o → H b = none → b ∉ frs X.stack → B.get? b = some o := ub.keep
  have hnB : h1.Ns C m := by
    obtain ⟨o, es, ep, ho, r⟩ := hn
    exact ⟨o, es, ep, k1 _ _ (hB C o ho hCH hCf), r⟩
  refine ⟨m, hnB, fun h2 sb ce e1 e2 => ?_⟩
  -- without the block's names
  obtain ⟨B', b1, b2⟩ := without B C
  have bk : ∀ b o, B'.get? b = some o → B.get? b = some o ∧ b ≠ C := fun b o q => by
    by_cases z : b = C
    · rw [z, b2] at q
      cases q
    · exact ⟨(b1 b z).symm.trans q, z⟩
  have gone : ∀ b, B.get? b = none → B'.get? b = none := fun b q => by
    by_cases z : b = C
    · rw [z]
      exact b2
    · rw [b1 b z]
      exact q
  have st2 : B'.StaysIn h2 := fun b o q => by
    obtain ⟨q1, q2⟩ := bk b o q
    exact (sb.2 b q2).trans (k1 b o q1)
  have ff2 : h2.FunFrames B' X.stack := by
    rw [hs]
    refine ff_keep k3 fun L hL => ⟨gone L (k3.mem hL).1, fun o ho _ => ⟨o, (sb.2 L fun z => ?_).trans ho, rfl⟩⟩
    rw [← hs] at hL
    exact hCf (z ▸ hL)
  have tr2 : HandSPX.TracedZ h2 B' a (Zc cls d) (rawInt X.env.locals) := by
    obtain ⟨oe, vs, T, oT, ts, w1, w2, w3, w4, w5, w6, w7, w8, w9⟩ := k4
    obtain ⟨oC, _, _, hoC, dC⟩ := hnB
    have ne1 : a ≠ C := fun z => by
      rw [z, hoC] at w1
      have q := Option.some.inj w1
      subst q
      obtain ⟨dd, _⟩ := dC
      rw [dd] at w3
      cases w3
    have ne2 : T ≠ C := fun z => by
      rw [z, hoC] at w7
      have q := Option.some.inj w7
      subst q
      obtain ⟨dd, _⟩ := dC
      rw [dd] at w8
      cases w8
    exact ⟨oe, vs, T, oT, ts, (sb.2 a ne1).trans w1, w2, w3, w4, gone T w5, w6, (sb.2 T ne2).trans w7, w8, w9⟩
  -- passed on
  unfold PySem.passOn
  obtain ⟨oe, vs, T, oT, ts, w1, w2, w3, w4, w5⟩ := id tr2
  refine wpAny_bind (wpAny_field w1 w3 w4 ?_)
  rw [if_neg (show ¬ ((Value.ref T == Value.none) = true) from by simp), e2, hf]
  have fin : wpAny (model X.prog X.w) X.A (setFlight (.ref a) (some X.env.locals)) (fun _ s4 => wpAny (model X.prog X.w) X.A (throw (.ref a) : Sem Value) (fun _ _ => False) X.xe s4) X.xe { s' with heap := h2 } := by
    refine HandSPX.setFlight_anyZ st2 ff2 tr2 fun h4 m1 m2 m3 up4 => wpAny_throw (tk _ _ ?_)
    -- the state without the error
    obtain ⟨G, g1, g2⟩ := restrict h4 fun b => (B'.get? b).isSome || decide (b ∈ frs X.stack)
    have inB : ∀ b o, B'.get? b = some o → G.get? b = some o := fun b o q => by
      rw [g1 b (by simp [q])]
      exact m1 b o q
    have inF : ∀ b, b ∈ frs X.stack → G.get? b = h4.get? b := fun b hb => g1 b (by simp [hb])
    have out : ∀ b o, G.get? b = some o → h4.get? b = some o ∧ ((B'.get? b).isSome = true ∨ b ∈ frs X.stack) := fun b o q => by
      cases z : ((B'.get? b).isSome || decide (b ∈ frs X.stack)) with
      | false =>
        rw [g2 b z] at q
        cases q
      | true =>
        rw [g1 b z] at q
        exact ⟨q, by simpa [Bool.or_eq_true] using z⟩
    have ltC : ∀ {b : Addr} {o : Obj}, t3.heap.get? b = some o → b ≠ C := fun {b o} q z => by
      have lt := Heap.lt_size q
      rw [z, hC] at lt
      exact Nat.lt_irrefl _ lt
    have frame : ∀ b o, s.heap.get? b = some o → b ∈ frs X.stack → ∃ sl, h4.get? b = some { o with slots := sl } := fun b o q hb => by
      obtain ⟨sl, q1⟩ := ub.slot b o q hb
      have nf : ∀ vs, o.data ≠ .fields vs := fun vs z => by
        have hb2 := hb
        rw [hs] at hb2
        obtain ⟨_, o2, q2, q3⟩ := fl.2.2.1.mem hb2
        rw [q1] at q2
        cases q2
        exact q3 vs z
      obtain ⟨sl2, q2⟩ := up1 b _ q1 nf
      have q3 := (sb.2 b fun z => hCf (z ▸ hb)).trans q2
      obtain ⟨sl3, q4⟩ := up4 b _ q3 nf
      exact ⟨sl3, q4⟩
    have U : Un (frs X.stack) fp H2 H' t3.heap G :=
      { keep := fun b o q n hb hx => inB b o (by rw [b1 b (ltC q)]; exact hB b o (base.keep b o q n hb hx) (base.free b o q n hx) hb)
        slot := fun b o q n hb hx => by
          obtain ⟨sl, q1⟩ := base.slot b o q n hb hx
          obtain ⟨sl2, q2⟩ := frame b _ q1 hb
          exact ⟨sl2, (inF b hb).trans q2⟩
        free := fun b o q n hx => by
          obtain ⟨o', q1⟩ := base.there b o q hx
          exact ub.free b o' q1 (base.free b o q n hx)
        there := fun b o q hx => by
          obtain ⟨o', q1⟩ := base.there b o q hx
          by_cases hb : b ∈ frs X.stack
          · obtain ⟨sl, q2⟩ := frame b o' q1 hb
            exact ⟨_, (inF b hb).trans q2⟩
          · obtain ⟨o2, q2⟩ := ub.there b o' q1 hb
            exact ⟨o2, inB b o2 (by rw [b1 b (ltC q)]; exact q2)⟩
        tups := fun b xs q => ub.tups b xs (base.tups b xs q)
        frzs := fun b o u q => ub.frzs b o u (base.frzs b o u q)
        tbls := fun b ps q => by
          obtain ⟨p1, q1⟩ := base.tbls b ps q
          obtain ⟨p2, q2⟩ := ub.tbls b _ q1
          exact ⟨p1 ++ p2, by rw [q2, Array.append_assoc]⟩ }
    have hC' : H' C = none := by
      obtain ⟨oC, _, _, hoC, _⟩ := hn
      exact ub.free C oC hoC hCH
    have hok' : HOk X.prog X.w H' B' := fun b o q => by
      refine (hok b o q).stay (fun c u hc r => ?_) (fun _ r => r) fun _ _ r => r
      have : c ≠ C := fun z => by
        rcases hc with hc | hc
        · rw [← hc, z, hC'] at q
          cases q
        · rw [z, hC'] at hc
          cases hc
      rw [b1 c this]
      exact r
    have J2 := I.call (ch := fp) (g' := s'.gens) (t' := s'.toks) (d' := s'.drawn) U (hok'.kept inB) ag fun b hb => ⟨(hfp b hb).1.2.2.2.1, (hfp b hb).1.2.1, (hfp b hb).1.2.2.2.2.1, (hfp b hb).1.2.2.2.2.2⟩
    refine ⟨a, B', _, pins, σ, H', cls, d, rfl, J2, fun b o q hb => ?_, Heap.UpToSlots.of_keeps fun b o q => (out b o q).1, .inr (.inr (by rw [hs] at m2 ⊢; exact ⟨m1, gone a fl.2.1, m2, m3⟩)), na, ?_, ag, hE⟩
    · obtain ⟨q1, q2⟩ := out b o q
      rcases q2 with q2 | q2
      · obtain ⟨o', q3⟩ := Option.isSome_iff_exists.mp q2
        have q4 := m1 b o' q3
        rw [q1] at q4
        cases q4
        exact q3
      · exact absurd q2 hb
    · exact os.trans J.os
  first
    | exact wpAny_bind (wpAny_pure (wpAny_bind fin))
    | exact wpAny_bind fin
/-- what the element of such a comprehension must bear: an error E of a def that it calls is let through -/
def PEx (X : Cx) (E : XK) (scope : Scope) (elt : Expr) (te : TE) : Prop := ∀ (s : Shared) (H : Hp) (C : Addr) (cl : List (Str × Addr)) (fp : List Addr) (pn : List (Addr × Obj)) (xe : Value → Shared → Prop),
  Passes (L2.CX X.prog X.w) ((X.blk s H scope (compEnvC scope cl C X.env) fp).tr pn xe) E → PE ((X.blk s H scope (compEnvC scope cl C X.env) fp).tr pn xe) elt te
theorem lcx_core {pins : List (Addr × Obj)} {s : Shared} {σ : L2.St} {H : Hp} {Q : VK} {elt tg iter : Expr} {ifs : List Expr} {scope : Scope} {own : List (Str × Nat)} {pos pos' : Pos} {wi : TI} {g : TG} {tt : TT} {te : TE} {use : Option (Value → Sem Unit)} {Qf : Value → Shared → Prop}
    (hst : X.stack = X.env :: X.outer) (hfr : X.env.frame = some X.env.locals) (tk : Takes X (fun cls d _ H => E cls d H))
    (calm : X.calm = true) (nd : X.N.Nodup) (I : Inv X pins σ H s) (hi : PI X tg iter wi) (ok : BlkOk X.N X.env.scope scope own)
    (hg : ∀ (s : Shared) (H : Hp) (C : Addr) (cl : List (Str × Addr)) (fp : List Addr), PG (X.blk s H scope (compEnvC scope cl C X.env) fp) tg g) (ht : ∀ (s : Shared) (H : Hp) (C : Addr) (cl : List (Str × Addr)) (fp : List Addr), PTs (X.blk s H scope (compEnvC scope cl C X.env) fp) ifs tt)
    (he : PEx X E scope elt te) (hs : ∀ x, foldedSetIterable iter X.env x = pure x)
    (h : tLc wi g tt te (own.map (·.2)) σ H Q)
    (done : ∀ D C s' m H', Inv X pins σ H' s' → Q (.ref D) H' → s'.heap.Ns C m → FpOk X pins H' C → compPost (model X.prog X.w) X.A X.xe use Qf (.ref D) C (.ok .next) s') :
    wpAny (model X.prog X.w) X.A (comprehension (.ListComp elt [⟨tg, iter, ifs, 0⟩] scope pos) scope X.env pos' (newList []) false (eval iter X.env) use) Qf X.xe s := by
  have free : ∀ y ∈ scope.names, y.2 = .free → ∃ c, X.env.cells.lookup y.1 = some c := fun y hy e => (ok.free y hy e).elim (fun k => I.ok.has _ (.inl k)) fun k => I.ok.has _ (.inr k)
  refine comp_end (use := use) rfl hs (closure_ok free) ok.kind (fun y hy e => by rw [ok.uniq y hy, e]) (thn (hi.run pins s σ H _ I h) fun xv t1 hx => thn hx fun itv t2 h2 => ?_)
  obtain ⟨it, fp, tn, J, H2, e, I2, T, st2, f2, q⟩ := h2
  subst e
  refine wpAny_newObj_type (newEnv_comp ?_) (by show 0 ≤ sizeLine; decide)
  -- the new list D
  generalize hD : t2.heap.objs.size = D
  have nD : H2 D = none := I2.hok.fresh (Nat.le_of_eq hD)
  obtain ⟨W, ⟨m0, w0⟩, turn⟩ := q D nD
  generalize h3 : ({ t2 with heap := t2.heap.push { cls := .type "list", data := .seq ([] : List Value).toArray } } : Shared) = t3
  have e3 : t3.heap = t2.heap.push { cls := .type "list", data := .seq ([] : List Value).toArray } := by rw [← h3]
  have I3 : Inv X pins σ (upd H2 D (.lst [])) t3 := by
    rw [← h3]
    refine I2.laid (t' := t2.toks) (fun b o z => Heap.get?_push_of_some _ z) (Nat.le_of_eq hD) ⟨Nat.zero_le _, [], 0, .nil, ?_⟩
    rw [← hD]
    exact Heap.get?_push_size _ rfl
  have small : ∀ b ∈ fp, b < t2.heap.objs.size := fun b hb => by
    obtain ⟨o, z, _⟩ := T.obj _ _ st2 b hb
    exact Heap.lt_size z
  have f3 : ∀ b ∈ fp, FpOk X pins (upd H2 D (.lst [])) b ∧ b < t3.heap.objs.size := fun b hb => by
    have lt := small b hb
    have ne : b ≠ D := by
      rw [← hD]
      exact Nat.ne_of_lt lt
    refine ⟨⟨(upd_ne ne).trans (f2 b hb).1, (f2 b hb).2⟩, ?_⟩
    rw [e3, Heap.size_push]
    exact Nat.lt_succ_of_lt lt
  have st3 : tn 0 t3.heap := T.keep _ _ _ st2 fun b _ o z => by
    rw [e3]
    exact Heap.get?_push_of_some _ z
  have I4 := block_start I3 ok nd f3
  generalize hcl : cellsFrom (t3.heap.objs.size + 1) scope.names (cloFrom X.env.cells scope.names []) = cl at I4
  generalize hH3 : upd H2 D (.lst []) = H3 at I3 I4 w0 f3
  have pg := hg t3 H3 t3.heap.objs.size cl fp
  have pt := ht t3 H3 t3.heap.objs.size cl fp
  show codeAny _ _ (.compStart (.ListComp elt [⟨tg, iter, ifs, 0⟩] scope pos) 0 (.ref it) (.ref D) (compEnvC scope cl t3.heap.objs.size X.env))
    (cEnd (model X.prog X.w) X.A X.xe use Qf (.ref D) t3.heap.objs.size X.env.frame) { t3 with heap := pushCells (t3.heap.push { cls := .type "dict", data := .dict #[] }) scope.names }
  generalize h4 : ({ t3 with heap := pushCells (t3.heap.push { cls := .type "dict", data := .dict #[] }) scope.names } : Shared) = t4 at I4 ⊢
  have st4 : tn 0 t4.heap := T.keep _ _ _ st3 fun b _ o z => by
    rw [← h4]
    exact pushCells_keeps _ _ _ _ (Heap.get?_push_of_some _ z)
  generalize hC : t3.heap.objs.size = C at pg pt I4 f3 ⊢
  have stat : ∀ {σ' : L2.St} {H' : Hp} {s' : Shared}, Inv (X.blk t3 H3 scope (compEnvC scope cl C X.env) fp) [] σ' H' s' → (∀ b ∈ fp, H' b = none) → ∀ b ∈ fp, FpOk (X.blk t3 H3 scope (compEnvC scope cl C X.env) fp) [] H' b := fun {σ' H' s'} I' n b hb =>
    ⟨n b hb, (I'.ok.exf b hb).1, I'.ok.exfs b hb, .inl hb, fun x c z => (I'.ok.exf b hb).2 x c z, fun p hp => absurd (show p ∈ ([] : List (Addr × Obj)) ++ [] from hp) (by simp)⟩
  have loop : codeAny (model X.prog X.w) X.A (.compLoop (.ListComp elt [⟨tg, iter, ifs, 0⟩] scope pos) 0 (.ref it) (.ref D) (compEnvC scope cl C X.env)) (cEnd (model X.prog X.w) X.A X.xe use Qf (.ref D) C X.env.frame) t4 := by
    refine compLoop_any (fun n s' => ∃ i H', Inv (X.blk t3 H3 scope (compEnvC scope cl C X.env) fp) [] (wipe σ (own.map (·.2))) H' s' ∧ tn i s'.heap ∧ (∀ b ∈ fp, H' b = none) ∧ W i n H') ?_ m0 ⟨0, H3, I4, st4, fun b hb => (f3 b hb).1.1, w0⟩
    rintro n s5 ⟨i, H5, I5, st5, n5, w5⟩
    rcases turn i n H5 w5 with ⟨stop, qq⟩ | ⟨go, Nx, hNx, step⟩
    · have td := T.done (X.blk t3 H3 scope (compEnvC scope cl C X.env) fp) rfl rfl rfl calm i [] s5 _ H5 (fun _ _ => False) I5 (stat I5 n5) st5 stop
      refine thnF td fun r s6 ⟨hr, I6⟩ => ?_
      subst hr
      have I7 : Inv X pins σ H5 s6 := I3.call' (ch := fp) I6.os I6.base I6.hok I6.bare fun b hb => ⟨(f3 b hb).1.2.2.2.1, (f3 b hb).1.2.1, (f3 b hb).1.2.2.2.2.1, (f3 b hb).1.2.2.2.2.2⟩
      have nC : H5 C = none := I6.free
      obtain ⟨m, hn, _⟩ := I6.loc
      exact done D C s6 m H5 I7 qq hn (I3.fpOk (Nat.le_of_eq hC) nC)
    · have ti := T.item (X.blk t3 H3 scope (compEnvC scope cl C X.env) fp) rfl rfl rfl calm i [] s5 _ H5 (fun _ _ => False) I5 (stat I5 n5) st5 go
      refine thnF ti fun r s6 ⟨u, hr, h6⟩ => ?_
      subst hr
      refine thnF h6 fun _ s7 ⟨x, H7, I7, r7, y7, st7, n7⟩ => ?_
      have I7' := I7.pinned (stat I7 n7) (T.obj _ _ st7)
      refine thnF (pg.run _ s7 _ H7 x u _ I7' r7 (step x H7 y7)) fun _ s8 ⟨σ8, H8, I8, hw8, q8⟩ => ?_
      refine thnF (pt.run _ s8 σ8 H8 _ I8 q8) fun b s9 ⟨H9, I9, q9⟩ => ?_
      have fin : ∀ {s' : Shared} {H' : Hp}, Inv (X.blk t3 H3 scope (compEnvC scope cl C X.env) fp) ([] ++ pinsAt fp s7.heap) σ8 H' s' → Nx H' → ∃ m, m < n ∧ ∃ i H', Inv (X.blk t3 H3 scope (compEnvC scope cl C X.env) fp) [] (wipe σ (own.map (·.2))) H' s' ∧ tn i s'.heap ∧ (∀ b ∈ fp, H' b = none) ∧ W i m H' := fun {s' H'} I' nx => by
        obtain ⟨m', hm, w'⟩ := hNx H' nx
        have held : ∀ b ∈ fp, ∀ o, s7.heap.get? b = some o → s'.heap.get? b = some o ∧ H' b = none := fun b hb o z =>
          let y := I'.pin (b, o) (List.mem_append_right _ (List.mem_append_right _ (mem_pinsAt hb z)))
          ⟨y.1, y.2.1⟩
        have len : (wipe σ (own.map (·.2))).length = σ8.length := by rw [← hw8, wipe_length]
        refine ⟨m', hm, i + 1, H', (I'.unpinned (pins := [])).weak len (fun j v z => ?_), T.keep _ _ _ st7 fun b hb o z => (held b hb o z).1, fun b hb => ?_, w'⟩
        · rw [← hw8] at z
          exact (wipe_some z).1
        · obtain ⟨o, z, _⟩ := T.obj _ _ st7 b hb
          exact (held b hb o z).2
      cases b with
      | false =>
        simp only [Bool.false_eq_true, if_false] at q9 ⊢
        exact fin I9 q9
      | true =>
        simp only [if_true] at q9 ⊢
        -- the element, in a context that lets its errors through
        have It := I9.toTry (notedBy (model X.prog X.w) X.A (compEnvC scope cl C X.env) fun e' s'' => cEnd (model X.prog X.w) X.A X.xe use Qf (.ref D) C X.env.frame (.error e') s'')
        have pe := he t3 H3 C cl fp ((X.blk t3 H3 scope (compEnvC scope cl C X.env) fp).pn ++ ([] ++ pinsAt fp s7.heap)) (notedBy (model X.prog X.w) X.A (compEnvC scope cl C X.env) fun e' s'' => cEnd (model X.prog X.w) X.A X.xe use Qf (.ref D) C X.env.frame (.error e') s'') (fun pins' σ' H' s1 e1 s2 Ie ce => comp_err (use := use) (Qf := Qf) (acc := .ref D) hst hfr tk I3 hC.symm (by rw [hC]; exact f3) Ie ce)
        refine thn (pe.run _ s9 σ8 H9 _ It q9) fun z s10 ⟨yv, H10, I10, r10, acc, hD10, hz10, nx⟩ => ?_
        exact app_ok (X := X.blk t3 H3 scope (compEnvC scope cl C X.env) fp) (I10.ofTry I9.ok) hD10 hz10 r10 fun s11 I11 => fin I11 nx
  exact codeAny_compStart_list loop (T.self X.A 0 _ _ _ st4 loop)
/-- the comprehension as a value -/
theorem pe_lcx {elt tg iter : Expr} {ifs : List Expr} {scope : Scope} {own : List (Str × Nat)} {pos : Pos} {wi : TI} {g : TG} {tt : TT} {te : TE} (hst : X.stack = X.env :: X.outer) (hfr : X.env.frame = some X.env.locals) (tk : Takes X (fun cls d _ H => E cls d H))
    (calm : X.calm = true) (nd : X.N.Nodup) (hi : PI X tg iter wi) (ok : BlkOk X.N X.env.scope scope own)
    (hg : ∀ (s : Shared) (H : Hp) (C : Addr) (cl : List (Str × Addr)) (fp : List Addr), PG (X.blk s H scope (compEnvC scope cl C X.env) fp) tg g) (ht : ∀ (s : Shared) (H : Hp) (C : Addr) (cl : List (Str × Addr)) (fp : List Addr), PTs (X.blk s H scope (compEnvC scope cl C X.env) fp) ifs tt)
    (he : PEx X E scope elt te) (hs : ∀ x, foldedSetIterable iter X.env x = pure x := by intro _; rfl) :
    PE X (.ListComp elt [⟨tg, iter, ifs, 0⟩] scope pos) (tLc wi g tt te (own.map (·.2))) := by
  refine ⟨fun pins s σ H Q I h => ?_⟩
  rw [eval_ListComp]
  refine lcx_core hst hfr tk calm nd I hi ok hg ht he hs h fun D C s' m H' I' q hn fo => ⟨m, hn, fun h'' sb => ?_⟩
  obtain ⟨f0, f1, f2, f3, f4, f5⟩ := fo
  exact ⟨.ref D, H', I'.turned (t' := s'.toks) (fun b o hb z => (sb.2 b hb).trans z) f0 f1 f3 f4 f5, rfl, q⟩
/-- name = [..], the name a local, on one line -/
theorem ps_lcx {i : Nat} {y : Str} {py : Pos} {elt tg iter : Expr} {ifs : List Expr} {scope : Scope} {own : List (Str × Nat)} {pos spos : Pos} {wi : TI} {g : TG} {tt : TT} {te : TE} (hst : X.stack = X.env :: X.outer) (hfr : X.env.frame = some X.env.locals) (tk : Takes X (fun cls d _ H => E cls d H))
    (calm : X.calm = true) (nd : X.N.Nodup) (hy : X.N[i]? = some y) (hl : X.env.scope.names.lookup y = some .local) (hsw : swapsWith (.ListComp elt [⟨tg, iter, ifs, 0⟩] scope pos) (some (.Name y py)) spos.line X.env = pure true) (hi : PI X tg iter wi) (ok : BlkOk X.N X.env.scope scope own)
    (hg : ∀ (s : Shared) (H : Hp) (C : Addr) (cl : List (Str × Addr)) (fp : List Addr), PG (X.blk s H scope (compEnvC scope cl C X.env) fp) tg g) (ht : ∀ (s : Shared) (H : Hp) (C : Addr) (cl : List (Str × Addr)) (fp : List Addr), PTs (X.blk s H scope (compEnvC scope cl C X.env) fp) ifs tt)
    (he : PEx X E scope elt te) (hs : ∀ x, foldedSetIterable iter X.env x = pure x := by intro _; rfl) :
    PS X (.Assign [.Name y py] (.ListComp elt [⟨tg, iter, ifs, 0⟩] scope pos) spos) (tAsg (tLc wi g tt te (own.map (·.2))) (gName i)) := by
  refine ⟨fun pins s σ H D I h => ?_⟩
  rw [exec_Assign_Name_used _ _ _ _ hsw]
  refine wpAny_bind (wpAny_standAt (wpAny_bind ?_))
  show wpAny _ X.A (do let _ ← comprehension (.ListComp elt [⟨tg, iter, ifs, 0⟩] scope pos) scope X.env (firstIterPos [⟨tg, iter, ifs, 0⟩] pos) (newList []) false (eval iter X.env) (some (assign (.Name y py) X.env))) _ _ s
  have h' : tLc wi g tt te (own.map (·.2)) σ H (fun x H1 => gName i x σ H1 D.nx) := h
  refine wpAny_bind (thn (lcx_core (Qf := fun _ s' => SP X pins D .next s') hst hfr tk calm nd I hi ok hg ht he hs h' fun L C s' m H' I' q hn fo => ?_) fun _ s' hq => wpAny_pure (wpAny_pure hq))
  show wpAny _ _ (assign (.Name y py) X.env (.ref L)) _ _ _
  refine wpAny_assign_Name (store_ok2 (v := V.ref L) I' nd hy (.inl hl) rfl (fun s2 I2 ⟨a, sb, ha⟩ => ?_) (.inr hl))
  obtain ⟨f0, f1, f2, f3, f4, f5⟩ := fo
  have apart : C ≠ a := by
    rcases ha with z | z
    · rw [z]
      exact f1
    · exact fun e => f4 y a z e.symm
  refine ⟨m, hn.sameBut sb apart, fun h3 sb3 => ?_⟩
  exact ⟨_, H', I2.turned (t' := s2.toks) (fun b o hb e => (sb3.2 b hb).trans e) f0 f1 f3 f4 f5, q⟩
end
end Cl
set_option Elab.async false
set_option linter.unusedVariables false
set_option maxRecDepth 100000
set_option maxHeartbeats 4000000
/-! # try with several clauses, each with a name for the error or without; a def that a local name holds and that may raise -/
namespace Cl
open PySem PySem.Spec PyProof.Rows L2
abbrev SuiteT := Addr → Value → Option Addr → TS
/-- behind a suite: the name that it gave to the error is gone -/
def endsAs : Option Nat → Ends → Ends
  | none, D => D
  | some i, D => { nx := fun σ' H' => D.nx (σ'.set i none) H', rt := D.rt, bk := fun σ' H' => D.bk (σ'.set i none) H', ct := fun σ' H' => D.ct (σ'.set i none) H' }
def slotAs : Option Nat → Addr → L2.St → L2.St
  | none, _, σ => σ
  | some i, a, σ => σ.set i (some (.ref a))
/-- what the clauses wish of an error of the body, one after the other -/
def wMix (K : Fr) (Wout : WX) (D : Ends) : List (Option Nat × Value × SuiteT) → WX
  | [] => Wout
  | (o, c, ts) :: r => fun cls d σ H => ∃ b, PySem.W.exmOne K cls c = some b ∧ (b = true → ∀ a, H a = none → ts a cls d (endsAs o D) (slotAs o a σ) H) ∧ (b = false → wMix K Wout D r cls d σ H)
inductive Clauses (X : Cx) : List ExceptHandler → List (Option Nat × Value × SuiteT) → Prop
  | nil : Clauses X [] []
  | plain {x : Str} {c : Value} {ts : SuiteT} {b0 : Stmt} {suite : List Stmt} {np pos' : Pos} {hds : List ExceptHandler} {l : List (Option Nat × Value × SuiteT)} (hc : Names X x c)
      (hsu : ∀ (a : Addr) (oe : Obj) (cls : Value) (d : Option Addr) (pn : List (Addr × Obj)), Zc cls d oe → (∃ vs, oe.data = .fields vs) → PSs (X.suite a ((a, oe) :: pn)) (b0 :: suite) (ts a cls d)) (r : Clauses X hds l) :
      Clauses X (.ExceptHandler (some (.Name x np)) none (b0 :: suite) pos' :: hds) ((none, c, ts) :: l)
  | named {x n : Str} {c : Value} {i : Nat} {ts : SuiteT} {b0 : Stmt} {suite : List Stmt} {np pos' : Pos} {hds : List ExceptHandler} {l : List (Option Nat × Value × SuiteT)} (hi : X.N[i]? = some n) (hl : X.env.kindOf n = some .local) (hc : Names X x c)
      (hsu : ∀ (a : Addr) (oe : Obj) (cls : Value) (d : Option Addr) (pn : List (Addr × Obj)), Zc cls d oe → (∃ vs, oe.data = .fields vs) → PSs (X.suite a ((a, oe) :: pn)) (b0 :: suite) (ts a cls d)) (r : Clauses X hds l) :
      Clauses X (.ExceptHandler (some (.Name x np)) (some n) (b0 :: suite) pos' :: hds) ((some i, c, ts) :: l)
section
variable {X : Cx} {body : List Stmt} {hd0 : ExceptHandler} {hds : List ExceptHandler} {l : List (Option Nat × Value × SuiteT)} {pos : Pos} {tb : WX → TS} {Wout : WX}
theorem ps_try_mix (hs : X.stack = X.env :: X.outer) (hf : X.env.frame = some X.env.locals) (nd : X.N.Nodup) (tk : Takes X Wout)
    (hb : ∀ (W : WX) (pn : List (Addr × Obj)) (xe : Value → Shared → Prop), Takes (X.tr pn xe) W → PassesOwn (model X.prog X.w) X.A X.env xe → PSs (X.tr pn xe) body (tb W))
    (hh : Clauses X (hd0 :: hds) l) : PS X (.Try body (hd0 :: hds) [] [] pos) (fun D σ H => tb (wMix X.K Wout D l) D σ H) := by
  refine ⟨fun pins s σ H D I h => ?_⟩
  have ok := I.ok
  have fr0 : X.A.frames = some (X.env :: X.outer) := by rw [ok.frames, hs]
  refine wpAny_Try_except ?_
  refine wpAny_mono ((hb (wMix X.K Wout D l) (X.pn ++ pins) (fun e t1 => wpAny (model X.prog X.w) X.A (noteFrame e X.env) (fun _ t2 => wpAny (model X.prog X.w) X.A (setFlight e none) (fun _ t3 =>
    wpAny (model X.prog X.w) X.A (handleBy e X.env (hd0 :: hds)) (SP X pins D) X.xe t3) X.xe t2) X.xe t1) (fun u s' xx => ?_) PassesOwn.looking).run [] s σ H D (I.toTry _) h) (fun f s1 q => ?_) (fun e s1 q => q)
  · obtain ⟨a, B, sI, pins', σ', H', cls, d, rfl, J', nb, up, sky, na, os, ag, w⟩ := xx
    have J : Inv X pins σ' H' sI := J'.ofTry ok
    have sky2 : Sky B (X.env :: X.outer) a (Zc cls d) X.env.locals s'.heap := by
      rw [← hs]
      exact sky
    show wpAny (model X.prog X.w) X.A (noteFrame (.ref a) X.env) _ _ _
    refine Sky.land Zc.steady fr0 hf sky2 fun h3 fl3 up3 => ?_
    have J3 : Inv X pins σ' H' { s' with heap := h3 } := J.landed nb fl3.1 (up.trans up3) os ag
    obtain ⟨oe3, vs3, he3, hz3, hd3⟩ := fl3.there
    have noFrame : a ∉ frs (X.env :: X.outer) := fun hm => by
      obtain ⟨_, o', e', hnf⟩ := fl3.2.2.1.mem hm
      rw [he3] at e'
      cases e'
      exact hnf _ hd3
    have nL : a ≠ X.env.locals := fun z => noFrame (List.mem_filterMap.mpr ⟨X.env, List.mem_cons_self, by rw [hf, z]⟩)
    have nF : a ∉ X.fs := fun hm => by
      obtain ⟨e, he, q⟩ := List.mem_filterMap.mp hm
      exact noFrame (List.mem_filterMap.mpr ⟨e, List.mem_cons_of_mem _ he, q⟩)
    have S3 := J3.suite he3 hd3 na nL nF
    have look : ∀ {x : Str} {c : Value} {np : Pos} {Q : Value → Shared → Prop} {E : Value → Shared → Prop}, Names X x c → Q c { s' with heap := h3 } → wpAny (model X.prog X.w) (X.A.mark (some (.ref a))) (eval (.Name x np) X.env) Q E { s' with heap := h3 } := fun {x c np Q E} hc q => by
      obtain ⟨g1, g2, g3 | ⟨g3, g4, g5⟩⟩ := hc
      · exact ld_glob (X := X.suite a ((a, oe3) :: (X.pn ++ pins))) S3 g1 g3 q g2
      · exact ld_blt (X := X.suite a ((a, oe3) :: (X.pn ++ pins))) S3 g1 g3 g4 q g5 g2
    have LT : PySem.W.Looks (model X.prog X.w) h3 (typeOf (.ref a)) cls := fun A Q E s k q => wpAny_typeOf_ref (k _ _ he3) (by rw [hz3.1]; exact q)
    have go : ∀ {hs' : List ExceptHandler} {l' : List (Option Nat × Value × SuiteT)}, Clauses X hs' l' → wMix X.K Wout D l' cls d σ' H' → wpAny (model X.prog X.w) X.A (handleBy (.ref a) X.env hs') (SP X pins D) X.xe { s' with heap := h3 } := by
      intro hs' l' hk
      induction hk with
      | nil =>
        intro w
        refine wpAny_handleBy_nil ?_
        obtain ⟨k1, k2, k3, oe, vs, T, oT, ts', he, hz, hd, h1, hr⟩ := id fl3
        unfold PySem.passOn
        refine wpAny_bind (wpAny_field he hd h1 ?_)
        rw [if_neg (show ¬ ((Value.ref T == Value.none) = true) from by simp)]
        have fin : wpAny (model X.prog X.w) X.A (setFlight (.ref a) X.env.frame) (fun _ s4 => wpAny (model X.prog X.w) X.A (throw (.ref a) : Sem Flow) (SP X pins D) X.xe s4) X.xe { s' with heap := h3 } := by
          rw [hf]
          refine HandSPX.setFlight_upZ fl3 fun h4 held up4 => wpAny_throw (tk _ _ ?_)
          exact ⟨a, B, sI, pins, σ', H', cls, d, rfl, J, nb, (up.trans up3).trans up4, .inr (.inr (by rw [hs]; exact held)), na, os, ag, w⟩
        first
          | exact wpAny_bind (wpAny_pure (wpAny_bind fin))
          | exact wpAny_bind fin
      | @plain x c ts b0 suite np pos' hs2 l2 hc hsu r ih =>
        intro w
        obtain ⟨b, hb1, yes, no⟩ := w
        refine wpAny_handleBy_cons (codeAny_handlers_test ?_) (by intro q; cases q)
        have LM := PySem.W.exm_one (M := model X.prog X.w) (J3.kIn) LT hb1
        refine look hc (LM.here ?_)
        cases b with
        | true =>
          refine codeAny_handlers_suite ?_
          refine HandSPX.lands_againZ fl3 fun h4 fl4 up4 => ?_
          have J4 : Inv X pins σ' H' { s' with heap := h4 } := J.landed nb fl4.1 ((up.trans up3).trans up4) os ag
          obtain ⟨oe4, vs4, he4, hz4, hd4⟩ := fl4.there
          have S4 := J4.suite he4 hd4 na nL nF
          refine wpAny_mono ((hsu a oe4 cls d (X.pn ++ pins) hz4 ⟨_, hd4⟩).run [] _ _ H' _ S4 (yes rfl a na)) (fun f s6 q => ?_) (fun _ _ z => False.elim z)
          cases f with
          | next =>
            obtain ⟨σ6, H6, S6, q6⟩ := q
            exact ⟨_, _, S6.unsuite ok, q6⟩
          | brk =>
            obtain ⟨σ6, H6, S6, q6⟩ := q
            exact ⟨_, _, S6.unsuite ok, q6⟩
          | cont =>
            obtain ⟨σ6, H6, S6, q6⟩ := q
            exact ⟨_, _, S6.unsuite ok, q6⟩
          | ret u =>
            obtain ⟨v6, σ6, H6, S6, r6, q6⟩ := q
            exact ⟨_, _, _, S6.unsuite ok, r6, q6⟩
        | false =>
          show wpAny _ X.A (handleBy (.ref a) X.env hs2) _ _ _
          exact ih (no rfl)
      | @named x n c i ts b0 suite np pos' hs2 l2 hi hl hc hsu r ih =>
        intro w
        obtain ⟨b, hb1, yes, no⟩ := w
        refine wpAny_handleBy_cons (codeAny_handlers_test ?_) (by intro q; cases q)
        have LM := PySem.W.exm_one (M := model X.prog X.w) (J3.kIn) LT hb1
        refine look hc (LM.here ?_)
        cases b with
        | true =>
          refine codeAny_handlers_suite_as ?_
          refine HandSPX.lands_againZ fl3 fun h4 fl4 up4 => ?_
          have J4 : Inv X pins σ' H' { s' with heap := h4 } := J.landed nb fl4.1 ((up.trans up3).trans up4) os ag
          obtain ⟨oe4, vs4, he4, hz4, hd4⟩ := fl4.there
          have S4 := J4.suite he4 hd4 na nL nF
          refine store_ok (X := X.suite a ((a, oe4) :: (X.pn ++ pins))) (v := .ref a) S4 nd hi (.inl hl) rfl (fun s5 S5 => ?_) (.inr hl)
          refine wpAny_mono ((hsu a oe4 cls d (X.pn ++ pins) hz4 ⟨_, hd4⟩).run [] s5 _ H' _ S5 (yes rfl a na)) (fun f s6 q => ?_) (fun _ _ z => False.elim z)
          have off : ∀ {σ6 : L2.St} {H6 : Hp} {Q : Shared → Prop}, Inv (X.suite a ((a, oe4) :: (X.pn ++ pins))) [] σ6 H6 s6 → (∀ s7, Inv X pins (σ6.set i none) H6 s7 → Q s7) →
              wpAny (model X.prog X.w) X.A (do bindName X.env n .none; unbindBehindTheSuite X.env n pos') (fun _ s7 => Q s7) X.xe s6 := fun {σ6 H6 Q} S6 hq => gone_ok (S6.unsuite ok) nd hi hl hq
          cases f with
          | next =>
            obtain ⟨σ6, H6, S6, q6⟩ := q
            exact off S6 fun s7 J7 => ⟨_, _, J7, q6⟩
          | brk =>
            obtain ⟨σ6, H6, S6, q6⟩ := q
            exact off S6 fun s7 J7 => ⟨_, _, J7, q6⟩
          | cont =>
            obtain ⟨σ6, H6, S6, q6⟩ := q
            exact off S6 fun s7 J7 => ⟨_, _, J7, q6⟩
          | ret u =>
            obtain ⟨v6, σ6, H6, S6, r6, q6⟩ := q
            exact off S6 fun s7 J7 => ⟨_, _, _, J7, r6, q6⟩
        | false =>
          show wpAny _ X.A (handleBy (.ref a) X.env hs2) _ _ _
          exact ih (no rfl)
    exact go hh w
  · cases f with
    | next =>
      obtain ⟨σ', H', J', q⟩ := q
      exact wpAny_execs_nil ⟨σ', H', J'.ofTry ok, q⟩
    | brk =>
      obtain ⟨σ', H', J', q⟩ := q
      exact ⟨σ', H', J'.ofTry ok, q⟩
    | cont =>
      obtain ⟨σ', H', J', q⟩ := q
      exact ⟨σ', H', J'.ofTry ok, q⟩
    | ret u =>
      obtain ⟨v, σ', H', J', r, q⟩ := q
      exact ⟨v, σ', H', J'.ofTry ok, r, q⟩
end
/-- a def that may raise, by its address -/
def HeldX (P : Program) (w : World) (K : Fr) (mg : Str → Option Value) (base : Heap) (k : Nat) (f : Addr) (sp : Sp) : Prop := ∃ (fd : FuncData) (ps : List Str), FnOk P w K mg base (L2.CX P w) k f fd ps sp ∧ KeepT K f ∧ Binds K fd ps []
/-- the i-th slot holds a def with such a promise; what it raises is wished for at the slots as they stand -/
def tHeld (i : Nat) (S : Addr → Sp → Prop) (E : L2.St → XK) (t : TA) : TE := fun σ H Q => ∃ f sp, σ[i]? = some (some (.ref f)) ∧ S f sp ∧ t σ H fun vs H1 => sp vs H1 Q (E σ)
theorem pe_held {X : Cx} {k i : Nat} {S : Addr → Sp → Prop} {E : L2.St → XK} {x : Str} {p pos : Pos} {e : Expr} {es : List Expr} {t : TA} (A : ∀ f sp, S f sp → HeldX X.prog X.w X.K X.mg X.base k f sp) (hx : ∀ σ, PassesAt (L2.CX X.prog X.w) X σ (E σ)) (hr : Room k X.A) (hN : X.N[i]? = some x) (hv : Vis X.env.scope x) (ha : PA X (e :: es) t)
    (h1 : (x == ("__debug__" : Str)) = false := by decide) (h2 : (x == ("__classdict__" : Str)) = false := by decide)
    (h3 : starEach (e :: es) X.env = (false, eval e X.env) :: starEach es X.env := by rfl) (h4 : (backTo pos (starEach es X.env)).any (·.1) = false := by rfl) : PE X (.Call (.Name x p) (e :: es) [] pos) (tHeld i S E t) := by
  refine ⟨fun pins s σ H Q I h => ?_⟩
  obtain ⟨f, sp, hs, hS, hq⟩ := h
  obtain ⟨fd, ps, F, kp, b⟩ := A f sp hS
  refine wpAny_Call_Name_kw (thn ((pe_var (pos := p) hN hv h1 h2).run pins s σ H (fun v H1 => v = .ref f ∧ H1 = H) I ⟨.ref f, hs, rfl, rfl⟩) fun u s1 ⟨v, H1, I1, r1, q1⟩ => ?_)
  obtain ⟨rfl, rfl⟩ := q1
  cases r1
  refine PySem.W.callWith_K (h₀ := X.base) I.ok.mod.kin kp (thn (ha.run pos pins s1 σ _ _ I1 hq) fun us s2 ⟨vs, H2, I2, r, q⟩ => ⟨I2.kIn, ?_⟩) h3 h4
  exact run_fnS F hr b (hx σ) I2 r q
end Cl
set_option Elab.async false
set_option linter.unusedVariables false
/-! # The mathematics of rows, orders, audits, apart from the program -/
namespace Cl
open Vbndal
/-! ### lists -/
theorem pig {α : Type} [BEq α] [LawfulBEq α] : ∀ {w r : List α}, w.Nodup → (∀ x ∈ w, x ∈ r) → r.length ≤ w.length → r.Perm w
  | [], r, _, _, h => by
    have : r = [] := List.eq_nil_of_length_eq_zero (by simpa using h)
    subst this
    exact List.Perm.refl _
  | x :: w, r, hn, hs, h => by
    have hx : x ∈ r := hs x List.mem_cons_self
    have hp : r.Perm (x :: r.erase x) := List.perm_cons_erase hx
    have hn' := List.nodup_cons.mp hn
    have ih := pig (w := w) (r := r.erase x) hn'.2 (fun y hy => (List.mem_erase_of_ne (fun e => hn'.1 (by rw [← e]; exact hy))).mpr (hs y (List.mem_cons_of_mem _ hy))) (by rw [List.length_erase_of_mem hx]; simp at h; omega)
    exact hp.trans (ih.cons x)
theorem ed_le {α : Type} [BEq α] [LawfulBEq α] : ∀ (n : Nat) (l : List α), l.length ≤ n → l.eraseDups.length ≤ l.length
  | _, [], _ => by simp
  | 0, a :: as, h => by simp at h
  | n + 1, a :: as, h => by
    rw [List.eraseDups_cons, List.length_cons, List.length_cons]
    have h1 := List.length_filter_le (fun b => !b == a) as
    have h2 := ed_le n (as.filter fun b => !b == a) (by simp at h; omega)
    omega
theorem ed_iff' {α : Type} [BEq α] [LawfulBEq α] : ∀ (n : Nat) (l : List α), l.length ≤ n → (l.eraseDups.length = l.length ↔ l.Nodup)
  | _, [], _ => by simp
  | 0, a :: as, h => by simp at h
  | n + 1, a :: as, h => by
    have h0 : as.length ≤ n := by simp at h; omega
    have h1 := List.length_filter_le (fun b => !b == a) as
    have h2 := ed_le n (as.filter fun b => !b == a) (by omega)
    rw [List.eraseDups_cons, List.length_cons, List.length_cons, List.nodup_cons]
    constructor
    · intro e
      have e1 : (as.filter fun b => !b == a).length = as.length := by omega
      have e2 : (as.filter fun b => !b == a) = as := List.filter_eq_self.mpr (List.length_filter_eq_length_iff.mp e1)
      refine ⟨fun ha => ?_, (ed_iff' n as h0).mp (by rw [e2] at e; omega)⟩
      have := List.filter_eq_self.mp e2 a ha
      simp at this
    · rintro ⟨ha, hn⟩
      have e2 : (as.filter fun b => !b == a) = as := List.filter_eq_self.mpr fun b hb => by
        simp only [Bool.not_eq_true', beq_eq_false_iff_ne]
        intro z
        exact ha (z ▸ hb)
      rw [e2, (ed_iff' n as h0).mpr hn]
theorem ed_iff {α : Type} [BEq α] [LawfulBEq α] {l : List α} : l.eraseDups.length = l.length ↔ l.Nodup := ed_iff' l.length l (Nat.le_refl _)
/-! ### locks undone -/
def invCheck : Bool := (List.range 984).all fun p => !isSafePrime p || (List.range (p / 2)).all fun k => k == 0 || k * inverseKey p k % (p / 2) == 1
theorem invCheck_yes : invCheck = true := by decide +kernel
theorem inv_ok {p k : Nat} (t : TP p) (h1 : 1 ≤ k) (h2 : k < p / 2) : k * inverseKey p k % (p / 2) = 1 := by
  have h := List.all_eq_true.mp invCheck_yes p (List.mem_range.mpr (by have := t.hi; omega))
  rw [t.sf, Bool.not_true, Bool.false_or] at h
  have h3 := List.all_eq_true.mp h k (List.mem_range.mpr h2)
  have e : (k == 0) = false := beq_eq_false_iff_ne.mpr (by omega)
  rw [e, Bool.false_or] at h3
  exact eq_of_beq h3
theorem inv_lt {p k : Nat} (t : TP p) : inverseKey p k < p / 2 := by
  unfold inverseKey subgroupOrder
  have := t.lo
  have := t.hi
  exact lock_lt (by omega) (by omega)
theorem card_iff {p x : Nat} (t : TP p) : isCard p x = true ↔ 2 ≤ x ∧ x < p ∧ x ^ (p / 2) % p = 1 := by
  unfold isCard subgroupOrder
  have := t.hi
  rw [lock_eq (by omega), Bool.and_eq_true, decide_eq_true_iff, beq_iff_eq, and_assoc]
theorem pow_round {p x n : Nat} (t : TP p) (hx : isCard p x = true) (h : n % (p / 2) = 1) : x ^ n % p = x := by
  obtain ⟨h1, h2, h3⟩ := (card_iff t).mp hx
  have e : n = 1 + (p / 2) * (n / (p / 2)) := by
    have := Nat.mod_add_div n (p / 2)
    omega
  have lo := t.lo
  rw [e, Nat.pow_add, Nat.pow_one, Nat.pow_mul, Nat.mul_mod, Nat.pow_mod, h3, Nat.one_pow]
  rw [Nat.mod_eq_of_lt (show 1 < p by omega), Nat.mul_one, Nat.mod_mod, Nat.mod_eq_of_lt h2]
theorem unlock_lock {p x k : Nat} (t : TP p) (h1 : 1 ≤ k) (h2 : k < p / 2) (hx : isCard p x = true) : lockCard p (lockCard p x k) (inverseKey p k) = x := by
  have := t.hi
  have hi := inv_lt (k := k) t
  rw [lock_eq (k := k) (by omega), lock_eq (k := inverseKey p k) (by omega), ← Nat.pow_mod, ← Nat.pow_mul]
  exact pow_round t hx (inv_ok t h1 h2)
theorem lock_unlock {p x k : Nat} (t : TP p) (h1 : 1 ≤ k) (h2 : k < p / 2) (hx : isCard p x = true) : lockCard p (lockCard p x (inverseKey p k)) k = x := by
  have := t.hi
  have hi := inv_lt (k := k) t
  rw [lock_eq (k := inverseKey p k) (by omega), lock_eq (k := k) (by omega), ← Nat.pow_mod, ← Nat.pow_mul, Nat.mul_comm]
  exact pow_round t hx (inv_ok t h1 h2)
theorem lock_inj {p x y k : Nat} (t : TP p) (h1 : 1 ≤ k) (h2 : k < p / 2) (hx : isCard p x = true) (hy : isCard p y = true) (e : lockCard p x k = lockCard p y k) : x = y := by
  rw [← unlock_lock t h1 h2 hx, e, unlock_lock t h1 h2 hy]
/-- a key, locked onto y: y opens to x -/
theorem opens_iff {p x y k : Nat} (t : TP p) (h1 : 1 ≤ k) (h2 : k < p / 2) (hx : isCard p x = true) (hy : isCard p y = true) : (lockCard p x k == y) = (x == lockCard p y (inverseKey p k)) := by
  rw [Bool.eq_iff_iff, beq_iff_eq, beq_iff_eq]
  constructor
  · rintro rfl
    exact (unlock_lock t h1 h2 hx).symm
  · rintro rfl
    exact lock_unlock t h1 h2 hy
/-! ### a row, locked -/
def lk (p : Nat) (l : List Nat) (k : Nat) : List Nat := l.map fun x => lockCard p x k
theorem lk_len {p : Nat} {l : List Nat} {k : Nat} : (lk p l k).length = l.length := List.length_map _
theorem lk_nodup {p k : Nat} (t : TP p) (h1 : 1 ≤ k) (h2 : k < p / 2) : ∀ {l : List Nat}, (∀ x ∈ l, isCard p x = true) → l.Nodup → (lk p l k).Nodup
  | [], _, _ => List.nodup_nil
  | x :: l, hc, hn => by
    have hn' := List.nodup_cons.mp hn
    refine List.nodup_cons.mpr ⟨fun h => ?_, lk_nodup t h1 h2 (fun y hy => hc y (List.mem_cons_of_mem _ hy)) hn'.2⟩
    obtain ⟨y, hy, e⟩ := List.mem_map.mp h
    exact hn'.1 (lock_inj t h1 h2 (hc y (List.mem_cons_of_mem _ hy)) (hc x List.mem_cons_self) e ▸ hy)
/-- the locked cards without a counterpart -/
def errs (w r : List Nat) : List Nat := w.filter fun x => !r.contains x
theorem match_errs : ∀ {w : List Nat} {r : List Nat}, w.Nodup → matchCount w r + (errs w r).length = w.length
  | [], r, _ => rfl
  | x :: w, r, hn => by
    have hn' := List.nodup_cons.mp hn
    unfold matchCount errs
    by_cases c : r.contains x = true
    · rw [if_pos c, List.filter_cons_of_neg (by simp only [c]; decide)]
      have ih := match_errs (r := r.erase x) hn'.2
      have e : (errs w (r.erase x)) = w.filter fun y => !r.contains y := by
        unfold errs
        refine List.filter_congr fun y hy => ?_
        have ne : y ≠ x := fun z => hn'.1 (z ▸ hy)
        congr 1
        rw [Bool.eq_iff_iff, List.contains_iff_mem, List.contains_iff_mem, List.mem_erase_of_ne ne]
      rw [e] at ih
      rw [List.length_cons]
      omega
    · rw [if_neg c, List.filter_cons_of_pos (by simp only [c]; decide), List.length_cons, List.length_cons]
      have ih := match_errs (r := r) hn'.2
      unfold errs at ih
      omega
theorem err_count {p k : Nat} {l r : List Nat} (hn : (lk p l k).Nodup) : errorCount p l r k = (errs (lk p l k) r).length := by
  have h := match_errs (r := r) hn
  rw [lk_len] at h
  unfold errorCount
  show l.length - matchCount (lk p l k) r = _
  omega
theorem order_is {p k : Nat} {l r : List Nat} : orderFor p l r k = if r.length = l.length ∧ isOrder l.length (r.map fun y => (lk p l k).idxOf y) = true then some (r.map fun y => (lk p l k).idxOf y) else none := by
  unfold orderFor
  have e : (r.map fun y => (((l.map fun x => lockCard p x k)).findIdx? fun x => x == y).getD l.length) = r.map fun y => (lk p l k).idxOf y := by
    refine List.map_congr_left fun y _ => ?_
    show (((lk p l k)).findIdx? fun x => x == y).getD l.length = (lk p l k).findIdx (fun x => x == y)
    rw [List.findIdx_eq_getD_findIdx?, lk_len]
  simp only [e]
theorem errs_nil {w r : List Nat} (h : (errs w r).length = 0) : ∀ x ∈ w, x ∈ r := fun x hx => by
  have e := List.eq_nil_of_length_eq_zero h
  have := List.filter_eq_nil_iff.mp e x hx
  simpa using this
theorem idx_lt {w : List Nat} {y : Nat} (h : y ∈ w) : w.idxOf y < w.length := List.idxOf_lt_length_iff.mpr h
theorem order_yes {p k : Nat} {l r : List Nat} (hn : (lk p l k).Nodup) (hl : r.length = l.length) (h : (errs (lk p l k) r).length = 0) :
    orderFor p l r k = some (r.map fun y => (lk p l k).idxOf y) ∧ r.Perm (lk p l k) := by
  have hs := errs_nil h
  have ho : isOrder l.length (r.map fun y => (lk p l k).idxOf y) = true := by
    unfold isOrder
    rw [Bool.and_eq_true, beq_iff_eq, List.length_map, List.all_eq_true]
    refine ⟨hl, fun i hi => ?_⟩
    have hi' : i < (lk p l k).length := by rw [lk_len]; exact List.mem_range.mp hi
    rw [List.contains_iff_mem]
    exact List.mem_map.mpr ⟨(lk p l k)[i], hs _ (List.getElem_mem hi'), hn.idxOf_getElem i hi'⟩
  exact ⟨by rw [order_is, if_pos ⟨hl, ho⟩], pig hn hs (by rw [lk_len]; omega)⟩
theorem order_no {p k : Nat} {l r : List Nat} (hn : (lk p l k).Nodup) (h : (errs (lk p l k) r).length ≠ 0) : orderFor p l r k = none := by
  rw [order_is, if_neg]
  rintro ⟨hl, ho⟩
  unfold isOrder at ho
  rw [Bool.and_eq_true, List.all_eq_true] at ho
  refine h ?_
  have e : errs (lk p l k) r = [] := List.filter_eq_nil_iff.mpr fun x hx => by
    obtain ⟨i, hi, e⟩ := List.getElem_of_mem hx
    have h2 := ho.2 i (List.mem_range.mpr (by rw [lk_len] at hi; exact hi))
    rw [List.contains_iff_mem] at h2
    obtain ⟨y, hy, ey⟩ := List.mem_map.mp h2
    have hyw : y ∈ lk p l k := by
      refine List.idxOf_lt_length_iff.mp ?_
      rw [ey]
      exact hi
    have : y = x := by
      rw [← e]
      have z := List.getElem_idxOf (x := y) (xs := lk p l k) (h := by rw [ey]; exact hi)
      rw [← z]
      simp only [ey]
    rw [this] at hy
    simpa using hy
  rw [e]
  exact List.length_nil
/-! ### orders -/
theorem is_order {n : Nat} (h10 : n ≤ 10) {l : List Int} : isOrderArgument n l = true ↔ l.Perm ((List.range n).map fun i : Nat => (i : Int)) := by
  have inj : ∀ {a b : Nat}, ((a : Int)) = b → a = b := fun h => Int.ofNat.inj h
  have hnd : ((List.range n).map fun i : Nat => (i : Int)).Nodup := by
    have := List.nodup_range (n := n)
    exact List.pairwise_map.mpr (this.imp fun {a b} h e => h (inj e))
  unfold isOrderArgument isOrder toNats inRange
  simp only [Bool.and_eq_true, List.all_eq_true, beq_iff_eq, decide_eq_true_iff, List.contains_iff_mem, List.length_map]
  constructor
  · rintro ⟨h1, h2, h3⟩
    refine pig hnd (fun x hx => ?_) (by rw [List.length_map, List.length_range]; omega)
    obtain ⟨i, hi, rfl⟩ := List.mem_map.mp hx
    obtain ⟨z, hz, e⟩ := List.mem_map.mp (h3 i hi)
    have := h1 z hz
    have e2 : z = (i : Int) := by omega
    rw [← e2]
    exact hz
  · intro hp
    refine ⟨fun z hz => ?_, ?_, fun i hi => ?_⟩
    · obtain ⟨i, hi, rfl⟩ := List.mem_map.mp (hp.mem_iff.mp hz)
      have := List.mem_range.mp hi
      omega
    · rw [hp.length_eq, List.length_map, List.length_range]
    · exact List.mem_map.mpr ⟨(i : Int), hp.mem_iff.mpr (List.mem_map.mpr ⟨i, hi, rfl⟩), Int.toNat_natCast i⟩
/-! ### shown keys -/
theorem opened_idx {p y k : Nat} {l : List Nat} (t : TP p) (h1 : 1 ≤ k) (h2 : k < p / 2) (hl : ∀ x ∈ l, isCard p x = true) (hy : isCard p y = true) :
    (l.findIdx? fun x => lockCard p x k == y) = if lockCard p y (inverseKey p k) ∈ l then some (l.idxOf (lockCard p y (inverseKey p k))) else none := by
  have e : ∀ m : List Nat, (∀ x ∈ m, isCard p x = true) → (m.findIdx? fun x => lockCard p x k == y) = m.findIdx? fun x => x == lockCard p y (inverseKey p k) := by
    intro m
    induction m with
    | nil => exact fun _ => rfl
    | cons x m ih =>
      intro hm
      rw [List.findIdx?_cons, List.findIdx?_cons, opens_iff t h1 h2 (hm x List.mem_cons_self) hy, ih fun z hz => hm z (List.mem_cons_of_mem _ hz)]
  rw [e l hl]
  by_cases c : lockCard p y (inverseKey p k) ∈ l
  · rw [if_pos c]
    rw [List.findIdx?_eq_some_iff_findIdx_eq]
    exact ⟨idx_lt c, rfl⟩
  · rw [if_neg c, List.findIdx?_eq_none_iff]
    intro x hx
    exact beq_false_of_ne fun z => c (z ▸ hx)
end Cl
set_option Elab.async false
set_option linter.unusedVariables false
set_option maxRecDepth 100000
set_option maxHeartbeats 4000000
/-! # Further rules: how many different numbers a list has; lists of numbers compared; pieces of a list -/
namespace Cl
open PySem PySem.Spec PyProof.Rows L2
/-- the numbers of a list, each once, as Python's set collects them -/
def once (l : List Int) : List Int := l.foldl (fun a k => if a.any (· == k) then a else a ++ [k]) []
theorem once_step : ∀ (l a : List Int), (l.foldl (fun a k => if a.any (· == k) then a else a ++ [k]) a).length ≤ a.length + l.length ∧
    ((l.foldl (fun a k => if a.any (· == k) then a else a ++ [k]) a).length = a.length + l.length ↔ l.Nodup ∧ ∀ x ∈ l, x ∉ a)
  | [], a => ⟨Nat.le_refl _, ⟨fun _ => ⟨List.nodup_nil, fun x hx => by cases hx⟩, fun _ => rfl⟩⟩
  | x :: l, a => by
    rw [List.foldl_cons, List.length_cons]
    by_cases c : a.any (· == x) = true
    · rw [if_pos c]
      have ih := once_step l a
      obtain ⟨y, hy, e⟩ := List.any_eq_true.mp c
      have ha : x ∈ a := by rw [← eq_of_beq e]; exact hy
      exact ⟨by omega, ⟨fun h => by omega, fun h => absurd ha (h.2 x List.mem_cons_self)⟩⟩
    · rw [if_neg c]
      have ih := once_step l (a ++ [x])
      have ha : x ∉ a := fun h => c (List.any_eq_true.mpr ⟨x, h, beq_self_eq_true x⟩)
      rw [List.length_append, List.length_singleton] at ih
      refine ⟨by omega, ?_⟩
      rw [show a.length + (l.length + 1) = a.length + 1 + l.length by omega, ih.2, List.nodup_cons]
      constructor
      · rintro ⟨h1, h2⟩
        refine ⟨⟨fun h => h2 x h (List.mem_append.mpr (.inr (List.mem_singleton.mpr rfl))), h1⟩, fun y hy => ?_⟩
        rcases List.mem_cons.mp hy with rfl | hy
        · exact ha
        · exact fun h => h2 y hy (List.mem_append.mpr (.inl h))
      · rintro ⟨⟨h1, h2⟩, h3⟩
        refine ⟨h2, fun y hy h => ?_⟩
        rcases List.mem_append.mp h with h | h
        · exact h3 y (List.mem_cons_of_mem _ hy) h
        · exact h1 (List.mem_singleton.mp h ▸ hy)
theorem once_iff {l : List Int} : (once l).length = l.length ↔ l.Nodup := by
  have h := (once_step l []).2
  rw [List.length_nil, Nat.zero_add] at h
  refine h.trans ⟨fun h => h.1, fun h => ⟨h, fun x _ z => by cases z⟩⟩
theorem range_get : ∀ (l : List Int), (List.range l.length).map (fun i => l.getD i 0) = l := fun l => by
  refine List.ext_getElem (by rw [List.length_map, List.length_range]) fun i h1 h2 => ?_
  rw [List.getElem_map, List.getElem_range, List.getD_eq_getElem?_getD, List.getElem?_eq_getElem h2] <;> rfl
theorem firstMet_once (l : List Int) : firstMet (fun i => l.getD i 0) l.length = once l := by
  unfold firstMet
  rw [range_get]
  rfl
def tLenSetG (K : Fr) (ta : TE) : TE := fun σ H Q => ta σ H fun x H1 => ∃ (l : Addr) (ns : List Int), x = V.ref l ∧ SqL K H1 l (ns.map V.int) ∧ ns.length < 64 ∧ Q (.int (once ns).length) H1
theorem pe_lenSetG {X : Cx} {a : Expr} {ta : TE} {p p2 q pos : Pos} (hc : X.calm = true) (hg : Gl X "len") (hm : X.mg "len" = none) (hg2 : Gl X "set") (hm2 : X.mg "set" = none) (ha : PE X a ta)
    (na : starEach [a] X.env = (false, eval a X.env) :: starEach [] X.env := by rfl) : PE X (.Call (.Name "len" p) [.Call (.Name "set" p2) [a] [] q] [] pos) (tLenSetG X.K ta) := by
  refine ⟨fun pins s σ H Q I h => ?_⟩
  refine Call_ (ld_blt I hg hm PySem.boot_len ?_)
  refine PyProof.Rows.callWith_builtin1 (PyProof.Rows.args_cons ?_ rfl) rfl rfl
  refine Call_ (ld_blt I hg2 hm2 PyProof.Rows.boot_set ?_)
  refine PyProof.Rows.callWith_type1 (PyProof.Rows.args_cons (thn (ha.run pins s σ H _ I h) fun v s1 ⟨x, H1, I1, r1, q1⟩ => PyProof.Rows.args_nil ?_) na) na rfl
  obtain ⟨l, ns, rfl, hq, h1, q1⟩ := q1
  cases r1
  obtain ⟨its, r, pl, hz⟩ := I1.list hq
  have hl : its.toArray.size = ns.length := by rw [List.size_toArray, ← r.length, List.length_map]
  refine call_set_list (I1.ok.hd hc) pl.isList (ns := ns) (by simpa using r.ints) (by unfold scanBound; omega) fun h' tk hS hk => ?_
  rw [hl, firstMet_once] at hS
  have le : (once ns).length ≤ ns.length := by
    have := (once_step ns []).1
    rw [List.length_nil, Nat.zero_add] at this
    exact this
  refine PyProof.Rows.args_nil ?_
  obtain ⟨o, es, ep, t, ho, hex, hd, _, _, _, hf, hn⟩ := hS
  have I2 : Inv X pins σ H1 { s1 with heap := h', toks := tk } := I1.kept fun b o e => hk b o (Heap.lt_size e) e
  refine call_len_set ho hex hd hf (by rw [hn] <;> omega) ⟨.int (once ns).length, H1, I2.tok _, ⟨_, by rw [hn]⟩, q1⟩
/-! ### lists of numbers, compared -/
theorem dpAll_ints {K : Fr} {H : Hp} : ∀ l : List Int, DpAll K H (VI l) (l.map PyData.int)
  | [] => .nil
  | x :: l => .cons (.int x) (dpAll_ints l)
theorem dp_ints {K : Fr} {H : Hp} {a : Addr} {l : List Int} (h : SqL K H a (VI l)) : Dp K H (.ref a) (.list (l.map PyData.int)) := .lst h (dpAll_ints l)
theorem eqvAll_ints : ∀ l m : List Int, PyData.eqvAll (l.map PyData.int) (m.map PyData.int) = decide (l = m)
  | [], [] => by rw [List.map_nil, PyData.eqvAll]; rfl
  | [], y :: m => by rw [List.map_nil, List.map_cons, PyData.eqvAll]; rfl
  | x :: l, [] => by rw [List.map_nil, List.map_cons, PyData.eqvAll]; rfl
  | x :: l, y :: m => by
    rw [List.map_cons, List.map_cons, PyData.eqvAll, eqvAll_ints l m, PyData.eqv, Bool.eq_iff_iff, Bool.and_eq_true, beq_iff_eq, decide_eq_true_iff, decide_eq_true_iff]
    constructor
    · rintro ⟨rfl, rfl⟩
      rfl
    · intro h
      exact ⟨(List.cons.inj h).1, (List.cons.inj h).2⟩
theorem eqv_ints (l m : List Int) : PyData.eqv (.list (l.map PyData.int)) (.list (m.map PyData.int)) = decide (l = m) := by rw [PyData.eqv, eqvAll_ints]
theorem lay_ints : ∀ l : List Int, PyData.canLayAll0 (l.map PyData.int) = true
  | [] => by rw [List.map_nil, PyData.canLayAll0]
  | x :: l => by rw [List.map_cons, PyData.canLayAll0, lay_ints l, PyData.canLay0] <;> rfl
theorem deep_ints : ∀ l : List Int, PyData.depthAll (l.map PyData.int) ≤ 1
  | [] => by rw [List.map_nil, PyData.depthAll] <;> omega
  | x :: l => by
    have := deep_ints l
    rw [List.map_cons, PyData.depthAll, PyData.depth] <;> omega
theorem shaped_ints (l : List Int) : SeqAt.shaped (.list (l.map PyData.int)) = true := by
  unfold SeqAt.shaped
  have := deep_ints l
  rw [PyData.canLay0, lay_ints, PyData.depth, Bool.true_and, decide_eq_true_iff]
  omega
/-! ### pieces -/
theorem rgC_pos {n c : Nat} (h1 : 1 ≤ c) (h2 : c ≤ 1000) (h3 : n * c ≤ 1000000) : RgC 0 ((n * c : Nat) : Int) (c : Int) n := by
  have e : Builtin.Range.rangeSize 0 ((n * c : Nat) : Int) (c : Int) = (n : Int) := by
    unfold Builtin.Range.rangeSize
    rw [if_pos (by omega)]
    rcases Nat.eq_zero_or_pos n with rfl | hn
    · rw [if_neg (by omega)] <;> rfl
    · have hp : 0 < n * c := Nat.mul_pos hn h1
      rw [if_pos (by omega)]
      have e2 : (((n * c : Nat) : Int) - 0 - 1) = ((n * c - 1 : Nat) : Int) := by omega
      have e3 : (n * c - 1) / c = n - 1 := by
        obtain ⟨m, rfl⟩ : ∃ m, n = m + 1 := ⟨n - 1, by omega⟩
        rw [Nat.succ_mul, show m * c + c - 1 = (c - 1) + m * c by omega, Nat.add_mul_div_right _ _ (by omega), Nat.div_eq_of_lt (by omega)]
        omega
      rw [e2, ← Int.natCast_ediv, e3]
      omega
  refine ⟨by omega, by omega, ?_, e⟩
  have hn : n ≤ n * c := Nat.le_mul_of_pos_right n h1
  unfold Builtin.Range.small
  rw [e]
  simp only [Builtin.Range.rangeFitsLong, Bool.and_eq_true, Bool.or_eq_true, decide_eq_true_eq, beq_iff_eq, show (c : Int) > 0 by omega, if_true]
  omega
/-- n pieces of c each -/
def pieces {α : Type} (n c : Nat) (l : List α) : List (List α) := (List.range n).map fun i => (l.drop (i * c)).take c
theorem pieces_zero {α : Type} (c : Nat) (l : List α) : pieces 0 c l = [] := rfl
theorem pieces_succ {α : Type} (n c : Nat) (l : List α) : pieces (n + 1) c l = l.take c :: pieces n c (l.drop c) := by
  unfold pieces
  rw [List.range_succ_eq_map, List.map_cons, List.map_map, Nat.zero_mul, List.drop_zero]
  congr 1
  refine List.map_congr_left fun i _ => ?_
  show (l.drop ((i + 1) * c)).take c = ((l.drop c).drop (i * c)).take c
  rw [List.drop_drop, Nat.succ_mul, Nat.add_comm]
theorem pieces_len {α : Type} (n c : Nat) (l : List α) : (pieces n c l).length = n := by
  unfold pieces
  rw [List.length_map, List.length_range]
theorem piece_at {α : Type} {n c i : Nat} {l : List α} (h : i < n) : (pieces n c l)[i]? = some ((l.drop (i * c)).take c) := by
  unfold pieces
  rw [List.getElem?_map, List.getElem?_range h] <;> rfl
/-! ### numbers that are whole numbers from 0 on -/
theorem vi_nats {l : List Int} (h : ∀ z ∈ l, 0 ≤ z) : VI l = VN (Vbndal.toNats l) := by
  show l.map V.int = (l.map Int.toNat).map fun n : Nat => V.int n
  rw [List.map_map]
  refine List.map_congr_left fun z hz => ?_
  show V.int z = V.int ((z.toNat : Nat) : Int)
  rw [Int.toNat_of_nonneg (h z hz)]
theorem nats_len (l : List Int) : (Vbndal.toNats l).length = l.length := List.length_map _
theorem toInts_vn (l : List Nat) : VI (Vbndal.toInts l) = VN l := by
  show (l.map fun n : Nat => (n : Int)).map V.int = l.map fun n : Nat => V.int n
  rw [List.map_map]
  rfl
/-- a list of mapped numbers, item by item -/
theorem vn_snoc (l : List Nat) (x : Nat) : VN l ++ [V.int x] = VN (l ++ [x]) := by
  rw [show VN (l ++ [x]) = VN l ++ VN [x] from List.map_append]
  rfl
theorem flat_ints : ∀ l : List Int, (VI l).all flatV = true := fun l => List.all_eq_true.mpr fun v hv => by
  obtain ⟨z, _, rfl⟩ := List.mem_map.mp hv
  rfl
theorem flat_nats : ∀ l : List Nat, (VN l).all flatV = true := fun l => List.all_eq_true.mpr fun v hv => by
  obtain ⟨z, _, rfl⟩ := List.mem_map.mp hv
  rfl
theorem in_nats (x : Nat) (m : List Nat) : inV (V.int (x : Int)) (VN m) = m.contains x := by
  unfold inV
  rw [List.any_map, Bool.eq_iff_iff, List.any_eq_true, List.contains_iff_mem]
  constructor
  · rintro ⟨y, hy, e⟩
    have e2 : (y : Int) = (x : Int) := eq_of_beq (show ((y : Int) == (x : Int)) = true from e)
    have e3 : y = x := Int.ofNat.inj e2
    rw [← e3]
    exact hy
  · intro h
    exact ⟨x, h, show ((x : Int) == (x : Int)) = true from beq_self_eq_true _⟩
end Cl
set_option Elab.async false
set_option linter.unusedVariables false
set_option maxRecDepth 100000
set_option maxHeartbeats 4000000
/-! # Rows -/
namespace Cl
open PySem PySem.Spec PyProof.Rows L2
/-- a comprehension that makes an item of each item, and changes nothing that stood -/
theorem lc_maps {α : Type} {K : Fr} {a : Addr} {l : List α} {val out : α → V} {g : TG} {tt : TT} {te : TE} {vs : List Nat} {σ : L2.St} {H1 : Hp} {D : Addr} {Qd : Hp → Prop} (hD : H1 D = none) (hl : SqL K H1 a (l.map val)) (hlen : l.length < 16777216)
    (hs : ∀ (i : Nat) (x : α) (H : Hp) (Q : V → Hp → Prop) (Nx : Hp → Prop), l[i]? = some x → Same H1 H → (∀ H4, Same H H4 → Q (out x) H4) → g (val x) (wipe σ vs) H fun σ2 H2 => wipe σ2 vs = wipe σ vs ∧ tt σ2 H2 fun b H3 => if b = true then te σ2 H3 Q else Nx H3)
    (hd : ∀ H', Same H1 H' → H' D = some (.lst (l.map out)) → Qd H') :
    ∃ W : Nat → Nat → Hp → Prop, (∃ m, W 0 m (upd H1 D (.lst []))) ∧ ∀ i m H, W i m H →
      ((Itl K a).stop i H ∧ Qd H) ∨ ((Itl K a).go i H ∧ ∃ Nx : Hp → Prop, (∀ H', Nx H' → ∃ m', m' < m ∧ W (i + 1) m' H') ∧ ∀ x H', (Itl K a).yld i H x H' → g x (wipe σ vs) H' fun σ2 H2 => wipe σ2 vs = wipe σ vs ∧ tt σ2 H2 fun b H3 =>
        if b = true then te σ2 H3 fun y H4 => ∃ acc, H4 D = some (.lst acc) ∧ acc.length < sizeLine ∧ Nx (upd H4 D (.lst (acc ++ [y]))) else Nx H3) := by
  refine lc_list (K := K) (a := a) (xs := l.map val) (fun j H' => Same H1 H' ∧ H' D = some (.lst ((l.take j).map out))) ⟨Same.new hD, by rw [upd_same]; rfl⟩ (fun j H' _ z => z.1.seq hl) ?_ ?_
  · rintro j y H' hj ⟨k1, k2⟩
    obtain ⟨x, hx, rfl⟩ := map_at hj
    refine hs j x H' _ _ hx k1 fun H4 s4 => ⟨_, s4 _ _ k2, ?_, fun b o e => ?_, ?_⟩
    · rw [List.length_map, List.length_take]
      exact less_line (by omega)
    · rw [upd_ne (ne_of_none e hD)]
      exact s4 _ _ (k1 _ _ e)
    · rw [upd_same, take_one hx, List.map_append]
      rfl
  · rintro H' ⟨k1, k2⟩
    rw [List.length_map, List.take_length] at k2
    exact hd H' k1 k2
abbrev s_all_different : Stmt := top 28
abbrev n_all_different : List Str := ["numbers"]
theorem sc_all_different : FnScope n_all_different ["numbers"] (defScope s_all_different) := ⟨rfl, rfl, rfl, by decide +kernel, rfl, by decide +kernel, by decide +kernel⟩
abbrev s_is_row : Stmt := top 29
abbrev n_is_row : List Str := ["numbers", "prime", "number"]
theorem sc_is_row : FnScope n_is_row ["numbers", "prime"] (defScope s_is_row) := ⟨rfl, rfl, rfl, by decide +kernel, rfl, by decide +kernel, by decide +kernel⟩
abbrev s_is_order : Stmt := top 30
abbrev n_is_order : List Str := ["numbers", "count"]
theorem sc_is_order : FnScope n_is_order ["numbers", "count"] (defScope s_is_order) := ⟨rfl, rfl, rfl, by decide +kernel, rfl, by decide +kernel, by decide +kernel⟩
abbrev s_parts_of : Stmt := top 31
abbrev n_parts_of : List Str := ["numbers", "length", "start"]
theorem sc_parts_of : FnScope n_parts_of ["numbers", "length"] (defScope s_parts_of) := ⟨rfl, rfl, rfl, by decide +kernel, rfl, by decide +kernel, by decide +kernel⟩
abbrev s_locked_row : Stmt := top 32
abbrev n_locked_row : List Str := ["row", "key", "prime", "card"]
theorem sc_locked_row : FnScope n_locked_row ["row", "key", "prime"] (defScope s_locked_row) := ⟨rfl, rfl, rfl, by decide +kernel, rfl, by decide +kernel, by decide +kernel⟩
abbrev s_shuffled : Stmt := top 33
abbrev n_shuffled : List Str := ["row", "key", "order", "prime", "cards", "place"]
theorem sc_shuffled : FnScope n_shuffled ["row", "key", "order", "prime"] (defScope s_shuffled) := ⟨rfl, rfl, rfl, by decide +kernel, rfl, by decide +kernel, by decide +kernel⟩
abbrev s_error_count : Stmt := top 34
abbrev n_error_count : List Str := ["row", "key", "cards", "prime", "card"]
theorem sc_error_count : FnScope n_error_count ["row", "key", "cards", "prime"] (defScope s_error_count) := ⟨rfl, rfl, rfl, by decide +kernel, rfl, by decide +kernel, by decide +kernel⟩
abbrev s_matching_order : Stmt := top 35
abbrev n_matching_order : List Str := ["row", "key", "cards", "prime", "expected", "card"]
theorem sc_matching_order : FnScope n_matching_order ["row", "key", "cards", "prime"] (defScope s_matching_order) := ⟨rfl, rfl, rfl, by decide +kernel, rfl, by decide +kernel, by decide +kernel⟩
abbrev s_remaining_count : Stmt := top 36
abbrev n_remaining_count : List Str := ["card_count", "positions"]
theorem sc_remaining_count : FnScope n_remaining_count ["card_count", "positions"] (defScope s_remaining_count) := ⟨rfl, rfl, rfl, by decide +kernel, rfl, by decide +kernel, by decide +kernel⟩
/-- as the specification tells a row -/
def rowd (p : Nat) (l : List Int) : Bool := decide (1 ≤ l.length ∧ l.length ≤ Vbndal.maxCards) && (l.all (crd p) && l.eraseDups.length == l.length)
def sp_alldiff (K : Fr) : Sp := fun vs H Q _ => ∃ (a : Addr) (l : List Int), vs = [.ref a] ∧ SqL K H a (VI l) ∧ l.length < 64 ∧ Q (.bl (l.eraseDups.length == l.length)) H
def sp_isrow (K : Fr) : Sp := fun vs H Q _ => ∃ (a : Addr) (l : List Int) (p : Nat), vs = [.ref a, .int p] ∧ TP p ∧ SqL K H a (VI l) ∧ ∀ H', Same H H' → Q (.bl (rowd p l)) H'
def sp_isorder (K : Fr) : Sp := fun vs H Q _ => ∃ (a : Addr) (l : List Int) (n : Nat), vs = [.ref a, .int n] ∧ n ≤ 10 ∧ SqL K H a (VI l) ∧ ∀ H', Same H H' → Q (.bl (Vbndal.isOrderArgument n l)) H'
def sp_parts (K : Fr) : Sp := fun vs H Q _ => ∃ (a : Addr) (l : List Int) (n c : Nat), vs = [.ref a, .int c] ∧ SqL K H a (VI l) ∧ l.length = n * c ∧ l.length ≤ 1000 ∧ 1 ≤ c ∧ c ≤ 1000 ∧
  ∀ H' d rs, Same H H' → H d = none → H' d = some (.lst (rs.map V.ref)) → Rws H' rs (pieces n c l) → Q (.ref d) H'
def sp_lkrow (K : Fr) : Sp := fun vs H Q _ => ∃ (a : Addr) (l : List Nat) (k p : Nat), vs = [.ref a, .int k, .int p] ∧ TP p ∧ k < 1000 ∧ SqL K H a (VN l) ∧ l.length ≤ 1000 ∧
  ∀ H' d, Same H H' → H d = none → H' d = some (.lst (VN (lk p l k))) → Q (.ref d) H'
def sp_shuf (K : Fr) : Sp := fun vs H Q _ => ∃ (a b : Addr) (l m : List Nat) (k p : Nat), vs = [.ref a, .int k, .ref b, .int p] ∧ TP p ∧ k < 1000 ∧ SqL K H a (VN l) ∧ SqL K H b (VN m) ∧ l.length ≤ 1000 ∧ m.length ≤ 1000 ∧ (∀ i ∈ m, i < l.length) ∧
  ∀ H' d, Same H H' → H d = none → H' d = some (.lst (VN (Vbndal.shuffled p l m k))) → Q (.ref d) H'
def sp_errs (K : Fr) : Sp := fun vs H Q _ => ∃ (a b : Addr) (l r : List Nat) (k p : Nat), vs = [.ref a, .int k, .ref b, .int p] ∧ TP p ∧ k < 1000 ∧ SqL K H a (VN l) ∧ SqL K H b (VN r) ∧ l.length ≤ 1000 ∧
  ∀ H', Same H H' → Q (.int (errs (lk p l k) r).length) H'
def sp_match (K : Fr) : Sp := fun vs H Q _ => ∃ (a b : Addr) (l r : List Nat) (k p : Nat), vs = [.ref a, .int k, .ref b, .int p] ∧ TP p ∧ k < 1000 ∧ SqL K H a (VN l) ∧ SqL K H b (VN r) ∧ l.length ≤ 1000 ∧ r.length ≤ 1000 ∧ (∀ y ∈ r, y ∈ lk p l k) ∧
  ∀ H' d, Same H H' → H d = none → H' d = some (.lst (VN (r.map fun y => (lk p l k).idxOf y))) → Q (.ref d) H'
def sp_remc (K : Fr) : Sp := fun vs H Q _ => ∃ (a : Addr) (o : List Nat) (n : Nat), vs = [.int n, .ref a] ∧ SqL K H a (VN o) ∧ o.length < 64 ∧ n ≤ 10 ∧ (o.Nodup → o.length ≤ n) ∧ Q (.int (if o.eraseDups.length = o.length then Vbndal.factorial (n - o.length) else 0 : Nat)) H
theorem once_bool (l : List Int) : decide (V.int ((once l).length : Nat) = V.int (l.length : Nat)) = (l.eraseDups.length == l.length) := by
  by_cases h : l.Nodup
  · rw [d_yes (by rw [once_iff.mpr h]), ed_iff.mpr h, beq_self_eq_true]
  · rw [d_no fun z : ((once l).length : Int) = (l.length : Int) => h (once_iff.mp (by omega))]
    exact (beq_false_of_ne fun z => h (ed_iff.mp z)).symm
section
variable {P : Program} {w : World} {K : Fr} {mg : Str → Option Value} {base : Heap} {f : Addr} {fd : FuncData}
theorem ok_all_different (F : Fun K "all_different" "all_different" s_all_different f fd) (n_len : mg "len" = none) (n_set : mg "set" = none) : FnOk P w K mg base CX0 1 f fd ["numbers"] (sp_alldiff K) := by
  refine F.ok sc_all_different (fun vs H Q E h => ?_) (fun cdv A outer s H vs Q E hr h => ⟨_, (pss_one (ps_ret (pe_cmpR op_eq (pe_lenSetG rfl rfl n_len rfl n_set (pv 0)) (pe_callB call_len_seq (by rfl) n_len PySem.boot_len (pa_cons (pv 0) pa_nil)) (nomark _)))), ?_⟩)
  · obtain ⟨a, l, rfl, _⟩ := h
    rfl
  obtain ⟨a, l, rfl, sq, hl, q⟩ := h
  refine ⟨_, rfl, a, l, rfl, sq, hl, _, rfl, a, _, rfl, .inl sq, rfl, ?_⟩
  rw [List.length_map, once_bool]
  exact q
theorem ok_is_row (F : Fun K "is_row" "is_row" s_is_row f fd) (c_MOST_CARDS : Gv mg "MOST_CARDS" (.int 10)) (d_all_different : Df P w K mg base CX0 1 "all_different" (sp_alldiff K)) (n_all : mg "all" = none) (n_len : mg "len" = none) (d_is_card : Df P w K mg base CX0 3 "is_card" sp_card) : FnOk P w K mg base CX0 4 f fd ["numbers", "prime"] (sp_isrow K) := by
  refine F.ok sc_is_row (fun vs H Q E h => ?_) (fun cdv A outer s H vs Q E hr h => ⟨_, (pss_cons (ps_if (PW.pt (pw_or (pt_cmpR op_lt (pe_callB call_len_seq (by rfl) n_len PySem.boot_len (pa_cons (pv 0) pa_nil)) pe_int (nomark _)) (pw_or1 (pt_cmpR op_gt (pe_callB call_len_seq (by rfl) n_len PySem.boot_len (pa_cons (pv 0) pa_nil)) (pe_gv rfl c_MOST_CARDS) (nomark _)))))
      (pss_one (ps_ret pe_bl))
      pss_nil)
      (pss_one (ps_ret (pe_and (by exact (pe_d d_all_different pass0 hr (by decide) rfl (pa_cons (pv 0) pa_nil))) (pe_one (pe_callB (cr_all rfl) (by rfl) n_all (by decide +kernel) (pa_cons (pe_lc (own := [("number", 2)]) (g := gName 2) rfl sc_is_row.nd (pi_list (pv 0)) (blkOk_by (N := n_is_row) (sc := defScope s_is_row) (by decide +kernel)) (fun _ _ _ _ _ => (pg_name (i := 2) sc_is_row.nd rfl (Or.inl rfl))) (fun _ _ _ _ _ => pts_nil) (fun _ _ _ _ _ => (by exact (pe_d d_is_card pass0 hr (by decide) rfl (pa_cons (pv 2) (pa_cons (pv 1) pa_nil)))))) pa_nil))))))), ?_⟩)
  · obtain ⟨a, l, p, rfl, _⟩ := h
    rfl
  obtain ⟨a, l, p, rfl, tp, sq, q⟩ := h
  have hl : (((VI l).length : Nat) : Int) = (l.length : Int) := by rw [List.length_map]
  have no : ¬ (1 ≤ l.length ∧ l.length ≤ 10) → rowd p l = false := fun h => by
    unfold rowd Vbndal.maxCards
    rw [decide_eq_false h, Bool.false_and]
  refine ⟨_, rfl, a, _, rfl, .inl sq, _, _, rfl, rfl, _, rfl, ?_⟩
  by_cases c : l.length < 1
  · refine if_yes (decide_eq_true (by rw [hl]; omega)) (if_yes rfl ?_)
    have z := q H (Same.refl H)
    rw [no (by omega)] at z
    exact z
  refine if_no (decide_eq_false (by rw [hl]; omega)) ?_
  refine ⟨_, rfl, a, _, rfl, .inl sq, _, _, rfl, rfl, _, rfl, ?_⟩
  by_cases c2 : 10 < l.length
  · refine if_yes (decide_eq_true (by rw [hl]; omega)) ?_
    have z := q H (Same.refl H)
    rw [no (by omega)] at z
    exact z
  refine if_no (decide_eq_false (by rw [hl]; omega)) ?_
  have er : rowd p l = (l.all (crd p) && l.eraseDups.length == l.length) := by
    unfold rowd Vbndal.maxCards
    rw [decide_eq_true (by omega), Bool.true_and]
  refine ⟨_, rfl, a, l, rfl, sq, by omega, _, rfl, ?_⟩
  cases ed : (l.eraseDups.length == l.length) with
  | false =>
    refine if_no rfl ?_
    have z := q H (Same.refl H)
    rw [er, ed, Bool.and_false] at z
    exact z
  | true =>
    refine if_yes rfl ?_
    refine ⟨_, rfl, a, rfl, ⟨_, sq⟩, fun D hD => ?_⟩
    refine lc_maps (K := K) (a := a) (l := l) (val := V.int) (out := fun z => V.bl (crd p z)) hD sq (by omega) ?_ ?_
    · intro i x H2 Q2 Nx hx s2 k
      refine ⟨rfl, ?_⟩
      unfold tYes
      refine iteT ?_
      exact ⟨_, rfl, _, rfl, x, p, rfl, tp, k H2 (Same.refl H2)⟩
    · intro H2 s2 hd
      refine ⟨D, l.map (crd p), rfl, SqL.of (by rw [hd, List.map_map]; rfl), ?_⟩
      have z := q H2 s2
      rw [er, ed, Bool.and_true] at z
      have e2 : (l.map (crd p)).all id = l.all (crd p) := by rw [List.all_map]; rfl
      rw [e2]
      exact z
theorem ok_is_order (F : Fun K "is_order" "is_order" s_is_order f fd) (n_sorted : mg "sorted" = none) (n_list : mg "list" = none) (n_range : mg "range" = none) : FnOk P w K mg base CX0 1 f fd ["numbers", "count"] (sp_isorder K) := by
  refine F.ok sc_is_order (fun vs H Q E h => ?_) (fun cdv A outer s H vs Q E hr h => ⟨_, (pss_one (ps_ret (pe_cmpR (op_eqD hr.units) (pe_callB cr_sortedI (by rfl) n_sorted (by decide +kernel) (pa_cons (pv 0) pa_nil)) (pe_listRg rfl (by rfl) n_list (prg_1 (by rfl) n_range (pv 1))) (nomark _)))), ?_⟩)
  · obtain ⟨a, l, n, rfl, _⟩ := h
    rfl
  obtain ⟨a, l, n, rfl, hn, sq, q⟩ := h
  refine ⟨_, rfl, a, l, rfl, sq, fun l' d hp hs hd => ?_⟩
  have sq1 : SqL K (upd H d (.lst (VI l'))) d (VI l') := SqL.of upd_same
  refine ⟨_, rfl, _, rfl, RgOk.of_le (by omega) (by omega) (by omega) (by omega), fun e he => ?_⟩
  have er : rgV 0 (n : Int) = VI ((List.range n).map fun i : Nat => (i : Int)) := by
    unfold rgV
    rw [show ((n : Int) - 0).toNat = n by omega]
    show _ = ((List.range n).map fun i : Nat => (i : Int)).map V.int
    rw [List.map_map]
    refine List.map_congr_left fun i _ => ?_
    show V.int (0 + (i : Int)) = V.int (i : Int)
    rw [Int.zero_add]
  have s1 : Same H (upd H d (.lst (VI l'))) := Same.new hd
  have s2 : Same (upd H d (.lst (VI l'))) (upd (upd H d (.lst (VI l'))) e (.lst (rgV 0 (n : Int)))) := Same.new he
  refine ⟨_, _, dp_ints (s2.seq sq1), dp_ints (l := (List.range n).map fun i : Nat => (i : Int)) (SqL.of (by rw [upd_same, er])), shaped_ints _, shaped_ints _, ?_⟩
  have z := q _ (s1.trans s2)
  have ev : Vbndal.isOrderArgument n l = decide (l' = (List.range n).map fun i : Nat => (i : Int)) := by
    rw [Bool.eq_iff_iff, decide_eq_true_iff, is_order hn]
    constructor
    · intro h
      refine List.Perm.eq_of_pairwise (fun _ _ _ _ a b => Int.le_antisymm a b) hs ?_ (hp.trans h)
      refine List.pairwise_map.mpr (List.pairwise_lt_range.imp fun {a b} h => ?_)
      omega
    · intro h
      rw [← h]
      exact hp.symm
  rw [eqv_ints, ← ev]
  exact z
theorem ok_parts_of (F : Fun K "parts_of" "parts_of" s_parts_of f fd) (n_range : mg "range" = none) (n_len : mg "len" = none) : FnOk P w K mg base CX0 1 f fd ["numbers", "length"] (sp_parts K) := by
  refine F.ok sc_parts_of (fun vs H Q E h => ?_) (fun cdv A outer s H vs Q E hr h => ⟨_, (pss_one (ps_ret (pe_lc (own := [("start", 2)]) (g := gName 2) rfl sc_parts_of.nd (pi_range3 rfl n_range (pa_cons pe_int (pa_cons (pe_callB call_len_seq (by rfl) n_len PySem.boot_len (pa_cons (pv 0) pa_nil)) (pa_cons (pv 1) pa_nil)))) (blkOk_by (N := n_parts_of) (sc := defScope s_parts_of) (by decide +kernel)) (fun _ _ _ _ _ => (pg_name (i := 2) sc_parts_of.nd rfl (Or.inl rfl))) (fun _ _ _ _ _ => pts_nil) (fun _ _ _ _ _ => (pe_slice (sl_list : SlR _ (rSlL K)) (pv 0) (po_some (pv 2)) (po_some (pe_op op_add (pv 2) (pv 1)))))))), ?_⟩)
  · obtain ⟨a, l, n, c, rfl, _⟩ := h
    rfl
  obtain ⟨a, l, n, c, rfl, sq, hl, h1000, hc1, hc2, q⟩ := h
  have el : (((VI l).length : Nat) : Int) = ((n * c : Nat) : Int) := by rw [List.length_map, hl]
  refine ⟨_, rfl, a, _, rfl, .inl sq, _, rfl, 0, _, _, n, rfl, by rw [el]; exact rgC_pos hc1 hc2 (by omega), fun D hD => ?_⟩
  refine lc_it walk_rangeC (fun j H' => Same H H' ∧ ∃ rs, H' D = some (.lst (rs.map V.ref)) ∧ Rws H' rs ((pieces n c l).take j) ∧ (∀ r ∈ rs, r ≠ D)) ⟨Same.new hD, [], by rw [upd_same]; rfl, Rws.nil _, fun r hr => by cases hr⟩ (fun _ _ _ _ => True.intro) ?_ ?_
  · rintro j x H1 H2 hj ⟨k1, rs, k2, k3, k4⟩ ⟨rfl, rfl⟩
    refine ⟨rfl, ?_⟩
    unfold tYes
    refine iteT ?_
    refine ⟨_, rfl, _, rfl, _, rfl, _, rfl, _, rfl, _, _, rfl, rfl, _, rfl, a, _, rfl, k1.seq sq, fun p hp => ?_⟩
    have npD : p ≠ D := fun z => by rw [z, k2] at hp; cases hp
    have sp : Same H2 (upd H2 p (.lst (cutV (VI l) (some (0 + (j : Int) * (c : Int))) (some (0 + (j : Int) * (c : Int) + (c : Int)))))) := Same.new hp
    have hjc : j * c + c ≤ n * c := by
      have := Nat.mul_le_mul_right c (show j + 1 ≤ n from hj)
      rw [Nat.succ_mul] at this
      exact this
    have ep : cutV (VI l) (some (0 + (j : Int) * (c : Int))) (some (0 + (j : Int) * (c : Int) + (c : Int))) = VI ((l.drop (j * c)).take c) := by
      have e1 : (0 + (j : Int) * (c : Int)) = ((j * c : Nat) : Int) := by rw [Int.zero_add, Int.natCast_mul]
      have e2 : (((j * c : Nat) : Int) + (c : Int)) = ((j * c + c : Nat) : Int) := by omega
      rw [e1, e2, cut_mid (by omega) (by rw [List.length_map]; omega), ← List.map_drop, ← List.map_take, show j * c + c - j * c = c by omega]
    have pj := piece_at (n := n) (c := c) (i := j) (l := l) hj
    have hlen : rs.length = j := by
      rw [k3.1, List.length_take, pieces_len]
      omega
    have nn : n ≤ n * c := Nat.le_mul_of_pos_right n hc1
    refine ⟨_, sp _ _ k2, by rw [List.length_map, hlen]; exact less_line (by omega), ⟨fun b o e => ?_, rs ++ [p], ?_, ?_, ?_⟩⟩
    · rw [upd_ne (ne_of_none e hD)]
      exact sp _ _ (k1 _ _ e)
    · rw [upd_same, List.map_append]
      rfl
    · rw [take_one pj]
      have r1 := (k3.same sp).snoc (d := p) (x := (l.drop (j * c)).take c) (by rw [upd_same, ep])
      refine ⟨r1.1, fun m b x e1 e2 => ?_⟩
      rw [upd_ne fun z => ?_]
      · exact r1.2 m b x e1 e2
      · subst z
        rcases List.mem_append.mp (List.mem_of_getElem? e1) with h | h
        · exact k4 _ h rfl
        · exact npD (List.mem_singleton.mp h).symm
    · intro r hr
      rcases List.mem_append.mp hr with h | h
      · exact k4 r h
      · rw [List.mem_singleton.mp h]
        exact npD
  · rintro H' ⟨k1, rs, k2, k3, k4⟩
    have e : (pieces n c l).take n = pieces n c l := by
      rw [List.take_of_length_le]
      rw [pieces_len]
      exact Nat.le_refl _
    rw [e] at k3
    exact q H' D rs k1 hD k2 k3
theorem ok_locked_row (F : Fun K "locked_row" "locked_row" s_locked_row f fd) (d_locked : Df P w K mg base CX0 2 "locked" sp_locked) : FnOk P w K mg base CX0 3 f fd ["row", "key", "prime"] (sp_lkrow K) := by
  refine F.ok sc_locked_row (fun vs H Q E h => ?_) (fun cdv A outer s H vs Q E hr h => ⟨_, (pss_one (ps_ret (pe_lc (own := [("card", 3)]) (g := gName 3) rfl sc_locked_row.nd (pi_list (pv 0)) (blkOk_by (N := n_locked_row) (sc := defScope s_locked_row) (by decide +kernel)) (fun _ _ _ _ _ => (pg_name (i := 3) sc_locked_row.nd rfl (Or.inl rfl))) (fun _ _ _ _ _ => pts_nil) (fun _ _ _ _ _ => (by exact (pe_d d_locked pass0 hr (by decide) rfl (pa_cons (pv 3) (pa_cons (pv 1) (pa_cons (pv 2) pa_nil))))))))), ?_⟩)
  · obtain ⟨a, l, k, p, rfl, _⟩ := h
    rfl
  obtain ⟨a, l, k, p, rfl, tp, hk, sq, hl, q⟩ := h
  refine ⟨_, rfl, a, rfl, ⟨_, sq⟩, fun D hD => ?_⟩
  refine lc_maps (K := K) (a := a) (l := l) (val := fun n : Nat => V.int n) (out := fun n : Nat => V.int (Vbndal.lockCard p n k : Nat)) hD sq (by omega) ?_ ?_
  · intro i x H2 Q2 Nx hx s2 kk
    refine ⟨rfl, ?_⟩
    unfold tYes
    refine iteT ?_
    exact ⟨_, rfl, _, rfl, _, rfl, x, k, p, rfl, tp, hk, kk H2 (Same.refl H2)⟩
  · intro H2 s2 hd
    refine q H2 D s2 hD ?_
    rw [hd]
    unfold lk
    show _ = some (HO.lst ((l.map fun x => Vbndal.lockCard p x k).map fun n : Nat => V.int n))
    rw [List.map_map]
    rfl
theorem ok_shuffled (F : Fun K "shuffled" "shuffled" s_shuffled f fd) (d_locked_row : Df P w K mg base CX0 3 "locked_row" (sp_lkrow K)) : FnOk P w K mg base CX0 4 f fd ["row", "key", "order", "prime"] (sp_shuf K) := by
  refine F.ok sc_shuffled (fun vs H Q E h => ?_) (fun cdv A outer s H vs Q E hr h => ⟨_, (pss_cons (ps_set (i := 4) sc_shuffled.nd rfl (Or.inr rfl) (by exact (pe_d d_locked_row pass0 hr (by decide) rfl (pa_cons (pv 0) (pa_cons (pv 1) (pa_cons (pv 3) pa_nil))))))
      (pss_one (ps_ret (pe_lc (own := [("place", 5)]) (g := gName 5) rfl sc_shuffled.nd (pi_list (pv 2)) (blkOk_by (N := n_shuffled) (sc := defScope s_shuffled) (by decide +kernel)) (fun _ _ _ _ _ => (pg_name (i := 5) sc_shuffled.nd rfl (Or.inl rfl))) (fun _ _ _ _ _ => pts_nil) (fun _ _ _ _ _ => (pe_ix (ix_list : IxR _ (rIxL K)) (pv 4) (pv 5) (fun _ _ => rfl))))))), ?_⟩)
  · obtain ⟨a, b, l, m, k, p, rfl, _⟩ := h
    rfl
  obtain ⟨a, b, l, m, k, p, rfl, tp, hk, sqa, sqb, hl, hm, hi, q⟩ := h
  refine ⟨_, rfl, _, rfl, _, rfl, a, l, k, p, rfl, tp, hk, sqa, hl, fun H1 d s1 nd hd => ?_⟩
  refine ⟨_, rfl, b, rfl, ⟨_, s1.seq sqb⟩, fun D hD => ?_⟩
  refine lc_maps (K := K) (a := b) (l := m) (val := fun n : Nat => V.int n) (out := fun i : Nat => V.int (Vbndal.lockCard p (l.getD i 0) k : Nat)) hD (s1.seq sqb) (by omega) ?_ ?_
  · intro i x H2 Q2 Nx hx s2 kk
    refine ⟨rfl, ?_⟩
    unfold tYes
    refine iteT ?_
    have hxl := hi x (List.mem_of_getElem? hx)
    refine ⟨_, rfl, _, rfl, d, _, _, V.int (Vbndal.lockCard p (l.getD x 0) k : Nat), rfl, rfl, s2.seq (SqL.of hd), atI_nat ?_, kk H2 (Same.refl H2)⟩
    unfold lk
    rw [List.getElem?_map, List.getElem?_map, List.getD_eq_getElem?_getD, List.getElem?_eq_getElem hxl] <;> rfl
  · intro H2 s2 hd2
    refine q H2 D (s1.trans s2) ?_ ?_
    · cases z : H D with
      | none => rfl
      | some o =>
        have z2 := s1 _ _ z
        rw [hD] at z2
        cases z2
    · rw [hd2]
      unfold Vbndal.shuffled
      show _ = some (HO.lst ((m.map fun i => Vbndal.lockCard p (l.getD i 0) k).map fun n : Nat => V.int n))
      rw [List.map_map]
      rfl
theorem ok_error_count (F : Fun K "error_count" "error_count" s_error_count f fd) (n_len : mg "len" = none) (d_locked_row : Df P w K mg base CX0 3 "locked_row" (sp_lkrow K)) : FnOk P w K mg base CX0 4 f fd ["row", "key", "cards", "prime"] (sp_errs K) := by
  refine F.ok sc_error_count (fun vs H Q E h => ?_) (fun cdv A outer s H vs Q E hr h => ⟨_, (pss_one (ps_ret (pe_callB call_len_seq (by rfl) n_len PySem.boot_len (pa_cons (pe_lc (own := [("card", 4)]) (g := gName 4) rfl sc_error_count.nd (pi_list (by exact (pe_d d_locked_row pass0 hr (by decide) rfl (pa_cons (pv 0) (pa_cons (pv 1) (pa_cons (pv 3) pa_nil)))))) (blkOk_by (N := n_error_count) (sc := defScope s_error_count) (by decide +kernel)) (fun _ _ _ _ _ => (pg_name (i := 4) sc_error_count.nd rfl (Or.inl rfl))) (fun _ _ _ _ _ => (pts_one (pt_cmpR (op_notIn_seq : OpR _ _ (rIn K true)) (pv 4) (pv 2) (by rfl)))) (fun _ _ _ _ _ => (pv 4))) pa_nil)))), ?_⟩)
  · obtain ⟨a, b, l, r, k, p, rfl, _⟩ := h
    rfl
  obtain ⟨a, b, l, r, k, p, rfl, tp, hk, sqa, sqb, hl, q⟩ := h
  refine ⟨_, rfl, _, rfl, _, rfl, a, l, k, p, rfl, tp, hk, sqa, hl, fun H1 d s1 nd hd => ?_⟩
  have sqd : SqL K H1 d (VN (lk p l k)) := SqL.of hd
  refine ⟨d, rfl, ⟨_, sqd⟩, fun D hD => ?_⟩
  refine lc_list (K := K) (a := d) (xs := VN (lk p l k)) (fun j H' => Same H1 H' ∧ H' D = some (.lst (VN (errs ((lk p l k).take j) r)))) ⟨Same.new hD, by rw [upd_same]; rfl⟩ (fun j H' _ z => z.1.seq sqd) ?_ ?_
  · rintro j y H' hj ⟨k1, k2⟩
    obtain ⟨x, hx, rfl⟩ := map_at hj
    refine ⟨rfl, ?_⟩
    refine ⟨_, rfl, _, rfl, b, _, rfl, .inl ((s1.trans k1).seq sqb), rfl, flat_nats r, _, rfl, ?_⟩
    rw [in_nats]
    have es : errs ((lk p l k).take (j + 1)) r = errs ((lk p l k).take j) r ++ errs [x] r := by
      rw [take_one hx]
      unfold errs
      rw [List.filter_append]
    cases c : r.contains x with
    | true =>
      refine if_no rfl ⟨k1, ?_⟩
      have e1 : errs [x] r = [] := List.filter_cons_of_neg (by rw [c]; decide)
      rw [es, e1, List.append_nil]
      exact k2
    | false =>
      refine if_yes rfl ?_
      refine ⟨_, rfl, _, k2, ?_, fun b' o e => ?_, ?_⟩
      · rw [List.length_map]
        have h1 := List.length_filter_le (fun x => !r.contains x) ((lk p l k).take j)
        rw [List.length_take, lk_len] at h1
        exact less_line (Nat.lt_of_le_of_lt h1 (by omega))
      · rw [upd_ne (ne_of_none e hD)]
        exact k1 _ _ e
      · have e1 : errs [x] r = [x] := List.filter_cons_of_pos (by rw [c]; decide)
        rw [upd_same, es, e1, vn_snoc]
  · rintro H' ⟨k1, k2⟩
    rw [List.length_map, List.take_length] at k2
    refine ⟨D, _, rfl, .inl (SqL.of k2), ?_⟩
    rw [List.length_map]
    exact q H' (s1.trans k1)
theorem ok_matching_order (F : Fun K "matching_order" "matching_order" s_matching_order f fd) (d_locked_row : Df P w K mg base CX0 3 "locked_row" (sp_lkrow K)) : FnOk P w K mg base CX0 4 f fd ["row", "key", "cards", "prime"] (sp_match K) := by
  refine F.ok sc_matching_order (fun vs H Q E h => ?_) (fun cdv A outer s H vs Q E hr h => ⟨_, (pss_cons (ps_set (i := 4) sc_matching_order.nd rfl (Or.inr rfl) (by exact (pe_d d_locked_row pass0 hr (by decide) rfl (pa_cons (pv 0) (pa_cons (pv 1) (pa_cons (pv 3) pa_nil))))))
      (pss_one (ps_ret (pe_lc (own := [("card", 5)]) (g := gName 5) rfl sc_matching_order.nd (pi_list (pv 2)) (blkOk_by (N := n_matching_order) (sc := defScope s_matching_order) (by decide +kernel)) (fun _ _ _ _ _ => (pg_name (i := 5) sc_matching_order.nd rfl (Or.inl rfl))) (fun _ _ _ _ _ => pts_nil) (fun _ _ _ _ _ => (show PE _ _ (tBM K _ (rIndex K) _ _) from pe_bm PySem.F.plainAttrs_list PySem.F.slot_list_index PySem.F.type_list_index mt_index (pv 4) (pa_cons (pv 5) pa_nil))))))), ?_⟩)
  · obtain ⟨a, b, l, r, k, p, rfl, _⟩ := h
    rfl
  obtain ⟨a, b, l, r, k, p, rfl, tp, hk, sqa, sqb, hl, hrl, hin, q⟩ := h
  refine ⟨_, rfl, _, rfl, _, rfl, a, l, k, p, rfl, tp, hk, sqa, hl, fun H1 d s1 nd hd => ?_⟩
  refine ⟨_, rfl, b, rfl, ⟨_, s1.seq sqb⟩, fun D hD => ?_⟩
  refine lc_maps (K := K) (a := b) (l := r) (val := fun n : Nat => V.int n) (out := fun y : Nat => V.int ((lk p l k).idxOf y : Nat)) hD (s1.seq sqb) (by omega) ?_ ?_
  · intro i x H2 Q2 Nx hx s2 kk
    refine ⟨rfl, ?_⟩
    unfold tYes
    refine iteT ?_
    have hxl := hin x (List.mem_of_getElem? hx)
    have sqd : SqL K H2 d (VN (lk p l k)) := s2.seq (SqL.of hd)
    refine ⟨_, rfl, .inl ⟨rfl, _, sqd⟩, _, rfl, d, _, _, (lk p l k).idxOf x, V.int x, rfl, rfl, sqd, rfl, flat_nats _, ?_, (beq_self_eq_true (x : Int) : ((x : Int) == (x : Int)) = true), ?_, kk H2 (Same.refl H2)⟩
    · have e := List.getElem_idxOf (x := x) (xs := lk p l k) (h := idx_lt hxl)
      rw [List.getElem?_map, List.getElem?_eq_getElem (idx_lt hxl), e] <;> rfl
    · intro m z hm hz
      obtain ⟨y, hy, rfl⟩ := map_at hz
      have hml : m < (lk p l k).length := (List.getElem?_eq_some_iff.mp hy).1
      have ne : y ≠ x := by
        have h2 := List.not_of_lt_findIdx (p := fun y => y == x) (xs := lk p l k) hm
        rw [(List.getElem?_eq_some_iff.mp hy).2] at h2
        simpa using h2
      exact beq_false_of_ne fun e => ne (Int.ofNat.inj e)
  · intro H2 s2 hd2
    refine q H2 D (s1.trans s2) ?_ ?_
    · cases z : H D with
      | none => rfl
      | some o =>
        have z2 := s1 _ _ z
        rw [hD] at z2
        cases z2
    · rw [hd2]
      show _ = some (HO.lst ((r.map fun y => (lk p l k).idxOf y).map fun n : Nat => V.int n))
      rw [List.map_map]
      rfl
theorem nats_dup (o : List Nat) : ((o.map fun n : Nat => (n : Int)).eraseDups.length == (o.map fun n : Nat => (n : Int)).length) = decide (o.eraseDups.length = o.length) := by
  rw [Bool.eq_iff_iff, beq_iff_eq, decide_eq_true_iff, ed_iff, ed_iff]
  exact List.pairwise_map.trans ⟨fun h => h.imp fun {a b} h e => h (by rw [e]), fun h => h.imp fun {a b} h e => h (Int.ofNat.inj e)⟩
theorem ok_remaining_count (F : Fun K "remaining_count" "remaining_count" s_remaining_count f fd) (d_factorial : Df P w K mg base CX0 1 "factorial" sp_fact) (d_all_different : Df P w K mg base CX0 1 "all_different" (sp_alldiff K)) (n_len : mg "len" = none) : FnOk P w K mg base CX0 2 f fd ["card_count", "positions"] (sp_remc K) := by
  refine F.ok sc_remaining_count (fun vs H Q E h => ?_) (fun cdv A outer s H vs Q E hr h => ⟨_, (pss_cons (ps_if (pt_not (pt_val (by exact (pe_d d_all_different pass0 hr (by decide) rfl (pa_cons (pv 1) pa_nil)))))
      (pss_one (ps_ret pe_int))
      pss_nil)
      (pss_one (ps_ret (by exact (pe_d d_factorial pass0 hr (by decide) rfl (pa_cons (pe_op op_sub (pv 0) (pe_callB call_len_seq (by rfl) n_len PySem.boot_len (pa_cons (pv 1) pa_nil))) pa_nil)))))), ?_⟩)
  · obtain ⟨a, o, n, rfl, _⟩ := h
    rfl
  obtain ⟨a, o, n, rfl, sq, hl, hn, hle, q⟩ := h
  have ev : VN o = VI (o.map fun n : Nat => (n : Int)) := by
    show _ = (o.map fun n : Nat => (n : Int)).map V.int
    rw [List.map_map]
    rfl
  refine ⟨_, rfl, a, (o.map fun n : Nat => (n : Int)), rfl, by rw [← ev]; exact sq, by rw [List.length_map]; exact hl, _, rfl, ?_⟩
  rw [nats_dup]
  by_cases c : o.eraseDups.length = o.length
  · rw [if_pos c] at q
    refine if_no (by rw [decide_eq_true c]; rfl) ?_
    have hlo := hle (ed_iff.mp c)
    refine ⟨_, rfl, _, rfl, a, _, rfl, .inl sq, _, _, rfl, rfl, n - o.length, ?_, by omega, q⟩
    rw [List.length_map]
    have e : ((n - o.length : Nat) : Int) = (n : Int) - (o.length : Int) := by omega
    rw [e]
    rfl
  · rw [if_neg c] at q
    exact if_yes (by rw [decide_eq_false c]; rfl) q
end
end Cl
set_option Elab.async false
set_option linter.unusedVariables false
set_option maxRecDepth 100000
set_option maxHeartbeats 4000000
/-! # The session -/
namespace Cl
open PySem PySem.Spec PyProof.Rows L2
abbrev s_Session___init__ : Stmt := inClass (top 111) 0
abbrev n_Session___init__ : List Str := ["self"]
theorem sc_Session___init__ : FnScope n_Session___init__ ["self"] (defScope s_Session___init__) := ⟨rfl, rfl, rfl, by decide +kernel, rfl, by decide +kernel, by decide +kernel⟩
abbrev s_needed_table : Stmt := top 112
abbrev n_needed_table : List Str := ["session"]
theorem sc_needed_table : FnScope n_needed_table ["session"] (defScope s_needed_table) := ⟨rfl, rfl, rfl, by decide +kernel, rfl, by decide +kernel, by decide +kernel⟩
def seF (v : V) : List (Str × V) := [("table", v)]
theorem seF_table {v : V} : (seF v).lookup ("table" : Str) = some v := lkh
theorem seF_put {v x : V} : putF "table" x (seF v) = seF x := pth
structure SeT (K : Fr) (Cs : Addr) : Prop where
  cl : Cls K Cs
  n1 : NoAttr K Cs "table"
/-- the session at a holds st -/
def SeAt (Av : Addr → Prop) (Cs Cb : Addr) (H : Hp) (a : Addr) (st : Option Vbndal.Table) : Prop := ∃ dx v, H a = some (.ins Cs dx (seF v)) ∧ (match st with
  | none => v = .non
  | some t => ∃ b, v = .ref b ∧ TabAv Av Cb H b t ∧ TOk t)
theorem SeAt.same {Av : Addr → Prop} {Cs Cb : Addr} {H H' : Hp} {a : Addr} {st : Option Vbndal.Table} (h : SeAt Av Cs Cb H a st) (s : Same H H') : SeAt Av Cs Cb H' a st := by
  obtain ⟨dx, v, h1, h2⟩ := h
  refine ⟨dx, v, s _ _ h1, ?_⟩
  cases st with
  | none => exact h2
  | some t =>
    obtain ⟨b, e, h3, h4⟩ := h2
    exact ⟨b, e, h3.same s, h4⟩
def sp_se_init (Cs : Addr) : Sp := fun vs H Q _ => ∃ p dx : Addr, vs = [.ref p] ∧ H p = some (.ins Cs dx []) ∧ ∀ H', H' p = some (.ins Cs dx (seF .non)) → But p H H' → Q .non H'
def sp_needed (Cs Cb Cn : Addr) : Sp := fun vs H Q E => ∃ (Av : Addr → Prop) (a : Addr) (st : Option Vbndal.Table), vs = [.ref a] ∧ SeAt Av Cs Cb H a st ∧ (match st with
  | none => E (.ref Cn) none H
  | some t => TOk t → ∀ b, TabAt Cb H b t → Q (.ref b) H)
section
variable {P : Program} {w : World} {K : Fr} {mg : Str → Option Value} {base : Heap} {f : Addr} {fd : FuncData} {Cs Cb Cn Cw Cx Cc : Addr}
theorem ok_Session_init (T : SeT K Cs) (F : Fun K "__init__" "Session.__init__" s_Session___init__ f fd)  : FnOk P w K mg base CX0 1 f fd ["self"] (sp_se_init Cs) := by
  refine F.ok sc_Session___init__ (fun vs H Q E h => ?_) (fun cdv A outer s H vs Q E hr h => ⟨_, (pss_one (ps_fld (pv 0) pe_non rfl)), ?_⟩)
  · obtain ⟨p, dx, rfl, _⟩ := h
    rfl
  obtain ⟨p, dx, rfl, hp, k⟩ := h
  refine ⟨_, rfl, p, Cs, dx, _, rfl, hp, T.cl, T.n1, (by show 0 < 1000; decide), ?_⟩
  exact k _ upd_same But.upd
theorem ok_needed_table (T : SeT K Cs) (F : Fun K "needed_table" "needed_table" s_needed_table f fd) (x_NoTable : Xp K mg "NoTable" Cn) : FnOk P w K mg base (L2.CX P w) 1 f fd ["session"] (sp_needed Cs Cb Cn) := by
  refine F.okX sc_needed_table (fun vs H Q E h => ?_) (fun cdv A outer s H vs Q E hr h => ⟨_, (pss_cons (ps_if (pt_cmpR op_isN (pe_fld (pv 0) rfl) pe_non (nomark _))
      (pss_one (ps_raise rfl (takes_of rfl rfl rfl rfl) (pmk_own0 x_NoTable rfl)))
      pss_nil)
      (pss_one (ps_ret (pe_fld (pv 0) rfl)))), ?_⟩)
  · obtain ⟨Av, a, st, rfl, _⟩ := h
    rfl
  obtain ⟨Av, a, st, rfl, ⟨dx, v, h1, h2⟩, q⟩ := h
  refine ⟨_, rfl, a, Cs, dx, _, _, rfl, h1, T.cl, T.n1, seF_table, rfl, _, rfl, ?_⟩
  cases st with
  | none =>
    have e : v = .non := h2
    subst e
    exact if_yes rfl q
  | some t =>
    obtain ⟨b, rfl, h3, h4⟩ := h2
    refine if_no rfl ?_
    exact ⟨_, rfl, a, Cs, dx, _, _, rfl, h1, T.cl, T.n1, seF_table, q h4 b h3.at⟩
end
end Cl
set_option Elab.async false
set_option linter.unusedVariables false
set_option maxRecDepth 100000
set_option maxHeartbeats 4000000
/-! # The checks of the arguments -/
namespace Cl
open PySem PySem.Spec PyProof.Rows L2
abbrev s_need : Stmt := top 41
abbrev n_need : List Str := ["condition"]
theorem sc_need : FnScope n_need ["condition"] (defScope s_need) := ⟨rfl, rfl, rfl, by decide +kernel, rfl, by decide +kernel, by decide +kernel⟩
abbrev s_checked_text : Stmt := top 42
abbrev n_checked_text : List Str := ["numbers", "number"]
theorem sc_checked_text : FnScope n_checked_text ["numbers"] (defScope s_checked_text) := ⟨rfl, rfl, rfl, by decide +kernel, rfl, by decide +kernel, by decide +kernel⟩
abbrev s_checked_card : Stmt := top 43
abbrev n_checked_card : List Str := ["number", "prime"]
theorem sc_checked_card : FnScope n_checked_card ["number", "prime"] (defScope s_checked_card) := ⟨rfl, rfl, rfl, by decide +kernel, rfl, by decide +kernel, by decide +kernel⟩
abbrev s_checked_key : Stmt := top 44
abbrev n_checked_key : List Str := ["number", "prime"]
theorem sc_checked_key : FnScope n_checked_key ["number", "prime"] (defScope s_checked_key) := ⟨rfl, rfl, rfl, by decide +kernel, rfl, by decide +kernel, by decide +kernel⟩
abbrev s_checked_keys : Stmt := top 45
abbrev n_checked_keys : List Str := ["numbers", "prime", "number"]
theorem sc_checked_keys : FnScope n_checked_keys ["numbers", "prime"] (defScope s_checked_keys) := ⟨rfl, rfl, rfl, by decide +kernel, rfl, by decide +kernel, by decide +kernel⟩
abbrev s_checked_row : Stmt := top 46
abbrev n_checked_row : List Str := ["numbers", "prime"]
theorem sc_checked_row : FnScope n_checked_row ["numbers", "prime"] (defScope s_checked_row) := ⟨rfl, rfl, rfl, by decide +kernel, rfl, by decide +kernel, by decide +kernel⟩
abbrev s_checked_cards : Stmt := top 47
abbrev n_checked_cards : List Str := ["numbers", "count", "prime", "number"]
theorem sc_checked_cards : FnScope n_checked_cards ["numbers", "count", "prime"] (defScope s_checked_cards) := ⟨rfl, rfl, rfl, by decide +kernel, rfl, by decide +kernel, by decide +kernel⟩
abbrev s_checked_order : Stmt := top 48
abbrev n_checked_order : List Str := ["numbers", "count"]
theorem sc_checked_order : FnScope n_checked_order ["numbers", "count"] (defScope s_checked_order) := ⟨rfl, rfl, rfl, by decide +kernel, rfl, by decide +kernel, by decide +kernel⟩
abbrev s_checked_position : Stmt := top 49
abbrev n_checked_position : List Str := ["number", "count"]
theorem sc_checked_position : FnScope n_checked_position ["number", "count"] (defScope s_checked_position) := ⟨rfl, rfl, rfl, by decide +kernel, rfl, by decide +kernel, by decide +kernel⟩
abbrev s_checked_shown : Stmt := top 50
abbrev n_checked_shown : List Str := ["numbers", "count", "prime", "pairs", "position", "key"]
theorem sc_checked_shown : FnScope n_checked_shown ["numbers", "count", "prime"] (defScope s_checked_shown) := ⟨rfl, rfl, rfl, by decide +kernel, rfl, by decide +kernel, by decide +kernel⟩
abbrev s_checked_revealed : Stmt := top 51
abbrev n_checked_revealed : List Str := ["numbers", "table", "number"]
theorem sc_checked_revealed : FnScope n_checked_revealed ["numbers", "table"] (defScope s_checked_revealed) := ⟨rfl, rfl, rfl, by decide +kernel, rfl, by decide +kernel, by decide +kernel⟩
abbrev s_checked_announced : Stmt := top 52
abbrev n_checked_announced : List Str := ["numbers", "table"]
theorem sc_checked_announced : FnScope n_checked_announced ["numbers", "table"] (defScope s_checked_announced) := ⟨rfl, rfl, rfl, by decide +kernel, rfl, by decide +kernel, by decide +kernel⟩
abbrev s_checked_lists : Stmt := top 53
abbrev n_checked_lists : List Str := ["numbers", "table", "count"]
theorem sc_checked_lists : FnScope n_checked_lists ["numbers", "table"] (defScope s_checked_lists) := ⟨rfl, rfl, rfl, by decide +kernel, rfl, by decide +kernel, by decide +kernel⟩
abbrev s_checked_orders : Stmt := top 54
abbrev n_checked_orders : List Str := ["numbers", "table", "count", "part"]
theorem sc_checked_orders : FnScope n_checked_orders ["numbers", "table"] (defScope s_checked_orders) := ⟨rfl, rfl, rfl, by decide +kernel, rfl, by decide +kernel, by decide +kernel⟩
abbrev s_checked_number : Stmt := top 55
abbrev n_checked_number : List Str := ["number", "prime"]
theorem sc_checked_number : FnScope n_checked_number ["number", "prime"] (defScope s_checked_number) := ⟨rfl, rfl, rfl, by decide +kernel, rfl, by decide +kernel, by decide +kernel⟩
abbrev s_checked_exponent : Stmt := top 56
abbrev n_checked_exponent : List Str := ["number", "prime"]
theorem sc_checked_exponent : FnScope n_checked_exponent ["number", "prime"] (defScope s_checked_exponent) := ⟨rfl, rfl, rfl, by decide +kernel, rfl, by decide +kernel, by decide +kernel⟩
/-- if b, then Q behind; else the error -/
def Chk (Cw : Addr) (H : Hp) (b : Bool) (Q : Hp → Prop) (E : XK) : Prop := (b = true → ∀ H', Same H H' → Q H') ∧ (b = false → ∀ H', Same H H' → E (.ref Cw) none H')
def sp_need (Cw : Addr) : Sp := fun vs H Q E => ∃ c : Bool, vs = [.bl c] ∧ (c = true → Q .non H) ∧ (c = false → E (.ref Cw) none H)
def sp_ctext (K : Fr) (Cw : Addr) : Sp := fun vs H Q E => ∃ (a : Addr) (l : List Int), vs = [.ref a] ∧ SqL K H a (VI l) ∧ l.length ≤ 900 ∧ (Vbndal.isTextArgument l = true → Q (.ref a) H) ∧ (Vbndal.isTextArgument l = false → E (.ref Cw) none H)
def sp_ccard (Cw : Addr) : Sp := fun vs H Q E => ∃ (x : Int) (p : Nat), vs = [.int x, .int p] ∧ TP p ∧ (crd p x = true → Q (.int x) H) ∧ (crd p x = false → E (.ref Cw) none H)
def sp_ckey (Cw : Addr) : Sp := fun vs H Q E => ∃ (x : Int) (p : Nat), vs = [.int x, .int p] ∧ TP p ∧ (kyd p x = true → Q (.int x) H) ∧ (kyd p x = false → E (.ref Cw) none H)
def sp_ckeys (K : Fr) (Cw : Addr) : Sp := fun vs H Q E => ∃ (a : Addr) (l : List Int) (p : Nat), vs = [.ref a, .int p] ∧ TP p ∧ SqL K H a (VI l) ∧ l.length ≤ 900 ∧
  Chk Cw H (decide (l.length ≤ 20) && l.all (kyd p)) (fun H' => ∀ d, H d = none → H' d = some (.lst (VI l)) → Q (.ref d) H') E
def sp_crow (K : Fr) (Cw : Addr) : Sp := fun vs H Q E => ∃ (a : Addr) (l : List Int) (p : Nat), vs = [.ref a, .int p] ∧ TP p ∧ SqL K H a (VI l) ∧ Chk Cw H (rowd p l) (fun H' => Q (.ref a) H') E
def sp_ccards (K : Fr) (Cw : Addr) : Sp := fun vs H Q E => ∃ (a : Addr) (l : List Int) (n p : Nat), vs = [.ref a, .int n, .int p] ∧ TP p ∧ SqL K H a (VI l) ∧ l.length ≤ 900 ∧
  Chk Cw H (l.length == n && l.all (crd p)) (fun H' => ∀ d, H d = none → H' d = some (.lst (VI l)) → Q (.ref d) H') E
def sp_corder (K : Fr) (Cw : Addr) : Sp := fun vs H Q E => ∃ (a : Addr) (l : List Int) (n : Nat), vs = [.ref a, .int n] ∧ n ≤ 10 ∧ SqL K H a (VI l) ∧ Chk Cw H (Vbndal.isOrderArgument n l) (fun H' => Q (.ref a) H') E
def sp_cpos (Cw : Addr) : Sp := fun vs H Q E => ∃ (z : Int) (n : Nat), vs = [.int z, .int n] ∧ (Vbndal.inRange z 0 ((n : Int) - 1) = true → Q (.int z) H) ∧ (Vbndal.inRange z 0 ((n : Int) - 1) = false → E (.ref Cw) none H)
def sp_cnum (Cw : Addr) : Sp := fun vs H Q E => ∃ (z : Int) (p : Nat), vs = [.int z, .int p] ∧ (Vbndal.inRange z 1 ((p : Int) - 1) = true → Q (.int z) H) ∧ (Vbndal.inRange z 1 ((p : Int) - 1) = false → E (.ref Cw) none H)
def sp_cexp (Cw : Addr) : Sp := fun vs H Q E => ∃ (z : Int) (p : Nat), vs = [.int z, .int p] ∧ 1 ≤ p ∧ ((Vbndal.inRange z 1 ((p : Int) - 1) && Vbndal.isCoprimeExponent p z.toNat) = true → Q (.int z) H) ∧
  ((Vbndal.inRange z 1 ((p : Int) - 1) && Vbndal.isCoprimeExponent p z.toNat) = false → E (.ref Cw) none H)
section
variable {P : Program} {w : World} {K : Fr} {mg : Str → Option Value} {base : Heap} {f : Addr} {fd : FuncData} {Cs Cb Cn Cw Cx Cc : Addr}
theorem ok_need (F : Fun K "need" "need" s_need f fd) (x_WrongArgument : Xp K mg "WrongArgument" Cw) : FnOk P w K mg base (L2.CX P w) 1 f fd ["condition"] (sp_need Cw) := by
  refine F.okX sc_need (fun vs H Q E h => ?_) (fun cdv A outer s H vs Q E hr h => ⟨_, (pss_one (ps_if (pt_not (pt_truth (pv 0) (by intro _; rfl)))
      (pss_one (ps_raise rfl (takes_of rfl rfl rfl rfl) (pmk_own0 x_WrongArgument rfl)))
      pss_nil)), ?_⟩)
  · obtain ⟨c, rfl, _⟩ := h
    rfl
  obtain ⟨c, rfl, q1, q2⟩ := h
  refine ⟨_, rfl, _, rfl, ?_⟩
  cases c with
  | true => exact if_no rfl (q1 rfl)
  | false => exact if_yes rfl (q2 rfl)
theorem ok_checked_text (F : Fun K "checked_text" "checked_text" s_checked_text f fd) (d_need : Df P w K mg base (L2.CX P w) 1 "need" (sp_need Cw)) (c_MOST_BYTES : Gv mg "MOST_BYTES" (.int 800)) (n_len : mg "len" = none) (c_GREATEST_BYTE : Gv mg "GREATEST_BYTE" (.int 255)) : FnOk P w K mg base (L2.CX P w) 2 f fd ["numbers"] (sp_ctext K Cw) := by
  refine F.okX sc_checked_text (fun vs H Q E h => ?_) (fun cdv A outer s H vs Q E hr h => ⟨_, (pss_cons (ps_expr (by exact (pe_d d_need (pass_up (takes_of rfl rfl rfl rfl)) hr (by decide) rfl (pa_cons (pe_cmpR op_le (pe_callB call_len_seq (by rfl) n_len PySem.boot_len (pa_cons (pv 0) pa_nil)) (pe_gv rfl c_MOST_BYTES) (nomark _)) pa_nil))))
      (pss_cons (ps_for (passes_of rfl) rfl (pi_list (pv 0)) (pg_name (i := 1) sc_checked_text.nd rfl (Or.inl rfl))
      (pss_one (ps_expr (by exact (pe_d d_need (pass_up (takes_of rfl rfl rfl rfl)) hr (by decide) rfl (pa_cons (pe_and (pe_cmpR op_ge (pv 1) pe_int (nomark _)) (pe_one (pe_cmpR op_le (pv 1) (pe_gv rfl c_GREATEST_BYTE) (nomark _)))) pa_nil))))))
      (pss_one (ps_ret (pv 0))))), ?_⟩)
  · obtain ⟨a, l, rfl, _⟩ := h
    rfl
  obtain ⟨a, l, rfl, sq, h9, q1, q2⟩ := h
  have hl : (((VI l).length : Nat) : Int) = (l.length : Int) := by rw [List.length_map]
  refine ⟨_, rfl, a, _, rfl, .inl sq, _, _, rfl, rfl, _, rfl, fun h => ?_, fun h => q2 ?_⟩
  · have c : l.length ≤ 800 := by
      have := of_decide_eq_true h
      rw [hl] at this
      omega
    have e1 : Vbndal.isTextArgument l = l.all fun z => Vbndal.inRange z 0 255 := by
      unfold Vbndal.isTextArgument Vbndal.maxTextLength
      rw [decide_eq_true (by omega), Bool.true_and]
    rw [e1] at q1 q2
    refine ⟨_, rfl, a, rfl, ⟨_, sq⟩, for_list (K := K) (a := a) (xs := VI l) (fun i σ H' => H' = H ∧ (∃ v, σ = [some (.ref a), v]) ∧ ∀ z ∈ l.take i, Vbndal.inRange z 0 255 = true)
      ⟨rfl, ⟨none, rfl⟩, fun z hz => by simp at hz⟩ (fun i σ H' _ z => by rw [z.1]; exact sq) ?_ ?_⟩
    · rintro i y σ H' hi ⟨rfl, ⟨v, rfl⟩, inv⟩
      obtain ⟨z, hz, rfl⟩ := map_at hi
      have hm := List.mem_of_getElem? hz
      have bad : Vbndal.inRange z 0 255 = false → E (.ref Cw) none H' := fun hzr => q2 (by
        cases e : l.all fun z => Vbndal.inRange z 0 255 with
        | false => rfl
        | true =>
          rw [List.all_eq_true.mp e z hm] at hzr
          cases hzr)
      refine ⟨_, rfl, _, _, rfl, rfl, _, rfl, ?_⟩
      by_cases c1 : 0 ≤ z
      · refine if_yes (decide_eq_true c1) ?_
        refine ⟨_, rfl, _, _, rfl, rfl, _, rfl, fun h => ⟨rfl, ⟨_, rfl⟩, fun y hy => ?_⟩, fun h => bad ?_⟩
        · rw [take_one hz] at hy
          rcases List.mem_append.mp hy with hy | hy
          · exact inv y hy
          · rw [List.mem_singleton.mp hy]
            unfold Vbndal.inRange
            rw [decide_eq_true c1, Bool.true_and]
            exact h
        · unfold Vbndal.inRange
          rw [decide_eq_true c1, Bool.true_and]
          exact h
      · refine if_no (decide_eq_false c1) ?_
        refine ⟨_, rfl, fun h => absurd h Bool.false_ne_true, fun h => bad ?_⟩
        unfold Vbndal.inRange
        rw [decide_eq_false c1, Bool.false_and]
    · rintro σ H' ⟨rfl, ⟨v, rfl⟩, inv⟩
      rw [List.length_map, List.take_length] at inv
      exact ⟨_, rfl, q1 (List.all_eq_true.mpr inv)⟩
  · have c : ¬ l.length ≤ 800 := by
      have := of_decide_eq_false h
      rw [hl] at this
      omega
    unfold Vbndal.isTextArgument Vbndal.maxTextLength
    rw [decide_eq_false c, Bool.false_and]
theorem ok_checked_card (F : Fun K "checked_card" "checked_card" s_checked_card f fd) (d_need : Df P w K mg base (L2.CX P w) 1 "need" (sp_need Cw)) (d_is_card : Df P w K mg base CX0 3 "is_card" sp_card) : FnOk P w K mg base (L2.CX P w) 4 f fd ["number", "prime"] (sp_ccard Cw) := by
  refine F.okX sc_checked_card (fun vs H Q E h => ?_) (fun cdv A outer s H vs Q E hr h => ⟨_, (pss_cons (ps_expr (by exact (pe_d d_need (pass_up (takes_of rfl rfl rfl rfl)) hr (by decide) rfl (pa_cons (by exact (pe_d d_is_card pass0 hr (by decide) rfl (pa_cons (pv 0) (pa_cons (pv 1) pa_nil)))) pa_nil))))
      (pss_one (ps_ret (pv 0)))), ?_⟩)
  · obtain ⟨x, p, rfl, _⟩ := h
    rfl
  obtain ⟨x, p, rfl, tp, q1, q2⟩ := h
  exact ⟨_, rfl, _, rfl, x, p, rfl, tp, _, rfl, fun h => ⟨_, rfl, q1 h⟩, q2⟩
theorem ok_checked_key (F : Fun K "checked_key" "checked_key" s_checked_key f fd) (d_need : Df P w K mg base (L2.CX P w) 1 "need" (sp_need Cw)) (d_is_key : Df P w K mg base CX0 2 "is_key" sp_key) : FnOk P w K mg base (L2.CX P w) 3 f fd ["number", "prime"] (sp_ckey Cw) := by
  refine F.okX sc_checked_key (fun vs H Q E h => ?_) (fun cdv A outer s H vs Q E hr h => ⟨_, (pss_cons (ps_expr (by exact (pe_d d_need (pass_up (takes_of rfl rfl rfl rfl)) hr (by decide) rfl (pa_cons (by exact (pe_d d_is_key pass0 hr (by decide) rfl (pa_cons (pv 0) (pa_cons (pv 1) pa_nil)))) pa_nil))))
      (pss_one (ps_ret (pv 0)))), ?_⟩)
  · obtain ⟨x, p, rfl, _⟩ := h
    rfl
  obtain ⟨x, p, rfl, tp, q1, q2⟩ := h
  exact ⟨_, rfl, _, rfl, x, p, rfl, tp, _, rfl, fun h => ⟨_, rfl, q1 h⟩, q2⟩
/-- a comprehension over a list of numbers, each of them tested -/
theorem lc_test {K : Fr} {a : Addr} {l : List Int} {t : Int → Bool} {g : TG} {tt : TT} {te : TE} {vs : List Nat} {σ : L2.St} {H1 : Hp} {D : Addr} {Qd : Hp → Prop} (hD : H1 D = none) (hl : SqL K H1 a (VI l)) (hlen : l.length ≤ 900)
    (hs : ∀ (i : Nat) (x : Int) (H : Hp) (Q : V → Hp → Prop) (Nx : Hp → Prop), l[i]? = some x → Same H1 H → (t x = true → Q (.int x) H) → g (.int x) (wipe σ vs) H fun σ2 H2 => wipe σ2 vs = wipe σ vs ∧ tt σ2 H2 fun b H3 => if b = true then te σ2 H3 Q else Nx H3)
    (hd : ∀ H', l.all t = true → Same H1 H' → H' D = some (.lst (VI l)) → Qd H') :
    ∃ W : Nat → Nat → Hp → Prop, (∃ m, W 0 m (upd H1 D (.lst []))) ∧ ∀ i m H, W i m H →
      ((Itl K a).stop i H ∧ Qd H) ∨ ((Itl K a).go i H ∧ ∃ Nx : Hp → Prop, (∀ H', Nx H' → ∃ m', m' < m ∧ W (i + 1) m' H') ∧ ∀ x H', (Itl K a).yld i H x H' → g x (wipe σ vs) H' fun σ2 H2 => wipe σ2 vs = wipe σ vs ∧ tt σ2 H2 fun b H3 =>
        if b = true then te σ2 H3 fun y H4 => ∃ acc, H4 D = some (.lst acc) ∧ acc.length < sizeLine ∧ Nx (upd H4 D (.lst (acc ++ [y]))) else Nx H3) := by
  refine lc_list (K := K) (a := a) (xs := VI l) (fun j H' => Same H1 H' ∧ H' D = some (.lst (VI (l.take j))) ∧ ∀ z ∈ l.take j, t z = true) ⟨Same.new hD, by rw [upd_same]; rfl, fun z hz => by simp at hz⟩ (fun j H' _ z => z.1.seq hl) ?_ ?_
  · rintro j y H' hj ⟨k1, k2, k3⟩
    obtain ⟨z, hz, rfl⟩ := map_at hj
    refine hs j z H' _ _ hz k1 fun ht => ⟨_, k2, ?_, fun b' o e => ?_, ?_, fun y hy => ?_⟩
    · rw [List.length_map, List.length_take]
      exact less_line (by omega)
    · rw [upd_ne (ne_of_none e hD)]
      exact k1 _ _ e
    · rw [upd_same, take_one hz]
      show some (HO.lst (VI (l.take j) ++ [V.int z])) = some (HO.lst (VI (l.take j ++ [z])))
      rw [show VI (l.take j ++ [z]) = VI (l.take j) ++ [V.int z] from List.map_append]
    · rw [take_one hz] at hy
      rcases List.mem_append.mp hy with hy | hy
      · exact k3 y hy
      · rw [List.mem_singleton.mp hy]
        exact ht
  · rintro H' ⟨k1, k2, k3⟩
    rw [List.length_map, List.take_length] at k2 k3
    exact hd H' (List.all_eq_true.mpr k3) k1 k2
theorem all_no {l : List Int} {t : Int → Bool} {x : Int} (h : x ∈ l) (ht : t x = false) : l.all t = false := by
  cases e : l.all t with
  | false => rfl
  | true =>
    rw [List.all_eq_true.mp e x h] at ht
    cases ht
theorem ok_checked_keys (F : Fun K "checked_keys" "checked_keys" s_checked_keys f fd) (d_need : Df P w K mg base (L2.CX P w) 1 "need" (sp_need Cw)) (c_MOST_KEYS : Gv mg "MOST_KEYS" (.int 20)) (d_checked_key : Df P w K mg base (L2.CX P w) 3 "checked_key" (sp_ckey Cw)) (n_len : mg "len" = none) : FnOk P w K mg base (L2.CX P w) 4 f fd ["numbers", "prime"] (sp_ckeys K Cw) := by
  refine F.okX sc_checked_keys (fun vs H Q E h => ?_) (fun cdv A outer s H vs Q E hr h => ⟨_, (pss_cons (ps_expr (by exact (pe_d d_need (pass_up (takes_of rfl rfl rfl rfl)) hr (by decide) rfl (pa_cons (pe_cmpR op_le (pe_callB call_len_seq (by rfl) n_len PySem.boot_len (pa_cons (pv 0) pa_nil)) (pe_gv rfl c_MOST_KEYS) (nomark _)) pa_nil))))
      (pss_one (ps_ret (pe_lcx (own := [("number", 2)]) (g := gName 2) rfl rfl (takes_of rfl rfl rfl rfl) rfl sc_checked_keys.nd (pi_list (pv 0)) (blkOk_by (N := n_checked_keys) (sc := defScope s_checked_keys) (by decide +kernel)) (fun _ _ _ _ _ => (pg_name (i := 2) sc_checked_keys.nd rfl (Or.inl rfl))) (fun _ _ _ _ _ => pts_nil) (fun _ _ _ _ _ _ _ hpx => (by exact (pe_d d_checked_key hpx hr (by decide) rfl (pa_cons (pv 2) (pa_cons (pv 1) pa_nil))))))))), ?_⟩)
  · obtain ⟨a, l, p, rfl, _⟩ := h
    rfl
  obtain ⟨a, l, p, rfl, tp, sq, h9, q1, q2⟩ := h
  have hl : (((VI l).length : Nat) : Int) = (l.length : Int) := by rw [List.length_map]
  refine ⟨_, rfl, a, _, rfl, .inl sq, _, _, rfl, rfl, _, rfl, fun h => ?_, fun h => q2 ?_ H (Same.refl H)⟩
  · have c : l.length ≤ 20 := by
      have := of_decide_eq_true h
      rw [hl] at this
      omega
    rw [decide_eq_true c, Bool.true_and] at q1 q2
    refine ⟨_, rfl, a, rfl, ⟨_, sq⟩, fun D hD => ?_⟩
    refine lc_test (t := kyd p) hD sq h9 ?_ fun H' ha s' hd => q1 ha H' s' D hD hd
    intro i x H2 Q2 Nx hx s2 k
    refine ⟨rfl, ?_⟩
    unfold tYes
    refine iteT ?_
    exact ⟨_, rfl, _, rfl, x, p, rfl, tp, k, fun hk => q2 (all_no (List.mem_of_getElem? hx) hk) H2 s2⟩
  · have c : ¬ l.length ≤ 20 := by
      have := of_decide_eq_false h
      rw [hl] at this
      omega
    rw [decide_eq_false c, Bool.false_and]
theorem ok_checked_row (F : Fun K "checked_row" "checked_row" s_checked_row f fd) (d_need : Df P w K mg base (L2.CX P w) 1 "need" (sp_need Cw)) (d_is_row : Df P w K mg base CX0 4 "is_row" (sp_isrow K)) : FnOk P w K mg base (L2.CX P w) 5 f fd ["numbers", "prime"] (sp_crow K Cw) := by
  refine F.okX sc_checked_row (fun vs H Q E h => ?_) (fun cdv A outer s H vs Q E hr h => ⟨_, (pss_cons (ps_expr (by exact (pe_d d_need (pass_up (takes_of rfl rfl rfl rfl)) hr (by decide) rfl (pa_cons (by exact (pe_d d_is_row pass0 hr (by decide) rfl (pa_cons (pv 0) (pa_cons (pv 1) pa_nil)))) pa_nil))))
      (pss_one (ps_ret (pv 0)))), ?_⟩)
  · obtain ⟨a, l, p, rfl, _⟩ := h
    rfl
  obtain ⟨a, l, p, rfl, tp, sq, q1, q2⟩ := h
  exact ⟨_, rfl, _, rfl, a, l, p, rfl, tp, sq, fun H' s' => ⟨_, rfl, fun h => ⟨_, rfl, q1 h H' s'⟩, fun h => q2 h H' s'⟩⟩
theorem ok_checked_cards (F : Fun K "checked_cards" "checked_cards" s_checked_cards f fd) (d_need : Df P w K mg base (L2.CX P w) 1 "need" (sp_need Cw)) (d_checked_card : Df P w K mg base (L2.CX P w) 4 "checked_card" (sp_ccard Cw)) (n_len : mg "len" = none) : FnOk P w K mg base (L2.CX P w) 5 f fd ["numbers", "count", "prime"] (sp_ccards K Cw) := by
  refine F.okX sc_checked_cards (fun vs H Q E h => ?_) (fun cdv A outer s H vs Q E hr h => ⟨_, (pss_cons (ps_expr (by exact (pe_d d_need (pass_up (takes_of rfl rfl rfl rfl)) hr (by decide) rfl (pa_cons (pe_cmpR op_eq (pe_callB call_len_seq (by rfl) n_len PySem.boot_len (pa_cons (pv 0) pa_nil)) (pv 1) (nomark _)) pa_nil))))
      (pss_one (ps_ret (pe_lcx (own := [("number", 3)]) (g := gName 3) rfl rfl (takes_of rfl rfl rfl rfl) rfl sc_checked_cards.nd (pi_list (pv 0)) (blkOk_by (N := n_checked_cards) (sc := defScope s_checked_cards) (by decide +kernel)) (fun _ _ _ _ _ => (pg_name (i := 3) sc_checked_cards.nd rfl (Or.inl rfl))) (fun _ _ _ _ _ => pts_nil) (fun _ _ _ _ _ _ _ hpx => (by exact (pe_d d_checked_card hpx hr (by decide) rfl (pa_cons (pv 3) (pa_cons (pv 2) pa_nil))))))))), ?_⟩)
  · obtain ⟨a, l, n, p, rfl, _⟩ := h
    rfl
  obtain ⟨a, l, n, p, rfl, tp, sq, h9, q1, q2⟩ := h
  have hl : (((VI l).length : Nat) : Int) = (l.length : Int) := by rw [List.length_map]
  refine ⟨_, rfl, a, _, rfl, .inl sq, _, rfl, rfl, _, rfl, fun h => ?_, fun h => q2 ?_ H (Same.refl H)⟩
  · have c : l.length = n := by
      have := V.int.inj (of_decide_eq_true h)
      rw [hl] at this
      omega
    rw [beq_iff_eq.mpr c, Bool.true_and] at q1 q2
    refine ⟨_, rfl, a, rfl, ⟨_, sq⟩, fun D hD => ?_⟩
    refine lc_test (t := crd p) hD sq h9 ?_ fun H' ha s' hd => q1 ha H' s' D hD hd
    intro i x H2 Q2 Nx hx s2 k
    refine ⟨rfl, ?_⟩
    unfold tYes
    refine iteT ?_
    exact ⟨_, rfl, _, rfl, x, p, rfl, tp, k, fun hk => q2 (all_no (List.mem_of_getElem? hx) hk) H2 s2⟩
  · have c : ¬ l.length = n := fun z => by
      have := of_decide_eq_false h
      rw [hl, z] at this
      exact this rfl
    rw [beq_false_of_ne c, Bool.false_and]
theorem ok_checked_order (F : Fun K "checked_order" "checked_order" s_checked_order f fd) (d_need : Df P w K mg base (L2.CX P w) 1 "need" (sp_need Cw)) (d_is_order : Df P w K mg base CX0 1 "is_order" (sp_isorder K)) : FnOk P w K mg base (L2.CX P w) 2 f fd ["numbers", "count"] (sp_corder K Cw) := by
  refine F.okX sc_checked_order (fun vs H Q E h => ?_) (fun cdv A outer s H vs Q E hr h => ⟨_, (pss_cons (ps_expr (by exact (pe_d d_need (pass_up (takes_of rfl rfl rfl rfl)) hr (by decide) rfl (pa_cons (by exact (pe_d d_is_order pass0 hr (by decide) rfl (pa_cons (pv 0) (pa_cons (pv 1) pa_nil)))) pa_nil))))
      (pss_one (ps_ret (pv 0)))), ?_⟩)
  · obtain ⟨a, l, n, rfl, _⟩ := h
    rfl
  obtain ⟨a, l, n, rfl, hn, sq, q1, q2⟩ := h
  exact ⟨_, rfl, _, rfl, a, l, n, rfl, hn, sq, fun H' s' => ⟨_, rfl, fun h => ⟨_, rfl, q1 h H' s'⟩, fun h => q2 h H' s'⟩⟩
theorem ok_checked_position (F : Fun K "checked_position" "checked_position" s_checked_position f fd) (d_need : Df P w K mg base (L2.CX P w) 1 "need" (sp_need Cw)) : FnOk P w K mg base (L2.CX P w) 2 f fd ["number", "count"] (sp_cpos Cw) := by
  refine F.okX sc_checked_position (fun vs H Q E h => ?_) (fun cdv A outer s H vs Q E hr h => ⟨_, (pss_cons (ps_expr (by exact (pe_d d_need (pass_up (takes_of rfl rfl rfl rfl)) hr (by decide) rfl (pa_cons (pe_and (pe_cmpR op_ge (pv 0) pe_int (nomark _)) (pe_one (pe_cmpR op_le (pv 0) (pe_op op_sub (pv 1) pe_int) (nomark _)))) pa_nil))))
      (pss_one (ps_ret (pv 0)))), ?_⟩)
  · obtain ⟨z, n, rfl, _⟩ := h
    rfl
  obtain ⟨z, n, rfl, q1, q2⟩ := h
  refine ⟨_, rfl, _, _, rfl, rfl, _, rfl, ?_⟩
  by_cases c1 : 0 ≤ z
  · have e : Vbndal.inRange z 0 ((n : Int) - 1) = decide (z ≤ (n : Int) - 1) := by
      unfold Vbndal.inRange
      rw [decide_eq_true c1, Bool.true_and]
    rw [e] at q1 q2
    refine if_yes (decide_eq_true c1) ?_
    exact ⟨_, rfl, _, rfl, _, _, rfl, rfl, _, _, rfl, rfl, _, rfl, fun h => ⟨_, rfl, q1 h⟩, q2⟩
  · refine if_no (decide_eq_false c1) ?_
    refine ⟨_, rfl, fun h => absurd h Bool.false_ne_true, fun h => q2 ?_⟩
    unfold Vbndal.inRange
    rw [decide_eq_false c1, Bool.false_and]
theorem ok_checked_number (F : Fun K "checked_number" "checked_number" s_checked_number f fd) (d_need : Df P w K mg base (L2.CX P w) 1 "need" (sp_need Cw)) : FnOk P w K mg base (L2.CX P w) 2 f fd ["number", "prime"] (sp_cnum Cw) := by
  refine F.okX sc_checked_number (fun vs H Q E h => ?_) (fun cdv A outer s H vs Q E hr h => ⟨_, (pss_cons (ps_expr (by exact (pe_d d_need (pass_up (takes_of rfl rfl rfl rfl)) hr (by decide) rfl (pa_cons (pe_and (pe_cmpR op_ge (pv 0) pe_int (nomark _)) (pe_one (pe_cmpR op_le (pv 0) (pe_op op_sub (pv 1) pe_int) (nomark _)))) pa_nil))))
      (pss_one (ps_ret (pv 0)))), ?_⟩)
  · obtain ⟨z, n, rfl, _⟩ := h
    rfl
  obtain ⟨z, n, rfl, q1, q2⟩ := h
  refine ⟨_, rfl, _, _, rfl, rfl, _, rfl, ?_⟩
  by_cases c1 : 1 ≤ z
  · have e : Vbndal.inRange z 1 ((n : Int) - 1) = decide (z ≤ (n : Int) - 1) := by
      unfold Vbndal.inRange
      rw [decide_eq_true c1, Bool.true_and]
    rw [e] at q1 q2
    refine if_yes (decide_eq_true c1) ?_
    exact ⟨_, rfl, _, rfl, _, _, rfl, rfl, _, _, rfl, rfl, _, rfl, fun h => ⟨_, rfl, q1 h⟩, q2⟩
  · refine if_no (decide_eq_false c1) ?_
    refine ⟨_, rfl, fun h => absurd h Bool.false_ne_true, fun h => q2 ?_⟩
    unfold Vbndal.inRange
    rw [decide_eq_false c1, Bool.false_and]
theorem ok_checked_exponent (F : Fun K "checked_exponent" "checked_exponent" s_checked_exponent f fd) (d_need : Df P w K mg base (L2.CX P w) 1 "need" (sp_need Cw)) (d_are_coprime : Df P w K mg base CX0 1 "are_coprime" sp_coprime) : FnOk P w K mg base (L2.CX P w) 2 f fd ["number", "prime"] (sp_cexp Cw) := by
  refine F.okX sc_checked_exponent (fun vs H Q E h => ?_) (fun cdv A outer s H vs Q E hr h => ⟨_, (pss_cons (ps_expr (by exact (pe_d d_need (pass_up (takes_of rfl rfl rfl rfl)) hr (by decide) rfl (pa_cons (pe_and (pe_cmpR op_ge (pv 0) pe_int (nomark _)) (pe_one (pe_cmpR op_le (pv 0) (pe_op op_sub (pv 1) pe_int) (nomark _)))) pa_nil))))
      (pss_cons (ps_expr (by exact (pe_d d_need (pass_up (takes_of rfl rfl rfl rfl)) hr (by decide) rfl (pa_cons (by exact (pe_d d_are_coprime pass0 hr (by decide) rfl (pa_cons (pv 0) (pa_cons (pe_op op_sub (pv 1) pe_int) pa_nil)))) pa_nil))))
      (pss_one (ps_ret (pv 0))))), ?_⟩)
  · obtain ⟨z, n, rfl, _⟩ := h
    rfl
  obtain ⟨z, n, rfl, hn, q1, q2⟩ := h
  refine ⟨_, rfl, _, _, rfl, rfl, _, rfl, ?_⟩
  by_cases c1 : 1 ≤ z
  · refine if_yes (decide_eq_true c1) ?_
    refine ⟨_, rfl, _, rfl, _, _, rfl, rfl, _, _, rfl, rfl, _, rfl, fun h => ?_, fun h => q2 ?_⟩
    · have c2 : z ≤ (n : Int) - 1 := of_decide_eq_true h
      have e1 : Vbndal.inRange z 1 ((n : Int) - 1) = true := by
        unfold Vbndal.inRange
        rw [decide_eq_true c1, decide_eq_true c2] <;> rfl
      obtain ⟨m, rfl⟩ : ∃ m : Nat, z = m := ⟨z.toNat, by omega⟩
      have e2 : Vbndal.isCoprimeExponent n ((m : Int)).toNat = (Nat.gcd m (n - 1) == 1) := by
        unfold Vbndal.isCoprimeExponent
        rw [Int.toNat_natCast, decide_eq_true (by omega), Bool.true_and]
      rw [e1, e2, Bool.true_and] at q1 q2
      refine ⟨_, rfl, _, rfl, _, _, rfl, rfl, m, n - 1, ?_, _, rfl, fun h => ⟨_, rfl, q1 h⟩, q2⟩
      have e3 : ((n - 1 : Nat) : Int) = (n : Int) - 1 := by omega
      rw [e3]
      rfl
    · have c2 : ¬ z ≤ (n : Int) - 1 := of_decide_eq_false h
      unfold Vbndal.inRange
      rw [decide_eq_false c2, Bool.and_false, Bool.false_and]
  · refine if_no (decide_eq_false c1) ?_
    refine ⟨_, rfl, fun h => absurd h Bool.false_ne_true, fun h => q2 ?_⟩
    unfold Vbndal.inRange
    rw [decide_eq_false c1, Bool.false_and, Bool.false_and]
end
end Cl
set_option Elab.async false
set_option linter.unusedVariables false
set_option maxRecDepth 100000
set_option maxHeartbeats 4000000
/-! # The checks of arguments that belong to a table's players, of shown keys -/
namespace Cl
open PySem PySem.Spec PyProof.Rows L2
/-! ### pairs -/
def skGood (t : Vbndal.Table) (n : Nat) (x : List Int) : Bool := Vbndal.inRange (x.getD 0 0) 0 ((n : Int) - 1) && Vbndal.isKeyArgument t (x.getD 1 0)
def skOf (x : List Int) : Vbndal.ShownKey := ⟨(x.getD 0 0).toNat, (x.getD 1 0).toNat⟩
theorem shown_even {t : Vbndal.Table} {n : Nat} : ∀ (m : Nat) (l : List Int), l.length = m * 2 → Vbndal.decodeShown t n l = if (pieces m 2 l).all (skGood t n) = true then some ((pieces m 2 l).map skOf) else none
  | 0, l, h => by
    have e : l = [] := List.eq_nil_of_length_eq_zero (by omega)
    subst e
    rfl
  | m + 1, l, h => by
    rcases l with _ | ⟨i, _ | ⟨k, l⟩⟩
    · simp at h
    · simp at h
      omega
    · have h' : l.length = m * 2 := by
        simp at h
        omega
      unfold Vbndal.decodeShown
      rw [shown_even m l h', pieces_succ]
      have e1 : (i :: k :: l).take 2 = [i, k] := rfl
      have e2 : (i :: k :: l).drop 2 = l := rfl
      rw [e1, e2, List.all_cons, List.map_cons]
      have e3 : skGood t n [i, k] = (Vbndal.inRange i 0 ((n : Int) - 1) && Vbndal.isKeyArgument t k) := rfl
      rw [e3]
      cases (Vbndal.inRange i 0 ((n : Int) - 1) && Vbndal.isKeyArgument t k) with
      | false => rfl
      | true =>
        cases (pieces m 2 l).all (skGood t n) with
        | false => rfl
        | true => rfl
theorem shown_odd {t : Vbndal.Table} {n : Nat} : ∀ (m : Nat) (l : List Int), l.length = m * 2 + 1 → Vbndal.decodeShown t n l = none
  | 0, l, h => by
    rcases l with _ | ⟨i, _ | ⟨k, l⟩⟩
    · simp at h
    · rfl
    · simp at h
  | m + 1, l, h => by
    rcases l with _ | ⟨i, _ | ⟨k, l⟩⟩
    · simp at h
    · rfl
    · unfold Vbndal.decodeShown
      rw [shown_odd m l (by simp at h; omega)]
      split <;> rfl
theorem orders_pieces {n : Nat} : ∀ (f : Nat) (l : List Int), l.length = f * n → Vbndal.decodeOrders n f l = if (pieces f n l).all (Vbndal.isOrderArgument n) = true then some ((pieces f n l).map Vbndal.toNats) else none
  | 0, l, h => by
    have e : l = [] := List.eq_nil_of_length_eq_zero (by omega)
    subst e
    rfl
  | f + 1, l, h => by
    have h' : (l.drop n).length = f * n := by
      rw [List.length_drop, h, Nat.succ_mul]
      omega
    unfold Vbndal.decodeOrders
    rw [orders_pieces f _ h', pieces_succ, List.all_cons, List.map_cons]
    cases Vbndal.isOrderArgument n (l.take n) with
    | false => rfl
    | true =>
      cases (pieces f n (l.drop n)).all (Vbndal.isOrderArgument n) with
      | false => rfl
      | true => rfl
theorem orders_len {n : Nat} : ∀ (f : Nat) (l : List Int), l.length ≠ f * n → Vbndal.decodeOrders n f l = none
  | 0, l, h => by
    unfold Vbndal.decodeOrders
    rw [if_neg]
    intro e
    rw [List.isEmpty_iff] at e
    rw [e] at h
    simp at h
  | f + 1, l, h => by
    unfold Vbndal.decodeOrders
    by_cases c : Vbndal.isOrderArgument n (l.take n) = true
    · have hl : n ≤ l.length := by
        unfold Vbndal.isOrderArgument Vbndal.isOrder at c
        rw [Bool.and_eq_true, Bool.and_eq_true, beq_iff_eq, nats_len, List.length_take] at c
        omega
      rw [if_pos c, orders_len f (l.drop n)]
      · rfl
      · rw [List.length_drop]
        rw [Nat.succ_mul] at h
        omega
    · rw [if_neg c]
theorem split_pieces (n : Nat) : ∀ (f : Nat) (l : List Nat), Vbndal.splitLists n f l = pieces f n l
  | 0, l => rfl
  | f + 1, l => by
    unfold Vbndal.splitLists
    rw [split_pieces n f, pieces_succ]
theorem piece_mem {α : Type} {n c : Nat} {l : List α} (h : l.length = n * c) {x : List α} (hx : x ∈ pieces n c l) : x.length = c ∧ ∀ z ∈ x, z ∈ l := by
  unfold pieces at hx
  obtain ⟨i, hi, rfl⟩ := List.mem_map.mp hx
  have hi := List.mem_range.mp hi
  have hjc : i * c + c ≤ n * c := by
    have := Nat.mul_le_mul_right c (show i + 1 ≤ n from hi)
    rw [Nat.succ_mul] at this
    exact this
  refine ⟨by rw [List.length_take, List.length_drop]; omega, fun z hz => List.mem_of_mem_drop (List.mem_of_mem_take hz)⟩
def sp_cshown (K : Fr) (Cw : Addr) : Sp := fun vs H Q E => ∃ (a : Addr) (l : List Int) (n : Nat) (t : Vbndal.Table), vs = [.ref a, .int n, .int t.prime] ∧ TP t.prime ∧ SqL K H a (VI l) ∧ l.length ≤ 60 ∧ (match Vbndal.decodeShown t n l with
  | none => ∀ H', Same H H' → E (.ref Cw) none H'
  | some ss => if (ss.map fun x => x.position).eraseDups.length ≠ ss.length then ∀ H', Same H H' → E (.ref Cw) none H' else
      ∀ (H' : Hp) (d : Addr) (rs : List Addr), Same H H' → H d = none → H' d = some (.lst (rs.map V.ref)) → Rws H' rs (ss.map fun s => [(s.position : Int), (s.key : Int)]) → Q (.ref d) H')
def sp_crev (K : Fr) (Cb Cw : Addr) : Sp := fun vs H Q E => ∃ (a b : Addr) (l : List Int) (t : Vbndal.Table), vs = [.ref a, .ref b] ∧ TabAt Cb H b t ∧ TP t.prime ∧ SqL K H a (VI l) ∧ l.length ≤ 900 ∧
  Chk Cw H (Vbndal.areRevealedKeys t l) (fun H' => ∀ d, H d = none → H' d = some (.lst (VI l)) → Q (.ref d) H') E
def sp_cann (K : Fr) (Cb Cw : Addr) : Sp := fun vs H Q E => ∃ (a b : Addr) (l : List Int) (t : Vbndal.Table), vs = [.ref a, .ref b] ∧ TabAt Cb H b t ∧ TP t.prime ∧ SqL K H a (VI l) ∧ l.length ≤ 900 ∧
  Chk Cw H (Vbndal.isCardList t t.players.length l) (fun H' => ∀ d, H d = none → H' d = some (.lst (VI l)) → Q (.ref d) H') E
def sp_clists (K : Fr) (Cb Cw : Addr) : Sp := fun vs H Q E => ∃ (a b : Addr) (l : List Int) (t : Vbndal.Table), vs = [.ref a, .ref b] ∧ TabAt Cb H b t ∧ TOk t ∧ SqL K H a (VI l) ∧ l.length ≤ 900 ∧
  Chk Cw H (Vbndal.isCardList t (t.deck.length * t.players.length) l) (fun H' => ∀ (d : Addr) (rs : List Addr), H d = none → H' d = some (.lst (rs.map V.ref)) → Rws H' rs (pieces t.players.length t.deck.length l) → Q (.ref d) H') E
def sp_corders (K : Fr) (Cb Cw : Addr) : Sp := fun vs H Q E => ∃ (a b : Addr) (l : List Int) (t : Vbndal.Table), vs = [.ref a, .ref b] ∧ TabAt Cb H b t ∧ TOk t ∧ SqL K H a (VI l) ∧ l.length ≤ 900 ∧ (match Vbndal.decodeOrders t.deck.length t.players.length l with
  | none => ∀ H', Same H H' → E (.ref Cw) none H'
  | some ms => ∀ (H' : Hp) (d : Addr) (rs : List Addr), Same H H' → H d = none → H' d = some (.lst (rs.map V.ref)) → rs.length = ms.length → ms.length = t.players.length → (∀ (j : Nat) (r : Addr) (m : List Nat), rs[j]? = some r → ms[j]? = some m → H' r = some (.lst (VN m)) ∧ m.length = t.deck.length ∧ ∀ i ∈ m, i < t.deck.length) → Q (.ref d) H')
section
variable {P : Program} {w : World} {K : Fr} {mg : Str → Option Value} {base : Heap} {f : Addr} {fd : FuncData} {Cs Cb Cn Cw Cx Cc : Addr}
theorem ok_checked_revealed (T : TbT K Cb) (F : Fun K "checked_revealed" "checked_revealed" s_checked_revealed f fd) (d_need : Df P w K mg base (L2.CX P w) 1 "need" (sp_need Cw)) (d_checked_key : Df P w K mg base (L2.CX P w) 3 "checked_key" (sp_ckey Cw)) (n_len : mg "len" = none) : FnOk P w K mg base (L2.CX P w) 4 f fd ["numbers", "table"] (sp_crev K Cb Cw) := by
  refine F.okX sc_checked_revealed (fun vs H Q E h => ?_) (fun cdv A outer s H vs Q E hr h => ⟨_, (pss_cons (ps_expr (by exact (pe_d d_need (pass_up (takes_of rfl rfl rfl rfl)) hr (by decide) rfl (pa_cons (pe_cmpR op_eq (pe_callB call_len_seq (by rfl) n_len PySem.boot_len (pa_cons (pv 0) pa_nil)) (pe_callB call_len_seq (by rfl) n_len PySem.boot_len (pa_cons (pe_fld (pv 1) rfl) pa_nil)) (nomark _)) pa_nil))))
      (pss_one (ps_ret (pe_lcx (own := [("number", 2)]) (g := gName 2) rfl rfl (takes_of rfl rfl rfl rfl) rfl sc_checked_revealed.nd (pi_list (pv 0)) (blkOk_by (N := n_checked_revealed) (sc := defScope s_checked_revealed) (by decide +kernel)) (fun _ _ _ _ _ => (pg_name (i := 2) sc_checked_revealed.nd rfl (Or.inl rfl))) (fun _ _ _ _ _ => pts_nil) (fun _ _ _ _ _ _ _ hpx => (by exact (pe_d d_checked_key hpx hr (by decide) rfl (pa_cons (pv 2) (pa_cons (show PE _ _ (tFld K _ _) from pe_fld (pv 1) rfl) pa_nil))))))))), ?_⟩)
  · obtain ⟨a, b, l, t, rfl, _⟩ := h
    rfl
  obtain ⟨a, b, l, t, rfl, ⟨dx, D0, L, t1, t2, rs, t3, t4, t5⟩, tp, sq, h9, q1, q2⟩ := h
  have hl : (((VI l).length : Nat) : Int) = (l.length : Int) := by rw [List.length_map]
  have hl2 : (((rs.map V.ref).length : Nat) : Int) = (t.players.length : Int) := by rw [List.length_map, t4]
  have hq : Vbndal.areRevealedKeys t l = (l.length == t.players.length && l.all (kyd t.prime)) := rfl
  rw [hq] at q1 q2
  refine ⟨_, rfl, a, _, rfl, .inl sq, _, rfl, b, Cb, dx, _, _, rfl, t1, T.cl, T.n3, tbF_players, L, _, rfl, .inl (SqL.of t3), rfl, _, rfl, fun h => ?_, fun h => q2 ?_ H (Same.refl H)⟩
  · have c : l.length = t.players.length := by
      have := V.int.inj (of_decide_eq_true h)
      rw [hl, hl2] at this
      omega
    rw [beq_iff_eq.mpr c, Bool.true_and] at q1 q2
    refine ⟨_, rfl, a, rfl, ⟨_, sq⟩, fun D hD => ?_⟩
    refine lc_test (t := kyd t.prime) hD sq h9 ?_ fun H' ha s' hd => q1 ha H' s' D hD hd
    intro i x H2 Q2 Nx hx s2 k
    refine ⟨rfl, ?_⟩
    unfold tYes
    refine iteT ?_
    exact ⟨_, rfl, _, rfl, b, Cb, dx, _, _, rfl, s2 _ _ t1, T.cl, T.n1, tbF_prime, x, t.prime, rfl, tp, k, fun hk => q2 (all_no (List.mem_of_getElem? hx) hk) H2 s2⟩
  · have c : ¬ l.length = t.players.length := fun z => by
      have := of_decide_eq_false h
      rw [hl, hl2, z] at this
      exact this rfl
    rw [beq_false_of_ne c, Bool.false_and]
theorem ok_checked_announced (T : TbT K Cb) (F : Fun K "checked_announced" "checked_announced" s_checked_announced f fd) (d_checked_cards : Df P w K mg base (L2.CX P w) 5 "checked_cards" (sp_ccards K Cw)) (n_len : mg "len" = none) : FnOk P w K mg base (L2.CX P w) 6 f fd ["numbers", "table"] (sp_cann K Cb Cw) := by
  refine F.okX sc_checked_announced (fun vs H Q E h => ?_) (fun cdv A outer s H vs Q E hr h => ⟨_, (pss_one (ps_ret (by exact (pe_d d_checked_cards (pass_up (takes_of rfl rfl rfl rfl)) hr (by decide) rfl (pa_cons (pv 0) (pa_cons (pe_callB call_len_seq (by rfl) n_len PySem.boot_len (pa_cons (pe_fld (pv 1) rfl) pa_nil)) (pa_cons (pe_fld (pv 1) rfl) pa_nil))))))), ?_⟩)
  · obtain ⟨a, b, l, t, rfl, _⟩ := h
    rfl
  obtain ⟨a, b, l, t, rfl, ⟨dx, D0, L, t1, t2, rs, t3, t4, t5⟩, tp, sq, h9, q1, q2⟩ := h
  have hl2 : (((rs.map V.ref).length : Nat) : Int) = (t.players.length : Int) := by rw [List.length_map, t4]
  refine ⟨_, rfl, _, rfl, b, Cb, dx, _, _, rfl, t1, T.cl, T.n3, tbF_players, L, _, rfl, .inl (SqL.of t3), _, rfl, b, Cb, dx, _, _, rfl, t1, T.cl, T.n1, tbF_prime, a, l, t.players.length, t.prime, ?_, tp, sq, h9, q1, q2⟩
  rw [hl2]
  rfl
theorem ok_checked_lists (T : TbT K Cb) (F : Fun K "checked_lists" "checked_lists" s_checked_lists f fd) (n_len : mg "len" = none) (d_parts_of : Df P w K mg base CX0 1 "parts_of" (sp_parts K)) (d_checked_cards : Df P w K mg base (L2.CX P w) 5 "checked_cards" (sp_ccards K Cw)) : FnOk P w K mg base (L2.CX P w) 6 f fd ["numbers", "table"] (sp_clists K Cb Cw) := by
  refine F.okX sc_checked_lists (fun vs H Q E h => ?_) (fun cdv A outer s H vs Q E hr h => ⟨_, (pss_cons (ps_set (i := 2) sc_checked_lists.nd rfl (Or.inl rfl) (pe_callB call_len_seq (by rfl) n_len PySem.boot_len (pa_cons (pe_fld (pv 1) rfl) pa_nil)))
      (pss_one (ps_ret (by exact (pe_d d_parts_of pass0 hr (by decide) rfl (pa_cons (by exact (pe_d d_checked_cards (pass_up (takes_of rfl rfl rfl rfl)) hr (by decide) rfl (pa_cons (pv 0) (pa_cons (pe_op op_mul (pe_callB call_len_seq (by rfl) n_len PySem.boot_len (pa_cons (pe_fld (pv 1) rfl) pa_nil)) (pv 2)) (pa_cons (pe_fld (pv 1) rfl) pa_nil))))) (pa_cons (pv 2) pa_nil))))))), ?_⟩)
  · obtain ⟨a, b, l, t, rfl, _⟩ := h
    rfl
  obtain ⟨a, b, l, t, rfl, ⟨dx, D0, L, t1, t2, rs, t3, t4, t5⟩, tk, sq, h9, q1, q2⟩ := h
  have hl2 : (((rs.map V.ref).length : Nat) : Int) = (t.players.length : Int) := by rw [List.length_map, t4]
  have hl3 : (((VN t.deck).length : Nat) : Int) = (t.deck.length : Int) := by rw [List.length_map]
  have h2 := tk.two
  have h10 := tk.ten
  have h4 := tk.four
  refine ⟨_, rfl, b, Cb, dx, _, _, rfl, t1, T.cl, T.n2, tbF_deck, D0, _, rfl, .inl (SqL.of t2), ?_⟩
  refine ⟨_, rfl, _, rfl, b, Cb, dx, _, _, rfl, t1, T.cl, T.n3, tbF_players, L, _, rfl, .inl (SqL.of t3), _, rfl, _, _, rfl, rfl, by rw [hl2]; exact small64 (by omega), _, rfl, b, Cb, dx, _, _, rfl, t1, T.cl, T.n1, tbF_prime, a, l, t.deck.length * t.players.length, t.prime, ?_, tk.tp, sq, h9, fun h H1 s1 d nd hd => ?_, q2⟩
  · rw [hl2, hl3, Nat.mul_comm, Int.natCast_mul]
    rfl
  · have hlen : l.length = t.players.length * t.deck.length := by
      rw [Bool.and_eq_true, beq_iff_eq] at h
      rw [h.1, Nat.mul_comm]
    have hmul : t.players.length * t.deck.length ≤ 4 * 10 := Nat.mul_le_mul h4 h10
    refine ⟨_, rfl, d, l, t.players.length, t.deck.length, ?_, SqL.of hd, hlen, by omega, by omega, by omega, fun H2 d2 rs2 s2 n2 hd2 hr2 => q1 h H2 (s1.trans s2) d2 rs2 ?_ hd2 hr2⟩
    · rw [hl3]
      rfl
    · cases z : H d2 with
      | none => rfl
      | some o =>
        have z2 := s1 _ _ z
        rw [n2] at z2
        cases z2
theorem order_facts {n : Nat} (h10 : n ≤ 10) {x : List Int} (h : Vbndal.isOrderArgument n x = true) : VI x = VN (Vbndal.toNats x) ∧ (Vbndal.toNats x).length = n ∧ ∀ i ∈ Vbndal.toNats x, i < n := by
  have hp := (is_order h10).mp h
  have nn : ∀ z ∈ x, 0 ≤ z ∧ z < n := fun z hz => by
    obtain ⟨i, hi, rfl⟩ := List.mem_map.mp (hp.mem_iff.mp hz)
    have := List.mem_range.mp hi
    omega
  refine ⟨vi_nats fun z hz => (nn z hz).1, ?_, fun i hi => ?_⟩
  · rw [nats_len, hp.length_eq, List.length_map, List.length_range]
  · obtain ⟨z, hz, rfl⟩ := List.mem_map.mp hi
    have := nn z hz
    omega
theorem ok_checked_orders (T : TbT K Cb) (F : Fun K "checked_orders" "checked_orders" s_checked_orders f fd) (n_len : mg "len" = none) (d_need : Df P w K mg base (L2.CX P w) 1 "need" (sp_need Cw)) (d_checked_order : Df P w K mg base (L2.CX P w) 2 "checked_order" (sp_corder K Cw)) (d_parts_of : Df P w K mg base CX0 1 "parts_of" (sp_parts K)) : FnOk P w K mg base (L2.CX P w) 3 f fd ["numbers", "table"] (sp_corders K Cb Cw) := by
  refine F.okX sc_checked_orders (fun vs H Q E h => ?_) (fun cdv A outer s H vs Q E hr h => ⟨_, (pss_cons (ps_set (i := 2) sc_checked_orders.nd rfl (Or.inr rfl) (pe_callB call_len_seq (by rfl) n_len PySem.boot_len (pa_cons (pe_fld (pv 1) rfl) pa_nil)))
      (pss_cons (ps_expr (by exact (pe_d d_need (pass_up (takes_of rfl rfl rfl rfl)) hr (by decide) rfl (pa_cons (pe_cmpR op_eq (pe_callB call_len_seq (by rfl) n_len PySem.boot_len (pa_cons (pv 0) pa_nil)) (pe_op op_mul (pe_callB call_len_seq (by rfl) n_len PySem.boot_len (pa_cons (pe_fld (pv 1) rfl) pa_nil)) (pv 2)) (nomark _)) pa_nil))))
      (pss_one (ps_ret (pe_lcx (own := [("part", 3)]) (g := gName 3) rfl rfl (takes_of rfl rfl rfl rfl) rfl sc_checked_orders.nd (pi_list (by exact (pe_d d_parts_of pass0 hr (by decide) rfl (pa_cons (pv 0) (pa_cons (pv 2) pa_nil))))) (blkOk_by (N := n_checked_orders) (sc := defScope s_checked_orders) (by decide +kernel)) (fun _ _ _ _ _ => (pg_name (i := 3) sc_checked_orders.nd rfl (Or.inl rfl))) (fun _ _ _ _ _ => pts_nil) (fun _ _ _ _ _ _ _ hpx => (by exact (pe_d d_checked_order hpx hr (by decide) rfl (pa_cons (pv 3) (pa_cons (pv 2) pa_nil)))))))))), ?_⟩)
  · obtain ⟨a, b, l, t, rfl, _⟩ := h
    rfl
  obtain ⟨a, b, l, t, rfl, ⟨dx, D0, L, t1, t2, rs0, t3, t4, t5⟩, tk, sq, h9, q⟩ := h
  have hl : (((VI l).length : Nat) : Int) = (l.length : Int) := by rw [List.length_map]
  have hl2 : (((rs0.map V.ref).length : Nat) : Int) = (t.players.length : Int) := by rw [List.length_map, t4]
  have hl3 : (((VN t.deck).length : Nat) : Int) = (t.deck.length : Int) := by rw [List.length_map]
  have h2 := tk.two
  have h10 := tk.ten
  have h4 := tk.four
  have hmul : t.players.length * t.deck.length ≤ 4 * 10 := Nat.mul_le_mul h4 h10
  refine ⟨_, rfl, b, Cb, dx, _, _, rfl, t1, T.cl, T.n2, tbF_deck, D0, _, rfl, .inl (SqL.of t2), ?_⟩
  refine ⟨_, rfl, a, _, rfl, .inl sq, _, rfl, b, Cb, dx, _, _, rfl, t1, T.cl, T.n3, tbF_players, L, _, rfl, .inl (SqL.of t3), _, rfl, _, _, rfl, rfl, by rw [hl2]; exact small64 (by omega), rfl, _, rfl, fun h => ?_, fun h => ?_⟩
  · have hlen : l.length = t.players.length * t.deck.length := by
      have := V.int.inj (of_decide_eq_true h)
      rw [hl, hl2, hl3, ← Int.natCast_mul] at this
      exact Int.ofNat.inj this
    refine ⟨_, rfl, _, rfl, a, l, t.players.length, t.deck.length, ?_, sq, hlen, by omega, by omega, by omega, fun H1 d rs s1 nd hd hrs => ?_⟩
    · rw [hl3]
      rfl
    rw [orders_pieces _ _ hlen] at q
    have sqd : SqL K H1 d (rs.map V.ref) := SqL.of hd
    have hrl : rs.length = t.players.length := by rw [hrs.1, pieces_len]
    refine ⟨d, rfl, ⟨_, sqd⟩, fun D hD => ?_⟩
    refine lc_list (K := K) (a := d) (xs := rs.map V.ref) (fun j H' => Same H1 H' ∧ H' D = some (.lst ((rs.take j).map V.ref)) ∧ ∀ x ∈ (pieces t.players.length t.deck.length l).take j, Vbndal.isOrderArgument t.deck.length x = true) ⟨Same.new hD, by rw [upd_same]; rfl, fun z hz => by simp at hz⟩ (fun j H' _ z => z.1.seq sqd) ?_ ?_
    · rintro j y H' hj ⟨k1, k2, k3⟩
      obtain ⟨r, hr, rfl⟩ := map_at hj
      have hjl : j < t.players.length := by
        have := (List.getElem?_eq_some_iff.mp hr).1
        omega
      have hp := piece_at (c := t.deck.length) (l := l) hjl
      have hx := k1 _ _ (hrs.2 j r _ hr hp)
      refine ⟨rfl, ?_⟩
      unfold tYes
      refine iteT ?_
      refine ⟨_, rfl, _, rfl, r, (l.drop (j * t.deck.length)).take t.deck.length, t.deck.length, ?_, h10, SqL.of hx, fun ho H4 s4 => ?_, fun ho H4 s4 => ?_⟩
      · rw [hl3]
        rfl
      · refine ⟨_, s4 _ _ k2, ?_, fun b' o e => ?_, ?_, fun y hy => ?_⟩
        · rw [List.length_map, List.length_take]
          exact less_line (by omega)
        · rw [upd_ne (ne_of_none e hD)]
          exact s4 _ _ (k1 _ _ e)
        · rw [upd_same, take_one hr, List.map_append]
          rfl
        · rw [take_one hp] at hy
          rcases List.mem_append.mp hy with hy | hy
          · exact k3 y hy
          · rw [List.mem_singleton.mp hy]
            exact ho
      · rw [if_neg] at q
        · exact q H4 ((s1.trans k1).trans s4)
        · intro z
          rw [List.all_eq_true.mp z _ (List.mem_of_getElem? hp)] at ho
          cases ho
    · rintro H' ⟨k1, k2, k3⟩
      have e : (pieces t.players.length t.deck.length l).take rs.length = pieces t.players.length t.deck.length l := by
        rw [List.take_of_length_le]
        rw [pieces_len, hrl]
        exact Nat.le_refl _
      rw [List.length_map] at k2 k3
      rw [List.take_length] at k2
      rw [e] at k3
      rw [if_pos (List.all_eq_true.mpr k3)] at q
      refine q H' D rs (s1.trans k1) ?_ k2 (by rw [hrl, List.length_map, pieces_len]) (by rw [List.length_map, pieces_len]) fun j r m e1 e2 => ?_
      · cases z : H D with
        | none => rfl
        | some o =>
          have z2 := s1 _ _ z
          rw [hD] at z2
          cases z2
      · obtain ⟨x, hx, rfl⟩ := map_at e2
        have hm := List.mem_of_getElem? hx
        obtain ⟨f1, f2, f3⟩ := order_facts h10 (k3 x hm)
        have z := k1 _ _ (hrs.2 j r x e1 hx)
        rw [f1] at z
        exact ⟨z, f2, f3⟩
  · have hlen : l.length ≠ t.players.length * t.deck.length := fun z => by
      have := of_decide_eq_false h
      rw [hl, hl2, hl3] at this
      exact this (congrArg V.int (show (l.length : Int) = (t.players.length : Int) * (t.deck.length : Int) by rw [z, Int.natCast_mul]))
    rw [orders_len _ _ hlen] at q
    exact q H (Same.refl H)
theorem ok_checked_shown (F : Fun K "checked_shown" "checked_shown" s_checked_shown f fd) (d_need : Df P w K mg base (L2.CX P w) 1 "need" (sp_need Cw)) (d_parts_of : Df P w K mg base CX0 1 "parts_of" (sp_parts K)) (d_checked_position : Df P w K mg base (L2.CX P w) 2 "checked_position" (sp_cpos Cw)) (d_checked_key : Df P w K mg base (L2.CX P w) 3 "checked_key" (sp_ckey Cw)) (d_all_different : Df P w K mg base CX0 1 "all_different" (sp_alldiff K)) (n_len : mg "len" = none) : FnOk P w K mg base (L2.CX P w) 4 f fd ["numbers", "count", "prime"] (sp_cshown K Cw) := by
  refine F.okX sc_checked_shown (fun vs H Q E h => ?_) (fun cdv A outer s H vs Q E hr h => ⟨_, (pss_cons (ps_expr (by exact (pe_d d_need (pass_up (takes_of rfl rfl rfl rfl)) hr (by decide) rfl (pa_cons (pe_cmpR op_eq (pe_op op_mod (pe_callB call_len_seq (by rfl) n_len PySem.boot_len (pa_cons (pv 0) pa_nil)) pe_int) pe_int (nomark _)) pa_nil))))
      (pss_cons (ps_set (i := 3) sc_checked_shown.nd rfl (Or.inl rfl) (by exact (pe_d d_parts_of pass0 hr (by decide) rfl (pa_cons (pv 0) (pa_cons pe_int pa_nil)))))
      (pss_cons (ps_for (passes_of rfl) rfl (pi_list (pv 3)) (pg_unl rfl (pgs_cons (pg_name (i := 4) sc_checked_shown.nd rfl (Or.inl rfl)) (pgs_cons (pg_name (i := 5) sc_checked_shown.nd rfl (Or.inl rfl)) pgs_nil)))
      (pss_cons (ps_expr (by exact (pe_d d_checked_position (pass_up (takes_of rfl rfl rfl rfl)) hr (by decide) rfl (pa_cons (pv 4) (pa_cons (pv 1) pa_nil)))))
      (pss_one (ps_expr (by exact (pe_d d_checked_key (pass_up (takes_of rfl rfl rfl rfl)) hr (by decide) rfl (pa_cons (pv 5) (pa_cons (pv 2) pa_nil))))))))
      (pss_cons (ps_expr (by exact (pe_d d_need (pass_up (takes_of rfl rfl rfl rfl)) hr (by decide) rfl (pa_cons (by exact (pe_d d_all_different pass0 hr (by decide) rfl (pa_cons (pe_lc (own := [("position", 4), ("key", 5)]) (g := gUnl K 2 (gCons (gName 4) (gCons (gName 5) gNil))) rfl sc_checked_shown.nd (pi_list (pv 3)) (blkOk_by (N := n_checked_shown) (sc := defScope s_checked_shown) (by decide +kernel)) (fun _ _ _ _ _ => (pg_unl rfl (pgs_cons (pg_name (i := 4) sc_checked_shown.nd rfl (Or.inl rfl)) (pgs_cons (pg_name (i := 5) sc_checked_shown.nd rfl (Or.inl rfl)) pgs_nil)))) (fun _ _ _ _ _ => pts_nil) (fun _ _ _ _ _ => (pv 4))) pa_nil))) pa_nil))))
      (pss_one (ps_ret (pv 3))))))), ?_⟩)
  · obtain ⟨a, l, n, t, rfl, _⟩ := h
    rfl
  obtain ⟨a, l, n, t, rfl, tp, sq, h60, q⟩ := h
  have hl : (((VI l).length : Nat) : Int) = (l.length : Int) := by rw [List.length_map]
  refine ⟨_, rfl, a, _, rfl, .inl sq, _, _, rfl, rfl, (by decide : (0 : Int) < 2), rfl, _, rfl, fun h => ?_, fun h => ?_⟩
  rotate_left
  · have hm : l.length % 2 = 1 := by
      have := of_decide_eq_false h
      rw [hl] at this
      rcases Nat.mod_two_eq_zero_or_one l.length with z | z
      · exact absurd (congrArg V.int (show ((l.length : Int) % 2) = 0 by omega)) this
      · exact z
    rw [shown_odd (l.length / 2) l (by omega)] at q
    exact q H (Same.refl H)
  have hlen : l.length = l.length / 2 * 2 := by
    have := V.int.inj (of_decide_eq_true h)
    rw [hl] at this
    omega
  obtain ⟨m, hm⟩ : ∃ m, l.length / 2 = m := ⟨_, rfl⟩
  rw [hm] at hlen
  refine ⟨_, rfl, a, l, m, 2, rfl, sq, hlen, by omega, by omega, by omega, fun H1 d rs s1 nd hd hrs => ?_⟩
  rw [shown_even m l hlen] at q
  have hrl : rs.length = m := by rw [hrs.1, pieces_len]
  have sqd : SqL K H1 d (rs.map V.ref) := SqL.of hd
  have two : ∀ x ∈ pieces m 2 l, ∃ i k, x = [i, k] := fun x hx => by
    have := (piece_mem hlen hx).1
    rcases x with _ | ⟨i, _ | ⟨k, _ | ⟨z, x⟩⟩⟩
    · simp at this
    · simp at this
    · exact ⟨i, k, rfl⟩
    · simp at this
  have bad : ∀ x ∈ pieces m 2 l, skGood t n x = false → E (.ref Cw) none H1 := fun x hx hb => by
    rw [if_neg] at q
    · exact q H1 s1
    · intro z
      rw [List.all_eq_true.mp z x hx] at hb
      cases hb
  refine ⟨_, rfl, d, rfl, ⟨_, sqd⟩, for_list (K := K) (a := d) (xs := rs.map V.ref) (fun i σ H' => H' = H1 ∧ (∃ v1 v2, σ = [some (.ref a), some (.int n), some (.int t.prime), some (.ref d), v1, v2]) ∧ ∀ x ∈ (pieces m 2 l).take i, skGood t n x = true)
    ⟨rfl, ⟨none, none, rfl⟩, fun z hz => by simp at hz⟩ (fun i σ H' _ z => by rw [z.1]; exact sqd) ?_ ?_⟩
  · rintro j y σ H' hj ⟨rfl, ⟨v1, v2, rfl⟩, inv⟩
    obtain ⟨r, hr, rfl⟩ := map_at hj
    have hjl : j < m := by
      have := (List.getElem?_eq_some_iff.mp hr).1
      omega
    have hp := piece_at (c := 2) (l := l) hjl
    have hpm := List.mem_of_getElem? hp
    have hx := hrs.2 j r _ hr hp
    obtain ⟨i, k, e⟩ := two _ hpm
    rw [e] at hx hp hpm
    have eg : skGood t n [i, k] = (Vbndal.inRange i 0 ((n : Int) - 1) && kyd t.prime k) := rfl
    refine ⟨r, _, rfl, SqL.of hx, rfl, _, _, rfl, _, _, rfl, rfl, ?_⟩
    refine ⟨_, rfl, _, rfl, i, n, rfl, fun h1 => ?_, fun h1 => bad _ hpm (by rw [eg, h1, Bool.false_and])⟩
    refine ⟨_, rfl, _, rfl, k, t.prime, rfl, tp, fun h2 => ?_, fun h2 => bad _ hpm (by rw [eg, h2, Bool.and_false])⟩
    refine ⟨rfl, ⟨_, _, rfl⟩, fun x hx => ?_⟩
    rw [take_one hp] at hx
    rcases List.mem_append.mp hx with hx | hx
    · exact inv x hx
    · rw [List.mem_singleton.mp hx, eg, h1, h2]
      rfl
  rintro σ H' ⟨rfl, ⟨v1, v2, rfl⟩, inv⟩
  have et : (pieces m 2 l).take rs.length = pieces m 2 l := by
    rw [List.take_of_length_le]
    rw [pieces_len, hrl]
    exact Nat.le_refl _
  rw [List.length_map, et] at inv
  rw [if_pos (List.all_eq_true.mpr inv)] at q
  have pos : ∀ x ∈ pieces m 2 l, 0 ≤ x.getD 0 0 ∧ 0 ≤ x.getD 1 0 := fun x hx => by
    obtain ⟨i, k, rfl⟩ := two x hx
    have e : (Vbndal.inRange i 0 ((n : Int) - 1) && kyd t.prime k) = true := inv _ hx
    unfold Vbndal.inRange at e
    rw [Bool.and_eq_true, Bool.and_eq_true, decide_eq_true_iff] at e
    obtain ⟨k', rfl, _⟩ := kyd_iff.mp e.2
    exact ⟨e.1.1, by show (0 : Int) ≤ (k' : Int); omega⟩
  refine ⟨_, rfl, ?_⟩
  refine ⟨d, rfl, ⟨_, sqd⟩, fun D hD => ?_⟩
  refine lc_maps (K := K) (a := d) (l := rs) (val := V.ref) (out := fun r => match H' r with
    | some (.lst (v :: _)) => v
    | _ => .non) hD sqd (by omega) ?_ ?_
  · intro j r H2 Q2 Nx hr s2 kk
    have hjl : j < m := by
      have := (List.getElem?_eq_some_iff.mp hr).1
      omega
    have hp := piece_at (c := 2) (l := l) hjl
    have hx := hrs.2 j r _ hr hp
    obtain ⟨i, k, e⟩ := two _ (List.mem_of_getElem? hp)
    rw [e] at hx
    refine ⟨r, _, rfl, SqL.of (s2 _ _ hx), rfl, _, _, rfl, _, _, rfl, rfl, rfl, ?_⟩
    unfold tYes
    refine iteT ?_
    have z := kk H2 (Same.refl H2)
    rw [hx] at z
    exact ⟨_, rfl, z⟩
  · intro H2 s2 hd2
    have ev : (rs.map fun r => match H' r with
        | some (.lst (v :: _)) => v
        | _ => .non) = VI (((pieces m 2 l).map skOf).map fun x => (x.position : Int)) := by
      refine List.ext_getElem? fun j => ?_
      rw [List.getElem?_map]
      show _ = ((((pieces m 2 l).map skOf).map fun x => (x.position : Int)).map V.int)[j]?
      rw [List.getElem?_map, List.getElem?_map, List.getElem?_map]
      by_cases hj : j < m
      · have hr : rs[j]? = some rs[j] := List.getElem?_eq_getElem (by omega)
        have hp := piece_at (c := 2) (l := l) hj
        have hx := hrs.2 j _ _ hr hp
        obtain ⟨i, k, e⟩ := two _ (List.mem_of_getElem? hp)
        have ps := pos _ (List.mem_of_getElem? hp)
        rw [e] at hx ps
        rw [hr, hp, e]
        show some (match H' rs[j] with
        | some (.lst (v :: _)) => v
        | _ => .non) = some (V.int ((i.toNat : Nat) : Int))
        have p1 : 0 ≤ i := ps.1
        rw [hx, Int.toNat_of_nonneg p1] <;> rfl
      · rw [List.getElem?_eq_none (by omega), List.getElem?_eq_none (by rw [pieces_len]; omega)] <;> rfl
    rw [ev] at hd2
    refine ⟨D, _, rfl, SqL.of hd2, ?_, _, rfl, ?_⟩
    · rw [List.length_map, List.length_map, pieces_len]
      omega
    have e1 : (((pieces m 2 l).map skOf).map fun x => (x.position : Int)) = (((pieces m 2 l).map skOf).map fun x => x.position).map fun n : Nat => (n : Int) := by
      rw [List.map_map, List.map_map, List.map_map]
      rfl
    rw [e1, nats_dup]
    have e2 : (((pieces m 2 l).map skOf).map fun x => x.position).length = ((pieces m 2 l).map skOf).length := List.length_map _
    rw [e2]
    refine ⟨fun hc => ?_, fun hc => ?_⟩
    · have c := of_decide_eq_true hc
      dsimp only at q
      rw [if_neg (fun z => z c)] at q
      refine ⟨_, rfl, q H2 d rs (s1.trans s2) nd (s2 _ _ hd) ?_⟩
      have e3 : (((pieces m 2 l).map skOf).map fun s => [(s.position : Int), (s.key : Int)]) = pieces m 2 l := by
        rw [List.map_map]
        conv => rhs; rw [← List.map_id (pieces m 2 l)]
        refine List.map_congr_left fun x hx => ?_
        have ps := pos x hx
        obtain ⟨i, k, rfl⟩ := two x hx
        show [((i.toNat : Nat) : Int), ((k.toNat : Nat) : Int)] = [i, k]
        have p1 : 0 ≤ i := ps.1
        have p2 : 0 ≤ k := ps.2
        rw [Int.toNat_of_nonneg p1, Int.toNat_of_nonneg p2]
      rw [e3]
      exact hrs.same s2
    · have c := of_decide_eq_false hc
      dsimp only at q
      rw [if_pos c] at q
      exact q H2 (s1.trans s2)
end
end Cl
set_option Elab.async false
set_option linter.unusedVariables false
/-! # Audits, apart from the program -/
namespace Cl
open Vbndal
def addv (os : List (List Nat)) : DealAudit → DealAudit
  | .valid ms => .valid (os ++ ms)
  | .wrong i e => .wrong i e
theorem addv_nil (a : DealAudit) : addv [] a = a := by cases a <;> rfl
theorem audit_none {p i k : Nat} {l r : List Nat} {rest : List (Nat × List Nat)} (h : orderFor p l r k = none) : auditDeal p i l ((k, r) :: rest) = .wrong i (errorCount p l r k) := by
  unfold auditDeal
  rw [h]
theorem audit_some {p i k : Nat} {l r m : List Nat} {rest : List (Nat × List Nat)} {os : List (List Nat)} (h : orderFor p l r k = some m) : addv os (auditDeal p i l ((k, r) :: rest)) = addv (os ++ [m]) (auditDeal p (i + 1) r rest) := by
  rw [auditDeal, h]
  dsimp only
  cases auditDeal p (i + 1) r rest with
  | valid ms =>
    show DealAudit.valid (os ++ (m :: ms)) = .valid ((os ++ [m]) ++ ms)
    rw [List.append_assoc]
    rfl
  | wrong a b => rfl
theorem audit_nil {p i : Nat} {l : List Nat} {os : List (List Nat)} : addv os (auditDeal p i l []) = .valid os := by
  unfold auditDeal
  show DealAudit.valid (os ++ []) = _
  rw [List.append_nil]
theorem find_idx {l : List Nat} {y : Nat} : (l.findIdx? fun c => c == y) = if y ∈ l then some (l.idxOf y) else none := by
  by_cases c : y ∈ l
  · rw [if_pos c, List.findIdx?_eq_some_iff_findIdx_eq]
    exact ⟨idx_lt c, rfl⟩
  · rw [if_neg c, List.findIdx?_eq_none_iff]
    intro x hx
    exact beq_false_of_ne fun z => c (z ▸ hx)
theorem drop_zip {α β : Type} {xs : List α} {ys : List β} {i : Nat} {x : α} {y : β} (hx : xs[i]? = some x) (hy : ys[i]? = some y) : (xs.zip ys).drop i = (x, y) :: (xs.zip ys).drop (i + 1) := by
  have h : (xs.zip ys)[i]? = some (x, y) := by rw [List.getElem?_zip_eq_some]; exact ⟨hx, hy⟩
  obtain ⟨h1, h2⟩ := List.getElem?_eq_some_iff.mp h
  rw [← h2]
  exact List.drop_eq_getElem_cons h1
theorem opening_yes {p i x k y : Nat} {rest : List (Nat × Nat)} (h : lockCard p y k = x) : auditOpening p i x ((k, y) :: rest) = auditOpening p (i + 1) y rest := by
  rw [auditOpening, if_pos]
  exact beq_iff_eq.mpr h
theorem opening_no {p i x k y : Nat} {rest : List (Nat × Nat)} (h : lockCard p y k ≠ x) : auditOpening p i x ((k, y) :: rest) = .wrong i := by
  rw [auditOpening, if_neg]
  intro z
  exact h (beq_iff_eq.mp z)
end Cl
set_option Elab.async false
set_option linter.unusedVariables false
set_option maxRecDepth 100000
set_option maxHeartbeats 4000000
/-! # Deals, openings, audits -/
namespace Cl
open PySem PySem.Spec PyProof.Rows L2
abbrev s_keys_of : Stmt := top 59
abbrev n_keys_of : List Str := ["table", "name", "key"]
theorem sc_keys_of : FnScope n_keys_of ["table"] (defScope s_keys_of) := ⟨rfl, rfl, rfl, by decide +kernel, rfl, by decide +kernel, by decide +kernel⟩
abbrev s_dealt : Stmt := top 63
abbrev n_dealt : List Str := ["table", "orders", "row", "key", "order"]
theorem sc_dealt : FnScope n_dealt ["table", "orders"] (defScope s_dealt) := ⟨rfl, rfl, rfl, by decide +kernel, rfl, by decide +kernel, by decide +kernel⟩
abbrev s_opened : Stmt := top 64
abbrev n_opened : List Str := ["table", "card", "key"]
theorem sc_opened : FnScope n_opened ["table", "card"] (defScope s_opened) := ⟨rfl, rfl, rfl, by decide +kernel, rfl, by decide +kernel, by decide +kernel⟩
abbrev s_deal_audit : Stmt := top 65
abbrev n_deal_audit : List Str := ["table", "revealed", "lists", "orders", "before", "player", "key", "errors"]
theorem sc_deal_audit : FnScope n_deal_audit ["table", "revealed", "lists"] (defScope s_deal_audit) := ⟨rfl, rfl, rfl, by decide +kernel, rfl, by decide +kernel, by decide +kernel⟩
abbrev s_opening_audit : Stmt := top 66
abbrev n_opening_audit : List Str := ["table", "card", "revealed", "announced", "before", "player", "key"]
theorem sc_opening_audit : FnScope n_opening_audit ["table", "card", "revealed", "announced"] (defScope s_opening_audit) := ⟨rfl, rfl, rfl, by decide +kernel, rfl, by decide +kernel, by decide +kernel⟩
theorem new_before {H H1 : Hp} {d : Addr} (s : Same H H1) (n : H1 d = none) : H d = none := by
  cases z : H d with
  | none => rfl
  | some o =>
    have z2 := s _ _ z
    rw [n] at z2
    cases z2
def sp_keysof (Cb : Addr) : Sp := fun vs H Q _ => ∃ (b : Addr) (t : Vbndal.Table), vs = [.ref b] ∧ TabAt Cb H b t ∧ t.players.length ≤ 4 ∧ ∀ H' d, Same H H' → H d = none → H' d = some (.lst (VN (t.players.map fun y => y.key))) → Q (.ref d) H'
def sp_dealt (K : Fr) (Cb : Addr) : Sp := fun vs H Q _ => ∃ (b d : Addr) (t : Vbndal.Table) (rs : List Addr) (ms : List (List Nat)), vs = [.ref b, .ref d] ∧ TabAt Cb H b t ∧ TOk t ∧ SqL K H d (rs.map V.ref) ∧ rs.length = ms.length ∧ ms.length = t.players.length ∧
  (∀ (j : Nat) (r : Addr) (m : List Nat), rs[j]? = some r → ms[j]? = some m → H r = some (.lst (VN m)) ∧ m.length = t.deck.length ∧ ∀ i ∈ m, i < t.deck.length) ∧
  ∀ (H' : Hp) (e : Addr), Same H H' → H' e = some (.lst (VN (Vbndal.dealOf t ms))) → Q (.ref e) H'
def openedC (t : Vbndal.Table) (x : Nat) : Nat := t.players.foldl (fun x y => Vbndal.lockCard t.prime x (Vbndal.inverseKey t.prime y.key)) x
def sp_opened (Cb : Addr) : Sp := fun vs H Q _ => ∃ (b : Addr) (t : Vbndal.Table) (x : Nat), vs = [.ref b, .int x] ∧ TabAt Cb H b t ∧ TOk t ∧ ∀ H', Same H H' → Q (.int (openedC t x : Nat)) H'
theorem pieces_nats {n c : Nat} {l : List Int} : Vbndal.splitLists c n (Vbndal.toNats l) = (pieces n c l).map Vbndal.toNats := by
  rw [split_pieces]
  unfold pieces
  rw [List.map_map]
  refine List.map_congr_left fun i _ => ?_
  show ((Vbndal.toNats l).drop (i * c)).take c = Vbndal.toNats ((l.drop (i * c)).take c)
  unfold Vbndal.toNats
  rw [← List.map_drop, ← List.map_take]
theorem cards_nats {p : Nat} {l : List Int} (h : ∀ z ∈ l, crd p z = true) : VI l = VN (Vbndal.toNats l) ∧ ∀ x ∈ Vbndal.toNats l, Vbndal.isCard p x = true ∧ x < p := by
  refine ⟨vi_nats fun z hz => ?_, fun x hx => ?_⟩
  · obtain ⟨n, rfl, _⟩ := crd_iff.mp (h z hz)
    omega
  · obtain ⟨z, hz, rfl⟩ := List.mem_map.mp hx
    obtain ⟨n, rfl, h1, h2, h3⟩ := crd_iff.mp (h z hz)
    rw [Int.toNat_natCast]
    exact ⟨h3, h2⟩
theorem keys_nats {p : Nat} {l : List Int} (h : ∀ z ∈ l, kyd p z = true) : VI l = VN (Vbndal.toNats l) ∧ ∀ x ∈ Vbndal.toNats l, 1 ≤ x ∧ x < p / 2 := by
  refine ⟨vi_nats fun z hz => ?_, fun x hx => ?_⟩
  · obtain ⟨n, rfl, _⟩ := kyd_iff.mp (h z hz)
    omega
  · obtain ⟨z, hz, rfl⟩ := List.mem_map.mp hx
    obtain ⟨n, rfl, h1, h2⟩ := kyd_iff.mp (h z hz)
    rw [Int.toNat_natCast]
    exact ⟨h1, h2⟩
theorem rev_iff {t : Vbndal.Table} {l : List Int} : Vbndal.areRevealedKeys t l = true ↔ l.length = t.players.length ∧ ∀ z ∈ l, kyd t.prime z = true := by
  rw [show Vbndal.areRevealedKeys t l = (l.length == t.players.length && l.all (kyd t.prime)) from rfl, Bool.and_eq_true, beq_iff_eq, List.all_eq_true]
theorem list_iff {t : Vbndal.Table} {n : Nat} {l : List Int} : Vbndal.isCardList t n l = true ↔ l.length = n ∧ ∀ z ∈ l, crd t.prime z = true := by
  rw [show Vbndal.isCardList t n l = (l.length == n && l.all (crd t.prime)) from rfl, Bool.and_eq_true, beq_iff_eq, List.all_eq_true]
def daR : Vbndal.DealAudit → List Nat
  | .valid ms => 1 :: ms.flatten
  | .wrong i e => [0, i, e]
def oaR (t : Vbndal.Table) : Vbndal.OpeningAudit → List Nat
  | .wrong j => [0, j]
  | .opened x => match t.deck.findIdx? fun c => c == x with
    | none => [2]
    | some c => [1, c]
def sp_daudit (K : Fr) (Cb : Addr) : Sp := fun vs H Q _ => ∃ (b k d : Addr) (t : Vbndal.Table) (ks l : List Int) (rs : List Addr), vs = [.ref b, .ref k, .ref d] ∧ TabAt Cb H b t ∧ TOk t ∧ SqL K H k (VI ks) ∧ Vbndal.areRevealedKeys t ks = true ∧
  SqL K H d (rs.map V.ref) ∧ Rws H rs (pieces t.players.length t.deck.length l) ∧ Vbndal.isCardList t (t.deck.length * t.players.length) l = true ∧
  ∀ (H' : Hp) (e : Addr), Same H H' → H e = none → H' e = some (.lst (VN (daR (Vbndal.auditDeal t.prime 0 t.deck ((Vbndal.toNats ks).zip (Vbndal.splitLists t.deck.length t.players.length (Vbndal.toNats l))))))) → Q (.ref e) H'
def sp_oaudit (K : Fr) (Cb : Addr) : Sp := fun vs H Q _ => ∃ (b k d : Addr) (t : Vbndal.Table) (x : Nat) (ks ys : List Int), vs = [.ref b, .int x, .ref k, .ref d] ∧ TabAt Cb H b t ∧ TOk t ∧ SqL K H k (VI ks) ∧ Vbndal.areRevealedKeys t ks = true ∧
  SqL K H d (VI ys) ∧ Vbndal.isCardList t t.players.length ys = true ∧
  ∀ (H' : Hp) (e : Addr), Same H H' → H e = none → H' e = some (.lst (VN (oaR t (Vbndal.auditOpening t.prime 0 x ((Vbndal.toNats ks).zip (Vbndal.toNats ys)))))) → Q (.ref e) H'
section
variable {P : Program} {w : World} {K : Fr} {mg : Str → Option Value} {base : Heap} {f : Addr} {fd : FuncData} {Cs Cb Cn Cw Cx Cc : Addr}
theorem ok_keys_of (T : TbT K Cb) (F : Fun K "keys_of" "keys_of" s_keys_of f fd)  : FnOk P w K mg base CX0 1 f fd ["table"] (sp_keysof Cb) := by
  refine F.ok sc_keys_of (fun vs H Q E h => ?_) (fun cdv A outer s H vs Q E hr h => ⟨_, (pss_one (ps_ret (pe_lc (own := [("name", 1), ("key", 2)]) (g := gTup K 2 (gCons (gName 1) (gCons (gName 2) gNil))) rfl sc_keys_of.nd (pi_list (pe_fld (pv 0) rfl)) (blkOk_by (N := n_keys_of) (sc := defScope s_keys_of) (by decide +kernel)) (fun _ _ _ _ _ => (pg_tup rfl (pgs_cons (pg_name (i := 1) sc_keys_of.nd rfl (Or.inl rfl)) (pgs_cons (pg_name (i := 2) sc_keys_of.nd rfl (Or.inl rfl)) pgs_nil)))) (fun _ _ _ _ _ => pts_nil) (fun _ _ _ _ _ => (pv 2))))), ?_⟩)
  · obtain ⟨b, t, rfl, _⟩ := h
    rfl
  obtain ⟨b, t, rfl, ⟨dx, D0, L, t1, t2, rs, t3, t4, t5⟩, h4, q⟩ := h
  refine ⟨_, rfl, b, Cb, dx, _, _, rfl, t1, T.cl, T.n3, tbF_players, L, rfl, ⟨_, SqL.of t3⟩, fun D hD => ?_⟩
  refine lc_list (K := K) (a := L) (xs := rs.map V.ref) (fun j H' => Same H H' ∧ H' D = some (.lst (VN ((t.players.take j).map fun y => y.key)))) ⟨Same.new hD, by rw [upd_same]; rfl⟩ (fun j H' _ z => SqL.of (z.1 _ _ t3)) ?_ ?_
  · rintro j y H' hj ⟨s1, s2⟩
    obtain ⟨rj, hrj, rfl⟩ := map_at hj
    have hjl : j < t.players.length := by
      rw [← t4]
      exact (List.getElem?_eq_some_iff.mp hrj).1
    have hmj : t.players[j]? = some t.players[j] := List.getElem?_eq_getElem hjl
    have ht := s1 _ _ (t5 j rj _ hrj hmj)
    refine ⟨rj, _, rfl, .inl (.inl ht), rfl, _, _, rfl, _, _, rfl, rfl, rfl, ?_⟩
    unfold tYes
    refine iteT ?_
    refine ⟨_, rfl, _, s2, ?_, fun b' o e => ?_, ?_⟩
    · rw [List.length_map, List.length_map, List.length_take]
      exact less_line (by omega)
    · rw [upd_ne (ne_of_none e hD)]
      exact s1 _ _ e
    · rw [upd_same, take_one hmj, List.map_append]
      rw [vn_snoc]
      rfl
  · rintro H' ⟨s1, s2⟩
    rw [List.length_map, t4, List.take_length] at s2
    exact q H' D s1 hD s2
theorem ok_opened (T : TbT K Cb) (F : Fun K "opened" "opened" s_opened f fd) (d_keys_of : Df P w K mg base CX0 1 "keys_of" (sp_keysof Cb)) (d_unlocked : Df P w K mg base CX0 3 "unlocked" sp_unlocked) : FnOk P w K mg base CX0 4 f fd ["table", "card"] (sp_opened Cb) := by
  refine F.ok sc_opened (fun vs H Q E h => ?_) (fun cdv A outer s H vs Q E hr h => ⟨_, (pss_cons (ps_for PassesOwn.never rfl (pi_list (by exact (pe_d d_keys_of pass0 hr (by decide) rfl (pa_cons (pv 0) pa_nil)))) (pg_name (i := 2) sc_opened.nd rfl (Or.inl rfl))
      (pss_one (ps_set (i := 1) sc_opened.nd rfl (Or.inl rfl) (by exact (pe_d d_unlocked pass0 hr (by decide) rfl (pa_cons (pv 1) (pa_cons (pv 2) (pa_cons (pe_fld (pv 0) rfl) pa_nil))))))))
      (pss_one (ps_ret (pv 1)))), ?_⟩)
  · obtain ⟨b, t, x, rfl, _⟩ := h
    rfl
  obtain ⟨b, t, x, rfl, ta, tk, q⟩ := h
  obtain ⟨dx, D0, L, t1, t2, t3⟩ := id ta
  refine ⟨_, rfl, b, t, rfl, ta, tk.four, fun H1 d s1 nd hd => ?_⟩
  have sqd : SqL K H1 d (VN (t.players.map fun y => y.key)) := SqL.of hd
  refine ⟨d, rfl, ⟨_, sqd⟩, for_list (K := K) (a := d) (xs := VN (t.players.map fun y => y.key)) (fun i σ H' => H' = H1 ∧ ∃ v, σ = [some (.ref b), some (.int ((t.players.take i).foldl (fun x y => Vbndal.lockCard t.prime x (Vbndal.inverseKey t.prime y.key)) x : Nat)), v])
    ⟨rfl, none, rfl⟩ (fun i σ H' _ z => by rw [z.1]; exact sqd) ?_ ?_⟩
  · rintro i y σ H' hi ⟨rfl, v, rfl⟩
    obtain ⟨k, hk, rfl⟩ := map_at hi
    obtain ⟨y, hy, rfl⟩ := map_at hk
    refine ⟨_, rfl, _, rfl, _, rfl, b, Cb, dx, _, _, rfl, s1 _ _ t1, T.cl, T.n1, tbF_prime, _, y.key, t.prime, rfl, tk.tp, ⟨rfl, some (.int (y.key : Int)), ?_⟩⟩
    rw [take_one hy, List.foldl_append]
    rfl
  · rintro σ H' ⟨rfl, v, rfl⟩
    rw [List.length_map, List.length_map, List.take_length]
    exact ⟨_, rfl, q H' s1⟩
theorem ok_dealt (T : TbT K Cb) (F : Fun K "dealt" "dealt" s_dealt f fd) (n_zip : mg "zip" = none) (d_keys_of : Df P w K mg base CX0 1 "keys_of" (sp_keysof Cb)) (d_shuffled : Df P w K mg base CX0 4 "shuffled" (sp_shuf K)) : FnOk P w K mg base CX0 5 f fd ["table", "orders"] (sp_dealt K Cb) := by
  refine F.ok sc_dealt (fun vs H Q E h => ?_) (fun cdv A outer s H vs Q E hr h => ⟨_, (pss_cons (ps_set (i := 2) sc_dealt.nd rfl (Or.inl rfl) (pe_fld (pv 0) rfl))
      (pss_cons (ps_for PassesOwn.never rfl (pi_zip (by rfl) n_zip (pa_cons (by exact (pe_d d_keys_of pass0 hr (by decide) rfl (pa_cons (pv 0) pa_nil))) (pa_cons (pv 1) pa_nil))) (pg_tup rfl (pgs_cons (pg_name (i := 3) sc_dealt.nd rfl (Or.inl rfl)) (pgs_cons (pg_name (i := 4) sc_dealt.nd rfl (Or.inl rfl)) pgs_nil)))
      (pss_one (ps_set (i := 2) sc_dealt.nd rfl (Or.inl rfl) (by exact (pe_d d_shuffled pass0 hr (by decide) rfl (pa_cons (pv 2) (pa_cons (pv 3) (pa_cons (pv 4) (pa_cons (pe_fld (pv 0) rfl) pa_nil)))))))))
      (pss_one (ps_ret (pv 2))))), ?_⟩)
  · obtain ⟨b, d, t, rs, ms, rfl, _⟩ := h
    rfl
  obtain ⟨b, d, t, rs, ms, rfl, ta, tk, sq, hrl, hml, hms, q⟩ := h
  obtain ⟨dx, D0, L, t1, t2, t3⟩ := id ta
  have h10 := tk.ten
  have h4 := tk.four
  refine ⟨_, rfl, b, Cb, dx, _, _, rfl, t1, T.cl, T.n2, tbF_deck, ?_⟩
  refine ⟨_, rfl, b, t, rfl, ta, tk.four, fun H1 k s1 nk hk => ?_⟩
  refine ⟨_, rfl, k, d, _, _, rfl, SqL.of hk, s1.seq sq, ?_⟩
  refine for_it (walk_zip (n := t.players.length) (by rw [List.length_map, List.length_map, List.length_map, hrl, hml]; omega)) (fun i σ H' => Same H1 H' ∧ ∃ (a : Addr) (row : List Nat) (v1 v2 : Option V), σ = [some (.ref b), some (.ref d), some (.ref a), v1, v2] ∧ H' a = some (.lst (VN row)) ∧
    row = ((t.players.zip ms).take i).foldl (fun l x => Vbndal.shuffled t.prime l x.2 x.1.key) t.deck ∧ row.length = t.deck.length) ⟨Same.refl _, D0, t.deck, none, none, rfl, s1 _ _ t2, rfl, rfl⟩
    (fun i σ H' _ z => ⟨z.1.seq (SqL.of hk), z.1.seq (s1.seq sq)⟩) ?_ ?_
  · rintro i x σ H2 H3 hi ⟨k1, a, row, v1, v2, rfl, k2, k3, k4⟩ ⟨T1, x1, y1, rfl, nT, rfl, hx, hy⟩
    have hmj : t.players[i]? = some t.players[i] := List.getElem?_eq_getElem hi
    have hme : ms[i]? = some ms[i] := List.getElem?_eq_getElem (by omega)
    have hre : rs[i]? = some rs[i] := List.getElem?_eq_getElem (by omega)
    dsimp only at hx hy
    rw [List.getElem?_map, List.getElem?_map, hmj] at hx
    rw [List.getElem?_map, hre] at hy
    cases hx
    cases hy
    obtain ⟨m1, m2, m3⟩ := hms i _ _ hre hme
    have sT : Same H2 (upd H2 T1 (.tup [V.int (t.players[i].key : Nat), V.ref rs[i]])) := Same.new nT
    refine ⟨T1, _, rfl, SqT.of upd_same, rfl, _, _, rfl, _, _, rfl, rfl, ?_⟩
    have s3 := (s1.trans k1).trans sT
    have hkey : t.players[i].key < 1000 := key_small tk.tp (tk.ply _ (List.getElem_mem hi)).2
    refine ⟨_, rfl, _, rfl, _, rfl, _, rfl, b, Cb, dx, _, _, rfl, s3 _ _ t1, T.cl, T.n1, tbF_prime, a, rs[i], row, ms[i], t.players[i].key, t.prime, rfl, tk.tp, hkey, SqL.of (sT _ _ k2), SqL.of (s3 _ _ m1), by omega, by omega, fun j hj => by rw [k4]; exact m3 j hj, fun H4 e s4 ne he => ?_⟩
    refine ⟨(k1.trans sT).trans s4, e, _, _, _, rfl, he, ?_, ?_⟩
    · have hz : (t.players.zip ms)[i]? = some (t.players[i], ms[i]) := by
        rw [List.getElem?_zip_eq_some]
        exact ⟨hmj, hme⟩
      rw [take_one hz, List.foldl_append, k3]
      rfl
    · unfold Vbndal.shuffled
      rw [List.length_map, m2]
  · rintro σ H' ⟨k1, a, row, v1, v2, rfl, k2, k3, k4⟩
    have e : (t.players.zip ms).take t.players.length = t.players.zip ms := by
      rw [List.take_of_length_le]
      rw [List.length_zip, hml]
      omega
    rw [e] at k3
    refine ⟨_, rfl, q H' a (s1.trans k1) ?_⟩
    rw [k2, k3]
    rfl
theorem ok_deal_audit (T : TbT K Cb) (F : Fun K "deal_audit" "deal_audit" s_deal_audit f fd) (n_enumerate : mg "enumerate" = none) (d_error_count : Df P w K mg base CX0 4 "error_count" (sp_errs K)) (d_matching_order : Df P w K mg base CX0 4 "matching_order" (sp_match K)) : FnOk P w K mg base CX0 5 f fd ["table", "revealed", "lists"] (sp_daudit K Cb) := by
  refine F.ok sc_deal_audit (fun vs H Q E h => ?_) (fun cdv A outer s H vs Q E hr h => ⟨_, (pss_cons (ps_set (i := 3) sc_deal_audit.nd rfl (Or.inl rfl) (pe_lst pa_nil))
      (pss_cons (ps_set (i := 4) sc_deal_audit.nd rfl (Or.inl rfl) (pe_fld (pv 0) rfl))
      (pss_cons (ps_for PassesOwn.never rfl (pi_enum (by rfl) n_enumerate (pa_cons (pv 1) pa_nil)) (pg_tup rfl (pgs_cons (pg_name (i := 5) sc_deal_audit.nd rfl (Or.inl rfl)) (pgs_cons (pg_name (i := 6) sc_deal_audit.nd rfl (Or.inl rfl)) pgs_nil)))
      (pss_cons (ps_set (i := 7) sc_deal_audit.nd rfl (Or.inl rfl) (by exact (pe_d d_error_count pass0 hr (by decide) rfl (pa_cons (pv 4) (pa_cons (pv 6) (pa_cons (pe_ix ix_list (pv 2) (pv 5) (fun _ _ => rfl)) (pa_cons (pe_fld (pv 0) rfl) pa_nil)))))))
      (pss_cons (ps_if (pt_cmpR op_gt (pv 7) pe_int (nomark _))
      (pss_one (ps_ret (pe_lst (pa_cons pe_int (pa_cons (pv 5) (pa_cons (pv 7) pa_nil))))))
      pss_nil)
      (pss_cons (ps_expr (pe_bm PySem.F.plainAttrs_list PySem.F.slot_list_extend PySem.F.type_list_extend mt_extend (pv 3) (pa_cons (by exact (pe_d d_matching_order pass0 hr (by decide) rfl (pa_cons (pv 4) (pa_cons (pv 6) (pa_cons (pe_ix ix_list (pv 2) (pv 5) (fun _ _ => rfl)) (pa_cons (pe_fld (pv 0) rfl) pa_nil)))))) pa_nil)))
      (pss_one (ps_set (i := 4) sc_deal_audit.nd rfl (Or.inl rfl) (pe_ix ix_list (pv 2) (pv 5) (fun _ _ => rfl))))))))
      (pss_one (ps_ret (pe_op op_cat (pe_lst (pa_cons pe_int pa_nil)) (pv 3))))))), ?_⟩)
  · obtain ⟨b, k, d, t, ks, l, rs, rfl, _⟩ := h
    rfl
  obtain ⟨b, k, d, t, ks, l, rs, rfl, ta, tk, sqk, hks, sqd, hrs, hl, q⟩ := h
  obtain ⟨dx, D0, L, t1, t2, t3⟩ := id ta
  have h10 := tk.ten
  have h4 := tk.four
  obtain ⟨hk1, hk2⟩ := rev_iff.mp hks
  obtain ⟨hl1, hl2⟩ := list_iff.mp hl
  have hlen : l.length = t.players.length * t.deck.length := by rw [hl1, Nat.mul_comm]
  obtain ⟨ek, hkk⟩ := keys_nats hk2
  rw [pieces_nats] at q
  rw [ek] at sqk
  have hrl : rs.length = t.players.length := by rw [hrs.1, pieces_len]
  have hkl : (Vbndal.toNats ks).length = t.players.length := by rw [nats_len, hk1]
  obtain ⟨z, hz⟩ : ∃ z, (Vbndal.toNats ks).zip ((pieces t.players.length t.deck.length l).map Vbndal.toNats) = z := ⟨_, rfl⟩
  have hzl : z.length = t.players.length := by
    rw [← hz, List.length_zip, List.length_map, pieces_len, hkl]
    omega
  rw [hz] at q
  refine ⟨(by show 0 ≤ sizeLine; exact small_line (by omega)), fun o no => ?_⟩
  have so : Same H (upd H o (.lst [])) := Same.new no
  have dO : D0 ≠ o := ne_of_none t2 no
  refine ⟨_, rfl, b, Cb, dx, _, _, rfl, so _ _ t1, T.cl, T.n2, tbF_deck, ?_⟩
  refine ⟨_, rfl, k, _, rfl, so.seq sqk, ?_⟩
  refine for_it (walk_enum (xs := VN (Vbndal.toNats ks))) (fun i σ H' => Same H H' ∧ ∃ (a : Addr) (bl : List Nat) (os : List (List Nat)) (v1 v2 v3 : Option V), σ = [some (.ref b), some (.ref k), some (.ref d), some (.ref o), some (.ref a), v1, v2, v3] ∧ H' a = some (.lst (VN bl)) ∧ a ≠ o ∧ H' o = some (.lst (VN os.flatten)) ∧
      os.flatten.length ≤ i * 10 ∧ bl.length = t.deck.length ∧ bl.Nodup ∧ (∀ x ∈ bl, Vbndal.isCard t.prime x = true) ∧ Vbndal.auditDeal t.prime 0 t.deck z = addv os (Vbndal.auditDeal t.prime i bl (z.drop i)))
    ⟨so, D0, t.deck, [], none, none, none, rfl, so _ _ t2, dO, upd_same, Nat.le_refl _, rfl, tk.nd, tk.crd, (addv_nil _).symm⟩ (fun i σ H' _ z => z.1.seq sqk) ?_ ?_
  · rintro i x σ H2 H3 hi ⟨s1, a, bl, os, v1, v2, v3, rfl, k2, k3, k4, k5, k6, k7, k8, k9⟩ ⟨T1, x1, y1, rfl, nT, rfl, hx, hy⟩
    rw [List.length_map] at hi
    have hi' : i < t.players.length := by omega
    dsimp only at hx hy
    rw [List.getElem?_map, List.getElem?_eq_getElem hi] at hy
    cases hx
    cases hy
    obtain ⟨key, hkey⟩ : ∃ key, (Vbndal.toNats ks)[i] = key := ⟨_, rfl⟩
    rw [hkey]
    have hki : (Vbndal.toNats ks)[i]? = some key := by rw [List.getElem?_eq_getElem hi, hkey]
    obtain ⟨ky1, ky2⟩ := hkk key (List.mem_of_getElem? hki)
    have hhi := tk.tp.hi
    have hre : rs[i]? = some rs[i] := List.getElem?_eq_getElem (by omega)
    have hp := piece_at (c := t.deck.length) (l := l) hi'
    obtain ⟨pc, hpc⟩ : ∃ pc, (l.drop (i * t.deck.length)).take t.deck.length = pc := ⟨_, rfl⟩
    rw [hpc] at hp
    obtain ⟨pl, pm⟩ := piece_mem hlen (List.mem_of_getElem? hp)
    obtain ⟨ep, pcd⟩ := cards_nats fun z hz => hl2 z (pm z hz)
    have hr0 := hrs.2 i _ _ hre hp
    rw [ep] at hr0
    have sT : Same H2 (upd H2 T1 (.tup [V.int (i : Nat), V.int (key : Nat)])) := Same.new nT
    have s3 := s1.trans sT
    have hr3 := s3 _ _ hr0
    have sd3 := s3.seq sqd
    have nrl : (Vbndal.toNats pc).length = t.deck.length := by rw [nats_len, pl]
    have hzi : z.drop i = (key, Vbndal.toNats pc) :: z.drop (i + 1) := by
      rw [← hz]
      exact drop_zip hki (by rw [List.getElem?_map, hp]; rfl)
    rw [hzi] at k9
    have wn := lk_nodup tk.tp ky1 ky2 k8 k7
    refine ⟨T1, _, rfl, SqT.of upd_same, rfl, _, _, rfl, _, _, rfl, rfl, ?_⟩
    refine ⟨_, rfl, _, rfl, _, rfl, _, rfl, d, _, _, V.ref rs[i], rfl, rfl, sd3, atI_nat (by rw [List.getElem?_map, hre]; rfl), ?_⟩
    refine ⟨_, rfl, b, Cb, dx, _, _, rfl, s3 _ _ t1, T.cl, T.n1, tbF_prime, a, rs[i], bl, Vbndal.toNats pc, key, t.prime, rfl, tk.tp, by omega, SqL.of (sT _ _ k2), SqL.of hr3, by omega, fun H4 s4 => ?_⟩
    refine ⟨_, rfl, _, _, rfl, rfl, _, rfl, ?_⟩
    have s14 := s3.trans s4
    by_cases c : (errs (lk t.prime bl key) (Vbndal.toNats pc)).length = 0
    · refine if_no (decide_eq_false (by omega)) ?_
      obtain ⟨o1, o2⟩ := order_yes wn (by rw [nrl, k6]) c
      rw [audit_some o1] at k9
      refine ⟨_, rfl, .inl ⟨rfl, _, SqL.of (s4 _ _ (sT _ _ k4))⟩, ?_⟩
      refine ⟨_, rfl, _, rfl, _, rfl, _, rfl, d, _, _, V.ref rs[i], rfl, rfl, s4.seq sd3, atI_nat (by rw [List.getElem?_map, hre]; rfl), ?_⟩
      refine ⟨_, rfl, b, Cb, dx, _, _, rfl, s14 _ _ t1, T.cl, T.n1, tbF_prime, a, rs[i], bl, Vbndal.toNats pc, key, t.prime, rfl, tk.tp, by omega, SqL.of (s4 _ _ (sT _ _ k2)), SqL.of (s4 _ _ hr3), by omega, by omega, fun y hy => o2.mem_iff.mp hy, fun H5 e s5 ne he => ?_⟩
      have ho5 := s5 _ _ (s4 _ _ (sT _ _ k4))
      have hr5 := s5 _ _ (s4 _ _ hr3)
      have nro : rs[i] ≠ o := ne_of_none hr0 no
      refine ⟨o, e, _, _, rfl, rfl, ho5, he, ?_, ?_⟩
      · rw [List.length_map, List.length_map, List.length_map, nrl]
        exact small_line (by omega)
      have s6 : ∀ O : HO, Same H (upd H5 o O) := fun O b u e => by
        rw [upd_ne (ne_of_none e no)]
        exact (s14.trans s5) b u e
      refine ⟨_, rfl, _, rfl, d, _, _, V.ref rs[i], rfl, rfl, (s6 _).seq sqd, atI_nat (by rw [List.getElem?_map, hre]; rfl), ?_⟩
      refine ⟨s6 _, rs[i], Vbndal.toNats pc, os ++ [(Vbndal.toNats pc).map fun y => (lk t.prime bl key).idxOf y], _, _, _, rfl, ?_, nro, ?_, ?_, nrl, o2.nodup_iff.mpr wn, fun x hx => (pcd x hx).1, k9⟩
      · rw [upd_ne nro]
        exact hr5
      · rw [upd_same, List.flatten_append, List.flatten_singleton]
        show some (HO.lst _) = some (HO.lst (List.map _ (_ ++ _)))
        rw [List.map_append]
      · rw [List.flatten_append, List.flatten_singleton, List.length_append, List.length_map, nrl]
        omega
    · refine if_yes (decide_eq_true (by omega)) ?_
      rw [audit_none (order_no wn c), err_count wn] at k9
      refine ⟨_, rfl, _, rfl, (by show 3 ≤ sizeLine; exact small_line (by omega)), fun e he => ?_⟩
      refine q _ e (s14.trans (Same.new he)) (new_before s14 he) ?_
      rw [upd_same, k9]
      rfl
  · rintro σ H' ⟨s1, a, bl, os, v1, v2, v3, rfl, k2, k3, k4, k5, k6, k7, k8, k9⟩
    rw [List.length_map, hkl] at k5 k9
    rw [List.drop_eq_nil_of_le (by omega), audit_nil] at k9
    refine ⟨(by show 1 ≤ sizeLine; exact small_line (by omega)), fun e he => ?_⟩
    have neo : o ≠ e := ne_of_none k4 he
    refine ⟨_, rfl, e, o, _, _, rfl, rfl, upd_same, (upd_ne neo).trans k4, ?_, fun p hp => ?_⟩
    · rw [List.length_map]
      show 1 + os.flatten.length ≤ sizeLine
      exact small_line (by omega)
    refine q _ p ((s1.trans (Same.new he)).trans (Same.new hp)) (new_before (s1.trans (Same.new he)) hp) ?_
    rw [upd_same, k9]
    rfl
theorem ok_opening_audit (T : TbT K Cb) (F : Fun K "opening_audit" "opening_audit" s_opening_audit f fd) (n_enumerate : mg "enumerate" = none) (d_locked : Df P w K mg base CX0 2 "locked" sp_locked) : FnOk P w K mg base CX0 3 f fd ["table", "card", "revealed", "announced"] (sp_oaudit K Cb) := by
  refine F.ok sc_opening_audit (fun vs H Q E h => ?_) (fun cdv A outer s H vs Q E hr h => ⟨_, (pss_cons (ps_set (i := 4) sc_opening_audit.nd rfl (Or.inl rfl) (pv 1))
      (pss_cons (ps_for PassesOwn.never rfl (pi_enum (by rfl) n_enumerate (pa_cons (pv 2) pa_nil)) (pg_tup rfl (pgs_cons (pg_name (i := 5) sc_opening_audit.nd rfl (Or.inl rfl)) (pgs_cons (pg_name (i := 6) sc_opening_audit.nd rfl (Or.inl rfl)) pgs_nil)))
      (pss_cons (ps_if (pt_cmpR op_ne (by exact (pe_d d_locked pass0 hr (by decide) rfl (pa_cons (pe_ix ix_list (pv 3) (pv 5) (fun _ _ => rfl)) (pa_cons (pv 6) (pa_cons (pe_fld (pv 0) rfl) pa_nil))))) (pv 4) (nomark _))
      (pss_one (ps_ret (pe_lst (pa_cons pe_int (pa_cons (pv 5) pa_nil)))))
      pss_nil)
      (pss_one (ps_set (i := 4) sc_opening_audit.nd rfl (Or.inl rfl) (pe_ix ix_list (pv 3) (pv 5) (fun _ _ => rfl))))))
      (pss_cons (ps_if (pt_cmpR op_notIn_seq (pv 4) (pe_fld (pv 0) rfl) (by rfl))
      (pss_one (ps_ret (pe_lst (pa_cons pe_int pa_nil))))
      pss_nil)
      (pss_one (ps_ret (pe_lst (pa_cons pe_int (pa_cons (pe_bm PySem.F.plainAttrs_list PySem.F.slot_list_index PySem.F.type_list_index mt_index (pe_fld (pv 0) rfl) (pa_cons (pv 4) pa_nil)) pa_nil)))))))), ?_⟩)
  · obtain ⟨b, k, d, t, x, ks, ys, rfl, _⟩ := h
    rfl
  obtain ⟨b, k, d, t, x0, ks, ys, rfl, ta, tk, sqk, hks, sqd, hys, q⟩ := h
  obtain ⟨dx, D0, L, t1, t2, t3⟩ := id ta
  obtain ⟨hk1, hk2⟩ := rev_iff.mp hks
  obtain ⟨hl1, hl2⟩ := list_iff.mp hys
  obtain ⟨ek, hkk⟩ := keys_nats hk2
  obtain ⟨ey, hyy⟩ := cards_nats hl2
  rw [ek] at sqk
  rw [ey] at sqd
  have hhi := tk.tp.hi
  have hkl : (Vbndal.toNats ks).length = t.players.length := by rw [nats_len, hk1]
  have hyl : (Vbndal.toNats ys).length = t.players.length := by rw [nats_len, hl1]
  obtain ⟨z, hz⟩ : ∃ z, (Vbndal.toNats ks).zip (Vbndal.toNats ys) = z := ⟨_, rfl⟩
  have hzl : z.length = t.players.length := by
    rw [← hz, List.length_zip, hyl, hkl]
    omega
  rw [hz] at q
  refine ⟨_, rfl, ?_⟩
  refine ⟨_, rfl, k, _, rfl, sqk, ?_⟩
  refine for_it (walk_enum (xs := VN (Vbndal.toNats ks))) (fun i σ H' => Same H H' ∧ ∃ (x : Nat) (v1 v2 : Option V), σ = [some (.ref b), some (.int x0), some (.ref k), some (.ref d), some (.int x), v1, v2] ∧ Vbndal.auditOpening t.prime 0 x0 z = Vbndal.auditOpening t.prime i x (z.drop i))
    ⟨Same.refl H, x0, none, none, rfl, rfl⟩ (fun i σ H' _ z => z.1.seq sqk) ?_ ?_
  · rintro i x σ H2 H3 hi ⟨s1, x, v1, v2, rfl, k9⟩ ⟨T1, x1, y1, rfl, nT, rfl, hx, hy⟩
    rw [List.length_map] at hi
    have hi' : i < t.players.length := by omega
    dsimp only at hx hy
    rw [List.getElem?_map, List.getElem?_eq_getElem hi] at hy
    cases hx
    cases hy
    obtain ⟨key, hkey⟩ : ∃ key, (Vbndal.toNats ks)[i] = key := ⟨_, rfl⟩
    rw [hkey]
    have hki : (Vbndal.toNats ks)[i]? = some key := by rw [List.getElem?_eq_getElem hi, hkey]
    obtain ⟨ky1, ky2⟩ := hkk key (List.mem_of_getElem? hki)
    have hye : (Vbndal.toNats ys)[i]? = some (Vbndal.toNats ys)[i] := List.getElem?_eq_getElem (by omega)
    obtain ⟨y, hyv⟩ : ∃ y, (Vbndal.toNats ys)[i] = y := ⟨_, rfl⟩
    rw [hyv] at hye
    have hzi : z.drop i = (key, y) :: z.drop (i + 1) := by
      rw [← hz]
      exact drop_zip hki hye
    rw [hzi] at k9
    have sT : Same H2 (upd H2 T1 (.tup [V.int (i : Nat), V.int (key : Nat)])) := Same.new nT
    have s3 := s1.trans sT
    refine ⟨T1, _, rfl, SqT.of upd_same, rfl, _, _, rfl, _, _, rfl, rfl, ?_⟩
    refine ⟨_, rfl, _, rfl, d, _, _, V.int (y : Nat), rfl, rfl, s3.seq sqd, atI_nat (by rw [List.getElem?_map, hye]; rfl), _, rfl, _, rfl, b, Cb, dx, _, _, rfl, s3 _ _ t1, T.cl, T.n1, tbF_prime, y, key, t.prime, rfl, tk.tp, by omega, _, rfl, rfl, _, rfl, ?_⟩
    by_cases c : Vbndal.lockCard t.prime y key = x
    · refine if_no (by rw [d_yes (by rw [c])]; rfl) ?_
      rw [opening_yes c] at k9
      refine ⟨_, rfl, _, rfl, d, _, _, V.int (y : Nat), rfl, rfl, s3.seq sqd, atI_nat (by rw [List.getElem?_map, hye]; rfl), ?_⟩
      exact ⟨s3, y, _, _, rfl, k9⟩
    · refine if_yes (by rw [d_no (by omega)]; rfl) ?_
      rw [opening_no c] at k9
      refine ⟨_, rfl, (by show 2 ≤ sizeLine; exact small_line (by omega)), fun e he => ?_⟩
      refine q _ e (s3.trans (Same.new he)) (new_before s3 he) ?_
      rw [upd_same, k9]
      rfl
  · rintro σ H' ⟨s1, x, v1, v2, rfl, k9⟩
    rw [List.length_map, hkl, List.drop_eq_nil_of_le (by omega)] at k9
    have k9' : Vbndal.auditOpening t.prime 0 x0 z = .opened x := k9
    have sqD : SqL K H' D0 (VN t.deck) := SqL.of (s1 _ _ t2)
    refine ⟨_, rfl, _, rfl, b, Cb, dx, _, _, rfl, s1 _ _ t1, T.cl, T.n2, tbF_deck, D0, _, rfl, .inl sqD, rfl, flat_nats _, _, rfl, ?_⟩
    rw [in_nats]
    by_cases c : x ∈ t.deck
    · refine if_no (by rw [List.contains_iff_mem.mpr c]; rfl) ?_
      have e1 := List.getElem_idxOf (x := x) (xs := t.deck) (h := idx_lt c)
      refine ⟨_, rfl, b, Cb, dx, _, _, rfl, s1 _ _ t1, T.cl, T.n2, tbF_deck, .inl ⟨rfl, _, sqD⟩, _, rfl, D0, _, _, t.deck.idxOf x, V.int x, rfl, rfl, sqD, rfl, flat_nats _, ?_, (beq_self_eq_true (x : Int) : ((x : Int) == (x : Int)) = true), ?_, (by show 2 ≤ sizeLine; exact small_line (by omega)), fun e he => ?_⟩
      · rw [List.getElem?_map, List.getElem?_eq_getElem (idx_lt c), e1] <;> rfl
      · intro m z hm hz
        obtain ⟨y, hy, rfl⟩ := map_at hz
        have ne : y ≠ x := by
          have h2 := List.not_of_lt_findIdx (p := fun y => y == x) (xs := t.deck) hm
          rw [(List.getElem?_eq_some_iff.mp hy).2] at h2
          simpa using h2
        exact beq_false_of_ne fun e => ne (Int.ofNat.inj e)
      · refine q _ e (s1.trans (Same.new he)) (new_before s1 he) ?_
        rw [upd_same, k9']
        unfold oaR
        dsimp only
        rw [find_idx, if_pos c]
        rfl
    · refine if_yes (by
        cases z : t.deck.contains x with
        | false => rfl
        | true => exact absurd (List.contains_iff_mem.mp z) c) ?_
      refine ⟨(by show 1 ≤ sizeLine; exact small_line (by omega)), fun e he => ?_⟩
      refine q _ e (s1.trans (Same.new he)) (new_before s1 he) ?_
      rw [upd_same, k9']
      unfold oaR
      dsimp only
      rw [find_idx, if_neg c]
      rfl
end
end Cl
set_option Elab.async false
set_option linter.unusedVariables false
set_option maxRecDepth 100000
set_option maxHeartbeats 4000000
/-! # The operations, 0 to 9 -/
namespace Cl
open PySem PySem.Spec PyProof.Rows L2
abbrev s_load_table : Stmt := top 113
abbrev n_load_table : List Str := ["session", "call", "table"]
theorem sc_load_table : FnScope n_load_table ["session", "call"] (defScope s_load_table) := ⟨rfl, rfl, rfl, by decide +kernel, rfl, by decide +kernel, by decide +kernel⟩
abbrev s_check_table : Stmt := top 114
abbrev n_check_table : List Str := ["session", "call"]
theorem sc_check_table : FnScope n_check_table ["session", "call"] (defScope s_check_table) := ⟨rfl, rfl, rfl, by decide +kernel, rfl, by decide +kernel, by decide +kernel⟩
abbrev s_print_table : Stmt := top 115
abbrev n_print_table : List Str := ["session", "call"]
theorem sc_print_table : FnScope n_print_table ["session", "call"] (defScope s_print_table) := ⟨rfl, rfl, rfl, by decide +kernel, rfl, by decide +kernel, by decide +kernel⟩
abbrev s_status : Stmt := top 116
abbrev n_status : List Str := ["session", "call", "table"]
theorem sc_status : FnScope n_status ["session", "call"] (defScope s_status) := ⟨rfl, rfl, rfl, by decide +kernel, rfl, by decide +kernel, by decide +kernel⟩
abbrev s_all_cards : Stmt := top 117
abbrev n_all_cards : List Str := ["session", "call", "cards"]
theorem sc_all_cards : FnScope n_all_cards ["session", "call"] (defScope s_all_cards) := ⟨rfl, rfl, rfl, by decide +kernel, rfl, by decide +kernel, by decide +kernel⟩
abbrev s_lock : Stmt := top 118
abbrev n_lock : List Str := ["session", "call", "prime", "card", "key"]
theorem sc_lock : FnScope n_lock ["session", "call"] (defScope s_lock) := ⟨rfl, rfl, rfl, by decide +kernel, rfl, by decide +kernel, by decide +kernel⟩
abbrev s_unlock : Stmt := top 119
abbrev n_unlock : List Str := ["session", "call", "prime", "card", "key"]
theorem sc_unlock : FnScope n_unlock ["session", "call"] (defScope s_unlock) := ⟨rfl, rfl, rfl, by decide +kernel, rfl, by decide +kernel, by decide +kernel⟩
abbrev s_inverse_key : Stmt := top 120
abbrev n_inverse_key : List Str := ["session", "call", "prime"]
theorem sc_inverse_key : FnScope n_inverse_key ["session", "call"] (defScope s_inverse_key) := ⟨rfl, rfl, rfl, by decide +kernel, rfl, by decide +kernel, by decide +kernel⟩
abbrev s_joint_key : Stmt := top 121
abbrev n_joint_key : List Str := ["session", "call", "prime"]
theorem sc_joint_key : FnScope n_joint_key ["session", "call"] (defScope s_joint_key) := ⟨rfl, rfl, rfl, by decide +kernel, rfl, by decide +kernel, by decide +kernel⟩
abbrev s_check_lock : Stmt := top 122
abbrev n_check_lock : List Str := ["session", "call", "prime", "before", "after", "key"]
theorem sc_check_lock : FnScope n_check_lock ["session", "call"] (defScope s_check_lock) := ⟨rfl, rfl, rfl, by decide +kernel, rfl, by decide +kernel, by decide +kernel⟩
theorem len0 {α : Type} {l : List α} (h : l.length = 0) : l = [] := List.eq_nil_of_length_eq_zero h
theorem len1 {α : Type} {l : List α} (h : l.length = 1) : ∃ x, l = [x] := by
  rcases l with _ | ⟨x, _ | ⟨y, l⟩⟩
  · cases h
  · exact ⟨x, rfl⟩
  · simp at h
theorem len2 {α : Type} {l : List α} (h : l.length = 2) : ∃ x y, l = [x, y] := by
  rcases l with _ | ⟨x, l⟩
  · cases h
  · obtain ⟨y, rfl⟩ := len1 (l := l) (by simpa using h)
    exact ⟨x, y, rfl⟩
theorem len3 {α : Type} {l : List α} (h : l.length = 3) : ∃ x y z, l = [x, y, z] := by
  rcases l with _ | ⟨x, l⟩
  · cases h
  · obtain ⟨y, z, rfl⟩ := len2 (l := l) (by simpa using h)
    exact ⟨x, y, z, rfl⟩
theorem ccF_scalars {s r : Addr} : (ccF s r).lookup ("scalars" : Str) = some (.ref s) := lkh
theorem ccF_rows {s r : Addr} : (ccF s r).lookup ("rows" : Str) = some (.ref r) := lkp lkh
theorem row_len {l : List Int} {n : Nat} (h : VbndalNeutral.isRow l n = true) : l.length ≤ n := by
  unfold VbndalNeutral.isRow at h
  rw [Bool.and_eq_true, decide_eq_true_iff] at h
  exact h.1
/-- how an operation ends: r is what the specification says -/
structure OpEnd (Av : Addr → Prop) (Cs Cb Cn Cw Cd Cx a : Addr) (H : Hp) (r : Option Vbndal.Table × List Int) (Q : VK) (E : XK) : Prop where
  fine : ∀ st' fs H' d, r = (st', 0 :: fs) → But a H H' → SeAt Av Cs Cb H' a st' → H' d = some (.lst (VI fs)) → Q (.ref d) H'
  noT : ∀ st' H', r = (st', [-20]) → But a H H' → SeAt Av Cs Cb H' a st' → E (.ref Cn) none H'
  wrong : ∀ st' H', r = (st', [-1]) → But a H H' → SeAt Av Cs Cb H' a st' → E (.ref Cw) none H'
  noD : ∀ st' H', r = (st', [-6]) → But a H H' → SeAt Av Cs Cb H' a st' → E (.ref Cd) none H'
  bad : ∀ st' (c o : Int) H' d, r = (st', [1, c, o]) → But a H H' → SeAt Av Cs Cb H' a st' → H d = none → H' d = some (.xd (itF c o)) → E (.ref Cx) (some d) H'
section
variable {Av : Addr → Prop} {Cs Cb Cn Cw Cd Cx a : Addr} {H : Hp} {r : Option Vbndal.Table × List Int} {Q : VK} {E : XK} {st : Option Vbndal.Table}
theorem OpEnd.fineS (h : OpEnd Av Cs Cb Cn Cw Cd Cx a H r Q E) (hse : SeAt Av Cs Cb H a st) {fs : List Int} {H' : Hp} {d : Addr} (e : r = (st, 0 :: fs)) (s : Same H H') (hd : H' d = some (.lst (VI fs))) : Q (.ref d) H' := h.fine st fs H' d e (But.of_same s) (hse.same s) hd
theorem OpEnd.wrongS (h : OpEnd Av Cs Cb Cn Cw Cd Cx a H r Q E) (hse : SeAt Av Cs Cb H a st) {H' : Hp} (e : r = (st, [-1])) (s : Same H H') : E (.ref Cw) none H' := h.wrong st H' e (But.of_same s) (hse.same s)
theorem OpEnd.noDS (h : OpEnd Av Cs Cb Cn Cw Cd Cx a H r Q E) (hse : SeAt Av Cs Cb H a st) {H' : Hp} (e : r = (st, [-6])) (s : Same H H') : E (.ref Cd) none H' := h.noD st H' e (But.of_same s) (hse.same s)
theorem OpEnd.noTS (h : OpEnd Av Cs Cb Cn Cw Cd Cx a H r Q E) (hse : SeAt Av Cs Cb H a st) (e : r = (st, [-20])) : E (.ref Cn) none H := h.noT st H e (But.refl a H) hse
end
def sp_op (K : Fr) (Cs Cb Cc Cn Cw Cd Cx : Addr) (i : Int) (n k : Nat) : Sp := fun vs H Q E => ∃ (Av : Addr → Prop) (a c s r : Addr) (st : Option Vbndal.Table) (xs : List Int) (rs : List Addr) (rows : List (List Int)), vs = [.ref a, .ref c] ∧ SeAt Av Cs Cb H a st ∧ (∀ x, Av x → H x ≠ none) ∧ CcAt Cc H c s r ∧ H s = some (.lst (VI xs)) ∧ xs.length = n ∧
  H r = some (.lst (rs.map V.ref)) ∧ Rws H rs rows ∧ rows.length = k ∧ VbndalNeutral.asked1 ((i :: xs) :: rows) = true ∧ OpEnd Av Cs Cb Cn Cw Cd Cx a H (VbndalNeutral.step st ((i :: xs) :: rows)) Q E
theorem ins_ne {H : Hp} {a b C D dx dy : Addr} {fs gs : List (Str × V)} (ha : H a = some (.ins C dx fs)) (hb : H b = some (.ins D dy gs)) (n : fs.length ≠ gs.length) : b ≠ a := fun z => by
  rw [z, ha] at hb
  have h := Option.some.inj hb
  injection h with h1 h2 h3
  exact n (congrArg List.length h3)
/-- a table stands when something else is stored at the session -/
theorem TabAv.store {Av : Addr → Prop} {Cs Cb : Addr} {H : Hp} {a b dx : Addr} {t : Vbndal.Table} {v : V} {o : HO} (ha : H a = some (.ins Cs dx (seF v))) (h : TabAv Av Cb H b t) : TabAv Av Cb (upd H a o) b t := by
  obtain ⟨dy, D, L, h1, h2, ⟨rs, h3, h4, h5⟩, h6⟩ := h
  refine ⟨dy, D, L, ?_, ?_, ⟨rs, ?_, h4, fun j r y e1 e2 => ?_⟩, h6⟩
  · rw [upd_ne (ins_ne ha h1 (by show 1 ≠ 3; decide))]
    exact h1
  · rw [upd_ne (ne_of h2 ha (by intro z; cases z))]
    exact h2
  · rw [upd_ne (ne_of h3 ha (by intro z; cases z))]
    exact h3
  · have z := h5 j r y e1 e2
    rw [upd_ne (ne_of z ha (by intro z; cases z))]
    exact z
theorem text_nats {l : List Int} (h : Vbndal.isTextArgument l = true) : VI l = VN (Vbndal.toNats l) ∧ l.length ≤ 800 := by
  unfold Vbndal.isTextArgument Vbndal.inRange Vbndal.maxTextLength at h
  rw [Bool.and_eq_true, decide_eq_true_iff, List.all_eq_true] at h
  refine ⟨vi_nats fun z hz => ?_, h.1⟩
  have := h.2 z hz
  rw [Bool.and_eq_true, decide_eq_true_iff] at this
  exact this.1
section
variable {P : Program} {w : World} {K : Fr} {mg : Str → Option Value} {base : Heap} {f : Addr} {fd : FuncData} {Cs Cb Cn Cw Cd Cx Cc : Addr}
theorem st_text {st : Option Vbndal.Table} {i : Int} {l : List Int} (hi : i = 0 ∨ i = 1) (h : Vbndal.isTextArgument l = false) : VbndalNeutral.step st [[i], l] = (st, [-1]) := by
  rcases hi with rfl | rfl
  · show (if Vbndal.isTextArgument l = false then _ else _) = _
    rw [if_pos h]
  · show (if Vbndal.isTextArgument l = false then _ else _) = _
    rw [if_pos h]
theorem st_err {st : Option Vbndal.Table} {i : Int} {l : List Int} {e : Vbndal.ParseError} (hi : i = 0 ∨ i = 1) (h : Vbndal.isTextArgument l = true) (hp : Vbndal.parseTable (Vbndal.toNats l) = .error e) : VbndalNeutral.step st [[i], l] = (st, [1, (e.code : Int), (e.offset : Int)]) := by
  rcases hi with rfl | rfl
  · show (if Vbndal.isTextArgument l = false then _ else _) = _
    rw [if_neg (by rw [h]; decide), hp]
  · show (if Vbndal.isTextArgument l = false then _ else _) = _
    rw [if_neg (by rw [h]; decide), hp]
theorem st_load {st : Option Vbndal.Table} {l : List Int} {t : Vbndal.Table} (h : Vbndal.isTextArgument l = true) (hp : Vbndal.parseTable (Vbndal.toNats l) = .ok t) : VbndalNeutral.step st [[0], l] = (some t, 0 :: Vbndal.toInts [t.prime, t.deck.length, t.players.length]) := by
  show (if Vbndal.isTextArgument l = false then _ else _) = _
  rw [if_neg (by rw [h]; decide), hp]
theorem st_check {st : Option Vbndal.Table} {l : List Int} {t : Vbndal.Table} (h : Vbndal.isTextArgument l = true) (hp : Vbndal.parseTable (Vbndal.toNats l) = .ok t) : VbndalNeutral.step st [[1], l] = (st, [0]) := by
  show (if Vbndal.isTextArgument l = false then _ else _) = _
  rw [if_neg (by rw [h]; decide), hp]
theorem ok_load_table (T : SeT K Cs) (TC : CcT K Cc) (TB : TbT K Cb) (F : Fun K "load_table" "load_table" s_load_table f fd) (d_read_table : Df P w K mg base (L2.CX P w) 7 "read_table" (sp_rtable K Cb Cx)) (d_checked_text : Df P w K mg base (L2.CX P w) 2 "checked_text" (sp_ctext K Cw)) (n_len : mg "len" = none) : FnOk P w K mg base (L2.CX P w) 8 f fd ["session", "call"] (sp_op K Cs Cb Cc Cn Cw Cd Cx 0 0 1) := by
  refine F.okX sc_load_table (fun vs H Q E h => ?_) (fun cdv A outer s0 H vs Q E hr h => ⟨_, (pss_cons (ps_set (i := 2) sc_load_table.nd rfl (Or.inl rfl) (by exact (pe_d d_read_table (pass_up (takes_of rfl rfl rfl rfl)) hr (by decide) rfl (pa_cons (by exact (pe_d d_checked_text (pass_up (takes_of rfl rfl rfl rfl)) hr (by decide) rfl (pa_cons (pe_ix ix_list (pe_fld (pv 1) rfl) pe_int (fun _ _ => rfl)) pa_nil))) pa_nil))))
      (pss_cons (ps_fld (pv 0) (pv 2) rfl)
      (pss_one (ps_ret (pe_lst (pa_cons (pe_fld (pv 2) rfl) (pa_cons (pe_callB call_len_seq (by rfl) n_len PySem.boot_len (pa_cons (pe_fld (pv 2) rfl) pa_nil)) (pa_cons (pe_callB call_len_seq (by rfl) n_len PySem.boot_len (pa_cons (pe_fld (pv 2) rfl) pa_nil)) pa_nil)))))))), ?_⟩)
  · obtain ⟨Av, a, c, s, r, st, xs, rs, rows, rfl, _⟩ := h
    rfl
  obtain ⟨Av, a, c, s, r, st, xs, rs, rows, rfl, hse, hav, ⟨dc, hc⟩, hs, hxl, hro, hrw, hrl, hask, oe⟩ := h
  obtain rfl := len0 hxl
  obtain ⟨t0, rfl⟩ := len1 hrl
  obtain ⟨l0, rfl⟩ := len1 (hrw.1.trans hrl)
  have hl0 := SqL.of (K := K) (hrw.2 0 l0 t0 rfl rfl)
  have h9 : t0.length ≤ 900 := row_len hask
  refine ⟨_, rfl, c, Cc, dc, _, _, rfl, hc, TC.cl, TC.n2, ccF_rows, r, _, _, V.ref l0, rfl, rfl, SqL.of hro, atI_nat (j := 0) rfl, l0, t0, rfl, hl0, h9, fun ht => ?_, fun ht => oe.wrongS hse (st_text (.inl rfl) ht) (Same.refl H)⟩
  obtain ⟨e0, h8⟩ := text_nats ht
  refine ⟨l0, Vbndal.toNats t0, rfl, by rw [← e0]; exact hl0, by rw [nats_len]; omega, ?_⟩
  cases hp : Vbndal.parseTable (Vbndal.toNats t0) with
  | error e => exact fun H1 d s1 nd hd => oe.bad st _ _ H1 d (st_err (.inl rfl) ht hp) (But.of_same s1) (hse.same s1) nd hd
  | ok t =>
    intro H1 b s1 nb tb tk
    obtain ⟨ds, v, h1, h2⟩ := hse
    have h1' := s1 _ _ h1
    refine ⟨_, rfl, _, rfl, a, Cs, ds, _, rfl, h1', T.cl, T.n1, (by show 1 < 1000; decide), ?_⟩
    have tb2 := (tb.less hav).store (o := .ins Cs ds (putF "table" (V.ref b) (seF v))) h1'
    obtain ⟨dx, D, L, t1, t2, rs2, t3, t4, t5⟩ := tb2.at
    refine ⟨_, rfl, b, Cb, dx, _, _, rfl, t1, TB.cl, TB.n1, tbF_prime, ?_⟩
    refine ⟨_, rfl, b, Cb, dx, _, _, rfl, t1, TB.cl, TB.n2, tbF_deck, D, _, rfl, .inl (SqL.of t2), ?_⟩
    refine ⟨_, rfl, b, Cb, dx, _, _, rfl, t1, TB.cl, TB.n3, tbF_players, L, _, rfl, .inl (SqL.of t3), (by show 3 ≤ sizeLine; exact small_line (by omega)), fun p hp2 => ?_⟩
    refine oe.fine (some t) _ _ p (st_load ht hp) (((But.of_same s1).trans But.upd).trans (But.of_same (Same.new hp2))) ⟨ds, V.ref b, ?_, b, rfl, tb2.same (Same.new hp2), tk⟩ ?_
    · rw [upd_ne (ne_of_none upd_same hp2), upd_same, seF_put]
    · rw [upd_same, List.length_map, List.length_map, t4]
      rfl
theorem ok_check_table (T : SeT K Cs) (TC : CcT K Cc) (TB : TbT K Cb) (F : Fun K "check_table" "check_table" s_check_table f fd) (d_read_table : Df P w K mg base (L2.CX P w) 7 "read_table" (sp_rtable K Cb Cx)) (d_checked_text : Df P w K mg base (L2.CX P w) 2 "checked_text" (sp_ctext K Cw)) : FnOk P w K mg base (L2.CX P w) 8 f fd ["session", "call"] (sp_op K Cs Cb Cc Cn Cw Cd Cx 1 0 1) := by
  refine F.okX sc_check_table (fun vs H Q E h => ?_) (fun cdv A outer s0 H vs Q E hr h => ⟨_, (pss_cons (ps_expr (by exact (pe_d d_read_table (pass_up (takes_of rfl rfl rfl rfl)) hr (by decide) rfl (pa_cons (by exact (pe_d d_checked_text (pass_up (takes_of rfl rfl rfl rfl)) hr (by decide) rfl (pa_cons (pe_ix ix_list (pe_fld (pv 1) rfl) pe_int (fun _ _ => rfl)) pa_nil))) pa_nil))))
      (pss_one (ps_ret (pe_lst pa_nil)))), ?_⟩)
  · obtain ⟨Av, a, c, s, r, st, xs, rs, rows, rfl, _⟩ := h
    rfl
  obtain ⟨Av, a, c, s, r, st, xs, rs, rows, rfl, hse, hav, ⟨dc, hc⟩, hs, hxl, hro, hrw, hrl, hask, oe⟩ := h
  obtain rfl := len0 hxl
  obtain ⟨t0, rfl⟩ := len1 hrl
  obtain ⟨l0, rfl⟩ := len1 (hrw.1.trans hrl)
  have hl0 := SqL.of (K := K) (hrw.2 0 l0 t0 rfl rfl)
  have h9 : t0.length ≤ 900 := row_len hask
  refine ⟨_, rfl, c, Cc, dc, _, _, rfl, hc, TC.cl, TC.n2, ccF_rows, r, _, _, V.ref l0, rfl, rfl, SqL.of hro, atI_nat (j := 0) rfl, l0, t0, rfl, hl0, h9, fun ht => ?_, fun ht => oe.wrongS hse (st_text (.inr rfl) ht) (Same.refl H)⟩
  obtain ⟨e0, h8⟩ := text_nats ht
  refine ⟨l0, Vbndal.toNats t0, rfl, by rw [← e0]; exact hl0, by rw [nats_len]; omega, ?_⟩
  cases hp : Vbndal.parseTable (Vbndal.toNats t0) with
  | error e => exact fun H1 d s1 nd hd => oe.bad st _ _ H1 d (st_err (.inr rfl) ht hp) (But.of_same s1) (hse.same s1) nd hd
  | ok t =>
    intro H1 b s1 nb tb tk
    refine ⟨(by show 0 ≤ sizeLine; exact small_line (by omega)), fun p hp2 => ?_⟩
    exact oe.fineS hse (st_check ht hp) (s1.trans (Same.new hp2)) upd_same
theorem ok_print_table (T : SeT K Cs) (TC : CcT K Cc) (TB : TbT K Cb) (F : Fun K "print_table" "print_table" s_print_table f fd) (d_canonical_bytes : Df P w K mg base CX0 2 "canonical_bytes" (sp_bytes Cb)) (d_needed_table : Df P w K mg base (L2.CX P w) 1 "needed_table" (sp_needed Cs Cb Cn)) : FnOk P w K mg base (L2.CX P w) 3 f fd ["session", "call"] (sp_op K Cs Cb Cc Cn Cw Cd Cx 2 0 0) := by
  refine F.okX sc_print_table (fun vs H Q E h => ?_) (fun cdv A outer s0 H vs Q E hr h => ⟨_, (pss_one (ps_ret (by exact (pe_d d_canonical_bytes pass0 hr (by decide) rfl (pa_cons (by exact (pe_d d_needed_table (pass_up (takes_of rfl rfl rfl rfl)) hr (by decide) rfl (pa_cons (pv 0) pa_nil))) pa_nil))))), ?_⟩)
  · obtain ⟨Av, a, c, s, r, st, xs, rs, rows, rfl, _⟩ := h
    rfl
  obtain ⟨Av, a, c, s, r, st, xs, rs, rows, rfl, hse, hav, ⟨dc, hc⟩, hs, hxl, hro, hrw, hrl, hask, oe⟩ := h
  obtain rfl := len0 hxl
  obtain rfl := len0 hrl
  refine ⟨_, rfl, Av, a, st, rfl, hse, ?_⟩
  cases st with
  | none => exact oe.noTS hse rfl
  | some t =>
  intro tk b tb
  refine ⟨b, t, rfl, tb, tk, fun H1 d s1 nd hd => ?_⟩
  refine oe.fineS hse (show _ = (some t, 0 :: Vbndal.toInts (Vbndal.printTable t)) from rfl) s1 ?_
  rw [hd, toInts_vn]
theorem ok_status (T : SeT K Cs) (TC : CcT K Cc) (TB : TbT K Cb) (F : Fun K "status" "status" s_status f fd) (d_needed_table : Df P w K mg base (L2.CX P w) 1 "needed_table" (sp_needed Cs Cb Cn)) (d_key_modulus : Df P w K mg base CX0 1 "key_modulus" sp_half) (n_len : mg "len" = none) : FnOk P w K mg base (L2.CX P w) 2 f fd ["session", "call"] (sp_op K Cs Cb Cc Cn Cw Cd Cx 3 0 0) := by
  refine F.okX sc_status (fun vs H Q E h => ?_) (fun cdv A outer s0 H vs Q E hr h => ⟨_, (pss_cons (ps_set (i := 2) sc_status.nd rfl (Or.inl rfl) (by exact (pe_d d_needed_table (pass_up (takes_of rfl rfl rfl rfl)) hr (by decide) rfl (pa_cons (pv 0) pa_nil))))
      (pss_one (ps_ret (pe_lst (pa_cons (pe_fld (pv 2) rfl) (pa_cons (by exact (pe_d d_key_modulus pass0 hr (by decide) rfl (pa_cons (pe_fld (pv 2) rfl) pa_nil))) (pa_cons (pe_callB call_len_seq (by rfl) n_len PySem.boot_len (pa_cons (pe_fld (pv 2) rfl) pa_nil)) (pa_cons (pe_callB call_len_seq (by rfl) n_len PySem.boot_len (pa_cons (pe_fld (pv 2) rfl) pa_nil)) pa_nil)))))))), ?_⟩)
  · obtain ⟨Av, a, c, s, r, st, xs, rs, rows, rfl, _⟩ := h
    rfl
  obtain ⟨Av, a, c, s, r, st, xs, rs, rows, rfl, hse, hav, ⟨dc, hc⟩, hs, hxl, hro, hrw, hrl, hask, oe⟩ := h
  obtain rfl := len0 hxl
  obtain rfl := len0 hrl
  refine ⟨_, rfl, Av, a, st, rfl, hse, ?_⟩
  cases st with
  | none => exact oe.noTS hse rfl
  | some t =>
  intro tk b tb
  obtain ⟨dx, D, L, t1, t2, rs2, t3, t4, t5⟩ := id tb
  have hlo := tk.tp.lo
  refine ⟨_, rfl, b, Cb, dx, _, _, rfl, t1, TB.cl, TB.n1, tbF_prime, ?_⟩
  refine ⟨_, rfl, b, Cb, dx, _, _, rfl, t1, TB.cl, TB.n1, tbF_prime, t.prime, rfl, by omega, ?_⟩
  refine ⟨_, rfl, b, Cb, dx, _, _, rfl, t1, TB.cl, TB.n2, tbF_deck, D, _, rfl, .inl (SqL.of t2), ?_⟩
  refine ⟨_, rfl, b, Cb, dx, _, _, rfl, t1, TB.cl, TB.n3, tbF_players, L, _, rfl, .inl (SqL.of t3), (by show 4 ≤ sizeLine; exact small_line (by omega)), fun p hp2 => ?_⟩
  refine oe.fineS hse (show _ = (some t, 0 :: Vbndal.toInts [t.prime, Vbndal.subgroupOrder t.prime, t.deck.length, t.players.length]) from rfl) (Same.new hp2) ?_
  rw [upd_same, List.length_map, List.length_map, t4, tk.tp.q1]
  rfl
theorem ok_all_cards (T : SeT K Cs) (TC : CcT K Cc) (TB : TbT K Cb) (F : Fun K "all_cards" "all_cards" s_all_cards f fd) (d_cards_of : Df P w K mg base CX0 4 "cards_of" sp_cards) (d_needed_table : Df P w K mg base (L2.CX P w) 1 "needed_table" (sp_needed Cs Cb Cn)) (n_len : mg "len" = none) : FnOk P w K mg base (L2.CX P w) 5 f fd ["session", "call"] (sp_op K Cs Cb Cc Cn Cw Cd Cx 4 0 0) := by
  refine F.okX sc_all_cards (fun vs H Q E h => ?_) (fun cdv A outer s0 H vs Q E hr h => ⟨_, (pss_cons (ps_set (i := 2) sc_all_cards.nd rfl (Or.inl rfl) (by exact (pe_d d_cards_of pass0 hr (by decide) rfl (pa_cons (pe_fld (by exact (pe_d d_needed_table (pass_up (takes_of rfl rfl rfl rfl)) hr (by decide) rfl (pa_cons (pv 0) pa_nil))) rfl) pa_nil))))
      (pss_one (ps_ret (pe_op op_cat (pe_lst (pa_cons (pe_callB call_len_seq (by rfl) n_len PySem.boot_len (pa_cons (pv 2) pa_nil)) pa_nil)) (pv 2))))), ?_⟩)
  · obtain ⟨Av, a, c, s, r, st, xs, rs, rows, rfl, _⟩ := h
    rfl
  obtain ⟨Av, a, c, s, r, st, xs, rs, rows, rfl, hse, hav, ⟨dc, hc⟩, hs, hxl, hro, hrw, hrl, hask, oe⟩ := h
  obtain rfl := len0 hxl
  obtain rfl := len0 hrl
  refine ⟨_, rfl, Av, a, st, rfl, hse, ?_⟩
  cases st with
  | none => exact oe.noTS hse rfl
  | some t =>
  intro tk b tb
  obtain ⟨dx, D, L, t1, t2, rs2, t3, t4, t5⟩ := id tb
  refine ⟨b, Cb, dx, _, _, rfl, t1, TB.cl, TB.n1, tbF_prime, t.prime, rfl, tk.tp, fun H1 d nd s1 hd => ?_⟩
  refine ⟨_, rfl, d, _, rfl, .inl (SqL.of hd), (by show 1 ≤ sizeLine; exact small_line (by omega)), fun e he => ?_⟩
  have nde : d ≠ e := ne_of_none hd he
  have hcl : (Vbndal.allCards t.prime).length ≤ 983 := by
    have h1 := List.length_filter_le (Vbndal.isCard t.prime) (List.range t.prime)
    rw [List.length_range] at h1
    have := tk.tp.hi
    exact Nat.le_trans h1 this
  refine ⟨_, rfl, e, d, _, _, rfl, rfl, upd_same, (upd_ne nde).trans hd, ?_, fun p hp => ?_⟩
  · rw [List.length_map]
    show 1 + _ ≤ sizeLine
    exact small_line (by omega)
  refine oe.fineS hse (show _ = (some t, 0 :: Vbndal.withLength (Vbndal.allCards t.prime)) from rfl) ((s1.trans (Same.new he)).trans (Same.new hp)) ?_
  rw [upd_same, List.length_map]
  unfold Vbndal.withLength
  show _ = some (HO.lst (V.int ((Vbndal.allCards t.prime).length : Nat) :: VI (Vbndal.toInts (Vbndal.allCards t.prime))))
  rw [toInts_vn]
  rfl
theorem ok_lock (T : SeT K Cs) (TC : CcT K Cc) (TB : TbT K Cb) (F : Fun K "lock" "lock" s_lock f fd) (d_checked_card : Df P w K mg base (L2.CX P w) 4 "checked_card" (sp_ccard Cw)) (d_checked_key : Df P w K mg base (L2.CX P w) 3 "checked_key" (sp_ckey Cw)) (d_needed_table : Df P w K mg base (L2.CX P w) 1 "needed_table" (sp_needed Cs Cb Cn)) (d_locked : Df P w K mg base CX0 2 "locked" sp_locked) : FnOk P w K mg base (L2.CX P w) 5 f fd ["session", "call"] (sp_op K Cs Cb Cc Cn Cw Cd Cx 5 2 0) := by
  refine F.okX sc_lock (fun vs H Q E h => ?_) (fun cdv A outer s0 H vs Q E hr h => ⟨_, (pss_cons (ps_set (i := 2) sc_lock.nd rfl (Or.inl rfl) (pe_fld (by exact (pe_d d_needed_table (pass_up (takes_of rfl rfl rfl rfl)) hr (by decide) rfl (pa_cons (pv 0) pa_nil))) rfl))
      (pss_cons (ps_set (i := 3) sc_lock.nd rfl (Or.inl rfl) (by exact (pe_d d_checked_card (pass_up (takes_of rfl rfl rfl rfl)) hr (by decide) rfl (pa_cons (pe_ix ix_list (pe_fld (pv 1) rfl) pe_int (fun _ _ => rfl)) (pa_cons (pv 2) pa_nil)))))
      (pss_cons (ps_set (i := 4) sc_lock.nd rfl (Or.inl rfl) (by exact (pe_d d_checked_key (pass_up (takes_of rfl rfl rfl rfl)) hr (by decide) rfl (pa_cons (pe_ix ix_list (pe_fld (pv 1) rfl) pe_int (fun _ _ => rfl)) (pa_cons (pv 2) pa_nil)))))
      (pss_one (ps_ret (pe_lst (pa_cons (by exact (pe_d d_locked pass0 hr (by decide) rfl (pa_cons (pv 3) (pa_cons (pv 4) (pa_cons (pv 2) pa_nil))))) pa_nil))))))), ?_⟩)
  · obtain ⟨Av, a, c, s, r, st, xs, rs, rows, rfl, _⟩ := h
    rfl
  obtain ⟨Av, a, c, s, r, st, xs, rs, rows, rfl, hse, hav, ⟨dc, hc⟩, hs, hxl, hro, hrw, hrl, hask, oe⟩ := h
  obtain ⟨x, k, rfl⟩ := len2 hxl
  obtain rfl := len0 hrl
  refine ⟨_, rfl, Av, a, st, rfl, hse, ?_⟩
  cases st with
  | none => exact oe.noTS hse rfl
  | some t =>
  intro tk b tb
  obtain ⟨dx, D, L, t1, t2, rs2, t3, t4, t5⟩ := id tb
  have es : VbndalNeutral.step (some t) [[5, x, k]] = if (crd t.prime x && kyd t.prime k) = false then (some t, [-1]) else (some t, [0, ((Vbndal.lockCard t.prime x.toNat k.toNat : Nat) : Int)]) := rfl
  refine ⟨b, Cb, dx, _, _, rfl, t1, TB.cl, TB.n1, tbF_prime, ?_⟩
  refine ⟨_, rfl, c, Cc, dc, _, _, rfl, hc, TC.cl, TC.n1, ccF_scalars, s, _, _, V.int x, rfl, rfl, SqL.of hs, atI_nat (j := 0) rfl, _, rfl, x, t.prime, rfl, tk.tp, fun h1 => ?_, fun h1 => oe.wrongS hse (by rw [es, if_pos (by rw [h1]; rfl)]) (Same.refl H)⟩
  refine ⟨_, rfl, c, Cc, dc, _, _, rfl, hc, TC.cl, TC.n1, ccF_scalars, s, _, _, V.int k, rfl, rfl, SqL.of hs, atI_nat (j := 1) rfl, _, rfl, k, t.prime, rfl, tk.tp, fun h2 => ?_, fun h2 => oe.wrongS hse (by rw [es, if_pos (by rw [h1, h2]; rfl)]) (Same.refl H)⟩
  obtain ⟨x', rfl, x1, x2, x3⟩ := crd_iff.mp h1
  obtain ⟨k', rfl, k1, k2⟩ := kyd_iff.mp h2
  refine ⟨_, rfl, _, rfl, _, rfl, x', k', t.prime, rfl, tk.tp, by have := tk.tp.hi; omega, (by show 1 ≤ sizeLine; exact small_line (by omega)), fun p hp => ?_⟩
  exact oe.fineS hse (by rw [es, if_neg (by rw [h1, h2]; decide)]) (Same.new hp) upd_same
theorem ok_unlock (T : SeT K Cs) (TC : CcT K Cc) (TB : TbT K Cb) (F : Fun K "unlock" "unlock" s_unlock f fd) (d_checked_card : Df P w K mg base (L2.CX P w) 4 "checked_card" (sp_ccard Cw)) (d_checked_key : Df P w K mg base (L2.CX P w) 3 "checked_key" (sp_ckey Cw)) (d_needed_table : Df P w K mg base (L2.CX P w) 1 "needed_table" (sp_needed Cs Cb Cn)) (d_unlocked : Df P w K mg base CX0 3 "unlocked" sp_unlocked) : FnOk P w K mg base (L2.CX P w) 5 f fd ["session", "call"] (sp_op K Cs Cb Cc Cn Cw Cd Cx 6 2 0) := by
  refine F.okX sc_unlock (fun vs H Q E h => ?_) (fun cdv A outer s0 H vs Q E hr h => ⟨_, (pss_cons (ps_set (i := 2) sc_unlock.nd rfl (Or.inl rfl) (pe_fld (by exact (pe_d d_needed_table (pass_up (takes_of rfl rfl rfl rfl)) hr (by decide) rfl (pa_cons (pv 0) pa_nil))) rfl))
      (pss_cons (ps_set (i := 3) sc_unlock.nd rfl (Or.inl rfl) (by exact (pe_d d_checked_card (pass_up (takes_of rfl rfl rfl rfl)) hr (by decide) rfl (pa_cons (pe_ix ix_list (pe_fld (pv 1) rfl) pe_int (fun _ _ => rfl)) (pa_cons (pv 2) pa_nil)))))
      (pss_cons (ps_set (i := 4) sc_unlock.nd rfl (Or.inl rfl) (by exact (pe_d d_checked_key (pass_up (takes_of rfl rfl rfl rfl)) hr (by decide) rfl (pa_cons (pe_ix ix_list (pe_fld (pv 1) rfl) pe_int (fun _ _ => rfl)) (pa_cons (pv 2) pa_nil)))))
      (pss_one (ps_ret (pe_lst (pa_cons (by exact (pe_d d_unlocked pass0 hr (by decide) rfl (pa_cons (pv 3) (pa_cons (pv 4) (pa_cons (pv 2) pa_nil))))) pa_nil))))))), ?_⟩)
  · obtain ⟨Av, a, c, s, r, st, xs, rs, rows, rfl, _⟩ := h
    rfl
  obtain ⟨Av, a, c, s, r, st, xs, rs, rows, rfl, hse, hav, ⟨dc, hc⟩, hs, hxl, hro, hrw, hrl, hask, oe⟩ := h
  obtain ⟨x, k, rfl⟩ := len2 hxl
  obtain rfl := len0 hrl
  refine ⟨_, rfl, Av, a, st, rfl, hse, ?_⟩
  cases st with
  | none => exact oe.noTS hse rfl
  | some t =>
  intro tk b tb
  obtain ⟨dx, D, L, t1, t2, rs2, t3, t4, t5⟩ := id tb
  have es : VbndalNeutral.step (some t) [[6, x, k]] = if (crd t.prime x && kyd t.prime k) = false then (some t, [-1]) else (some t, [0, ((Vbndal.lockCard t.prime x.toNat (Vbndal.inverseKey t.prime k.toNat) : Nat) : Int)]) := rfl
  refine ⟨b, Cb, dx, _, _, rfl, t1, TB.cl, TB.n1, tbF_prime, ?_⟩
  refine ⟨_, rfl, c, Cc, dc, _, _, rfl, hc, TC.cl, TC.n1, ccF_scalars, s, _, _, V.int x, rfl, rfl, SqL.of hs, atI_nat (j := 0) rfl, _, rfl, x, t.prime, rfl, tk.tp, fun h1 => ?_, fun h1 => oe.wrongS hse (by rw [es, if_pos (by rw [h1]; rfl)]) (Same.refl H)⟩
  refine ⟨_, rfl, c, Cc, dc, _, _, rfl, hc, TC.cl, TC.n1, ccF_scalars, s, _, _, V.int k, rfl, rfl, SqL.of hs, atI_nat (j := 1) rfl, _, rfl, k, t.prime, rfl, tk.tp, fun h2 => ?_, fun h2 => oe.wrongS hse (by rw [es, if_pos (by rw [h1, h2]; rfl)]) (Same.refl H)⟩
  obtain ⟨x', rfl, x1, x2, x3⟩ := crd_iff.mp h1
  obtain ⟨k', rfl, k1, k2⟩ := kyd_iff.mp h2
  refine ⟨_, rfl, _, rfl, _, rfl, x', k', t.prime, rfl, tk.tp, (by show 1 ≤ sizeLine; exact small_line (by omega)), fun p hp => ?_⟩
  exact oe.fineS hse (by rw [es, if_neg (by rw [h1, h2]; decide)]) (Same.new hp) upd_same
theorem ok_inverse_key (T : SeT K Cs) (TC : CcT K Cc) (TB : TbT K Cb) (F : Fun K "inverse_key" "inverse_key" s_inverse_key f fd) (d_needed_table : Df P w K mg base (L2.CX P w) 1 "needed_table" (sp_needed Cs Cb Cn)) (d_inverse_of : Df P w K mg base CX0 2 "inverse_of" sp_inv) (d_checked_key : Df P w K mg base (L2.CX P w) 3 "checked_key" (sp_ckey Cw)) : FnOk P w K mg base (L2.CX P w) 4 f fd ["session", "call"] (sp_op K Cs Cb Cc Cn Cw Cd Cx 7 1 0) := by
  refine F.okX sc_inverse_key (fun vs H Q E h => ?_) (fun cdv A outer s0 H vs Q E hr h => ⟨_, (pss_cons (ps_set (i := 2) sc_inverse_key.nd rfl (Or.inl rfl) (pe_fld (by exact (pe_d d_needed_table (pass_up (takes_of rfl rfl rfl rfl)) hr (by decide) rfl (pa_cons (pv 0) pa_nil))) rfl))
      (pss_one (ps_ret (pe_lst (pa_cons (by exact (pe_d d_inverse_of pass0 hr (by decide) rfl (pa_cons (by exact (pe_d d_checked_key (pass_up (takes_of rfl rfl rfl rfl)) hr (by decide) rfl (pa_cons (pe_ix ix_list (pe_fld (pv 1) rfl) pe_int (fun _ _ => rfl)) (pa_cons (pv 2) pa_nil)))) (pa_cons (pv 2) pa_nil)))) pa_nil))))), ?_⟩)
  · obtain ⟨Av, a, c, s, r, st, xs, rs, rows, rfl, _⟩ := h
    rfl
  obtain ⟨Av, a, c, s, r, st, xs, rs, rows, rfl, hse, hav, ⟨dc, hc⟩, hs, hxl, hro, hrw, hrl, hask, oe⟩ := h
  obtain ⟨k, rfl⟩ := len1 hxl
  obtain rfl := len0 hrl
  refine ⟨_, rfl, Av, a, st, rfl, hse, ?_⟩
  cases st with
  | none => exact oe.noTS hse rfl
  | some t =>
  intro tk b tb
  obtain ⟨dx, D, L, t1, t2, rs2, t3, t4, t5⟩ := id tb
  have es : VbndalNeutral.step (some t) [[7, k]] = if kyd t.prime k = false then (some t, [-1]) else (some t, [0, ((Vbndal.inverseKey t.prime k.toNat : Nat) : Int)]) := rfl
  refine ⟨b, Cb, dx, _, _, rfl, t1, TB.cl, TB.n1, tbF_prime, ?_⟩
  refine ⟨_, rfl, c, Cc, dc, _, _, rfl, hc, TC.cl, TC.n1, ccF_scalars, s, _, _, V.int k, rfl, rfl, SqL.of hs, atI_nat (j := 0) rfl, _, rfl, k, t.prime, rfl, tk.tp, fun h1 => ?_, fun h1 => oe.wrongS hse (by rw [es, if_pos h1]) (Same.refl H)⟩
  obtain ⟨k', rfl, k1, k2⟩ := kyd_iff.mp h1
  refine ⟨_, rfl, k', t.prime, rfl, tk.tp, (by show 1 ≤ sizeLine; exact small_line (by omega)), fun p hp => ?_⟩
  exact oe.fineS hse (by rw [es, if_neg (by rw [h1]; decide)]) (Same.new hp) upd_same
theorem ok_joint_key (T : SeT K Cs) (TC : CcT K Cc) (TB : TbT K Cb) (F : Fun K "joint_key" "joint_key" s_joint_key f fd) (d_needed_table : Df P w K mg base (L2.CX P w) 1 "needed_table" (sp_needed Cs Cb Cn)) (d_joint_of : Df P w K mg base CX0 2 "joint_of" (sp_joint K)) (d_checked_keys : Df P w K mg base (L2.CX P w) 4 "checked_keys" (sp_ckeys K Cw)) : FnOk P w K mg base (L2.CX P w) 5 f fd ["session", "call"] (sp_op K Cs Cb Cc Cn Cw Cd Cx 8 0 1) := by
  refine F.okX sc_joint_key (fun vs H Q E h => ?_) (fun cdv A outer s0 H vs Q E hr h => ⟨_, (pss_cons (ps_set (i := 2) sc_joint_key.nd rfl (Or.inl rfl) (pe_fld (by exact (pe_d d_needed_table (pass_up (takes_of rfl rfl rfl rfl)) hr (by decide) rfl (pa_cons (pv 0) pa_nil))) rfl))
      (pss_one (ps_ret (pe_lst (pa_cons (by exact (pe_d d_joint_of pass0 hr (by decide) rfl (pa_cons (by exact (pe_d d_checked_keys (pass_up (takes_of rfl rfl rfl rfl)) hr (by decide) rfl (pa_cons (pe_ix ix_list (pe_fld (pv 1) rfl) pe_int (fun _ _ => rfl)) (pa_cons (pv 2) pa_nil)))) (pa_cons (pv 2) pa_nil)))) pa_nil))))), ?_⟩)
  · obtain ⟨Av, a, c, s, r, st, xs, rs, rows, rfl, _⟩ := h
    rfl
  obtain ⟨Av, a, c, s, r, st, xs, rs, rows, rfl, hse, hav, ⟨dc, hc⟩, hs, hxl, hro, hrw, hrl, hask, oe⟩ := h
  obtain rfl := len0 hxl
  obtain ⟨ks, rfl⟩ := len1 hrl
  obtain ⟨l0, rfl⟩ := len1 (hrw.1.trans hrl)
  have hl0 := SqL.of (K := K) (hrw.2 0 l0 ks rfl rfl)
  have h60 : ks.length ≤ 60 := row_len hask
  refine ⟨_, rfl, Av, a, st, rfl, hse, ?_⟩
  cases st with
  | none => exact oe.noTS hse rfl
  | some t =>
  intro tk b tb
  obtain ⟨dx, D, L, t1, t2, rs2, t3, t4, t5⟩ := id tb
  have es : VbndalNeutral.step (some t) [[8], ks] = if (decide (ks.length ≤ 20) && ks.all (kyd t.prime)) = false then (some t, [-1]) else (some t, [0, ((Vbndal.jointKey t.prime (Vbndal.toNats ks) : Nat) : Int)]) := rfl
  refine ⟨b, Cb, dx, _, _, rfl, t1, TB.cl, TB.n1, tbF_prime, ?_⟩
  refine ⟨_, rfl, c, Cc, dc, _, _, rfl, hc, TC.cl, TC.n2, ccF_rows, r, _, _, V.ref l0, rfl, rfl, SqL.of hro, atI_nat (j := 0) rfl, _, rfl, l0, ks, t.prime, rfl, tk.tp, hl0, by omega, fun h1 H1 s1 d nd hd => ?_, fun h1 H1 s1 => oe.wrongS hse (by rw [es, if_pos h1]) s1⟩
  have h1' := h1
  rw [Bool.and_eq_true, List.all_eq_true] at h1'
  obtain ⟨ek, _⟩ := keys_nats h1'.2
  refine ⟨_, rfl, d, Vbndal.toNats ks, t.prime, rfl, tk.tp, SqL.of (by rw [hd, ek]), (by show 1 ≤ sizeLine; exact small_line (by omega)), fun p hp => ?_⟩
  exact oe.fineS hse (by rw [es, if_neg (by rw [h1]; decide)]) (s1.trans (Same.new hp)) upd_same
theorem ok_check_lock (T : SeT K Cs) (TC : CcT K Cc) (TB : TbT K Cb) (F : Fun K "check_lock" "check_lock" s_check_lock f fd) (d_checked_card : Df P w K mg base (L2.CX P w) 4 "checked_card" (sp_ccard Cw)) (d_checked_key : Df P w K mg base (L2.CX P w) 3 "checked_key" (sp_ckey Cw)) (d_needed_table : Df P w K mg base (L2.CX P w) 1 "needed_table" (sp_needed Cs Cb Cn)) (d_locked : Df P w K mg base CX0 2 "locked" sp_locked) : FnOk P w K mg base (L2.CX P w) 5 f fd ["session", "call"] (sp_op K Cs Cb Cc Cn Cw Cd Cx 9 3 0) := by
  refine F.okX sc_check_lock (fun vs H Q E h => ?_) (fun cdv A outer s0 H vs Q E hr h => ⟨_, (pss_cons (ps_set (i := 2) sc_check_lock.nd rfl (Or.inl rfl) (pe_fld (by exact (pe_d d_needed_table (pass_up (takes_of rfl rfl rfl rfl)) hr (by decide) rfl (pa_cons (pv 0) pa_nil))) rfl))
      (pss_cons (ps_set (i := 3) sc_check_lock.nd rfl (Or.inl rfl) (by exact (pe_d d_checked_card (pass_up (takes_of rfl rfl rfl rfl)) hr (by decide) rfl (pa_cons (pe_ix ix_list (pe_fld (pv 1) rfl) pe_int (fun _ _ => rfl)) (pa_cons (pv 2) pa_nil)))))
      (pss_cons (ps_set (i := 4) sc_check_lock.nd rfl (Or.inl rfl) (by exact (pe_d d_checked_card (pass_up (takes_of rfl rfl rfl rfl)) hr (by decide) rfl (pa_cons (pe_ix ix_list (pe_fld (pv 1) rfl) pe_int (fun _ _ => rfl)) (pa_cons (pv 2) pa_nil)))))
      (pss_cons (ps_set (i := 5) sc_check_lock.nd rfl (Or.inl rfl) (by exact (pe_d d_checked_key (pass_up (takes_of rfl rfl rfl rfl)) hr (by decide) rfl (pa_cons (pe_ix ix_list (pe_fld (pv 1) rfl) pe_int (fun _ _ => rfl)) (pa_cons (pv 2) pa_nil)))))
      (pss_one (ps_ret (pe_lst (pa_cons (pe_ifExp (pt_cmpR op_eq (by exact (pe_d d_locked pass0 hr (by decide) rfl (pa_cons (pv 3) (pa_cons (pv 5) (pa_cons (pv 2) pa_nil))))) (pv 4) (nomark _)) pe_int pe_int) pa_nil)))))))), ?_⟩)
  · obtain ⟨Av, a, c, s, r, st, xs, rs, rows, rfl, _⟩ := h
    rfl
  obtain ⟨Av, a, c, s, r, st, xs, rs, rows, rfl, hse, hav, ⟨dc, hc⟩, hs, hxl, hro, hrw, hrl, hask, oe⟩ := h
  obtain ⟨x, y, k, rfl⟩ := len3 hxl
  obtain rfl := len0 hrl
  refine ⟨_, rfl, Av, a, st, rfl, hse, ?_⟩
  cases st with
  | none => exact oe.noTS hse rfl
  | some t =>
  intro tk b tb
  obtain ⟨dx, D, L, t1, t2, rs2, t3, t4, t5⟩ := id tb
  have es : VbndalNeutral.step (some t) [[9, x, y, k]] = if (crd t.prime x && (crd t.prime y && kyd t.prime k)) = false then (some t, [-1]) else (some t, [0, if Vbndal.locksTo t.prime x.toNat y.toNat k.toNat = true then 1 else 0]) := rfl
  refine ⟨b, Cb, dx, _, _, rfl, t1, TB.cl, TB.n1, tbF_prime, ?_⟩
  refine ⟨_, rfl, c, Cc, dc, _, _, rfl, hc, TC.cl, TC.n1, ccF_scalars, s, _, _, V.int x, rfl, rfl, SqL.of hs, atI_nat (j := 0) rfl, _, rfl, x, t.prime, rfl, tk.tp, fun h1 => ?_, fun h1 => oe.wrongS hse (by rw [es, if_pos (by rw [h1]; rfl)]) (Same.refl H)⟩
  refine ⟨_, rfl, c, Cc, dc, _, _, rfl, hc, TC.cl, TC.n1, ccF_scalars, s, _, _, V.int y, rfl, rfl, SqL.of hs, atI_nat (j := 1) rfl, _, rfl, y, t.prime, rfl, tk.tp, fun h2 => ?_, fun h2 => oe.wrongS hse (by rw [es, if_pos (by rw [h1, h2]; rfl)]) (Same.refl H)⟩
  refine ⟨_, rfl, c, Cc, dc, _, _, rfl, hc, TC.cl, TC.n1, ccF_scalars, s, _, _, V.int k, rfl, rfl, SqL.of hs, atI_nat (j := 2) rfl, _, rfl, k, t.prime, rfl, tk.tp, fun h3 => ?_, fun h3 => oe.wrongS hse (by rw [es, if_pos (by rw [h1, h2, h3]; rfl)]) (Same.refl H)⟩
  obtain ⟨x', rfl, x1, x2, x3⟩ := crd_iff.mp h1
  obtain ⟨y', rfl, y1, y2, y3⟩ := crd_iff.mp h2
  obtain ⟨k', rfl, k1, k2⟩ := kyd_iff.mp h3
  have hhi := tk.tp.hi
  refine ⟨_, rfl, _, rfl, _, rfl, x', k', t.prime, rfl, tk.tp, by omega, _, rfl, rfl, _, rfl, ?_⟩
  have en : VbndalNeutral.step (some t) [[9, (x' : Int), (y' : Int), (k' : Int)]] = (some t, [0, if Vbndal.lockCard t.prime x' k' = y' then 1 else 0]) := by
    rw [es, if_neg (by rw [h1, h2, h3]; decide)]
    unfold Vbndal.locksTo
    simp only [beq_iff_eq, Int.toNat_natCast]
  by_cases c : Vbndal.lockCard t.prime x' k' = y'
  · refine if_yes (d_yes (by rw [c])) ?_
    refine ⟨(by show 1 ≤ sizeLine; exact small_line (by omega)), fun p hp => ?_⟩
    exact oe.fineS hse (by rw [en, if_pos c]) (Same.new hp) upd_same
  · refine if_no (d_no (by omega)) ?_
    refine ⟨(by show 1 ≤ sizeLine; exact small_line (by omega)), fun p hp => ?_⟩
    exact oe.fineS hse (by rw [en, if_neg c]) (Same.new hp) upd_same
end
end Cl
set_option Elab.async false
set_option linter.unusedVariables false
set_option maxRecDepth 100000
set_option maxHeartbeats 4000000
/-! # The operations, 10 to 19 -/
namespace Cl
open PySem PySem.Spec PyProof.Rows L2
abbrev s_shuffle_row : Stmt := top 123
abbrev n_shuffle_row : List Str := ["session", "call", "prime", "key", "row", "order"]
theorem sc_shuffle_row : FnScope n_shuffle_row ["session", "call"] (defScope s_shuffle_row) := ⟨rfl, rfl, rfl, by decide +kernel, rfl, by decide +kernel, by decide +kernel⟩
abbrev s_check_shuffle : Stmt := top 124
abbrev n_check_shuffle : List Str := ["session", "call", "prime", "key", "row", "cards", "errors"]
theorem sc_check_shuffle : FnScope n_check_shuffle ["session", "call"] (defScope s_check_shuffle) := ⟨rfl, rfl, rfl, by decide +kernel, rfl, by decide +kernel, by decide +kernel⟩
abbrev s_check_symmetry : Stmt := top 125
abbrev n_check_symmetry : List Str := ["session", "call", "prime", "key", "row"]
theorem sc_check_symmetry : FnScope n_check_symmetry ["session", "call"] (defScope s_check_symmetry) := ⟨rfl, rfl, rfl, by decide +kernel, rfl, by decide +kernel, by decide +kernel⟩
abbrev s_audit_deal : Stmt := top 126
abbrev n_audit_deal : List Str := ["session", "call", "table", "revealed", "lists"]
theorem sc_audit_deal : FnScope n_audit_deal ["session", "call"] (defScope s_audit_deal) := ⟨rfl, rfl, rfl, by decide +kernel, rfl, by decide +kernel, by decide +kernel⟩
abbrev s_deal : Stmt := top 128
abbrev n_deal : List Str := ["session", "call", "table"]
theorem sc_deal : FnScope n_deal ["session", "call"] (defScope s_deal) := ⟨rfl, rfl, rfl, by decide +kernel, rfl, by decide +kernel, by decide +kernel⟩
abbrev s_open_card : Stmt := top 129
abbrev n_open_card : List Str := ["session", "call", "table", "position", "cards", "card"]
theorem sc_open_card : FnScope n_open_card ["session", "call"] (defScope s_open_card) := ⟨rfl, rfl, rfl, by decide +kernel, rfl, by decide +kernel, by decide +kernel⟩
abbrev s_audit_opening : Stmt := top 130
abbrev n_audit_opening : List Str := ["session", "call", "table", "position", "revealed", "cards", "announced"]
theorem sc_audit_opening : FnScope n_audit_opening ["session", "call"] (defScope s_audit_opening) := ⟨rfl, rfl, rfl, by decide +kernel, rfl, by decide +kernel, by decide +kernel⟩
abbrev s_raise_number : Stmt := top 131
abbrev n_raise_number : List Str := ["session", "call", "prime", "before", "after", "squares", "number"]
theorem sc_raise_number : FnScope n_raise_number ["session", "call"] (defScope s_raise_number) := ⟨rfl, rfl, rfl, by decide +kernel, rfl, by decide +kernel, by decide +kernel⟩
abbrev s_clear_table : Stmt := top 132
abbrev n_clear_table : List Str := ["session", "call"]
theorem sc_clear_table : FnScope n_clear_table ["session", "call"] (defScope s_clear_table) := ⟨rfl, rfl, rfl, by decide +kernel, rfl, by decide +kernel, by decide +kernel⟩
theorem row_nats {p : Nat} {l : List Int} (h : rowd p l = true) : VI l = VN (Vbndal.toNats l) ∧ (1 ≤ l.length ∧ l.length ≤ 10) ∧ (Vbndal.toNats l).Nodup ∧ ∀ x ∈ Vbndal.toNats l, Vbndal.isCard p x = true := by
  unfold rowd Vbndal.maxCards at h
  rw [Bool.and_eq_true, Bool.and_eq_true, decide_eq_true_iff, List.all_eq_true, beq_iff_eq, ed_iff] at h
  obtain ⟨h1, h2, h3⟩ := h
  obtain ⟨e1, e2⟩ := cards_nats h2
  refine ⟨e1, h1, ?_, fun x hx => (e2 x hx).1⟩
  have e : l = (Vbndal.toNats l).map fun n : Nat => (n : Int) := by
    unfold Vbndal.toNats
    rw [List.map_map]
    conv => lhs; rw [← List.map_id l]
    refine List.map_congr_left fun z hz => ?_
    obtain ⟨n, rfl, _⟩ := crd_iff.mp (h2 z hz)
    exact (congrArg (fun k : Nat => (k : Int)) (Int.toNat_natCast n)).symm
  rw [e] at h3
  exact (List.pairwise_map.mp h3).imp fun {a b} h z => h (by rw [z])
theorem one_cat {l : List Nat} {H : Hp} {d : Addr} (h : H d = some (.lst ([V.int 1] ++ VN l))) : H d = some (.lst (VI (1 :: Vbndal.toInts l))) := by
  rw [h]
  show _ = some (HO.lst (V.int 1 :: VI (Vbndal.toInts l)))
  rw [toInts_vn]
  rfl
theorem vn_toInts {l : List Nat} {H : Hp} {d : Addr} (h : H d = some (.lst (VN l))) : H d = some (.lst (VI (Vbndal.toInts l))) := by
  rw [h, toInts_vn]
/-- the place of an item that is there -/
theorem idx_at {l : List Nat} {x : Nat} (c : x ∈ l) : (VN l)[l.idxOf x]? = some (V.int x) := by
  have e1 := List.getElem_idxOf (x := x) (xs := l) (h := idx_lt c)
  rw [List.getElem?_map, List.getElem?_eq_getElem (idx_lt c), e1] <;> rfl
theorem idx_first {l : List Nat} {x : Nat} : ∀ (m : Nat) (z : V), m < l.idxOf x → (VN l)[m]? = some z → eqV z (V.int x) = false := by
  intro m z hm hz
  obtain ⟨y, hy, rfl⟩ := map_at hz
  have ne : y ≠ x := by
    have h2 := List.not_of_lt_findIdx (p := fun y => y == x) (xs := l) hm
    rw [(List.getElem?_eq_some_iff.mp hy).2] at h2
    simpa using h2
  exact beq_false_of_ne fun e => ne (Int.ofNat.inj e)
section
variable {P : Program} {w : World} {K : Fr} {mg : Str → Option Value} {base : Heap} {f : Addr} {fd : FuncData} {Cs Cb Cn Cw Cd Cx Cc : Addr}
theorem ok_shuffle_row (T : SeT K Cs) (TC : CcT K Cc) (TB : TbT K Cb) (F : Fun K "shuffle_row" "shuffle_row" s_shuffle_row f fd) (d_checked_key : Df P w K mg base (L2.CX P w) 3 "checked_key" (sp_ckey Cw)) (d_checked_row : Df P w K mg base (L2.CX P w) 5 "checked_row" (sp_crow K Cw)) (d_checked_order : Df P w K mg base (L2.CX P w) 2 "checked_order" (sp_corder K Cw)) (d_shuffled : Df P w K mg base CX0 4 "shuffled" (sp_shuf K)) (d_needed_table : Df P w K mg base (L2.CX P w) 1 "needed_table" (sp_needed Cs Cb Cn)) (n_len : mg "len" = none) : FnOk P w K mg base (L2.CX P w) 6 f fd ["session", "call"] (sp_op K Cs Cb Cc Cn Cw Cd Cx 10 1 2) := by
  refine F.okX sc_shuffle_row (fun vs H Q E h => ?_) (fun cdv A outer s0 H vs Q E hr h => ⟨_, (pss_cons (ps_set (i := 2) sc_shuffle_row.nd rfl (Or.inl rfl) (pe_fld (by exact (pe_d d_needed_table (pass_up (takes_of rfl rfl rfl rfl)) hr (by decide) rfl (pa_cons (pv 0) pa_nil))) rfl))
      (pss_cons (ps_set (i := 3) sc_shuffle_row.nd rfl (Or.inl rfl) (by exact (pe_d d_checked_key (pass_up (takes_of rfl rfl rfl rfl)) hr (by decide) rfl (pa_cons (pe_ix ix_list (pe_fld (pv 1) rfl) pe_int (fun _ _ => rfl)) (pa_cons (pv 2) pa_nil)))))
      (pss_cons (ps_set (i := 4) sc_shuffle_row.nd rfl (Or.inl rfl) (by exact (pe_d d_checked_row (pass_up (takes_of rfl rfl rfl rfl)) hr (by decide) rfl (pa_cons (pe_ix ix_list (pe_fld (pv 1) rfl) pe_int (fun _ _ => rfl)) (pa_cons (pv 2) pa_nil)))))
      (pss_cons (ps_set (i := 5) sc_shuffle_row.nd rfl (Or.inl rfl) (by exact (pe_d d_checked_order (pass_up (takes_of rfl rfl rfl rfl)) hr (by decide) rfl (pa_cons (pe_ix ix_list (pe_fld (pv 1) rfl) pe_int (fun _ _ => rfl)) (pa_cons (pe_callB call_len_seq (by rfl) n_len PySem.boot_len (pa_cons (pv 4) pa_nil)) pa_nil)))))
      (pss_one (ps_ret (by exact (pe_d d_shuffled pass0 hr (by decide) rfl (pa_cons (pv 4) (pa_cons (pv 3) (pa_cons (pv 5) (pa_cons (pv 2) pa_nil)))))))))))), ?_⟩)
  · obtain ⟨Av, a, c, s, r, st, xs, rs, rows, rfl, _⟩ := h
    rfl
  obtain ⟨Av, a, c, s, r, st, xs, rs, rows, rfl, hse, hav, ⟨dc, hc⟩, hs, hxl, hro, hrw, hrl, hask, oe⟩ := h
  obtain ⟨k, rfl⟩ := len1 hxl
  obtain ⟨ra, rb, rfl⟩ := len2 hrl
  obtain ⟨l0, l1, rfl⟩ := len2 (hrw.1.trans hrl)
  have hl0 := SqL.of (K := K) (hrw.2 0 l0 ra rfl rfl)
  have hl1 := SqL.of (K := K) (hrw.2 1 l1 rb rfl rfl)
  refine ⟨_, rfl, Av, a, st, rfl, hse, ?_⟩
  cases st with
  | none => exact oe.noTS hse rfl
  | some t =>
  intro tk b tb
  obtain ⟨dx, D, L, t1, t2, rs2, t3, t4, t5⟩ := id tb
  have es : VbndalNeutral.step (some t) [[10, k], ra, rb] = if (kyd t.prime k && (rowd t.prime ra && Vbndal.isOrderArgument ra.length rb)) = false then (some t, [-1]) else (some t, 0 :: Vbndal.toInts (Vbndal.shuffled t.prime (Vbndal.toNats ra) (Vbndal.toNats rb) k.toNat)) := rfl
  refine ⟨b, Cb, dx, _, _, rfl, t1, TB.cl, TB.n1, tbF_prime, ?_⟩
  refine ⟨_, rfl, c, Cc, dc, _, _, rfl, hc, TC.cl, TC.n1, ccF_scalars, s, _, _, V.int k, rfl, rfl, SqL.of hs, atI_nat (j := 0) rfl, _, rfl, k, t.prime, rfl, tk.tp, fun h1 => ?_, fun h1 => oe.wrongS hse (by rw [es, if_pos (by rw [h1]; rfl)]) (Same.refl H)⟩
  refine ⟨_, rfl, c, Cc, dc, _, _, rfl, hc, TC.cl, TC.n2, ccF_rows, r, _, _, V.ref l0, rfl, rfl, SqL.of hro, atI_nat (j := 0) rfl, _, rfl, l0, ra, t.prime, rfl, tk.tp, hl0, fun h2 H1 s1 => ?_, fun h2 H1 s1 => oe.wrongS hse (by rw [es, if_pos (by rw [h1, h2]; rfl)]) s1⟩
  obtain ⟨ea, ⟨la1, la2⟩, and, acd⟩ := row_nats h2
  have hlen : (((VI ra).length : Nat) : Int) = (ra.length : Int) := by rw [List.length_map]
  obtain ⟨k', rfl, k1, k2⟩ := kyd_iff.mp h1
  have hhi := tk.tp.hi
  refine ⟨_, rfl, c, Cc, dc, _, _, rfl, (s1 _ _ hc), TC.cl, TC.n2, ccF_rows, r, _, _, V.ref l1, rfl, rfl, SqL.of (s1 _ _ hro), atI_nat (j := 1) rfl, _, rfl, l0, _, rfl, .inl (s1.seq hl0), l1, rb, ra.length, (by rw [hlen]; rfl), la2, s1.seq hl1, fun h3 H2 s2 => ?_, fun h3 H2 s2 => oe.wrongS hse (by rw [es, if_pos (by rw [h1, h2, h3]; rfl)]) (s1.trans s2)⟩
  obtain ⟨eb, lb, hi⟩ := order_facts la2 h3
  have sa := (s1.trans s2).seq hl0
  have sb := (s1.trans s2).seq hl1
  rw [ea] at sa
  rw [eb] at sb
  refine ⟨_, rfl, _, rfl, _, rfl, _, rfl, l0, l1, Vbndal.toNats ra, Vbndal.toNats rb, k', t.prime, rfl, tk.tp, by omega, sa, sb, by rw [nats_len]; omega, by omega, fun i hi2 => by rw [nats_len]; exact hi i hi2, fun H3 d s3 nd hd => ?_⟩
  exact oe.fineS hse (by rw [es, if_neg (by rw [h1, h2, h3]; decide)]; rfl) ((s1.trans s2).trans s3) (vn_toInts hd)
theorem ok_check_shuffle (T : SeT K Cs) (TC : CcT K Cc) (TB : TbT K Cb) (F : Fun K "check_shuffle" "check_shuffle" s_check_shuffle f fd) (d_checked_key : Df P w K mg base (L2.CX P w) 3 "checked_key" (sp_ckey Cw)) (d_checked_row : Df P w K mg base (L2.CX P w) 5 "checked_row" (sp_crow K Cw)) (d_checked_cards : Df P w K mg base (L2.CX P w) 5 "checked_cards" (sp_ccards K Cw)) (d_error_count : Df P w K mg base CX0 4 "error_count" (sp_errs K)) (d_needed_table : Df P w K mg base (L2.CX P w) 1 "needed_table" (sp_needed Cs Cb Cn)) (n_len : mg "len" = none) (d_matching_order : Df P w K mg base CX0 4 "matching_order" (sp_match K)) : FnOk P w K mg base (L2.CX P w) 6 f fd ["session", "call"] (sp_op K Cs Cb Cc Cn Cw Cd Cx 11 1 2) := by
  refine F.okX sc_check_shuffle (fun vs H Q E h => ?_) (fun cdv A outer s0 H vs Q E hr h => ⟨_, (pss_cons (ps_set (i := 2) sc_check_shuffle.nd rfl (Or.inl rfl) (pe_fld (by exact (pe_d d_needed_table (pass_up (takes_of rfl rfl rfl rfl)) hr (by decide) rfl (pa_cons (pv 0) pa_nil))) rfl))
      (pss_cons (ps_set (i := 3) sc_check_shuffle.nd rfl (Or.inl rfl) (by exact (pe_d d_checked_key (pass_up (takes_of rfl rfl rfl rfl)) hr (by decide) rfl (pa_cons (pe_ix ix_list (pe_fld (pv 1) rfl) pe_int (fun _ _ => rfl)) (pa_cons (pv 2) pa_nil)))))
      (pss_cons (ps_set (i := 4) sc_check_shuffle.nd rfl (Or.inl rfl) (by exact (pe_d d_checked_row (pass_up (takes_of rfl rfl rfl rfl)) hr (by decide) rfl (pa_cons (pe_ix ix_list (pe_fld (pv 1) rfl) pe_int (fun _ _ => rfl)) (pa_cons (pv 2) pa_nil)))))
      (pss_cons (ps_set (i := 5) sc_check_shuffle.nd rfl (Or.inl rfl) (by exact (pe_d d_checked_cards (pass_up (takes_of rfl rfl rfl rfl)) hr (by decide) rfl (pa_cons (pe_ix ix_list (pe_fld (pv 1) rfl) pe_int (fun _ _ => rfl)) (pa_cons (pe_callB call_len_seq (by rfl) n_len PySem.boot_len (pa_cons (pv 4) pa_nil)) (pa_cons (pv 2) pa_nil))))))
      (pss_cons (ps_set (i := 6) sc_check_shuffle.nd rfl (Or.inl rfl) (by exact (pe_d d_error_count pass0 hr (by decide) rfl (pa_cons (pv 4) (pa_cons (pv 3) (pa_cons (pv 5) (pa_cons (pv 2) pa_nil)))))))
      (pss_cons (ps_if (pt_cmpR op_gt (pv 6) pe_int (nomark _))
      (pss_one (ps_ret (pe_lst (pa_cons pe_int (pa_cons (pv 6) pa_nil)))))
      pss_nil)
      (pss_one (ps_ret (pe_op op_cat (pe_lst (pa_cons pe_int pa_nil)) (by exact (pe_d d_matching_order pass0 hr (by decide) rfl (pa_cons (pv 4) (pa_cons (pv 3) (pa_cons (pv 5) (pa_cons (pv 2) pa_nil))))))))))))))), ?_⟩)
  · obtain ⟨Av, a, c, s, r, st, xs, rs, rows, rfl, _⟩ := h
    rfl
  obtain ⟨Av, a, c, s, r, st, xs, rs, rows, rfl, hse, hav, ⟨dc, hc⟩, hs, hxl, hro, hrw, hrl, hask, oe⟩ := h
  obtain ⟨k, rfl⟩ := len1 hxl
  obtain ⟨ra, rb, rfl⟩ := len2 hrl
  obtain ⟨l0, l1, rfl⟩ := len2 (hrw.1.trans hrl)
  have hl0 := SqL.of (K := K) (hrw.2 0 l0 ra rfl rfl)
  have hl1 := SqL.of (K := K) (hrw.2 1 l1 rb rfl rfl)
  refine ⟨_, rfl, Av, a, st, rfl, hse, ?_⟩
  cases st with
  | none => exact oe.noTS hse rfl
  | some t =>
  intro tk b tb
  obtain ⟨dx, D, L, t1, t2, rs2, t3, t4, t5⟩ := id tb
  have es : VbndalNeutral.step (some t) [[11, k], ra, rb] = if (kyd t.prime k && (rowd t.prime ra && (rb.length == ra.length && rb.all (crd t.prime)))) = false then (some t, [-1]) else (match Vbndal.orderFor t.prime (Vbndal.toNats ra) (Vbndal.toNats rb) k.toNat with
      | none => (some t, [0, 0, (Vbndal.errorCount t.prime (Vbndal.toNats ra) (Vbndal.toNats rb) k.toNat : Int)])
      | some m => (some t, 0 :: 1 :: Vbndal.toInts m)) := rfl
  have h60 : rb.length ≤ 60 := by
    have h : (VbndalNeutral.isNumber k && (VbndalNeutral.isRow ra 60 && VbndalNeutral.isRow rb 60)) = true := hask
    rw [Bool.and_eq_true, Bool.and_eq_true] at h
    exact row_len h.2.2
  refine ⟨b, Cb, dx, _, _, rfl, t1, TB.cl, TB.n1, tbF_prime, ?_⟩
  refine ⟨_, rfl, c, Cc, dc, _, _, rfl, hc, TC.cl, TC.n1, ccF_scalars, s, _, _, V.int k, rfl, rfl, SqL.of hs, atI_nat (j := 0) rfl, _, rfl, k, t.prime, rfl, tk.tp, fun h1 => ?_, fun h1 => oe.wrongS hse (by rw [es, if_pos (by rw [h1]; rfl)]) (Same.refl H)⟩
  refine ⟨_, rfl, c, Cc, dc, _, _, rfl, hc, TC.cl, TC.n2, ccF_rows, r, _, _, V.ref l0, rfl, rfl, SqL.of hro, atI_nat (j := 0) rfl, _, rfl, l0, ra, t.prime, rfl, tk.tp, hl0, fun h2 H1 s1 => ?_, fun h2 H1 s1 => oe.wrongS hse (by rw [es, if_pos (by rw [h1, h2]; rfl)]) s1⟩
  obtain ⟨ea, ⟨la1, la2⟩, and, acd⟩ := row_nats h2
  have hlen : (((VI ra).length : Nat) : Int) = (ra.length : Int) := by rw [List.length_map]
  obtain ⟨k', rfl, k1, k2⟩ := kyd_iff.mp h1
  have hhi := tk.tp.hi
  refine ⟨_, rfl, c, Cc, dc, _, _, rfl, (s1 _ _ hc), TC.cl, TC.n2, ccF_rows, r, _, _, V.ref l1, rfl, rfl, SqL.of (s1 _ _ hro), atI_nat (j := 1) rfl, _, rfl, l0, _, rfl, .inl (s1.seq hl0), _, rfl, l1, rb, ra.length, t.prime, (by rw [hlen]; rfl), tk.tp, s1.seq hl1, by omega, fun h3 H2 s2 d2 nd2 hd2 => ?_, fun h3 H2 s2 => oe.wrongS hse (by rw [es, if_pos (by rw [h1, h2, h3]; rfl)]) (s1.trans s2)⟩
  have h3' := h3
  rw [Bool.and_eq_true, beq_iff_eq, List.all_eq_true] at h3'
  obtain ⟨eb, _⟩ := cards_nats h3'.2
  have s12 := s1.trans s2
  have sa := s12.seq hl0
  rw [ea] at sa
  rw [eb] at hd2
  rw [if_neg (by rw [h1, h2, h3]; decide), Int.toNat_natCast] at es
  have wn := lk_nodup tk.tp k1 k2 acd and
  refine ⟨_, rfl, _, rfl, _, rfl, _, rfl, l0, d2, Vbndal.toNats ra, Vbndal.toNats rb, k', t.prime, rfl, tk.tp, by omega, sa, SqL.of hd2, by rw [nats_len]; omega, fun H3 s3 => ?_⟩
  refine ⟨_, rfl, _, _, rfl, rfl, _, rfl, ?_⟩
  have s13 := s12.trans s3
  by_cases c : (errs (lk t.prime (Vbndal.toNats ra) k') (Vbndal.toNats rb)).length = 0
  · refine if_no (decide_eq_false (by omega)) ?_
    obtain ⟨o1, o2⟩ := order_yes wn (by rw [nats_len, nats_len, h3'.1]) c
    rw [o1] at es
    refine ⟨(by show 1 ≤ sizeLine; exact small_line (by omega)), fun e he => ?_⟩
    have sE : Same H3 (upd H3 e (.lst [V.int 1])) := Same.new he
    refine ⟨_, rfl, _, rfl, _, rfl, _, rfl, l0, d2, Vbndal.toNats ra, Vbndal.toNats rb, k', t.prime, rfl, tk.tp, by omega, sE.seq (s3.seq sa), SqL.of (sE _ _ (s3 _ _ hd2)), by rw [nats_len]; omega, by rw [nats_len]; omega, fun y hy => o2.mem_iff.mp hy, fun H4 g s4 ng hg => ?_⟩
    refine ⟨e, g, _, _, rfl, rfl, s4 _ _ upd_same, hg, ?_, fun p hp => ?_⟩
    · rw [List.length_map, List.length_map, nats_len]
      show 1 + _ ≤ sizeLine
      exact small_line (by omega)
    · exact oe.fineS hse es (((s13.trans sE).trans s4).trans (Same.new hp)) (one_cat upd_same)
  · refine if_yes (decide_eq_true (by omega)) ?_
    rw [order_no wn c] at es
    refine ⟨_, rfl, (by show 2 ≤ sizeLine; exact small_line (by omega)), fun e he => ?_⟩
    refine oe.fineS hse es (s13.trans (Same.new he)) ?_
    rw [upd_same, err_count wn]
    rfl
theorem ok_check_symmetry (T : SeT K Cs) (TC : CcT K Cc) (TB : TbT K Cb) (F : Fun K "check_symmetry" "check_symmetry" s_check_symmetry f fd) (d_checked_key : Df P w K mg base (L2.CX P w) 3 "checked_key" (sp_ckey Cw)) (d_checked_row : Df P w K mg base (L2.CX P w) 5 "checked_row" (sp_crow K Cw)) (d_needed_table : Df P w K mg base (L2.CX P w) 1 "needed_table" (sp_needed Cs Cb Cn)) (d_error_count : Df P w K mg base CX0 4 "error_count" (sp_errs K)) (d_matching_order : Df P w K mg base CX0 4 "matching_order" (sp_match K)) : FnOk P w K mg base (L2.CX P w) 6 f fd ["session", "call"] (sp_op K Cs Cb Cc Cn Cw Cd Cx 12 1 1) := by
  refine F.okX sc_check_symmetry (fun vs H Q E h => ?_) (fun cdv A outer s0 H vs Q E hr h => ⟨_, (pss_cons (ps_set (i := 2) sc_check_symmetry.nd rfl (Or.inl rfl) (pe_fld (by exact (pe_d d_needed_table (pass_up (takes_of rfl rfl rfl rfl)) hr (by decide) rfl (pa_cons (pv 0) pa_nil))) rfl))
      (pss_cons (ps_set (i := 3) sc_check_symmetry.nd rfl (Or.inl rfl) (by exact (pe_d d_checked_key (pass_up (takes_of rfl rfl rfl rfl)) hr (by decide) rfl (pa_cons (pe_ix ix_list (pe_fld (pv 1) rfl) pe_int (fun _ _ => rfl)) (pa_cons (pv 2) pa_nil)))))
      (pss_cons (ps_set (i := 4) sc_check_symmetry.nd rfl (Or.inl rfl) (by exact (pe_d d_checked_row (pass_up (takes_of rfl rfl rfl rfl)) hr (by decide) rfl (pa_cons (pe_ix ix_list (pe_fld (pv 1) rfl) pe_int (fun _ _ => rfl)) (pa_cons (pv 2) pa_nil)))))
      (pss_cons (ps_if (pt_cmpR op_gt (by exact (pe_d d_error_count pass0 hr (by decide) rfl (pa_cons (pv 4) (pa_cons (pv 3) (pa_cons (pv 4) (pa_cons (pv 2) pa_nil)))))) pe_int (nomark _))
      (pss_one (ps_ret (pe_lst (pa_cons pe_int pa_nil))))
      pss_nil)
      (pss_one (ps_ret (pe_op op_cat (pe_lst (pa_cons pe_int pa_nil)) (by exact (pe_d d_matching_order pass0 hr (by decide) rfl (pa_cons (pv 4) (pa_cons (pv 3) (pa_cons (pv 4) (pa_cons (pv 2) pa_nil))))))))))))), ?_⟩)
  · obtain ⟨Av, a, c, s, r, st, xs, rs, rows, rfl, _⟩ := h
    rfl
  obtain ⟨Av, a, c, s, r, st, xs, rs, rows, rfl, hse, hav, ⟨dc, hc⟩, hs, hxl, hro, hrw, hrl, hask, oe⟩ := h
  obtain ⟨k, rfl⟩ := len1 hxl
  obtain ⟨ra, rfl⟩ := len1 hrl
  obtain ⟨l0, rfl⟩ := len1 (hrw.1.trans hrl)
  have hl0 := SqL.of (K := K) (hrw.2 0 l0 ra rfl rfl)
  refine ⟨_, rfl, Av, a, st, rfl, hse, ?_⟩
  cases st with
  | none => exact oe.noTS hse rfl
  | some t =>
  intro tk b tb
  obtain ⟨dx, D, L, t1, t2, rs2, t3, t4, t5⟩ := id tb
  have es : VbndalNeutral.step (some t) [[12, k], ra] = if (kyd t.prime k && rowd t.prime ra) = false then (some t, [-1]) else (match Vbndal.orderFor t.prime (Vbndal.toNats ra) (Vbndal.toNats ra) k.toNat with
      | none => (some t, [0, 0])
      | some m => (some t, 0 :: 1 :: Vbndal.toInts m)) := rfl
  refine ⟨b, Cb, dx, _, _, rfl, t1, TB.cl, TB.n1, tbF_prime, ?_⟩
  refine ⟨_, rfl, c, Cc, dc, _, _, rfl, hc, TC.cl, TC.n1, ccF_scalars, s, _, _, V.int k, rfl, rfl, SqL.of hs, atI_nat (j := 0) rfl, _, rfl, k, t.prime, rfl, tk.tp, fun h1 => ?_, fun h1 => oe.wrongS hse (by rw [es, if_pos (by rw [h1]; rfl)]) (Same.refl H)⟩
  refine ⟨_, rfl, c, Cc, dc, _, _, rfl, hc, TC.cl, TC.n2, ccF_rows, r, _, _, V.ref l0, rfl, rfl, SqL.of hro, atI_nat (j := 0) rfl, _, rfl, l0, ra, t.prime, rfl, tk.tp, hl0, fun h2 H1 s1 => ?_, fun h2 H1 s1 => oe.wrongS hse (by rw [es, if_pos (by rw [h1, h2]; rfl)]) s1⟩
  obtain ⟨ea, ⟨la1, la2⟩, and, acd⟩ := row_nats h2
  have hlen : (((VI ra).length : Nat) : Int) = (ra.length : Int) := by rw [List.length_map]
  obtain ⟨k', rfl, k1, k2⟩ := kyd_iff.mp h1
  have hhi := tk.tp.hi
  have sa := s1.seq hl0
  rw [ea] at sa
  rw [if_neg (by rw [h1, h2]; decide), Int.toNat_natCast] at es
  have wn := lk_nodup tk.tp k1 k2 acd and
  refine ⟨_, rfl, _, rfl, _, rfl, _, rfl, l0, l0, Vbndal.toNats ra, Vbndal.toNats ra, k', t.prime, rfl, tk.tp, by omega, sa, sa, by rw [nats_len]; omega, fun H3 s3 => ?_⟩
  refine ⟨_, _, rfl, rfl, _, rfl, ?_⟩
  have s13 := s1.trans s3
  by_cases c : (errs (lk t.prime (Vbndal.toNats ra) k') (Vbndal.toNats ra)).length = 0
  · refine if_no (decide_eq_false (by omega)) ?_
    obtain ⟨o1, o2⟩ := order_yes wn rfl c
    rw [o1] at es
    refine ⟨(by show 1 ≤ sizeLine; exact small_line (by omega)), fun e he => ?_⟩
    have sE : Same H3 (upd H3 e (.lst [V.int 1])) := Same.new he
    refine ⟨_, rfl, _, rfl, _, rfl, _, rfl, l0, l0, Vbndal.toNats ra, Vbndal.toNats ra, k', t.prime, rfl, tk.tp, by omega, sE.seq (s3.seq sa), sE.seq (s3.seq sa), by rw [nats_len]; omega, by rw [nats_len]; omega, fun y hy => o2.mem_iff.mp hy, fun H4 g s4 ng hg => ?_⟩
    refine ⟨e, g, _, _, rfl, rfl, s4 _ _ upd_same, hg, ?_, fun p hp => ?_⟩
    · rw [List.length_map, List.length_map, nats_len]
      show 1 + _ ≤ sizeLine
      exact small_line (by omega)
    · exact oe.fineS hse es (((s13.trans sE).trans s4).trans (Same.new hp)) (one_cat upd_same)
  · refine if_yes (decide_eq_true (by omega)) ?_
    rw [order_no wn c] at es
    refine ⟨(by show 1 ≤ sizeLine; exact small_line (by omega)), fun e he => ?_⟩
    exact oe.fineS hse es (s13.trans (Same.new he)) upd_same
theorem ok_audit_deal (T : SeT K Cs) (TC : CcT K Cc) (TB : TbT K Cb) (F : Fun K "audit_deal" "audit_deal" s_audit_deal f fd) (d_needed_table : Df P w K mg base (L2.CX P w) 1 "needed_table" (sp_needed Cs Cb Cn)) (d_checked_revealed : Df P w K mg base (L2.CX P w) 4 "checked_revealed" (sp_crev K Cb Cw)) (d_checked_lists : Df P w K mg base (L2.CX P w) 6 "checked_lists" (sp_clists K Cb Cw)) (d_deal_audit : Df P w K mg base CX0 5 "deal_audit" (sp_daudit K Cb)) : FnOk P w K mg base (L2.CX P w) 7 f fd ["session", "call"] (sp_op K Cs Cb Cc Cn Cw Cd Cx 13 0 2) := by
  refine F.okX sc_audit_deal (fun vs H Q E h => ?_) (fun cdv A outer s0 H vs Q E hr h => ⟨_, (pss_cons (ps_set (i := 2) sc_audit_deal.nd rfl (Or.inl rfl) (by exact (pe_d d_needed_table (pass_up (takes_of rfl rfl rfl rfl)) hr (by decide) rfl (pa_cons (pv 0) pa_nil))))
      (pss_cons (ps_set (i := 3) sc_audit_deal.nd rfl (Or.inl rfl) (by exact (pe_d d_checked_revealed (pass_up (takes_of rfl rfl rfl rfl)) hr (by decide) rfl (pa_cons (pe_ix ix_list (pe_fld (pv 1) rfl) pe_int (fun _ _ => rfl)) (pa_cons (pv 2) pa_nil)))))
      (pss_cons (ps_set (i := 4) sc_audit_deal.nd rfl (Or.inl rfl) (by exact (pe_d d_checked_lists (pass_up (takes_of rfl rfl rfl rfl)) hr (by decide) rfl (pa_cons (pe_ix ix_list (pe_fld (pv 1) rfl) pe_int (fun _ _ => rfl)) (pa_cons (pv 2) pa_nil)))))
      (pss_one (ps_ret (by exact (pe_d d_deal_audit pass0 hr (by decide) rfl (pa_cons (pv 2) (pa_cons (pv 3) (pa_cons (pv 4) pa_nil)))))))))), ?_⟩)
  · obtain ⟨Av, a, c, s, r, st, xs, rs, rows, rfl, _⟩ := h
    rfl
  obtain ⟨Av, a, c, s, r, st, xs, rs, rows, rfl, hse, hav, ⟨dc, hc⟩, hs, hxl, hro, hrw, hrl, hask, oe⟩ := h
  obtain rfl := len0 hxl
  obtain ⟨ra, rb, rfl⟩ := len2 hrl
  obtain ⟨l0, l1, rfl⟩ := len2 (hrw.1.trans hrl)
  have hl0 := SqL.of (K := K) (hrw.2 0 l0 ra rfl rfl)
  have hl1 := SqL.of (K := K) (hrw.2 1 l1 rb rfl rfl)
  have h60 : ra.length ≤ 60 ∧ rb.length ≤ 60 := by
    have h : (VbndalNeutral.isRow ra 60 && VbndalNeutral.isRow rb 60) = true := hask
    rw [Bool.and_eq_true] at h
    exact ⟨row_len h.1, row_len h.2⟩
  refine ⟨_, rfl, Av, a, st, rfl, hse, ?_⟩
  cases st with
  | none => exact oe.noTS hse rfl
  | some t =>
  intro tk b tb
  obtain ⟨dx, D, L, t1, t2, rs2, t3, t4, t5⟩ := id tb
  have es : VbndalNeutral.step (some t) [[13], ra, rb] = if (Vbndal.areRevealedKeys t ra && Vbndal.isCardList t (t.deck.length * t.players.length) rb) = false then (some t, [-1]) else (some t, 0 :: Vbndal.toInts (daR (Vbndal.auditDeal t.prime 0 t.deck ((Vbndal.toNats ra).zip (Vbndal.splitLists t.deck.length t.players.length (Vbndal.toNats rb)))))) := by
    show (if _ then _ else _) = _
    congr 1
    cases Vbndal.auditDeal t.prime 0 t.deck ((Vbndal.toNats ra).zip (Vbndal.splitLists t.deck.length t.players.length (Vbndal.toNats rb))) with
    | valid ms => rfl
    | wrong i e => rfl
  refine ⟨_, rfl, c, Cc, dc, _, _, rfl, hc, TC.cl, TC.n2, ccF_rows, r, _, _, V.ref l0, rfl, rfl, SqL.of hro, atI_nat (j := 0) rfl, _, rfl, l0, b, ra, t, rfl, tb, tk.tp, hl0, by omega, fun h1 H1 s1 d1 n1 hd1 => ?_, fun h1 H1 s1 => oe.wrongS hse (by rw [es, if_pos (by rw [h1]; rfl)]) s1⟩
  refine ⟨_, rfl, c, Cc, dc, _, _, rfl, (s1 _ _ hc), TC.cl, TC.n2, ccF_rows, r, _, _, V.ref l1, rfl, rfl, SqL.of (s1 _ _ hro), atI_nat (j := 1) rfl, _, rfl, l1, b, rb, t, rfl, tb.same s1, tk, s1.seq hl1, by omega, fun h2 H2 s2 d2 ps n2 hd2 hps => ?_, fun h2 H2 s2 => oe.wrongS hse (by rw [es, if_pos (by rw [h1, h2]; rfl)]) (s1.trans s2)⟩
  have s12 := s1.trans s2
  refine ⟨_, rfl, _, rfl, _, rfl, b, d1, d2, t, ra, rb, ps, rfl, tb.same s12, tk, SqL.of (s2 _ _ hd1), h1, SqL.of hd2, hps, h2, fun H3 e s3 ne he => ?_⟩
  exact oe.fineS hse (by rw [es, if_neg (by rw [h1, h2]; decide)]) (s12.trans s3) (vn_toInts he)
theorem ok_deal (T : SeT K Cs) (TC : CcT K Cc) (TB : TbT K Cb) (F : Fun K "deal" "deal" s_deal f fd) (d_needed_table : Df P w K mg base (L2.CX P w) 1 "needed_table" (sp_needed Cs Cb Cn)) (d_dealt : Df P w K mg base CX0 5 "dealt" (sp_dealt K Cb)) (d_checked_orders : Df P w K mg base (L2.CX P w) 3 "checked_orders" (sp_corders K Cb Cw)) : FnOk P w K mg base (L2.CX P w) 6 f fd ["session", "call"] (sp_op K Cs Cb Cc Cn Cw Cd Cx 15 0 1) := by
  refine F.okX sc_deal (fun vs H Q E h => ?_) (fun cdv A outer s0 H vs Q E hr h => ⟨_, (pss_cons (ps_set (i := 2) sc_deal.nd rfl (Or.inl rfl) (by exact (pe_d d_needed_table (pass_up (takes_of rfl rfl rfl rfl)) hr (by decide) rfl (pa_cons (pv 0) pa_nil))))
      (pss_one (ps_ret (by exact (pe_d d_dealt pass0 hr (by decide) rfl (pa_cons (pv 2) (pa_cons (by exact (pe_d d_checked_orders (pass_up (takes_of rfl rfl rfl rfl)) hr (by decide) rfl (pa_cons (pe_ix ix_list (pe_fld (pv 1) rfl) pe_int (fun _ _ => rfl)) (pa_cons (pv 2) pa_nil)))) pa_nil))))))), ?_⟩)
  · obtain ⟨Av, a, c, s, r, st, xs, rs, rows, rfl, _⟩ := h
    rfl
  obtain ⟨Av, a, c, s, r, st, xs, rs, rows, rfl, hse, hav, ⟨dc, hc⟩, hs, hxl, hro, hrw, hrl, hask, oe⟩ := h
  obtain rfl := len0 hxl
  obtain ⟨ra, rfl⟩ := len1 hrl
  obtain ⟨l0, rfl⟩ := len1 (hrw.1.trans hrl)
  have hl0 := SqL.of (K := K) (hrw.2 0 l0 ra rfl rfl)
  have h60 : ra.length ≤ 60 := row_len hask
  refine ⟨_, rfl, Av, a, st, rfl, hse, ?_⟩
  cases st with
  | none => exact oe.noTS hse rfl
  | some t =>
  intro tk b tb
  obtain ⟨dx, D, L, t1, t2, rs2, t3, t4, t5⟩ := id tb
  have es : VbndalNeutral.step (some t) [[15], ra] = (match Vbndal.decodeOrders t.deck.length t.players.length ra with
      | none => (some t, [-1])
      | some ms => (some t, 0 :: Vbndal.toInts (Vbndal.dealOf t ms))) := rfl
  refine ⟨_, rfl, _, rfl, c, Cc, dc, _, _, rfl, hc, TC.cl, TC.n2, ccF_rows, r, _, _, V.ref l0, rfl, rfl, SqL.of hro, atI_nat (j := 0) rfl, _, rfl, l0, b, ra, t, rfl, tb, tk, hl0, by omega, ?_⟩
  cases hd : Vbndal.decodeOrders t.deck.length t.players.length ra with
  | none => exact fun H1 s1 => oe.wrongS hse (by rw [es, hd]) s1
  | some ms =>
    intro H1 d ps s1 nd hd1 hpl hml hps
    refine ⟨b, d, t, ps, ms, rfl, tb.same s1, tk, SqL.of hd1, hpl, hml, hps, fun H2 e s2 he => ?_⟩
    exact oe.fineS hse (by rw [es, hd]) (s1.trans s2) (vn_toInts he)
theorem ok_open_card (T : SeT K Cs) (TC : CcT K Cc) (TB : TbT K Cb) (F : Fun K "open_card" "open_card" s_open_card f fd) (d_needed_table : Df P w K mg base (L2.CX P w) 1 "needed_table" (sp_needed Cs Cb Cn)) (d_checked_position : Df P w K mg base (L2.CX P w) 2 "checked_position" (sp_cpos Cw)) (d_checked_cards : Df P w K mg base (L2.CX P w) 5 "checked_cards" (sp_ccards K Cw)) (d_opened : Df P w K mg base CX0 4 "opened" (sp_opened Cb)) (n_len : mg "len" = none) (x_NotInDeck : Xp K mg "NotInDeck" Cd) : FnOk P w K mg base (L2.CX P w) 6 f fd ["session", "call"] (sp_op K Cs Cb Cc Cn Cw Cd Cx 16 1 1) := by
  refine F.okX sc_open_card (fun vs H Q E h => ?_) (fun cdv A outer s0 H vs Q E hr h => ⟨_, (pss_cons (ps_set (i := 2) sc_open_card.nd rfl (Or.inl rfl) (by exact (pe_d d_needed_table (pass_up (takes_of rfl rfl rfl rfl)) hr (by decide) rfl (pa_cons (pv 0) pa_nil))))
      (pss_cons (ps_set (i := 3) sc_open_card.nd rfl (Or.inl rfl) (by exact (pe_d d_checked_position (pass_up (takes_of rfl rfl rfl rfl)) hr (by decide) rfl (pa_cons (pe_ix ix_list (pe_fld (pv 1) rfl) pe_int (fun _ _ => rfl)) (pa_cons (pe_callB call_len_seq (by rfl) n_len PySem.boot_len (pa_cons (pe_fld (pv 2) rfl) pa_nil)) pa_nil)))))
      (pss_cons (ps_set (i := 4) sc_open_card.nd rfl (Or.inl rfl) (by exact (pe_d d_checked_cards (pass_up (takes_of rfl rfl rfl rfl)) hr (by decide) rfl (pa_cons (pe_ix ix_list (pe_fld (pv 1) rfl) pe_int (fun _ _ => rfl)) (pa_cons (pe_callB call_len_seq (by rfl) n_len PySem.boot_len (pa_cons (pe_fld (pv 2) rfl) pa_nil)) (pa_cons (pe_fld (pv 2) rfl) pa_nil))))))
      (pss_cons (ps_set (i := 5) sc_open_card.nd rfl (Or.inl rfl) (by exact (pe_d d_opened pass0 hr (by decide) rfl (pa_cons (pv 2) (pa_cons (pe_ix ix_list (pv 4) (pv 3) (fun _ _ => rfl)) pa_nil)))))
      (pss_cons (ps_if (pt_cmpR op_notIn_seq (pv 5) (pe_fld (pv 2) rfl) (by rfl))
      (pss_one (ps_raise rfl (takes_of rfl rfl rfl rfl) (pmk_own0 x_NotInDeck rfl)))
      pss_nil)
      (pss_one (ps_ret (pe_lst (pa_cons (pe_bm PySem.F.plainAttrs_list PySem.F.slot_list_index PySem.F.type_list_index mt_index (pe_fld (pv 2) rfl) (pa_cons (pv 5) pa_nil)) pa_nil))))))))), ?_⟩)
  · obtain ⟨Av, a, c, s, r, st, xs, rs, rows, rfl, _⟩ := h
    rfl
  obtain ⟨Av, a, c, s, r, st, xs, rs, rows, rfl, hse, hav, ⟨dc, hc⟩, hs, hxl, hro, hrw, hrl, hask, oe⟩ := h
  obtain ⟨z, rfl⟩ := len1 hxl
  obtain ⟨ra, rfl⟩ := len1 hrl
  obtain ⟨l0, rfl⟩ := len1 (hrw.1.trans hrl)
  have hl0 := SqL.of (K := K) (hrw.2 0 l0 ra rfl rfl)
  have h60 : ra.length ≤ 60 := by
    have h : (VbndalNeutral.isNumber z && VbndalNeutral.isRow ra 60) = true := hask
    rw [Bool.and_eq_true] at h
    exact row_len h.2
  refine ⟨_, rfl, Av, a, st, rfl, hse, ?_⟩
  cases st with
  | none => exact oe.noTS hse rfl
  | some t =>
  intro tk b tb
  obtain ⟨dx, D, L, t1, t2, rs2, t3, t4, t5⟩ := id tb
  have es : VbndalNeutral.step (some t) [[16, z], ra] = if ((ra.length == t.deck.length && ra.all (crd t.prime)) && Vbndal.inRange z 0 ((t.deck.length : Int) - 1)) = false then (some t, [-1]) else (match t.deck.findIdx? fun c => c == openedC t ((Vbndal.toNats ra).getD z.toNat 0) with
      | none => (some t, [-6])
      | some c => (some t, [0, (c : Int)])) := rfl
  have hl3 : (((VN t.deck).length : Nat) : Int) = (t.deck.length : Int) := by rw [List.length_map]
  have h2d := tk.two
  refine ⟨_, rfl, c, Cc, dc, _, _, rfl, hc, TC.cl, TC.n1, ccF_scalars, s, _, _, V.int z, rfl, rfl, SqL.of hs, atI_nat (j := 0) rfl, _, rfl, b, Cb, dx, _, _, rfl, t1, TB.cl, TB.n2, tbF_deck, D, _, rfl, .inl (SqL.of t2), z, t.deck.length, (by rw [hl3]; rfl), fun h1 => ?_, fun h1 => oe.wrongS hse (by rw [es, if_pos (by rw [h1, Bool.and_false])]) (Same.refl H)⟩
  refine ⟨_, rfl, c, Cc, dc, _, _, rfl, hc, TC.cl, TC.n2, ccF_rows, r, _, _, V.ref l0, rfl, rfl, SqL.of hro, atI_nat (j := 0) rfl, _, rfl, b, Cb, dx, _, _, rfl, t1, TB.cl, TB.n2, tbF_deck, D, _, rfl, .inl (SqL.of t2), _, rfl, b, Cb, dx, _, _, rfl, t1, TB.cl, TB.n1, tbF_prime, l0, ra, t.deck.length, t.prime, (by rw [hl3]; rfl), tk.tp, hl0, by omega, fun h2 H1 s1 d1 n1 hd1 => ?_, fun h2 H1 s1 => oe.wrongS hse (by rw [es, if_pos (by rw [h2, Bool.false_and])]) s1⟩
  rw [if_neg (by rw [h1, h2]; decide)] at es
  rw [Bool.and_eq_true, beq_iff_eq, List.all_eq_true] at h2
  unfold Vbndal.inRange at h1
  rw [Bool.and_eq_true, decide_eq_true_iff, decide_eq_true_iff] at h1
  obtain ⟨i, rfl⟩ : ∃ i : Nat, z = i := ⟨z.toNat, by omega⟩
  rw [Int.toNat_natCast] at es
  obtain ⟨ea, _⟩ := cards_nats h2.2
  rw [ea] at hd1
  have hil : i < (Vbndal.toNats ra).length := by rw [nats_len]; omega
  have hie : (Vbndal.toNats ra)[i]? = some ((Vbndal.toNats ra).getD i 0) := by rw [List.getD_eq_getElem?_getD, List.getElem?_eq_getElem hil] <;> rfl
  obtain ⟨y, hy⟩ : ∃ y, (Vbndal.toNats ra).getD i 0 = y := ⟨_, rfl⟩
  rw [hy] at es hie
  refine ⟨_, rfl, _, rfl, _, rfl, d1, _, _, V.int (y : Nat), rfl, rfl, SqL.of hd1, atI_nat (by rw [List.getElem?_map, hie]; rfl), b, t, y, rfl, tb.same s1, tk, fun H2 s2 => ?_⟩
  have s12 := s1.trans s2
  have sqD : SqL K H2 D (VN t.deck) := SqL.of (s12 _ _ t2)
  rw [find_idx] at es
  refine ⟨_, rfl, _, rfl, b, Cb, dx, _, _, rfl, s12 _ _ t1, TB.cl, TB.n2, tbF_deck, D, _, rfl, .inl sqD, rfl, flat_nats _, _, rfl, ?_⟩
  rw [in_nats]
  by_cases c : openedC t y ∈ t.deck
  · refine if_no (by rw [List.contains_iff_mem.mpr c]; rfl) ?_
    rw [if_pos c] at es
    refine ⟨_, rfl, b, Cb, dx, _, _, rfl, s12 _ _ t1, TB.cl, TB.n2, tbF_deck, .inl ⟨rfl, _, sqD⟩, _, rfl, D, _, _, t.deck.idxOf (openedC t y), V.int (openedC t y : Nat), rfl, rfl, sqD, rfl, flat_nats _, idx_at c, (beq_self_eq_true ((openedC t y : Nat) : Int) : (((openedC t y : Nat) : Int) == ((openedC t y : Nat) : Int)) = true), idx_first, (by show 1 ≤ sizeLine; exact small_line (by omega)), fun e he => ?_⟩
    exact oe.fineS hse es (s12.trans (Same.new he)) upd_same
  · refine if_yes (by
      cases z : t.deck.contains (openedC t y) with
      | false => rfl
      | true => exact absurd (List.contains_iff_mem.mp z) c) ?_
    rw [if_neg c] at es
    exact oe.noDS hse es s12
theorem ok_audit_opening (T : SeT K Cs) (TC : CcT K Cc) (TB : TbT K Cb) (F : Fun K "audit_opening" "audit_opening" s_audit_opening f fd) (d_needed_table : Df P w K mg base (L2.CX P w) 1 "needed_table" (sp_needed Cs Cb Cn)) (d_checked_position : Df P w K mg base (L2.CX P w) 2 "checked_position" (sp_cpos Cw)) (d_checked_revealed : Df P w K mg base (L2.CX P w) 4 "checked_revealed" (sp_crev K Cb Cw)) (d_checked_cards : Df P w K mg base (L2.CX P w) 5 "checked_cards" (sp_ccards K Cw)) (d_checked_announced : Df P w K mg base (L2.CX P w) 6 "checked_announced" (sp_cann K Cb Cw)) (d_opening_audit : Df P w K mg base CX0 3 "opening_audit" (sp_oaudit K Cb)) (n_len : mg "len" = none) : FnOk P w K mg base (L2.CX P w) 7 f fd ["session", "call"] (sp_op K Cs Cb Cc Cn Cw Cd Cx 17 1 3) := by
  refine F.okX sc_audit_opening (fun vs H Q E h => ?_) (fun cdv A outer s0 H vs Q E hr h => ⟨_, (pss_cons (ps_set (i := 2) sc_audit_opening.nd rfl (Or.inl rfl) (by exact (pe_d d_needed_table (pass_up (takes_of rfl rfl rfl rfl)) hr (by decide) rfl (pa_cons (pv 0) pa_nil))))
      (pss_cons (ps_set (i := 3) sc_audit_opening.nd rfl (Or.inl rfl) (by exact (pe_d d_checked_position (pass_up (takes_of rfl rfl rfl rfl)) hr (by decide) rfl (pa_cons (pe_ix ix_list (pe_fld (pv 1) rfl) pe_int (fun _ _ => rfl)) (pa_cons (pe_callB call_len_seq (by rfl) n_len PySem.boot_len (pa_cons (pe_fld (pv 2) rfl) pa_nil)) pa_nil)))))
      (pss_cons (ps_set (i := 4) sc_audit_opening.nd rfl (Or.inl rfl) (by exact (pe_d d_checked_revealed (pass_up (takes_of rfl rfl rfl rfl)) hr (by decide) rfl (pa_cons (pe_ix ix_list (pe_fld (pv 1) rfl) pe_int (fun _ _ => rfl)) (pa_cons (pv 2) pa_nil)))))
      (pss_cons (ps_set (i := 5) sc_audit_opening.nd rfl (Or.inl rfl) (by exact (pe_d d_checked_cards (pass_up (takes_of rfl rfl rfl rfl)) hr (by decide) rfl (pa_cons (pe_ix ix_list (pe_fld (pv 1) rfl) pe_int (fun _ _ => rfl)) (pa_cons (pe_callB call_len_seq (by rfl) n_len PySem.boot_len (pa_cons (pe_fld (pv 2) rfl) pa_nil)) (pa_cons (pe_fld (pv 2) rfl) pa_nil))))))
      (pss_cons (ps_set (i := 6) sc_audit_opening.nd rfl (Or.inl rfl) (by exact (pe_d d_checked_announced (pass_up (takes_of rfl rfl rfl rfl)) hr (by decide) rfl (pa_cons (pe_ix ix_list (pe_fld (pv 1) rfl) pe_int (fun _ _ => rfl)) (pa_cons (pv 2) pa_nil)))))
      (pss_one (ps_ret (by exact (pe_d d_opening_audit pass0 hr (by decide) rfl (pa_cons (pv 2) (pa_cons (pe_ix ix_list (pv 5) (pv 3) (fun _ _ => rfl)) (pa_cons (pv 4) (pa_cons (pv 6) pa_nil))))))))))))), ?_⟩)
  · obtain ⟨Av, a, c, s, r, st, xs, rs, rows, rfl, _⟩ := h
    rfl
  obtain ⟨Av, a, c, s, r, st, xs, rs, rows, rfl, hse, hav, ⟨dc, hc⟩, hs, hxl, hro, hrw, hrl, hask, oe⟩ := h
  obtain ⟨z, rfl⟩ := len1 hxl
  obtain ⟨ra, rb, rc, rfl⟩ := len3 hrl
  obtain ⟨l0, l1, l2, rfl⟩ := len3 (hrw.1.trans hrl)
  have hl0 := SqL.of (K := K) (hrw.2 0 l0 ra rfl rfl)
  have hl1 := SqL.of (K := K) (hrw.2 1 l1 rb rfl rfl)
  have hl2 := SqL.of (K := K) (hrw.2 2 l2 rc rfl rfl)
  have h60 : ra.length ≤ 60 ∧ rb.length ≤ 60 ∧ rc.length ≤ 60 := by
    have h : (VbndalNeutral.isNumber z && (VbndalNeutral.isRow ra 60 && (VbndalNeutral.isRow rb 60 && VbndalNeutral.isRow rc 60))) = true := hask
    rw [Bool.and_eq_true, Bool.and_eq_true, Bool.and_eq_true] at h
    exact ⟨row_len h.2.1, row_len h.2.2.1, row_len h.2.2.2⟩
  refine ⟨_, rfl, Av, a, st, rfl, hse, ?_⟩
  cases st with
  | none => exact oe.noTS hse rfl
  | some t =>
  intro tk b tb
  obtain ⟨dx, D, L, t1, t2, rs2, t3, t4, t5⟩ := id tb
  have es : VbndalNeutral.step (some t) [[17, z], ra, rb, rc] = if (Vbndal.areRevealedKeys t ra && ((rb.length == t.deck.length && rb.all (crd t.prime)) && (Vbndal.isCardList t t.players.length rc && Vbndal.inRange z 0 ((t.deck.length : Int) - 1)))) = false then (some t, [-1]) else (some t, 0 :: Vbndal.toInts (oaR t (Vbndal.auditOpening t.prime 0 ((Vbndal.toNats rb).getD z.toNat 0) ((Vbndal.toNats ra).zip (Vbndal.toNats rc))))) := by
    show (if _ then _ else _) = _
    congr 1
    cases Vbndal.auditOpening t.prime 0 ((Vbndal.toNats rb).getD z.toNat 0) ((Vbndal.toNats ra).zip (Vbndal.toNats rc)) with
    | wrong j => rfl
    | opened x =>
      show (match t.deck.findIdx? fun c => c == x with
        | none => (some t, [0, 2])
        | some c => (some t, [0, 1, (c : Int)])) = (some t, 0 :: Vbndal.toInts (match t.deck.findIdx? fun c => c == x with
        | none => [2]
        | some c => [1, c]))
      cases t.deck.findIdx? fun c => c == x with
      | none => rfl
      | some c => rfl
  have hl3 : (((VN t.deck).length : Nat) : Int) = (t.deck.length : Int) := by rw [List.length_map]
  have h2d := tk.two
  refine ⟨_, rfl, c, Cc, dc, _, _, rfl, hc, TC.cl, TC.n1, ccF_scalars, s, _, _, V.int z, rfl, rfl, SqL.of hs, atI_nat (j := 0) rfl, _, rfl, b, Cb, dx, _, _, rfl, t1, TB.cl, TB.n2, tbF_deck, D, _, rfl, .inl (SqL.of t2), z, t.deck.length, (by rw [hl3]; rfl), fun h1 => ?_, fun h1 => oe.wrongS hse (by rw [es, if_pos (by rw [h1, Bool.and_false, Bool.and_false, Bool.and_false])]) (Same.refl H)⟩
  refine ⟨_, rfl, c, Cc, dc, _, _, rfl, hc, TC.cl, TC.n2, ccF_rows, r, _, _, V.ref l0, rfl, rfl, SqL.of hro, atI_nat (j := 0) rfl, _, rfl, l0, b, ra, t, rfl, tb, tk.tp, hl0, by omega, fun h2 H1 s1 d1 n1 hd1 => ?_, fun h2 H1 s1 => oe.wrongS hse (by rw [es, if_pos (by rw [h2]; rfl)]) s1⟩
  refine ⟨_, rfl, c, Cc, dc, _, _, rfl, (s1 _ _ hc), TC.cl, TC.n2, ccF_rows, r, _, _, V.ref l1, rfl, rfl, SqL.of (s1 _ _ hro), atI_nat (j := 1) rfl, _, rfl, b, Cb, dx, _, _, rfl, s1 _ _ t1, TB.cl, TB.n2, tbF_deck, D, _, rfl, .inl (SqL.of (s1 _ _ t2)), _, rfl, b, Cb, dx, _, _, rfl, s1 _ _ t1, TB.cl, TB.n1, tbF_prime, l1, rb, t.deck.length, t.prime, (by rw [hl3]; rfl), tk.tp, s1.seq hl1, by omega, fun h3 H2 s2 d2 n2 hd2 => ?_, fun h3 H2 s2 => oe.wrongS hse (by rw [es, if_pos (by rw [h2, h3]; rfl)]) (s1.trans s2)⟩
  have s12 := s1.trans s2
  refine ⟨_, rfl, c, Cc, dc, _, _, rfl, (s12 _ _ hc), TC.cl, TC.n2, ccF_rows, r, _, _, V.ref l2, rfl, rfl, SqL.of (s12 _ _ hro), atI_nat (j := 2) rfl, _, rfl, l2, b, rc, t, rfl, tb.same s12, tk.tp, s12.seq hl2, by omega, fun h4 H3 s3 d3 n3 hd3 => ?_, fun h4 H3 s3 => oe.wrongS hse (by rw [es, if_pos (by rw [h2, h3, h4]; rfl)]) (s12.trans s3)⟩
  rw [if_neg (by rw [h1, h2, h3, h4]; decide)] at es
  rw [Bool.and_eq_true, beq_iff_eq, List.all_eq_true] at h3
  unfold Vbndal.inRange at h1
  rw [Bool.and_eq_true, decide_eq_true_iff, decide_eq_true_iff] at h1
  obtain ⟨i, rfl⟩ : ∃ i : Nat, z = i := ⟨z.toNat, by omega⟩
  rw [Int.toNat_natCast] at es
  obtain ⟨eb, _⟩ := cards_nats h3.2
  rw [eb] at hd2
  have hil : i < (Vbndal.toNats rb).length := by rw [nats_len]; omega
  have hie : (Vbndal.toNats rb)[i]? = some ((Vbndal.toNats rb).getD i 0) := by rw [List.getD_eq_getElem?_getD, List.getElem?_eq_getElem hil] <;> rfl
  obtain ⟨y, hy⟩ : ∃ y, (Vbndal.toNats rb).getD i 0 = y := ⟨_, rfl⟩
  rw [hy] at es hie
  have s13 := s12.trans s3
  refine ⟨_, rfl, _, rfl, _, rfl, d2, _, _, V.int (y : Nat), rfl, rfl, SqL.of (s3 _ _ hd2), atI_nat (by rw [List.getElem?_map, hie]; rfl), _, rfl, _, rfl, b, d1, d3, t, y, ra, rc, rfl, tb.same s13, tk, SqL.of (s3 _ _ (s2 _ _ hd1)), h2, SqL.of hd3, h4, fun H4 e s4 ne he => ?_⟩
  exact oe.fineS hse es (s13.trans s4) (vn_toInts he)
theorem ok_raise_number (T : SeT K Cs) (TC : CcT K Cc) (TB : TbT K Cb) (F : Fun K "raise_number" "raise_number" s_raise_number f fd) (d_checked_number : Df P w K mg base (L2.CX P w) 2 "checked_number" (sp_cnum Cw)) (d_power : Df P w K mg base CX0 1 "power" sp_power) (d_needed_table : Df P w K mg base (L2.CX P w) 1 "needed_table" (sp_needed Cs Cb Cn)) (d_checked_exponent : Df P w K mg base (L2.CX P w) 2 "checked_exponent" (sp_cexp Cw)) (d_is_square : Df P w K mg base CX0 2 "is_square" sp_square) : FnOk P w K mg base (L2.CX P w) 3 f fd ["session", "call"] (sp_op K Cs Cb Cc Cn Cw Cd Cx 18 2 0) := by
  refine F.okX sc_raise_number (fun vs H Q E h => ?_) (fun cdv A outer s0 H vs Q E hr h => ⟨_, (pss_cons (ps_set (i := 2) sc_raise_number.nd rfl (Or.inr rfl) (pe_fld (by exact (pe_d d_needed_table (pass_up (takes_of rfl rfl rfl rfl)) hr (by decide) rfl (pa_cons (pv 0) pa_nil))) rfl))
      (pss_cons (ps_set (i := 3) sc_raise_number.nd rfl (Or.inl rfl) (by exact (pe_d d_checked_number (pass_up (takes_of rfl rfl rfl rfl)) hr (by decide) rfl (pa_cons (pe_ix ix_list (pe_fld (pv 1) rfl) pe_int (fun _ _ => rfl)) (pa_cons (pv 2) pa_nil)))))
      (pss_cons (ps_set (i := 4) sc_raise_number.nd rfl (Or.inl rfl) (by exact (pe_d d_power pass0 hr (by decide) rfl (pa_cons (pv 3) (pa_cons (by exact (pe_d d_checked_exponent (pass_up (takes_of rfl rfl rfl rfl)) hr (by decide) rfl (pa_cons (pe_ix ix_list (pe_fld (pv 1) rfl) pe_int (fun _ _ => rfl)) (pa_cons (pv 2) pa_nil)))) (pa_cons (pv 2) pa_nil))))))
      (pss_cons (ps_setLc (i := 5) (own := [("number", 6)]) (g := gName 6) rfl sc_raise_number.nd rfl rfl (sw_true rfl rfl rfl (by decide +kernel)) (pi_tup (pe_tup (pa_cons (pv 3) (pa_cons (pv 4) pa_nil)))) (blkOk_by (N := n_raise_number) (sc := defScope s_raise_number) (by decide +kernel)) (fun _ _ _ _ _ => (pg_name (i := 6) sc_raise_number.nd rfl (Or.inl rfl))) (fun _ _ _ _ _ => pts_nil) (fun _ _ _ _ _ => (pe_ifExp (pt_val (by exact (pe_d d_is_square pass0 hr (by decide) rfl (pa_cons (pv 6) (pa_cons (pv 2) pa_nil))))) pe_int pe_int)))
      (pss_one (ps_ret (pe_op op_cat (pe_lst (pa_cons (pv 4) pa_nil)) (pv 5)))))))), ?_⟩)
  · obtain ⟨Av, a, c, s, r, st, xs, rs, rows, rfl, _⟩ := h
    rfl
  obtain ⟨Av, a, c, s, r, st, xs, rs, rows, rfl, hse, hav, ⟨dc, hc⟩, hs, hxl, hro, hrw, hrl, hask, oe⟩ := h
  obtain ⟨x, k, rfl⟩ := len2 hxl
  obtain rfl := len0 hrl
  refine ⟨_, rfl, Av, a, st, rfl, hse, ?_⟩
  cases st with
  | none => exact oe.noTS hse rfl
  | some t =>
  intro tk b tb
  obtain ⟨dx, D, L, t1, t2, rs2, t3, t4, t5⟩ := id tb
  have es : VbndalNeutral.step (some t) [[18, x, k]] = if (Vbndal.inRange x 1 ((t.prime : Int) - 1) && (Vbndal.inRange k 1 ((t.prime : Int) - 1) && Vbndal.isCoprimeExponent t.prime k.toNat)) = false then (some t, [-1]) else
      (some t, [0, ((Vbndal.lockCard t.prime x.toNat k.toNat : Nat) : Int), if Vbndal.lockCard t.prime x.toNat (Vbndal.subgroupOrder t.prime) = 1 then 1 else 0, if Vbndal.lockCard t.prime (Vbndal.lockCard t.prime x.toNat k.toNat) (Vbndal.subgroupOrder t.prime) = 1 then 1 else 0]) := rfl
  have hlo := tk.tp.lo
  have hhi := tk.tp.hi
  refine ⟨b, Cb, dx, _, _, rfl, t1, TB.cl, TB.n1, tbF_prime, ?_⟩
  refine ⟨_, rfl, c, Cc, dc, _, _, rfl, hc, TC.cl, TC.n1, ccF_scalars, s, _, _, V.int x, rfl, rfl, SqL.of hs, atI_nat (j := 0) rfl, _, rfl, x, t.prime, rfl, fun h1 => ?_, fun h1 => oe.wrongS hse (by rw [es, if_pos (by rw [h1]; rfl)]) (Same.refl H)⟩
  refine ⟨_, rfl, _, rfl, c, Cc, dc, _, _, rfl, hc, TC.cl, TC.n1, ccF_scalars, s, _, _, V.int k, rfl, rfl, SqL.of hs, atI_nat (j := 1) rfl, _, rfl, k, t.prime, rfl, by omega, fun h2 => ?_, fun h2 => oe.wrongS hse (by rw [es, if_pos (by rw [h1, h2]; rfl)]) (Same.refl H)⟩
  rw [if_neg (by rw [h1, h2]; decide)] at es
  unfold Vbndal.inRange at h1 h2
  rw [Bool.and_eq_true, decide_eq_true_iff, decide_eq_true_iff] at h1
  rw [Bool.and_eq_true, Bool.and_eq_true, decide_eq_true_iff, decide_eq_true_iff] at h2
  obtain ⟨x', rfl⟩ : ∃ i : Nat, x = i := ⟨x.toNat, by omega⟩
  obtain ⟨k', rfl⟩ : ∃ i : Nat, k = i := ⟨k.toNat, by omega⟩
  rw [Int.toNat_natCast, Int.toNat_natCast] at es
  refine ⟨_, rfl, x', k', t.prime, rfl, by omega, by omega, ?_⟩
  obtain ⟨y, hy⟩ : ∃ y, x' ^ k' % t.prime = y := ⟨_, rfl⟩
  have hy2 : Vbndal.lockCard t.prime x' k' = y := by rw [lock_eq (by omega), hy]
  rw [hy2] at es
  rw [hy]
  obtain ⟨q, hq⟩ : ∃ q : Nat → Nat, q = fun n => if Vbndal.lockCard t.prime n (t.prime / 2) = 1 then 1 else 0 := ⟨_, rfl⟩
  refine ⟨_, rfl, _, rfl, (by show 2 ≤ sizeLine; exact small_line (by omega)), fun T1 nT => ?_⟩
  have sT : Same H (upd H T1 (.tup [V.int (x' : Nat), V.int (y : Nat)])) := Same.new nT
  have sqT : SqT K (upd H T1 (.tup [V.int (x' : Nat), V.int (y : Nat)])) T1 (VN [x', y]) := SqT.of upd_same
  refine ⟨T1, rfl, ⟨_, sqT⟩, fun D2 hD2 => ?_⟩
  refine lc_tup (K := K) (a := T1) (xs := VN [x', y]) (fun j H' => Same (upd H T1 (.tup [V.int (x' : Nat), V.int (y : Nat)])) H' ∧ H' D2 = some (.lst (VN (([x', y].take j).map q)))) ⟨Same.new hD2, by rw [upd_same]; rfl⟩ (fun j H' _ z => Same.tup z.1 sqT) ?_ ?_
  · rintro j v H' hj ⟨k1, k2⟩
    obtain ⟨n, hn, rfl⟩ := map_at hj
    refine ⟨rfl, ?_⟩
    unfold tYes
    refine iteT ?_
    refine ⟨_, rfl, _, rfl, n, t.prime, rfl, tk.tp, _, rfl, ?_⟩
    have fin : ∀ m : Nat, q n = m → ∃ acc, H' D2 = some (.lst acc) ∧ acc.length < sizeLine ∧ (Same (upd H T1 (.tup [V.int (x' : Nat), V.int (y : Nat)])) (upd H' D2 (.lst (acc ++ [V.int m]))) ∧ (upd H' D2 (.lst (acc ++ [V.int m]))) D2 = some (.lst (VN (([x', y].take (j + 1)).map q)))) := fun m hm => by
      refine ⟨_, k2, ?_, fun b' o e => ?_, ?_⟩
      · rw [List.length_map, List.length_map, List.length_take]
        have : [x', y].length = 2 := rfl
        exact less_line (by omega)
      · rw [upd_ne (ne_of_none e hD2)]
        exact k1 _ _ e
      · rw [upd_same, take_one hn, vn_snoc, List.map_append, ← hm]
        rfl
    by_cases c : Vbndal.lockCard t.prime n (t.prime / 2) = 1
    · exact if_yes (decide_eq_true c) (fin 1 (by rw [hq]; exact if_pos c))
    · exact if_no (decide_eq_false c) (fin 0 (by rw [hq]; exact if_neg c))
  · rintro H' ⟨k1, k2⟩
    have k2' : H' D2 = some (.lst (VN [q x', q y])) := k2
    refine ⟨_, rfl, (by show 1 ≤ sizeLine; exact small_line (by omega)), fun e he => ?_⟩
    have nDe : D2 ≠ e := ne_of_none k2' he
    refine ⟨_, rfl, e, D2, _, _, rfl, rfl, upd_same, (upd_ne nDe).trans k2', ?_, fun p hp => ?_⟩
    · show 3 ≤ sizeLine
      exact small_line (by omega)
    refine oe.fineS hse es (((sT.trans k1).trans (Same.new he)).trans (Same.new hp)) ?_
    rw [upd_same]
    have e1 : ∀ n : Nat, ((q n : Nat) : Int) = if Vbndal.lockCard t.prime n (Vbndal.subgroupOrder t.prime) = 1 then 1 else 0 := fun n => by
      rw [hq]
      unfold Vbndal.subgroupOrder
      dsimp only
      split <;> rfl
    rw [← e1, ← e1]
    rfl
theorem ok_clear_table (T : SeT K Cs) (TC : CcT K Cc) (TB : TbT K Cb) (F : Fun K "clear_table" "clear_table" s_clear_table f fd)  : FnOk P w K mg base (L2.CX P w) 1 f fd ["session", "call"] (sp_op K Cs Cb Cc Cn Cw Cd Cx 19 0 0) := by
  refine F.okX sc_clear_table (fun vs H Q E h => ?_) (fun cdv A outer s0 H vs Q E hr h => ⟨_, (pss_cons (ps_fld (pv 0) pe_non rfl)
      (pss_one (ps_ret (pe_lst pa_nil)))), ?_⟩)
  · obtain ⟨Av, a, c, s, r, st, xs, rs, rows, rfl, _⟩ := h
    rfl
  obtain ⟨Av, a, c, s, r, st, xs, rs, rows, rfl, hse, hav, ⟨dc, hc⟩, hs, hxl, hro, hrw, hrl, hask, oe⟩ := h
  obtain rfl := len0 hxl
  obtain rfl := len0 hrl
  have es : VbndalNeutral.step st [[19]] = (none, [0]) := rfl
  obtain ⟨ds, v, h1, h2⟩ := id hse
  refine ⟨_, rfl, a, Cs, ds, _, rfl, h1, T.cl, T.n1, (by show 1 < 1000; decide), ?_⟩
  refine ⟨(by show 0 ≤ sizeLine; exact small_line (by omega)), fun p hp2 => ?_⟩
  refine oe.fine none [] _ p es (But.upd.trans (But.of_same (Same.new hp2))) ⟨ds, V.non, ?_, rfl⟩ upd_same
  rw [upd_ne (ne_of_none upd_same hp2), upd_same, seF_put]
end
end Cl
set_option Elab.async false
set_option linter.unusedVariables false
set_option maxRecDepth 100000
set_option maxHeartbeats 4000000
/-! # The operations, 14 -/
namespace Cl
open PySem PySem.Spec PyProof.Rows L2
abbrev s_remaining_orders : Stmt := top 127
abbrev n_remaining_orders : List Str := ["session", "call", "prime", "row", "cards", "shown", "found", "positions", "position", "key", "card"]
theorem sc_remaining_orders : FnScope n_remaining_orders ["session", "call"] (defScope s_remaining_orders) := ⟨rfl, rfl, rfl, by decide +kernel, rfl, by decide +kernel, by decide +kernel⟩
theorem sub_len {α : Type} [BEq α] [LawfulBEq α] : ∀ {o r : List α}, o.Nodup → (∀ x ∈ o, x ∈ r) → o.length ≤ r.length
  | [], r, _, _ => Nat.zero_le _
  | x :: o, r, hn, hs => by
    have hx : x ∈ r := hs x List.mem_cons_self
    have hn' := List.nodup_cons.mp hn
    have ih := sub_len (o := o) (r := r.erase x) hn'.2 fun y hy => (List.mem_erase_of_ne (fun e => hn'.1 (by rw [← e]; exact hy))).mpr (hs y (List.mem_cons_of_mem _ hy))
    have hp := List.length_pos_of_mem hx
    rw [List.length_erase_of_mem hx] at ih
    rw [List.length_cons]
    omega
def opn (p : Nat) (r : List Nat) (s : Vbndal.ShownKey) : Nat := Vbndal.lockCard p (r.getD s.position 0) (Vbndal.inverseKey p s.key)
theorem opened_all {p : Nat} {l r : List Nat} (t : TP p) (hl : ∀ x ∈ l, Vbndal.isCard p x = true) (hr : ∀ y ∈ r, Vbndal.isCard p y = true) : ∀ ss : List Vbndal.ShownKey, (∀ s ∈ ss, s.position < r.length ∧ 1 ≤ s.key ∧ s.key < p / 2) →
    Vbndal.openedCards p l r ss = if (ss.all fun s => l.contains (opn p r s)) = true then some (ss.map fun s => l.idxOf (opn p r s)) else none
  | [], _ => rfl
  | s :: ss, h => by
    obtain ⟨h1, h2, h3⟩ := h s List.mem_cons_self
    have hy : Vbndal.isCard p (r.getD s.position 0) = true := by
      rw [List.getD_eq_getElem?_getD, List.getElem?_eq_getElem h1]
      exact hr _ (List.getElem_mem h1)
    unfold Vbndal.openedCards
    rw [opened_idx t h2 h3 hl hy, opened_all t hl hr ss fun s hs => h s (List.mem_cons_of_mem _ hs), List.all_cons, List.map_cons]
    show (match (if opn p r s ∈ l then some (l.idxOf (opn p r s)) else none) with
      | none => none
      | some i => _) = _
    by_cases c : opn p r s ∈ l
    · rw [if_pos c, List.contains_iff_mem.mpr c, Bool.true_and]
      dsimp only
      split <;> rfl
    · have e : l.contains (opn p r s) = false := by
        cases z : l.contains (opn p r s) with
        | false => rfl
        | true => exact absurd (List.contains_iff_mem.mp z) c
      rw [if_neg c, e, Bool.false_and]
      rfl
theorem shown_facts {t : Vbndal.Table} {n : Nat} {l : List Int} {ss : List Vbndal.ShownKey} (h : Vbndal.decodeShown t n l = some ss) : ss.length * 2 = l.length ∧ ∀ s ∈ ss, s.position < n ∧ 1 ≤ s.key ∧ s.key < t.prime / 2 := by
  rcases Nat.mod_two_eq_zero_or_one l.length with c | c
  · have hl : l.length = l.length / 2 * 2 := by omega
    rw [shown_even _ l hl] at h
    by_cases g : (pieces (l.length / 2) 2 l).all (skGood t n) = true
    · rw [if_pos g] at h
      have h' := Option.some.inj h
      subst h'
      refine ⟨by rw [List.length_map, pieces_len]; omega, fun s hs => ?_⟩
      obtain ⟨x, hx, rfl⟩ := List.mem_map.mp hs
      have e : (Vbndal.inRange (x.getD 0 0) 0 ((n : Int) - 1) && kyd t.prime (x.getD 1 0)) = true := List.all_eq_true.mp g x hx
      unfold Vbndal.inRange at e
      rw [Bool.and_eq_true, Bool.and_eq_true, decide_eq_true_iff, decide_eq_true_iff] at e
      obtain ⟨k, hk, k1, k2⟩ := kyd_iff.mp e.2
      have ek : (skOf x).key = k := by
        show (x.getD 1 0).toNat = k
        rw [hk, Int.toNat_natCast]
      have ep : (skOf x).position = (x.getD 0 0).toNat := rfl
      rw [ek, ep]
      exact ⟨by omega, k1, k2⟩
    · rw [if_neg g] at h
      cases h
  · rw [shown_odd (l.length / 2) l (by omega)] at h
    cases h
section
variable {P : Program} {w : World} {K : Fr} {mg : Str → Option Value} {base : Heap} {f : Addr} {fd : FuncData} {Cs Cb Cn Cw Cd Cx Cc : Addr}
theorem ok_remaining_orders (T : SeT K Cs) (TC : CcT K Cc) (TB : TbT K Cb) (F : Fun K "remaining_orders" "remaining_orders" s_remaining_orders f fd) (d_checked_row : Df P w K mg base (L2.CX P w) 5 "checked_row" (sp_crow K Cw)) (d_checked_cards : Df P w K mg base (L2.CX P w) 5 "checked_cards" (sp_ccards K Cw)) (d_checked_shown : Df P w K mg base (L2.CX P w) 4 "checked_shown" (sp_cshown K Cw)) (n_any : mg "any" = none) (d_needed_table : Df P w K mg base (L2.CX P w) 1 "needed_table" (sp_needed Cs Cb Cn)) (n_len : mg "len" = none) (d_unlocked : Df P w K mg base CX0 3 "unlocked" sp_unlocked) (d_remaining_count : Df P w K mg base CX0 2 "remaining_count" (sp_remc K)) : FnOk P w K mg base (L2.CX P w) 6 f fd ["session", "call"] (sp_op K Cs Cb Cc Cn Cw Cd Cx 14 0 3) := by
  refine F.okX sc_remaining_orders (fun vs H Q E h => ?_) (fun cdv A outer s0 H vs Q E hr h => ⟨_, (pss_cons (ps_set (i := 2) sc_remaining_orders.nd rfl (Or.inr rfl) (pe_fld (by exact (pe_d d_needed_table (pass_up (takes_of rfl rfl rfl rfl)) hr (by decide) rfl (pa_cons (pv 0) pa_nil))) rfl))
      (pss_cons (ps_set (i := 3) sc_remaining_orders.nd rfl (Or.inr rfl) (by exact (pe_d d_checked_row (pass_up (takes_of rfl rfl rfl rfl)) hr (by decide) rfl (pa_cons (pe_ix ix_list (pe_fld (pv 1) rfl) pe_int (fun _ _ => rfl)) (pa_cons (pv 2) pa_nil)))))
      (pss_cons (ps_set (i := 4) sc_remaining_orders.nd rfl (Or.inr rfl) (by exact (pe_d d_checked_cards (pass_up (takes_of rfl rfl rfl rfl)) hr (by decide) rfl (pa_cons (pe_ix ix_list (pe_fld (pv 1) rfl) pe_int (fun _ _ => rfl)) (pa_cons (pe_callB call_len_seq (by rfl) n_len PySem.boot_len (pa_cons (pv 3) pa_nil)) (pa_cons (pv 2) pa_nil))))))
      (pss_cons (ps_set (i := 5) sc_remaining_orders.nd rfl (Or.inl rfl) (by exact (pe_d d_checked_shown (pass_up (takes_of rfl rfl rfl rfl)) hr (by decide) rfl (pa_cons (pe_ix ix_list (pe_fld (pv 1) rfl) pe_int (fun _ _ => rfl)) (pa_cons (pe_callB call_len_seq (by rfl) n_len PySem.boot_len (pa_cons (pv 3) pa_nil)) (pa_cons (pv 2) pa_nil))))))
      (pss_cons (ps_setLc (i := 6) (own := [("position", 8), ("key", 9)]) (g := gUnl K 2 (gCons (gName 8) (gCons (gName 9) gNil))) rfl sc_remaining_orders.nd rfl rfl (sw_true rfl rfl rfl (by decide +kernel)) (pi_list (pv 5)) (blkOk_by (N := n_remaining_orders) (sc := defScope s_remaining_orders) (by decide +kernel)) (fun _ _ _ _ _ => (pg_unl rfl (pgs_cons (pg_name (i := 8) sc_remaining_orders.nd rfl (Or.inl rfl)) (pgs_cons (pg_name (i := 9) sc_remaining_orders.nd rfl (Or.inl rfl)) pgs_nil)))) (fun _ _ _ _ _ => pts_nil) (fun _ _ _ _ _ => (by exact (pe_d d_unlocked pass0 hr (by decide) rfl (pa_cons (pe_ix (ix_list : IxR _ (rIxL K)) (pv 4) (pv 8) (fun _ _ => rfl)) (pa_cons (pv 9) (pa_cons (pv 2) pa_nil)))))))
      (pss_cons (ps_if (pt_val (pe_callB (cr_any rfl) (by rfl) n_any (by decide +kernel) (pa_cons (pe_lc (own := [("card", 10)]) (g := gName 10) rfl sc_remaining_orders.nd (pi_list (pv 6)) (blkOk_by (N := n_remaining_orders) (sc := defScope s_remaining_orders) (by decide +kernel)) (fun _ _ _ _ _ => (pg_name (i := 10) sc_remaining_orders.nd rfl (Or.inl rfl))) (fun _ _ _ _ _ => pts_nil) (fun _ _ _ _ _ => (pe_cmpR (op_notIn_seq : OpR _ _ (rIn K true)) (pv 10) (pv 3) (by rfl)))) pa_nil)))
      (pss_one (ps_ret (pe_lst (pa_cons pe_int pa_nil))))
      pss_nil)
      (pss_cons (ps_setLc (i := 7) (own := [("card", 10)]) (g := gName 10) rfl sc_remaining_orders.nd rfl rfl (sw_true rfl rfl rfl (by decide +kernel)) (pi_list (pv 6)) (blkOk_by (N := n_remaining_orders) (sc := defScope s_remaining_orders) (by decide +kernel)) (fun _ _ _ _ _ => (pg_name (i := 10) sc_remaining_orders.nd rfl (Or.inl rfl))) (fun _ _ _ _ _ => pts_nil) (fun _ _ _ _ _ => (show PE _ _ (tBM K _ (rIndex K) _ _) from pe_bm PySem.F.plainAttrs_list PySem.F.slot_list_index PySem.F.type_list_index mt_index (pv 3) (pa_cons (pv 10) pa_nil))))
      (pss_one (ps_ret (pe_op op_cat (pe_lst (pa_cons (by exact (pe_d d_remaining_count pass0 hr (by decide) rfl (pa_cons (pe_callB call_len_seq (by rfl) n_len PySem.boot_len (pa_cons (pv 3) pa_nil)) (pa_cons (pv 7) pa_nil)))) pa_nil)) (pv 7))))))))))), ?_⟩)
  · obtain ⟨Av, a, c, s, r, st, xs, rs, rows, rfl, _⟩ := h
    rfl
  obtain ⟨Av, a, c, s, r, st, xs, rs, rows, rfl, hse, hav, ⟨dc, hc⟩, hs, hxl, hro, hrw, hrl, hask, oe⟩ := h
  obtain rfl := len0 hxl
  obtain ⟨ra, rb, rc, rfl⟩ := len3 hrl
  obtain ⟨l0, l1, l2, rfl⟩ := len3 (hrw.1.trans hrl)
  have hl0 := SqL.of (K := K) (hrw.2 0 l0 ra rfl rfl)
  have hl1 := SqL.of (K := K) (hrw.2 1 l1 rb rfl rfl)
  have hl2 := SqL.of (K := K) (hrw.2 2 l2 rc rfl rfl)
  have h60 : ra.length ≤ 60 ∧ rb.length ≤ 60 ∧ rc.length ≤ 60 := by
    have h : (VbndalNeutral.isRow ra 60 && (VbndalNeutral.isRow rb 60 && VbndalNeutral.isRow rc 60)) = true := hask
    rw [Bool.and_eq_true, Bool.and_eq_true] at h
    exact ⟨row_len h.1, row_len h.2.1, row_len h.2.2⟩
  refine ⟨_, rfl, Av, a, st, rfl, hse, ?_⟩
  cases st with
  | none => exact oe.noTS hse rfl
  | some t =>
  intro tk b tb
  obtain ⟨dx, D, L, t1, t2, rs2, t3, t4, t5⟩ := id tb
  have es : VbndalNeutral.step (some t) [[14], ra, rb, rc] = if (rowd t.prime ra && (rb.length == ra.length && rb.all (crd t.prime))) = false then (some t, [-1]) else (match Vbndal.decodeShown t ra.length rc with
      | none => (some t, [-1])
      | some ss => if (ss.map fun x => x.position).eraseDups.length ≠ ss.length then (some t, [-1]) else (match Vbndal.openedCards t.prime (Vbndal.toNats ra) (Vbndal.toNats rb) ss with
        | none => (some t, [0, 0])
        | some o => (some t, 0 :: (Vbndal.remainingOrders t.prime (Vbndal.toNats ra) (Vbndal.toNats rb) ss : Int) :: Vbndal.toInts o))) := rfl
  refine ⟨b, Cb, dx, _, _, rfl, t1, TB.cl, TB.n1, tbF_prime, ?_⟩
  refine ⟨_, rfl, c, Cc, dc, _, _, rfl, hc, TC.cl, TC.n2, ccF_rows, r, _, _, V.ref l0, rfl, rfl, SqL.of hro, atI_nat (j := 0) rfl, _, rfl, l0, ra, t.prime, rfl, tk.tp, hl0, fun h2 H1 s1 => ?_, fun h2 H1 s1 => oe.wrongS hse (by rw [es, if_pos (by rw [h2]; rfl)]) s1⟩
  obtain ⟨ea, ⟨la1, la2⟩, and, acd⟩ := row_nats h2
  have hlen : (((VI ra).length : Nat) : Int) = (ra.length : Int) := by rw [List.length_map]
  have hhi := tk.tp.hi
  refine ⟨_, rfl, c, Cc, dc, _, _, rfl, (s1 _ _ hc), TC.cl, TC.n2, ccF_rows, r, _, _, V.ref l1, rfl, rfl, SqL.of (s1 _ _ hro), atI_nat (j := 1) rfl, _, rfl, l0, _, rfl, .inl (s1.seq hl0), _, rfl, l1, rb, ra.length, t.prime, (by rw [hlen]; rfl), tk.tp, s1.seq hl1, by omega, fun h3 H2 s2 d2 nd2 hd2 => ?_, fun h3 H2 s2 => oe.wrongS hse (by rw [es, if_pos (by rw [h2, h3]; rfl)]) (s1.trans s2)⟩
  have h3' := h3
  rw [Bool.and_eq_true, beq_iff_eq, List.all_eq_true] at h3'
  obtain ⟨eb, bcd⟩ := cards_nats h3'.2
  have s12 := s1.trans s2
  rw [eb] at hd2
  rw [if_neg (by rw [h2, h3]; decide)] at es
  refine ⟨_, rfl, c, Cc, dc, _, _, rfl, (s12 _ _ hc), TC.cl, TC.n2, ccF_rows, r, _, _, V.ref l2, rfl, rfl, SqL.of (s12 _ _ hro), atI_nat (j := 2) rfl, _, rfl, l0, _, rfl, .inl (s12.seq hl0), _, rfl, l2, rc, ra.length, t, (by rw [hlen]; rfl), tk.tp, s12.seq hl2, by omega, ?_⟩
  cases hsh : Vbndal.decodeShown t ra.length rc with
  | none => exact fun H3 s3 => oe.wrongS hse (by rw [es, hsh]) (s12.trans s3)
  | some ss =>
  rw [hsh] at es
  dsimp only at es
  show if _ then _ else _
  by_cases cd : (ss.map fun x => x.position).eraseDups.length ≠ ss.length
  · rw [if_pos cd]
    exact fun H3 s3 => oe.wrongS hse (by rw [es, if_pos cd]) (s12.trans s3)
  rw [if_neg cd] at es ⊢
  intro H3 d3 ps s3 nd3 hd3 hps
  obtain ⟨sl, sf⟩ := shown_facts hsh
  have s13 := s12.trans s3
  have sqa : SqL K H3 l0 (VN (Vbndal.toNats ra)) := by
    rw [← ea]
    exact s13.seq hl0
  have hd2' := s3 _ _ hd2
  have nal : (Vbndal.toNats ra).length = ra.length := nats_len ra
  have nbl : (Vbndal.toNats rb).length = ra.length := by rw [nats_len, h3'.1]
  rw [opened_all tk.tp acd (fun y hy => (bcd y hy).1) ss (fun s hs => by rw [nbl]; exact sf s hs)] at es
  have hpl : ps.length = ss.length := by rw [hps.1, List.length_map]
  have sq3 : SqL K H3 d3 (ps.map V.ref) := SqL.of hd3
  -- found
  refine ⟨_, rfl, d3, rfl, ⟨_, sq3⟩, fun D hD => ?_⟩
  refine lc_list (K := K) (a := d3) (xs := ps.map V.ref) (fun j H' => Same H3 H' ∧ H' D = some (.lst (VN ((ss.take j).map (opn t.prime (Vbndal.toNats rb)))))) ⟨Same.new hD, by rw [upd_same]; rfl⟩ (fun j H' _ z => z.1.seq sq3) ?_ ?_
  · rintro j v H' hj ⟨k1, k2⟩
    obtain ⟨r0, hr0, rfl⟩ := map_at hj
    have hjl : j < ss.length := by
      have := (List.getElem?_eq_some_iff.mp hr0).1
      omega
    have hsj : ss[j]? = some ss[j] := List.getElem?_eq_getElem hjl
    obtain ⟨sk, hsk⟩ : ∃ sk, ss[j] = sk := ⟨_, rfl⟩
    rw [hsk] at hsj
    obtain ⟨f1, f2, f3⟩ := sf sk (List.mem_of_getElem? hsj)
    have hx := k1 _ _ (hps.2 j r0 [(sk.position : Int), (sk.key : Int)] hr0 (by rw [List.getElem?_map, hsj]; rfl))
    have hie : (Vbndal.toNats rb)[sk.position]? = some ((Vbndal.toNats rb).getD sk.position 0) := by rw [List.getD_eq_getElem?_getD, List.getElem?_eq_getElem (by omega)] <;> rfl
    refine ⟨r0, _, rfl, SqL.of hx, rfl, _, _, rfl, _, _, rfl, rfl, rfl, ?_⟩
    unfold tYes
    refine iteT ?_
    refine ⟨_, rfl, _, rfl, d2, _, _, V.int ((Vbndal.toNats rb).getD sk.position 0 : Nat), rfl, rfl, SqL.of (k1 _ _ hd2'), atI_nat (by rw [List.getElem?_map, hie]; rfl), _, rfl, _, rfl, (Vbndal.toNats rb).getD sk.position 0, sk.key, t.prime, rfl, tk.tp, ?_⟩
    refine ⟨_, k2, ?_, fun b' o e => ?_, ?_⟩
    · rw [List.length_map, List.length_map, List.length_take]
      exact less_line (by omega)
    · rw [upd_ne (ne_of_none e hD)]
      exact k1 _ _ e
    · have e9 : ((Vbndal.lockCard t.prime ((Vbndal.toNats rb).getD sk.position 0) (Vbndal.inverseKey t.prime sk.key) : Nat) : Int) = ((opn t.prime (Vbndal.toNats rb) sk : Nat) : Int) := rfl
      rw [upd_same, take_one hsj, e9, vn_snoc, List.map_append]
      rfl
  rintro H4 ⟨s4, hD4⟩
  rw [List.length_map, hpl, List.take_length] at hD4
  obtain ⟨fs, hfs⟩ : ∃ fs, ss.map (opn t.prime (Vbndal.toNats rb)) = fs := ⟨_, rfl⟩
  rw [hfs] at hD4
  have fl : fs.length = ss.length := by rw [← hfs, List.length_map]
  have sqf : SqL K H4 D (VN fs) := SqL.of hD4
  -- any
  refine ⟨_, rfl, D, rfl, ⟨_, sqf⟩, fun D2 hD2 => ?_⟩
  refine lc_maps (K := K) (a := D) (l := fs) (val := fun n : Nat => V.int n) (out := fun n : Nat => V.bl (!(Vbndal.toNats ra).contains n)) hD2 sqf (by omega) ?_ ?_
  · intro i x H' Q2 Nx hx s2' kk
    refine ⟨rfl, ?_⟩
    unfold tYes
    refine iteT ?_
    refine ⟨_, rfl, _, rfl, l0, _, rfl, .inl ((s4.trans s2').seq sqa), rfl, flat_nats _, ?_⟩
    have z := kk H' (Same.refl H')
    rw [← in_nats] at z
    exact z
  intro H5 s5 hD5
  refine ⟨D2, fs.map fun n => !(Vbndal.toNats ra).contains n, rfl, SqL.of (by rw [hD5, List.map_map]; rfl), _, rfl, ?_⟩
  have eany : (fs.map fun n => !(Vbndal.toNats ra).contains n).any id = !(ss.all fun s => (Vbndal.toNats ra).contains (opn t.prime (Vbndal.toNats rb) s)) := by
    rw [← hfs, List.any_map, List.any_map, List.not_all_eq_any_not]
    rfl
  rw [eany]
  have s14 := s13.trans s4
  have s15 := s14.trans s5
  cases call : (ss.all fun s => (Vbndal.toNats ra).contains (opn t.prime (Vbndal.toNats rb) s)) with
  | false =>
    refine if_yes rfl ?_
    rw [call, if_neg (by decide)] at es
    refine ⟨(by show 1 ≤ sizeLine; exact small_line (by omega)), fun e he => ?_⟩
    exact oe.fineS hse es (s15.trans (Same.new he)) upd_same
  | true =>
  refine if_no rfl ?_
  rw [call, if_pos rfl] at es
  have ecall := opened_all tk.tp acd (fun y hy => (bcd y hy).1) ss (fun s hs => by rw [nbl]; exact sf s hs)
  rw [call, if_pos rfl] at ecall
  have hin : ∀ x ∈ fs, x ∈ Vbndal.toNats ra := fun x hx => by
    rw [← hfs] at hx
    obtain ⟨s, hs, rfl⟩ := List.mem_map.mp hx
    exact List.contains_iff_mem.mp (List.all_eq_true.mp call s hs)
  obtain ⟨o, ho⟩ : ∃ o, (ss.map fun s => (Vbndal.toNats ra).idxOf (opn t.prime (Vbndal.toNats rb) s)) = o := ⟨_, rfl⟩
  have ho2 : fs.map (fun x => (Vbndal.toNats ra).idxOf x) = o := by
    rw [← hfs, ← ho, List.map_map]
    rfl
  have ol : o.length = ss.length := by rw [← ho, List.length_map]
  rw [ho] at es ecall
  have sqf5 : SqL K H5 D (VN fs) := s5.seq sqf
  have sqa5 : SqL K H5 l0 (VN (Vbndal.toNats ra)) := s5.seq (s4.seq sqa)
  -- positions
  refine ⟨_, rfl, D, rfl, ⟨_, sqf5⟩, fun D3 hD3 => ?_⟩
  refine lc_maps (K := K) (a := D) (l := fs) (val := fun n : Nat => V.int n) (out := fun n : Nat => V.int ((Vbndal.toNats ra).idxOf n : Nat)) hD3 sqf5 (by omega) ?_ ?_
  · intro i x H' Q2 Nx hx s6' kk
    refine ⟨rfl, ?_⟩
    unfold tYes
    refine iteT ?_
    have sq6 := s6'.seq sqa5
    have hxi := hin x (List.mem_of_getElem? hx)
    exact ⟨_, rfl, .inl ⟨rfl, _, sq6⟩, _, rfl, l0, _, _, (Vbndal.toNats ra).idxOf x, V.int x, rfl, rfl, sq6, rfl, flat_nats _, idx_at hxi, (beq_self_eq_true (x : Int) : ((x : Int) == (x : Int)) = true), idx_first, kk H' (Same.refl H')⟩
  intro H6 s6 hD6
  have hD6' : H6 D3 = some (.lst (VN o)) := by
    rw [hD6, ← ho2]
    show _ = some (HO.lst ((fs.map fun x => (Vbndal.toNats ra).idxOf x).map fun n : Nat => V.int n))
    rw [List.map_map]
    rfl
  have sqa6 := s6.seq sqa5
  have e6 : (((VN (Vbndal.toNats ra)).length : Nat) : Int) = (ra.length : Int) := by rw [List.length_map, nal]
  have erem : Vbndal.remainingOrders t.prime (Vbndal.toNats ra) (Vbndal.toNats rb) ss = if o.eraseDups.length = o.length then Vbndal.factorial (ra.length - o.length) else 0 := by
    unfold Vbndal.remainingOrders
    rw [ecall]
    dsimp only
    rw [nal]
  refine ⟨_, rfl, l0, _, rfl, .inl sqa6, _, rfl, D3, o, ra.length, (by rw [e6]; rfl), SqL.of hD6', by omega, by omega, fun hn => ?_, ?_⟩
  · have h1 := sub_len (o := o) (r := List.range ra.length) hn fun x hx => by
      rw [← ho2] at hx
      obtain ⟨y, hy, rfl⟩ := List.mem_map.mp hx
      rw [List.mem_range, ← nal]
      exact idx_lt (hin y hy)
    rw [List.length_range] at h1
    exact h1
  refine ⟨(by show 1 ≤ sizeLine; exact small_line (by omega)), fun e he => ?_⟩
  have nDe : D3 ≠ e := ne_of_none hD6' he
  refine ⟨_, rfl, e, D3, _, _, rfl, rfl, upd_same, (upd_ne nDe).trans hD6', ?_, fun p hp => ?_⟩
  · rw [List.length_map]
    show 1 + _ ≤ sizeLine
    exact small_line (by omega)
  refine oe.fineS hse es (((s15.trans s6).trans (Same.new he)).trans (Same.new hp)) ?_
  rw [upd_same, erem]
  show _ = some (HO.lst (V.int _ :: VI (Vbndal.toInts o)))
  rw [toInts_vn]
  rfl
end
end Cl
set_option Elab.async false
set_option linter.unusedVariables false
set_option maxRecDepth 100000
set_option maxHeartbeats 4000000
/-! # The next answer -/
namespace Cl
open PySem PySem.Spec PyProof.Rows L2
abbrev s_answer_next : Stmt := top 134
abbrev n_answer_next : List Str := ["session", "reader", "entry", "operation", "call", "refusal"]
theorem sc_answer_next : FnScope n_answer_next ["session", "reader"] (defScope s_answer_next) := ⟨rfl, rfl, rfl, by decide +kernel, rfl, by decide +kernel, by decide +kernel⟩
/-- the operations' numbers and rows, by their place -/
def opN : List (Nat × Nat) := [(0, 1), (0, 1), (0, 0), (0, 0), (0, 0), (2, 0), (2, 0), (1, 0), (0, 1), (3, 0), (1, 2), (1, 2), (1, 1), (0, 2), (0, 3), (0, 1), (1, 1), (1, 3), (2, 0), (0, 0)]
theorem shape_opN {p : Int} {n k : Nat} (h : PyVbndal.shape p = some (n, k)) : ∃ j : Nat, p = j ∧ j < 20 ∧ opN[j]? = some (n, k) := by
  obtain ⟨h1, h2⟩ := shape_some h
  obtain ⟨j, rfl⟩ : ∃ j : Nat, p = j := ⟨p.toNat, by omega⟩
  have hj : j < 20 := by omega
  have all : ∀ i : Fin 20, PyVbndal.shape ((i.val : Nat) : Int) = opN[i.val]? := by decide +kernel
  exact ⟨j, rfl, hj, by rw [← h]; exact (all ⟨j, hj⟩).symm⟩
theorem opN_small {j n k : Nat} (h : opN[j]? = some (n, k)) : n ≤ 3 ∧ k ≤ 3 := by
  have all : ∀ x ∈ opN, x.1 ≤ 3 ∧ x.2 ≤ 3 := by decide
  exact all _ (List.mem_of_getElem? h)
/-- the table of operations: at each place its tuple and its def -/
structure OpT (P : Program) (w : World) (K : Fr) (mg : Str → Option Value) (base : Heap) (aOP : Addr) (T : List (Addr × Addr)) (Cs Cb Cc Cn Cw Cd Cx : Addr) : Prop where
  len : T.length = 20
  tup : ∀ H : Hp, SqT K H aOP (T.map fun x => V.ref x.1)
  one : ∀ (H : Hp) (j : Nat) (x : Addr × Addr) (n k : Nat), T[j]? = some x → opN[j]? = some (n, k) → SqT K H x.1 [.ref x.2, .int n, .int k]
  ok : ∀ (j : Nat) (x : Addr × Addr) (n k : Nat), T[j]? = some x → opN[j]? = some (n, k) → HeldX P w K mg base 8 x.2 (sp_op K Cs Cb Cc Cn Cw Cd Cx (j : Int) n k)
/-- which handler takes which error -/
structure ExT (K : Fr) (Cn Cw Cd Cx : Addr) : Prop where
  nn : PySem.W.exmOne K (.ref Cn) (.ref Cn) = some true
  wn : PySem.W.exmOne K (.ref Cw) (.ref Cn) = some false
  ww : PySem.W.exmOne K (.ref Cw) (.ref Cw) = some true
  dn : PySem.W.exmOne K (.ref Cd) (.ref Cn) = some false
  dw : PySem.W.exmOne K (.ref Cd) (.ref Cw) = some false
  dd : PySem.W.exmOne K (.ref Cd) (.ref Cd) = some true
  xn : PySem.W.exmOne K (.ref Cx) (.ref Cn) = some false
  xw : PySem.W.exmOne K (.ref Cx) (.ref Cw) = some false
  xd : PySem.W.exmOne K (.ref Cx) (.ref Cd) = some false
  xx : PySem.W.exmOne K (.ref Cx) (.ref Cx) = some true
def Sop (K : Fr) (T : List (Addr × Addr)) (Cs Cb Cc Cn Cw Cd Cx : Addr) : Addr → Sp → Prop := fun f sp => ∃ (j : Nat) (x : Addr × Addr) (n k : Nat), T[j]? = some x ∧ opN[j]? = some (n, k) ∧ f = x.2 ∧ sp = sp_op K Cs Cb Cc Cn Cw Cd Cx (j : Int) n k
def But2 (a b : Addr) (H H' : Hp) : Prop := ∀ x o, H x = some o → x ≠ a → x ≠ b → H' x = some o
theorem seq_but2 {K : Fr} {H H' : Hp} {a b L : Addr} {xs : List V} (x : But2 a b H H') (ha : ∃ C dx fs, H a = some (.ins C dx fs)) (hb : ∃ C dx fs, H b = some (.ins C dx fs)) (h : SqL K H L xs) : SqL K H' L xs := by
  obtain ⟨C, dx, fs, ha⟩ := ha
  obtain ⟨C2, dx2, fs2, hb⟩ := hb
  rcases h with (h | ⟨o, h⟩) | h
  · exact .inl (.inl (x _ _ h (ne_of h ha (by intro z; cases z)) (ne_of h hb (by intro z; cases z))))
  · exact .inl (.inr ⟨o, x _ _ h (ne_of h ha (by intro z; cases z)) (ne_of h hb (by intro z; cases z))⟩)
  · exact .inr h
theorem SeAt.ins {Av : Addr → Prop} {Cs Cb : Addr} {H : Hp} {a : Addr} {st : Option Vbndal.Table} (h : SeAt Av Cs Cb H a st) : ∃ dx v, H a = some (.ins Cs dx (seF v)) := by
  obtain ⟨dx, v, h1, _⟩ := h
  exact ⟨dx, v, h1⟩
/-- a session stands where something is stored at the reader -/
theorem SeAt.but {Av : Addr → Prop} {Cs Cb Cr : Addr} {H H' : Hp} {a b L : Addr} {i : Nat} {st : Option Vbndal.Table} (h : SeAt Av Cs Cb H a st) (x : But b H H') (hb : CrAt Cr H b L i) : SeAt Av Cs Cb H' a st := by
  obtain ⟨dr, hb⟩ := hb
  obtain ⟨dx, v, h1, h2⟩ := h
  refine ⟨dx, v, x _ _ h1 (ins_ne hb h1 (by show 2 ≠ 1; decide)), ?_⟩
  cases st with
  | none => exact h2
  | some t =>
    obtain ⟨c, e, ⟨dy, D, M, t1, t2, ⟨rs, t3, t4, t5⟩, t6⟩, h4⟩ := h2
    refine ⟨c, e, ⟨dy, D, M, x _ _ t1 (ins_ne hb t1 (by show 2 ≠ 3; decide)), x _ _ t2 (ne_of t2 hb (by intro z; cases z)), ⟨rs, x _ _ t3 (ne_of t3 hb (by intro z; cases z)), t4, fun j r y e1 e2 => ?_⟩, t6⟩, h4⟩
    have z := t5 j r y e1 e2
    exact x _ _ z (ne_of z hb (by intro z; cases z))
theorem new_but2 {H H' : Hp} {a b d : Addr} (x : But2 a b H H') (ha : ∃ o, H' a = some o) (hb : ∃ o, H' b = some o) (n : H' d = none) : H d = none := by
  cases z : H d with
  | none => rfl
  | some o =>
    obtain ⟨oa, ha⟩ := ha
    obtain ⟨ob, hb⟩ := hb
    have z2 := x d o z (fun e => by rw [e, ha] at n; cases n) (fun e => by rw [e, hb] at n; cases n)
    rw [n] at z2
    cases z2
def sp_next (K : Fr) (Cr Cs Cb : Addr) : Sp := fun vs H Q _ => ∃ (Av : Addr → Prop) (a b L : Addr) (i : Nat) (l : List Int) (st : Option Vbndal.Table) (p : Int) (r t : List Int) (n k : Nat) (xs : List (List Int)), vs = [.ref a, .ref b] ∧ SeAt Av Cs Cb H a st ∧ (∀ x, Av x → H x ≠ none) ∧ CrAt Cr H b L i ∧ SqL K H L (VI l) ∧ l.drop i = p :: r ∧
  PyVbndal.shape p = some (n, k) ∧ n ≤ r.length ∧ PyFlat.rows k (r.drop n) = some (xs, t) ∧ VbndalNeutral.asked1 ((p :: r.take n) :: xs) = true ∧ (VbndalNeutral.step st ((p :: r.take n) :: xs)).2.length ≤ 10000000 ∧
  ∀ H' d, But2 a b H H' → SeAt Av Cs Cb H' a (VbndalNeutral.step st ((p :: r.take n) :: xs)).1 → CrAt Cr H' b L (l.length - t.length) → (t = l.drop (l.length - t.length) ∧ t.length + i < l.length) → H d = none → H' d = some (.lst (VI (VbndalNeutral.step st ((p :: r.take n) :: xs)).2)) → Q (.ref d) H'
theorem rows_len : ∀ {k : Nat} {r t : List Int} {xs : List (List Int)}, PyFlat.rows k r = some (xs, t) → xs.length = k ∧ t.length ≤ r.length
  | 0, r, t, xs, h => by
    obtain ⟨rfl, rfl⟩ := rows_zero h
    exact ⟨rfl, Nat.le_refl _⟩
  | k + 1, r, t, xs, h => by
    obtain ⟨n, r1, ys, rfl, h1, h2, h3, rfl⟩ := rows_succ h
    obtain ⟨e1, e2⟩ := rows_len h3
    rw [List.length_drop] at e2
    exact ⟨by rw [List.length_cons, e1], by rw [List.length_cons]; omega⟩
section
variable {P : Program} {w : World} {K : Fr} {mg : Str → Option Value} {base : Heap} {f : Addr} {fd : FuncData} {Cr Cs Cb Cn Cw Cd Cx Cc aOP : Addr} {T : List (Addr × Addr)}
theorem ok_answer_next (O : OpT P w K mg base aOP T Cs Cb Cc Cn Cw Cd Cx) (M : ExT K Cn Cw Cd Cx) (F : Fun K "answer_next" "answer_next" s_answer_next f fd) (m_CallReader_take_call : Mt P w K mg base CX0 3 Cr "take_call" (sp_tcall K Cr Cc)) (c_OPERATIONS : Gv mg "OPERATIONS" (.ref aOP)) (m_CallReader_take_number : Mt P w K mg base CX0 1 Cr "take_number" (sp_tnum K Cr)) (x_NoTable : Xp K mg "NoTable" Cn) (x_WrongArgument : Xp K mg "WrongArgument" Cw) (x_NotInDeck : Xp K mg "NotInDeck" Cd) (x_InvalidText : Xt P w K mg base "InvalidText" Cx) (c_DONE : Gv mg "DONE" (.int 0)) (c_TABLE_MISSING : Gv mg "TABLE_MISSING" (.int (-20))) (c_ARGUMENT_WRONG : Gv mg "ARGUMENT_WRONG" (.int (-1))) (c_CARD_NOT_IN_DECK : Gv mg "CARD_NOT_IN_DECK" (.int (-6))) (c_TEXT_INVALID : Gv mg "TEXT_INVALID" (.int 1)) : FnOk P w K mg base CX0 9 f fd ["session", "reader"] (sp_next K Cr Cs Cb) := by
  have hOP : ∀ f sp, Sop K T Cs Cb Cc Cn Cw Cd Cx f sp → HeldX P w K mg base 8 f sp := by
    rintro f sp ⟨j, x, n, k, h1, h2, rfl, rfl⟩
    exact O.ok j x n k h1 h2
  refine F.ok sc_answer_next (fun vs H Q E h => ?_) (fun cdv A outer s0 H vs Q E hr h => ⟨_, (pss_cons (ps_set (i := 2) sc_answer_next.nd rfl (Or.inl rfl) (pe_ix ix_tup (pe_gv rfl c_OPERATIONS) (by exact (pe_m0' m_CallReader_take_number pass0 hr (by decide) (pv 1))) (fun _ _ => rfl)))
      (pss_cons (ps_set (i := 3) sc_answer_next.nd rfl (Or.inl rfl) (pe_ix ix_tup (pv 2) pe_int (fun _ _ => rfl)))
      (pss_cons (ps_set (i := 4) sc_answer_next.nd rfl (Or.inl rfl) (by exact (pe_m m_CallReader_take_call pass0 hr (by decide) (pv 1) (pa_cons (pe_ix ix_tup (pv 2) pe_int (fun _ _ => rfl)) (pa_cons (pe_ix ix_tup (pv 2) pe_int (fun _ _ => rfl)) pa_nil)))))
      (pss_one (by exact (ps_try_mix (Wout := fun _ _ _ _ => False) rfl rfl sc_answer_next.nd takes0 (fun W pn xe tk _ => (pss_one (ps_ret (pe_op op_cat (pe_lst (pa_cons (pe_gv rfl c_DONE) pa_nil)) (by exact (pe_held (i := 3) hOP (fun σ => passAt tk σ) hr rfl (Or.inl rfl) (pa_cons (pv 0) (pa_cons (pv 4) pa_nil))))))))
      (Clauses.plain ⟨rfl, by decide, .inl x_NoTable.glo⟩ (fun a oe cls d pn hz hf => (pss_one (ps_ret (pe_lst (pa_cons (pe_gv rfl c_TABLE_MISSING) pa_nil)))))
      (Clauses.plain ⟨rfl, by decide, .inl x_WrongArgument.glo⟩ (fun a oe cls d pn hz hf => (pss_one (ps_ret (pe_lst (pa_cons (pe_gv rfl c_ARGUMENT_WRONG) pa_nil)))))
      (Clauses.plain ⟨rfl, by decide, .inl x_NotInDeck.glo⟩ (fun a oe cls d pn hz hf => (pss_one (ps_ret (pe_lst (pa_cons (pe_gv rfl c_CARD_NOT_IN_DECK) pa_nil)))))
      (Clauses.named (i := 5) rfl rfl ⟨rfl, by decide, .inl x_InvalidText.glo⟩ (fun a oe cls d pn hz hf => (pss_one (ps_ret (pe_lst (pa_cons (pe_gv rfl c_TEXT_INVALID) (pa_cons (pe_xf x_InvalidText.xf x_InvalidText.no_code hz hf (pv 5)) (pa_cons (pe_xf x_InvalidText.xf x_InvalidText.no_offset hz hf (pv 5)) pa_nil)))))))
      Clauses.nil)))))))))), ?_⟩)
  · obtain ⟨Av, a, b, L, i, l, st, p, r, t, n, k, xs, rfl, _⟩ := h
    rfl
  obtain ⟨Av, a, b, L, i, l, st, p, r, t, n, k, xs, rfl, hse, hav, hcr, sq, hd, hsh, hnr, hrows, hask, hout, q⟩ := h
  obtain ⟨j, rfl, hj20, hj⟩ := shape_opN hsh
  obtain ⟨n3, k3⟩ := opN_small hj
  obtain ⟨xk, tr⟩ := rows_len hrows
  have hjT : j < T.length := by rw [O.len]; exact hj20
  obtain ⟨x, hx⟩ : ∃ x, T[j]? = some x := ⟨_, List.getElem?_eq_getElem hjT⟩
  have hil : l[i]? = some (j : Int) := by
    have z : (l.drop i)[0]? = some (j : Int) := by rw [hd]; rfl
    rw [List.getElem?_drop] at z
    exact z
  have hil2 := (List.getElem?_eq_some_iff.mp hil).1
  have hr1 : r = l.drop (i + 1) := by
    have z : (l.drop i).drop 1 = r := by rw [hd]; rfl
    rw [List.drop_drop] at z
    exact z.symm
  have hrl : r.length = l.length - (i + 1) := by rw [hr1, List.length_drop]
  rw [List.length_drop] at tr
  obtain ⟨dr, hcr1⟩ := id hcr
  refine ⟨_, rfl, b, dr, _, rfl, hcr1, crF_tn, b, L, i, l, (j : Int), rfl, hcr, sq, hil, fun H1 c1 b1 => ?_⟩
  refine ⟨aOP, _, _, V.ref x.1, rfl, rfl, O.tup H1, atI_nat (j := j) (by rw [List.getElem?_map, hx]; rfl), ?_⟩
  refine ⟨_, rfl, x.1, _, _, V.ref x.2, rfl, rfl, O.one H1 j x n k hx hj, atI_nat (j := 0) rfl, ?_⟩
  have sq1 := b1.seqC hcr sq
  have hse1 := hse.but b1 hcr
  obtain ⟨dr1, c11⟩ := id c1
  have hrows2 : PyFlat.rows k (l.drop (n + (i + 1))) = some (xs, t) := by
    rw [hr1, List.drop_drop] at hrows
    rw [Nat.add_comm]
    exact hrows
  refine ⟨_, rfl, b, dr1, _, rfl, c11, crF_tc, ?_⟩
  refine ⟨_, rfl, x.1, _, _, V.int (n : Nat), rfl, rfl, O.one H1 j x n k hx hj, atI_nat (j := 1) rfl, ?_⟩
  refine ⟨_, rfl, x.1, _, _, V.int (k : Nat), rfl, rfl, O.one H1 j x n k hx hj, atI_nat (j := 2) rfl, ?_⟩
  refine ⟨b, L, i + 1, n, k, l, t, xs, rfl, c1, sq1, by omega, by omega, by omega, hrows2, fun H2 c s rr rs c2 b2 nc hc hs hro hrw htl => ?_⟩
  have hse2 := hse1.but b2 c1
  rw [← hr1] at hs
  have ntl : (r.take n).length = n := by
    rw [List.length_take]
    omega
  refine ⟨(by show 1 ≤ sizeLine; exact small_line (by omega)), fun e he => ?_⟩
  have sE : Same H2 (upd H2 e (.lst [V.int 0])) := Same.new he
  obtain ⟨dc, hc1⟩ := id hc
  obtain ⟨dse, vse, hse3⟩ := hse2.ins
  obtain ⟨dr2, c22⟩ := id c2
  have nab : a ≠ b := ins_ne c22 hse3 (by show 2 ≠ 1; decide)
  have nea : e ≠ a := fun z => by rw [z, hse3] at he; cases he
  have hav3 : ∀ x, Av x → upd H2 e (.lst [V.int 0]) x ≠ none := fun x hx n => by
    have h0 := hav x hx
    cases z : H x with
    | none => exact h0 z
    | some o =>
      by_cases hb : x = b
      · have y := sE _ _ c22
        rw [← hb, n] at y
        cases y
      · have y := sE _ _ (b2 x o (b1 x o z hb) hb)
        rw [n] at y
        cases y
  -- what stands at the end, of an answer at d in H4, made from H3
  have fin : ∀ (st' : Option Vbndal.Table) (out : List Int) (H3 : Hp) (d : Addr) (H4 : Hp), VbndalNeutral.step st (((j : Int) :: r.take n) :: xs) = (st', out) → But a (upd H2 e (.lst [V.int 0])) H3 → SeAt Av Cs Cb H3 a st' → H3 d = none → H4 = upd H3 d (.lst (VI out)) → Q (.ref d) H4 := by
    intro st' out H3 d H4 er bt se nd e4
    have s4 : Same H3 H4 := by rw [e4]; exact Same.new nd
    have bb : But2 a b H H3 := fun y o hy na nb => bt y o (sE _ _ (b2 y o (b1 y o hy nb) nb)) na
    obtain ⟨dq, vq, se1⟩ := se.ins
    have hb3 : H3 b = some (.ins Cr dr2 (crF L (l.length - t.length))) := bt b _ (sE _ _ c22) nab.symm
    have nd0 : H d = none := new_but2 bb ⟨_, se1⟩ ⟨_, hb3⟩ nd
    rw [er] at q
    refine q H4 d (fun y o hy na nb => s4 _ _ (bb y o hy na nb)) (se.same s4) ⟨dr2, s4 _ _ hb3⟩ ⟨htl.1, by omega⟩ nd0 ?_
    rw [e4, upd_same]
  refine ⟨x.2, _, rfl, ⟨j, x, n, k, hx, hj, rfl, rfl⟩, _, rfl, _, rfl, Av, a, c, s, rr, st, r.take n, rs, xs, rfl, hse2.same sE, hav3, ⟨dc, sE _ _ hc1⟩, sE _ _ hs, ntl, sE _ _ hro, hrw.same sE, xk, hask, ?_⟩
  refine { fine := ?_, noT := ?_, wrong := ?_, noD := ?_, bad := ?_ }
  · intro st' fs H3 d er bt se hd3
    have he3 : H3 e = some (.lst [V.int 0]) := bt e _ upd_same nea
    refine ⟨e, d, _, _, rfl, rfl, he3, hd3, ?_, fun p hp => fin st' (0 :: fs) H3 p _ er bt se hp rfl⟩
    rw [er] at hout
    have h1 : fs.length + 1 ≤ 10000000 := hout
    rw [List.length_map]
    show 1 + fs.length ≤ sizeLine
    exact small_line (by omega)
  · intro st' H3 er bt se
    exact ⟨true, M.nn, fun _ y ny => ⟨(by show 1 ≤ sizeLine; exact small_line (by omega)), fun p hp => fin st' [-20] H3 p _ er bt se hp rfl⟩, fun h => absurd h Bool.noConfusion⟩
  · intro st' H3 er bt se
    exact ⟨false, M.wn, fun h => absurd h Bool.noConfusion, fun _ => ⟨true, M.ww, fun _ y ny => ⟨(by show 1 ≤ sizeLine; exact small_line (by omega)), fun p hp => fin st' [-1] H3 p _ er bt se hp rfl⟩, fun h => absurd h Bool.noConfusion⟩⟩
  · intro st' H3 er bt se
    exact ⟨false, M.dn, fun h => absurd h Bool.noConfusion, fun _ => ⟨false, M.dw, fun h => absurd h Bool.noConfusion, fun _ => ⟨true, M.dd, fun _ y ny => ⟨(by show 1 ≤ sizeLine; exact small_line (by omega)), fun p hp => fin st' [-6] H3 p _ er bt se hp rfl⟩, fun h => absurd h Bool.noConfusion⟩⟩⟩
  · intro st' co of H3 d er bt se nd hd3
    refine ⟨false, M.xn, fun h => absurd h Bool.noConfusion, fun _ => ⟨false, M.xw, fun h => absurd h Bool.noConfusion, fun _ => ⟨false, M.xd, fun h => absurd h Bool.noConfusion, fun _ => ⟨true, M.xx, fun _ y ny => ?_, fun h => absurd h Bool.noConfusion⟩⟩⟩⟩
    refine ⟨_, rfl, rfl, rfl, d, itF co of, _, rfl, hd3, itF_code, ?_⟩
    refine ⟨_, rfl, rfl, rfl, d, itF co of, _, rfl, hd3, itF_offset, ?_⟩
    exact ⟨(by show 3 ≤ sizeLine; exact small_line (by omega)), fun p hp => fin st' [1, co, of] H3 p _ er bt se hp rfl⟩
end
end Cl
set_option Elab.async false
set_option linter.unusedVariables false
set_option maxRecDepth 100000
set_option maxHeartbeats 4000000
/-! # All answers -/
namespace Cl
open PySem PySem.Spec PyProof.Rows L2
abbrev s_answers : Stmt := top 136
abbrev n_answers : List Str := ["calls", "session", "reader", "told", "answer"]
theorem sc_answers : FnScope n_answers ["calls"] (defScope s_answers) := ⟨rfl, rfl, rfl, by decide +kernel, rfl, by decide +kernel, by decide +kernel⟩
def sp_ans (K : Fr) : Sp := fun vs H Q _ => ∃ (L : Addr) (l : List Int) (cs : List (List (List Int))), vs = [.ref L] ∧ SqL K H L (VI l) ∧ Asked l cs ∧ ∀ H' d, Same H H' → H' d = some (.lst (VI (PyVbndal.answers l))) → Q (.ref d) H'
/-- a session stands when something is stored at a list that is none of the table's -/
theorem SeAt.avoid {Av : Addr → Prop} {Cs Cb : Addr} {H : Hp} {a d : Addr} {xs : List V} {o : HO} {st : Option Vbndal.Table} (h : SeAt Av Cs Cb H a st) (hd : H d = some (.lst xs)) (av : Av d) : SeAt Av Cs Cb (upd H d o) a st := by
  obtain ⟨dx, v, h1, h2⟩ := h
  refine ⟨dx, v, ?_, ?_⟩
  · rw [upd_ne (ne_of h1 hd (by intro z; cases z))]
    exact h1
  cases st with
  | none => exact h2
  | some t =>
    obtain ⟨c, e, ⟨dy, D, M, t1, t2, ⟨rs, t3, t4, t5⟩, t6, t7⟩, h4⟩ := h2
    refine ⟨c, e, ⟨dy, D, M, ?_, ?_, ⟨rs, ?_, t4, fun j r y e1 e2 => ?_⟩, t6, t7⟩, h4⟩
    · rw [upd_ne (ne_of t1 hd (by intro z; cases z))]
      exact t1
    · rw [upd_ne fun z => t6 (by rw [z]; exact av)]
      exact t2
    · rw [upd_ne fun z => t7 (by rw [z]; exact av)]
      exact t3
    · have z := t5 j r y e1 e2
      rw [upd_ne (ne_of z hd (by intro q; cases q))]
      exact z
section
variable {P : Program} {w : World} {K : Fr} {mg : Str → Option Value} {base : Heap} {f : Addr} {fd : FuncData} {Cr Cs Cb : Addr}
theorem ok_answers (F : Fun K "answers" "answers" s_answers f fd) (k_Session : Mke P w K mg base CX0 1 "Session" Cs (sp_se_init Cs)) (k_CallReader : Mke P w K mg base CX0 1 "CallReader" Cr (sp_cr_init Cr)) (m_CallReader_at_end : Mt P w K mg base CX0 1 Cr "at_end" (sp_at_end K Cr)) (d_answer_next : Df P w K mg base CX0 9 "answer_next" (sp_next K Cr Cs Cb)) (n_len : mg "len" = none) : FnOk P w K mg base CX0 10 f fd ["calls"] (sp_ans K) := by
  refine F.ok sc_answers (fun vs H Q E h => ?_) (fun cdv A outer s0 H vs Q E hr h => ⟨_, (pss_cons (ps_set (i := 1) sc_answers.nd rfl (Or.inl rfl) (by exact (pe_k0 k_Session pass0 hr (by decide) rfl)))
      (pss_cons (ps_set (i := 2) sc_answers.nd rfl (Or.inl rfl) (by exact (pe_k k_CallReader pass0 hr (by decide) rfl (pa_cons (pv 0) pa_nil))))
      (pss_cons (ps_set (i := 3) sc_answers.nd rfl (Or.inl rfl) (pe_lst pa_nil))
      (pss_cons (ps_while PassesOwn.never (pt_not (pt_val (by exact (pe_m0' m_CallReader_at_end pass0 hr (by decide) (pv 2)))))
      (pss_cons (ps_set (i := 4) sc_answers.nd rfl (Or.inl rfl) (by exact (pe_d d_answer_next pass0 hr (by decide) rfl (pa_cons (pv 1) (pa_cons (pv 2) pa_nil)))))
      (pss_cons (ps_expr (pe_bm PySem.F.plainAttrs_list PySem.F.slot_list_append PySem.F.type_list_append mt_append (pv 3) (pa_cons (pe_callB call_len_seq (by rfl) n_len PySem.boot_len (pa_cons (pv 4) pa_nil)) pa_nil)))
      (pss_one (ps_expr (pe_bm PySem.F.plainAttrs_list PySem.F.slot_list_extend PySem.F.type_list_extend mt_extend (pv 3) (pa_cons (pv 4) pa_nil)))))))
      (pss_one (ps_ret (pv 3))))))), ?_⟩)
  · obtain ⟨L, l, cs, rfl, _⟩ := h
    rfl
  obtain ⟨L, l, cs, rfl, sq, ask, q⟩ := h
  refine fun a da na nda nea => ⟨a, da, rfl, upd_same, fun H1 w1 w2 => ⟨rfl, ?_⟩⟩
  have s1 := made na nda w2
  refine ⟨_, rfl, fun b db nb ndb neb => ⟨b, db, L, rfl, upd_same, fun H2 w3 w4 => ⟨rfl, ?_⟩⟩⟩
  have s2 := made nb ndb w4
  refine ⟨(by show 0 ≤ sizeLine; exact small_line (by omega)), fun d nd => ?_⟩
  have s3 : Same H2 (upd H2 d (.lst [])) := Same.new nd
  have s03 := (s1.trans s2).trans s3
  have nbH : H b = none := s1.free nb
  have ndH : H d = none := (s1.trans s2).free nd
  have tot := ask.short
  refine while_gr (fun m σ H' => ∃ (i g : Nat) (st : Option Vbndal.Table) (rest : List (List (List Int))) (done : List Int) (v : Option V), m = l.length - i ∧ i ≤ l.length ∧ σ = [some (.ref L), some (.ref a), some (.ref b), some (.ref d), v] ∧ Same H H' ∧ SeAt (fun x => x = d) Cs Cb H' a st ∧ CrAt Cr H' b L i ∧
      H' d = some (.lst (VI done)) ∧ PyFlat.calls PyVbndal.shape g (l.drop i) = some rest ∧ (∀ c ∈ rest, VbndalNeutral.asked1 c = true) ∧ PyVbndal.answers l = done ++ PyFlat.told (PyFlat.played VbndalNeutral.step st rest)) (l.length - 0)
    ⟨0, l.length, none, cs, [], none, rfl, Nat.zero_le _, rfl, s03, ⟨da, V.non, s3 _ _ (s2 _ _ w1), rfl⟩, ⟨db, s3 _ _ w3⟩, upd_same, ask.got, ask.ask1, ask.ans⟩ ?_
  rintro m σ H' ⟨i, g, st, rest, done, v, rfl, hil, rfl, s', hse, hcr, hd, hcalls, hask, hans⟩
  obtain ⟨dr, hcr1⟩ := id hcr
  have sq' := s'.seq sq
  refine ⟨_, rfl, b, dr, _, rfl, hcr1, crF_ae, b, L, i, l, rfl, hcr, sq', _, rfl, ?_⟩
  by_cases c : l.length ≤ i
  · refine if_no (by rw [decide_eq_true c]; rfl) ?_
    rw [List.drop_eq_nil_of_le c] at hcalls
    have e := calls_nil hcalls
    subst e
    have e2 : PyVbndal.answers l = done := by
      rw [hans]
      show done ++ [] = done
      rw [List.append_nil]
    exact ⟨_, rfl, q H' d s' (by rw [hd, e2])⟩
  refine if_yes (by rw [decide_eq_false c]; rfl) ?_
  obtain ⟨p, r, hpr⟩ : ∃ p r, l.drop i = p :: r := by
    cases z : l.drop i with
    | nil =>
      have := congrArg List.length z
      rw [List.length_drop] at this
      simp at this
      omega
    | cons p r => exact ⟨p, r, rfl⟩
  rw [hpr] at hcalls
  obtain ⟨g', n, k, xs, t, ds, hsh, hnr, hrows, hcalls2, rfl⟩ := calls_cons hcalls
  rw [played_cons, told_cons] at hans
  have hask1 := hask _ List.mem_cons_self
  obtain ⟨out, hout⟩ : ∃ out, (VbndalNeutral.step st ((p :: r.take n) :: xs)).2 = out := ⟨_, rfl⟩
  have hlen : done.length + (out.length + 1) ≤ 10000000 := by
    rw [hans, List.length_append, List.length_append, List.length_cons, hout] at tot
    omega
  refine ⟨fun σ' H6 => ∃ m', m' < l.length - i ∧ ∃ (i g : Nat) (st : Option Vbndal.Table) (rest : List (List (List Int))) (done : List Int) (v : Option V), m' = l.length - i ∧ i ≤ l.length ∧ σ' = [some (.ref L), some (.ref a), some (.ref b), some (.ref d), v] ∧ Same H H6 ∧ SeAt (fun x => x = d) Cs Cb H6 a st ∧ CrAt Cr H6 b L i ∧
      H6 d = some (.lst (VI done)) ∧ PyFlat.calls PyVbndal.shape g (l.drop i) = some rest ∧ (∀ c ∈ rest, VbndalNeutral.asked1 c = true) ∧ PyVbndal.answers l = done ++ PyFlat.told (PyFlat.played VbndalNeutral.step st rest), fun σ' H6 z => z, ?_⟩
  refine ⟨_, rfl, _, rfl, fun x => x = d, a, b, L, i, l, st, p, r, t, n, k, xs, rfl, hse, fun x hx => by rw [hx, hd]; exact fun z => (by cases z), hcr, sq', hpr, hsh, hnr, hrows, hask1, by rw [hout]; omega, fun H3 e b3 se3 cr3 ht ne he => ?_⟩
  obtain ⟨dsa, vsa, hse1⟩ := hse.ins
  have nda2 : d ≠ a := ne_of hd hse1 (by intro z; cases z)
  have ndb2 : d ≠ b := ne_of hd hcr1 (by intro z; cases z)
  have hd3 := b3 d _ hd nda2 ndb2
  have ned : d ≠ e := fun z => by rw [z, ne] at hd; cases hd
  rw [hout] at he
  refine ⟨_, rfl, .inl ⟨rfl, _, SqL.of hd3⟩, _, rfl, e, _, rfl, .inl (SqL.of he), d, _, _, rfl, rfl, hd3, by rw [List.length_map]; exact less_line (by omega), ?_⟩
  refine ⟨_, rfl, .inl ⟨rfl, _, SqL.of upd_same⟩, _, rfl, d, e, _, _, rfl, rfl, upd_same, (upd_ne ned.symm).trans he, ?_, ?_⟩
  · rw [List.length_append, List.length_map, List.length_map]
    show done.length + 1 + out.length ≤ sizeLine
    exact small_line (by omega)
  have ev : VI done ++ [V.int ((VI out).length : Nat)] ++ VI out = VI (done ++ ((out.length : Int) :: out)) := by
    rw [show VI (done ++ ((out.length : Int) :: out)) = VI done ++ VI ((out.length : Int) :: out) from List.map_append, List.length_map, List.append_assoc]
    rfl
  rw [upd_upd]
  have s6 : Same H (upd H3 d (.lst (VI done ++ [V.int ((VI out).length : Nat)] ++ VI out))) := fun x o hx => by
    rw [upd_ne (ne_of_none hx ndH)]
    exact b3 x o (s' _ _ hx) (ne_of_none hx na) (ne_of_none hx nbH)
  obtain ⟨dr3, cr31⟩ := id cr3
  refine ⟨l.length - (l.length - t.length), ?_, l.length - t.length, g', (VbndalNeutral.step st ((p :: r.take n) :: xs)).1, ds, done ++ ((out.length : Int) :: out), some (.ref e), rfl, Nat.sub_le _ _, rfl, s6, se3.avoid hd3 rfl, ⟨dr3, ?_⟩, ?_, ?_, fun c hc => hask c (List.mem_cons_of_mem _ hc), ?_⟩
  · have := ht.2
    omega
  · rw [upd_ne ndb2.symm]
    exact cr31
  · rw [upd_same, ev]
  · rw [← ht.1]
    exact hcalls2
  · rw [hans, hout, List.append_assoc]
end
end Cl
set_option Elab.async false
set_option linter.unusedVariables false
set_option maxRecDepth 100000
set_option maxHeartbeats 0
/-! # The head -/
namespace Cl
open PySem PySem.Spec PyProof.Rows L2
abbrev PX : Program := PySem.Challenge.rw_cardlocks_s01_answers.prog
abbrev qv : Program := PySem.W.view PX [136]
def names0 : List PySem.Str := ["Call", "CallReader", "power", "is_prime", "are_coprime", "factorial", "LEAST_PRIME", "GREATEST_PRIME", "key_modulus", "is_table_prime", "is_square", "is_card", "is_key", "cards_of", "locked", "inverse_of", "unlocked", "joint_of", "NoTable", "WrongArgument", "NotInDeck", "InvalidText", "MOST_CARDS", "all_different", "is_row", "is_order"]
def names1 : List PySem.Str := ["parts_of", "locked_row", "shuffled", "error_count", "matching_order", "remaining_count", "MOST_BYTES", "GREATEST_BYTE", "MOST_KEYS", "need", "checked_text", "checked_card", "checked_key", "checked_keys", "checked_row", "checked_cards", "checked_order", "checked_position", "checked_shown", "checked_revealed", "checked_announced", "checked_lists", "checked_orders", "checked_number", "checked_exponent", "Table"]
def names2 : List PySem.Str := ["keys_of", "canonical_lines", "canonical_bytes", "dealt", "opened", "deal_audit", "opening_audit", "WORD", "NUMBER", "SEMICOLON", "INVALID", "END", "LETTERS", "LETTER_A", "LETTER_Z", "DIGIT_0", "DIGIT_9", "SEMICOLON_BYTE", "WHITE_SPACE", "LONGEST_WORD", "LONGEST_NUMBER", "Token", "is_letter", "is_digit", "run_end", "word_token"]
def names3 : List PySem.Str := ["number_token", "token_at", "tokens_of", "NOT_ALLOWED", "REPEATED_OR_TOO_MANY", "WRONG_NUMBER", "KEYWORDS", "FEWEST_CARDS", "MOST_PLAYERS", "TokenReader", "read_prime", "read_card", "read_deck", "read_name", "read_key", "read_player", "read_table", "DONE", "TEXT_INVALID", "ARGUMENT_WRONG", "CARD_NOT_IN_DECK", "TABLE_MISSING", "Session", "needed_table", "load_table", "check_table"]
def names4 : List PySem.Str := ["print_table", "status", "all_cards", "lock", "unlock", "inverse_key", "joint_key", "check_lock", "shuffle_row", "check_shuffle", "check_symmetry", "audit_deal", "remaining_orders", "deal", "open_card", "audit_opening", "raise_number", "clear_table", "OPERATIONS", "answer_next"]
def names : List PySem.Str := names0 ++ (names1 ++ (names2 ++ (names3 ++ (names4))))
def fnL_0 : List He.DefD := [⟨("Call", some "__init__"), "__init__", "Call.__init__", defArgs s_Call___init__, defBody s_Call___init__, defScope s_Call___init__, [], []⟩, ⟨("CallReader", some "__init__"), "__init__", "CallReader.__init__", defArgs s_CallReader___init__, defBody s_CallReader___init__, defScope s_CallReader___init__, [], []⟩, ⟨("CallReader", some "at_end"), "at_end", "CallReader.at_end", defArgs s_CallReader_at_end, defBody s_CallReader_at_end, defScope s_CallReader_at_end, [], []⟩, ⟨("CallReader", some "take_number"), "take_number", "CallReader.take_number", defArgs s_CallReader_take_number, defBody s_CallReader_take_number, defScope s_CallReader_take_number, [], []⟩, ⟨("CallReader", some "take_row"), "take_row", "CallReader.take_row", defArgs s_CallReader_take_row, defBody s_CallReader_take_row, defScope s_CallReader_take_row, [], []⟩, ⟨("CallReader", some "take_call"), "take_call", "CallReader.take_call", defArgs s_CallReader_take_call, defBody s_CallReader_take_call, defScope s_CallReader_take_call, [], []⟩, ⟨("power", none), "power", "power", defArgs s_power, defBody s_power, defScope s_power, [], []⟩, ⟨("is_prime", none), "is_prime", "is_prime", defArgs s_is_prime, defBody s_is_prime, defScope s_is_prime, [], []⟩, ⟨("are_coprime", none), "are_coprime", "are_coprime", defArgs s_are_coprime, defBody s_are_coprime, defScope s_are_coprime, [], []⟩, ⟨("factorial", none), "factorial", "factorial", defArgs s_factorial, defBody s_factorial, defScope s_factorial, [], []⟩, ⟨("key_modulus", none), "key_modulus", "key_modulus", defArgs s_key_modulus, defBody s_key_modulus, defScope s_key_modulus, [], []⟩, ⟨("is_table_prime", none), "is_table_prime", "is_table_prime", defArgs s_is_table_prime, defBody s_is_table_prime, defScope s_is_table_prime, [], []⟩, ⟨("is_square", none), "is_square", "is_square", defArgs s_is_square, defBody s_is_square, defScope s_is_square, [], []⟩, ⟨("is_card", none), "is_card", "is_card", defArgs s_is_card, defBody s_is_card, defScope s_is_card, [], []⟩, ⟨("is_key", none), "is_key", "is_key", defArgs s_is_key, defBody s_is_key, defScope s_is_key, [], []⟩, ⟨("cards_of", none), "cards_of", "cards_of", defArgs s_cards_of, defBody s_cards_of, defScope s_cards_of, [], []⟩, ⟨("locked", none), "locked", "locked", defArgs s_locked, defBody s_locked, defScope s_locked, [], []⟩, ⟨("inverse_of", none), "inverse_of", "inverse_of", defArgs s_inverse_of, defBody s_inverse_of, defScope s_inverse_of, [], []⟩, ⟨("unlocked", none), "unlocked", "unlocked", defArgs s_unlocked, defBody s_unlocked, defScope s_unlocked, [], []⟩, ⟨("joint_of", none), "joint_of", "joint_of", defArgs s_joint_of, defBody s_joint_of, defScope s_joint_of, [], []⟩]
def fnL_1 : List He.DefD := [⟨("InvalidText", some "__init__"), "__init__", "InvalidText.__init__", defArgs s_InvalidText___init__, defBody s_InvalidText___init__, defScope s_InvalidText___init__, [], []⟩, ⟨("all_different", none), "all_different", "all_different", defArgs s_all_different, defBody s_all_different, defScope s_all_different, [], []⟩, ⟨("is_row", none), "is_row", "is_row", defArgs s_is_row, defBody s_is_row, defScope s_is_row, [], []⟩, ⟨("is_order", none), "is_order", "is_order", defArgs s_is_order, defBody s_is_order, defScope s_is_order, [], []⟩, ⟨("parts_of", none), "parts_of", "parts_of", defArgs s_parts_of, defBody s_parts_of, defScope s_parts_of, [], []⟩, ⟨("locked_row", none), "locked_row", "locked_row", defArgs s_locked_row, defBody s_locked_row, defScope s_locked_row, [], []⟩, ⟨("shuffled", none), "shuffled", "shuffled", defArgs s_shuffled, defBody s_shuffled, defScope s_shuffled, [], []⟩, ⟨("error_count", none), "error_count", "error_count", defArgs s_error_count, defBody s_error_count, defScope s_error_count, [], []⟩, ⟨("matching_order", none), "matching_order", "matching_order", defArgs s_matching_order, defBody s_matching_order, defScope s_matching_order, [], []⟩, ⟨("remaining_count", none), "remaining_count", "remaining_count", defArgs s_remaining_count, defBody s_remaining_count, defScope s_remaining_count, [], []⟩, ⟨("need", none), "need", "need", defArgs s_need, defBody s_need, defScope s_need, [], []⟩, ⟨("checked_text", none), "checked_text", "checked_text", defArgs s_checked_text, defBody s_checked_text, defScope s_checked_text, [], []⟩, ⟨("checked_card", none), "checked_card", "checked_card", defArgs s_checked_card, defBody s_checked_card, defScope s_checked_card, [], []⟩, ⟨("checked_key", none), "checked_key", "checked_key", defArgs s_checked_key, defBody s_checked_key, defScope s_checked_key, [], []⟩, ⟨("checked_keys", none), "checked_keys", "checked_keys", defArgs s_checked_keys, defBody s_checked_keys, defScope s_checked_keys, [], []⟩, ⟨("checked_row", none), "checked_row", "checked_row", defArgs s_checked_row, defBody s_checked_row, defScope s_checked_row, [], []⟩, ⟨("checked_cards", none), "checked_cards", "checked_cards", defArgs s_checked_cards, defBody s_checked_cards, defScope s_checked_cards, [], []⟩, ⟨("checked_order", none), "checked_order", "checked_order", defArgs s_checked_order, defBody s_checked_order, defScope s_checked_order, [], []⟩, ⟨("checked_position", none), "checked_position", "checked_position", defArgs s_checked_position, defBody s_checked_position, defScope s_checked_position, [], []⟩, ⟨("checked_shown", none), "checked_shown", "checked_shown", defArgs s_checked_shown, defBody s_checked_shown, defScope s_checked_shown, [], []⟩]
def fnL_2 : List He.DefD := [⟨("checked_revealed", none), "checked_revealed", "checked_revealed", defArgs s_checked_revealed, defBody s_checked_revealed, defScope s_checked_revealed, [], []⟩, ⟨("checked_announced", none), "checked_announced", "checked_announced", defArgs s_checked_announced, defBody s_checked_announced, defScope s_checked_announced, [], []⟩, ⟨("checked_lists", none), "checked_lists", "checked_lists", defArgs s_checked_lists, defBody s_checked_lists, defScope s_checked_lists, [], []⟩, ⟨("checked_orders", none), "checked_orders", "checked_orders", defArgs s_checked_orders, defBody s_checked_orders, defScope s_checked_orders, [], []⟩, ⟨("checked_number", none), "checked_number", "checked_number", defArgs s_checked_number, defBody s_checked_number, defScope s_checked_number, [], []⟩, ⟨("checked_exponent", none), "checked_exponent", "checked_exponent", defArgs s_checked_exponent, defBody s_checked_exponent, defScope s_checked_exponent, [], []⟩, ⟨("Table", some "__init__"), "__init__", "Table.__init__", defArgs s_Table___init__, defBody s_Table___init__, defScope s_Table___init__, [], []⟩, ⟨("keys_of", none), "keys_of", "keys_of", defArgs s_keys_of, defBody s_keys_of, defScope s_keys_of, [], []⟩, ⟨("canonical_lines", none), "canonical_lines", "canonical_lines", defArgs s_canonical_lines, defBody s_canonical_lines, defScope s_canonical_lines, [], []⟩, ⟨("canonical_bytes", none), "canonical_bytes", "canonical_bytes", defArgs s_canonical_bytes, defBody s_canonical_bytes, defScope s_canonical_bytes, [], []⟩, ⟨("dealt", none), "dealt", "dealt", defArgs s_dealt, defBody s_dealt, defScope s_dealt, [], []⟩, ⟨("opened", none), "opened", "opened", defArgs s_opened, defBody s_opened, defScope s_opened, [], []⟩, ⟨("deal_audit", none), "deal_audit", "deal_audit", defArgs s_deal_audit, defBody s_deal_audit, defScope s_deal_audit, [], []⟩, ⟨("opening_audit", none), "opening_audit", "opening_audit", defArgs s_opening_audit, defBody s_opening_audit, defScope s_opening_audit, [], []⟩, ⟨("Token", some "__init__"), "__init__", "Token.__init__", defArgs s_Token___init__, defBody s_Token___init__, defScope s_Token___init__, [], []⟩, ⟨("is_letter", none), "is_letter", "is_letter", defArgs s_is_letter, defBody s_is_letter, defScope s_is_letter, [], []⟩, ⟨("is_digit", none), "is_digit", "is_digit", defArgs s_is_digit, defBody s_is_digit, defScope s_is_digit, [], []⟩, ⟨("run_end", none), "run_end", "run_end", defArgs s_run_end, defBody s_run_end, defScope s_run_end, [], []⟩, ⟨("word_token", none), "word_token", "word_token", defArgs s_word_token, defBody s_word_token, defScope s_word_token, [], []⟩, ⟨("number_token", none), "number_token", "number_token", defArgs s_number_token, defBody s_number_token, defScope s_number_token, [], []⟩]
def fnL_3 : List He.DefD := [⟨("token_at", none), "token_at", "token_at", defArgs s_token_at, defBody s_token_at, defScope s_token_at, [], []⟩, ⟨("tokens_of", none), "tokens_of", "tokens_of", defArgs s_tokens_of, defBody s_tokens_of, defScope s_tokens_of, [], []⟩, ⟨("TokenReader", some "__init__"), "__init__", "TokenReader.__init__", defArgs s_TokenReader___init__, defBody s_TokenReader___init__, defScope s_TokenReader___init__, [], []⟩, ⟨("TokenReader", some "is_at"), "is_at", "TokenReader.is_at", defArgs s_TokenReader_is_at, defBody s_TokenReader_is_at, defScope s_TokenReader_is_at, [], []⟩, ⟨("TokenReader", some "take"), "take", "TokenReader.take", defArgs s_TokenReader_take, defBody s_TokenReader_take, defScope s_TokenReader_take, [], []⟩, ⟨("TokenReader", some "take_keyword"), "take_keyword", "TokenReader.take_keyword", defArgs s_TokenReader_take_keyword, defBody s_TokenReader_take_keyword, defScope s_TokenReader_take_keyword, [], []⟩, ⟨("read_prime", none), "read_prime", "read_prime", defArgs s_read_prime, defBody s_read_prime, defScope s_read_prime, [], []⟩, ⟨("read_card", none), "read_card", "read_card", defArgs s_read_card, defBody s_read_card, defScope s_read_card, [], []⟩, ⟨("read_deck", none), "read_deck", "read_deck", defArgs s_read_deck, defBody s_read_deck, defScope s_read_deck, [], []⟩, ⟨("read_name", none), "read_name", "read_name", defArgs s_read_name, defBody s_read_name, defScope s_read_name, [], []⟩, ⟨("read_key", none), "read_key", "read_key", defArgs s_read_key, defBody s_read_key, defScope s_read_key, [], []⟩, ⟨("read_player", none), "read_player", "read_player", defArgs s_read_player, defBody s_read_player, defScope s_read_player, [], []⟩, ⟨("read_table", none), "read_table", "read_table", defArgs s_read_table, defBody s_read_table, defScope s_read_table, [], []⟩, ⟨("Session", some "__init__"), "__init__", "Session.__init__", defArgs s_Session___init__, defBody s_Session___init__, defScope s_Session___init__, [], []⟩, ⟨("needed_table", none), "needed_table", "needed_table", defArgs s_needed_table, defBody s_needed_table, defScope s_needed_table, [], []⟩, ⟨("load_table", none), "load_table", "load_table", defArgs s_load_table, defBody s_load_table, defScope s_load_table, [], []⟩, ⟨("check_table", none), "check_table", "check_table", defArgs s_check_table, defBody s_check_table, defScope s_check_table, [], []⟩, ⟨("print_table", none), "print_table", "print_table", defArgs s_print_table, defBody s_print_table, defScope s_print_table, [], []⟩, ⟨("status", none), "status", "status", defArgs s_status, defBody s_status, defScope s_status, [], []⟩, ⟨("all_cards", none), "all_cards", "all_cards", defArgs s_all_cards, defBody s_all_cards, defScope s_all_cards, [], []⟩]
def fnL_4 : List He.DefD := [⟨("lock", none), "lock", "lock", defArgs s_lock, defBody s_lock, defScope s_lock, [], []⟩, ⟨("unlock", none), "unlock", "unlock", defArgs s_unlock, defBody s_unlock, defScope s_unlock, [], []⟩, ⟨("inverse_key", none), "inverse_key", "inverse_key", defArgs s_inverse_key, defBody s_inverse_key, defScope s_inverse_key, [], []⟩, ⟨("joint_key", none), "joint_key", "joint_key", defArgs s_joint_key, defBody s_joint_key, defScope s_joint_key, [], []⟩, ⟨("check_lock", none), "check_lock", "check_lock", defArgs s_check_lock, defBody s_check_lock, defScope s_check_lock, [], []⟩, ⟨("shuffle_row", none), "shuffle_row", "shuffle_row", defArgs s_shuffle_row, defBody s_shuffle_row, defScope s_shuffle_row, [], []⟩, ⟨("check_shuffle", none), "check_shuffle", "check_shuffle", defArgs s_check_shuffle, defBody s_check_shuffle, defScope s_check_shuffle, [], []⟩, ⟨("check_symmetry", none), "check_symmetry", "check_symmetry", defArgs s_check_symmetry, defBody s_check_symmetry, defScope s_check_symmetry, [], []⟩, ⟨("audit_deal", none), "audit_deal", "audit_deal", defArgs s_audit_deal, defBody s_audit_deal, defScope s_audit_deal, [], []⟩, ⟨("remaining_orders", none), "remaining_orders", "remaining_orders", defArgs s_remaining_orders, defBody s_remaining_orders, defScope s_remaining_orders, [], []⟩, ⟨("deal", none), "deal", "deal", defArgs s_deal, defBody s_deal, defScope s_deal, [], []⟩, ⟨("open_card", none), "open_card", "open_card", defArgs s_open_card, defBody s_open_card, defScope s_open_card, [], []⟩, ⟨("audit_opening", none), "audit_opening", "audit_opening", defArgs s_audit_opening, defBody s_audit_opening, defScope s_audit_opening, [], []⟩, ⟨("raise_number", none), "raise_number", "raise_number", defArgs s_raise_number, defBody s_raise_number, defScope s_raise_number, [], []⟩, ⟨("clear_table", none), "clear_table", "clear_table", defArgs s_clear_table, defBody s_clear_table, defScope s_clear_table, [], []⟩, ⟨("answer_next", none), "answer_next", "answer_next", defArgs s_answer_next, defBody s_answer_next, defScope s_answer_next, [], []⟩, ⟨("answers", none), "answers", "answers", defArgs s_answers, defBody s_answers, defScope s_answers, [], []⟩]
def fnL : List He.DefD := fnL_0 ++ (fnL_1 ++ (fnL_2 ++ (fnL_3 ++ (fnL_4))))
def faL_0 : List He.Fa := [.glo "power", .glo "is_prime", .glo "are_coprime", .glo "factorial", .glo "key_modulus", .glo "is_table_prime", .glo "is_square", .glo "is_card", .glo "is_key", .glo "cards_of", .glo "locked", .glo "inverse_of", .glo "unlocked", .glo "joint_of", .glo "all_different", .glo "is_row", .glo "is_order", .glo "parts_of", .glo "locked_row", .glo "shuffled", .glo "error_count", .glo "matching_order", .glo "remaining_count", .glo "need"]
def faL_1 : List He.Fa := [.glo "checked_text", .glo "checked_card", .glo "checked_key", .glo "checked_keys", .glo "checked_row", .glo "checked_cards", .glo "checked_order", .glo "checked_position", .glo "checked_shown", .glo "checked_revealed", .glo "checked_announced", .glo "checked_lists", .glo "checked_orders", .glo "checked_number", .glo "checked_exponent", .glo "keys_of", .glo "canonical_lines", .glo "canonical_bytes", .glo "dealt", .glo "opened", .glo "deal_audit", .glo "opening_audit", .glo "is_letter", .glo "is_digit"]
def faL_2 : List He.Fa := [.glo "run_end", .glo "word_token", .glo "number_token", .glo "token_at", .glo "tokens_of", .glo "read_prime", .glo "read_card", .glo "read_deck", .glo "read_name", .glo "read_key", .glo "read_player", .glo "read_table", .glo "needed_table", .glo "load_table", .glo "check_table", .glo "print_table", .glo "status", .glo "all_cards", .glo "lock", .glo "unlock", .glo "inverse_key", .glo "joint_key", .glo "check_lock", .glo "shuffle_row"]
def faL_3 : List He.Fa := [.glo "check_shuffle", .glo "check_symmetry", .glo "audit_deal", .glo "remaining_orders", .glo "deal", .glo "open_card", .glo "audit_opening", .glo "raise_number", .glo "clear_table", .glo "answer_next", .glo "answers", .glo "Call", .glo "CallReader", .glo "Table", .glo "Token", .glo "TokenReader", .glo "Session", .glo "NoTable", .glo "WrongArgument", .glo "NotInDeck", .glo "InvalidText", .glo "WHITE_SPACE", .glo "KEYWORDS", .glo "OPERATIONS"]
def faL_4 : List He.Fa := [.free "all", .free "any", .free "enumerate", .free "len", .free "list", .free "ord", .free "range", .free "set", .free "sorted", .free "str", .free "zip", .int "LEAST_PRIME" (11), .int "GREATEST_PRIME" (983), .int "MOST_CARDS" (10), .int "MOST_BYTES" (800), .int "GREATEST_BYTE" (255), .int "MOST_KEYS" (20), .int "LETTER_A" (97), .int "LETTER_Z" (122), .int "DIGIT_0" (48), .int "DIGIT_9" (57), .int "SEMICOLON_BYTE" (59), .int "LONGEST_WORD" (8), .int "LONGEST_NUMBER" (3)]
def faL_5 : List He.Fa := [.int "NOT_ALLOWED" (1), .int "REPEATED_OR_TOO_MANY" (3), .int "WRONG_NUMBER" (4), .int "FEWEST_CARDS" (2), .int "MOST_PLAYERS" (4), .int "DONE" (0), .int "TEXT_INVALID" (1), .int "ARGUMENT_WRONG" (-1), .int "CARD_NOT_IN_DECK" (-6), .int "TABLE_MISSING" (-20), .str "WORD" "word", .str "NUMBER" "number", .str "SEMICOLON" "semicolon", .str "INVALID" "invalid", .str "END" "end", .str "LETTERS" "abcdefghijklmnopqrstuvwxyz"]
def faL : List He.Fa := faL_0 ++ (faL_1 ++ (faL_2 ++ (faL_3 ++ (faL_4 ++ (faL_5)))))
def fbL_0 : List He.Fa := [.cls "Call", .noat "Call" "scalars", .noat "Call" "rows", .mkr "Call", .cls "CallReader", .noat "CallReader" "calls", .noat "CallReader" "place", .mkr "CallReader", .cls "Table", .noat "Table" "prime", .noat "Table" "deck", .noat "Table" "players", .mkr "Table", .cls "Token", .noat "Token" "kind", .noat "Token" "value", .noat "Token" "offset", .noat "Token" "end", .mkr "Token", .cls "TokenReader", .noat "TokenReader" "tokens", .noat "TokenReader" "place", .mkr "TokenReader", .cls "Session"]
def fbL_1 : List He.Fa := [.noat "Session" "table", .mkr "Session", .meth "CallReader" "at_end", .meth "CallReader" "take_number", .meth "CallReader" "take_row", .meth "CallReader" "take_call", .meth "TokenReader" "is_at", .meth "TokenReader" "take", .meth "TokenReader" "take_keyword", .exm "NoTable" "NoTable" true, .exm "WrongArgument" "NoTable" false, .exm "WrongArgument" "WrongArgument" true, .exm "NotInDeck" "NoTable" false, .exm "NotInDeck" "WrongArgument" false, .exm "NotInDeck" "NotInDeck" true, .exm "InvalidText" "NoTable" false, .exm "InvalidText" "WrongArgument" false, .exm "InvalidText" "NotInDeck" false, .exm "InvalidText" "InvalidText" true, .keep "NoTable", .keep "WrongArgument", .keep "NotInDeck", .keep "InvalidText", .noat "InvalidText" "code"]
def fbL_2 : List He.Fa := [.noat "InvalidText" "offset"]
def fbL : List He.Fa := fbL_0 ++ (fbL_1 ++ (fbL_2))
/-- what the globals reach in four steps, layer by layer -/
def layer (g : Addr → Option Obj) (as : List Addr) : List Addr := as.flatMap fun a => match g a with
  | some o => He.refsD o
  | none => []
def reach (g : Addr → Option Obj) : List Addr :=
  let l1 := layer g [mainGlobals]
  let l2 := layer g l1
  let l3 := layer g l2
  let l4 := layer g l3
  mainGlobals :: (l1 ++ (l2 ++ (l3 ++ l4)))
def KF (g : Addr → Option Obj) : Fr := He.frG g (reach g)
/-- the j-th item of a sequence, an object -/
def itemA (K : Fr) (a : Addr) (j : Nat) : Addr := match K.lookup a with
  | some ⟨_, _, .seq its _, _⟩ => (match its.toList[j]? with
    | some (.ref b) => b
    | _ => 0)
  | _ => 0
def tupAt (K : Fr) (a : Addr) (vs : List V) : Bool := match K.lookup a with
  | some ⟨c, _, .seq its _, _⟩ => decide (c = .type "tuple") && (Nat.ble its.size sizeLine && He.relAll vs its.toList)
  | _ => false
theorem tupAt_ok {K : Fr} {a : Addr} {vs : List V} (h : tupAt K a vs = true) (H : Hp) : SqT K H a vs := by
  unfold tupAt at h
  split at h
  · rename_i c od its n sl e
    rw [Bool.and_eq_true, Bool.and_eq_true, decide_eq_true_iff] at h
    exact .inr ⟨_, its, n, e, h.1, rfl, Nat.le_of_ble_eq_true h.2.1, He.relAll_ok h.2.2⟩
  · cases h
def opNames : List Str := ["load_table", "check_table", "print_table", "status", "all_cards", "lock", "unlock", "inverse_key", "joint_key", "check_lock", "shuffle_row", "check_shuffle", "check_symmetry", "audit_deal", "remaining_orders", "deal", "open_card", "audit_opening", "raise_number", "clear_table"]
def opA (K : Fr) (j : Nat) : Addr := itemA K (He.ga K "OPERATIONS") j
def opF (K : Fr) (j : Nat) : Addr := He.ga K (opNames.getD j "")
def opT (K : Fr) : List (Addr × Addr) := (List.range 20).map fun j => (opA K j, opF K j)
def xpB (K : Fr) (x : Str) : Bool := PySem.W.excIn K (He.ga K x) PySem.ESX.exTail "Exception.__new__" && (PySem.W.keepIn K (.ref (He.ga K x)) && (decide (PySem.W.subIn K (.ref (He.ga K x)) (.type "BaseException") = some true) && decide (PySem.W.typeIn K (.ref (He.ga K x)) = some (.type "type"))))
def xcB (K : Fr) (C : Addr) : Bool := match K.lookup C with
  | some ⟨.type t, _, .cls cd, sl⟩ => (match sl.toList with
    | [_, _, _, _, some (.builtin n), _] => decide (t = "type") && (decide (cd.mro = .ref C :: PySem.ESX.exTail) && (decide (n = "Exception.__new__") && (!cd.hasDel && cd.hasDict)))
    | _ => false)
  | _ => false
theorem xcB_ok {K : Fr} {C : Addr} (h : xcB K C = true) : ∃ n1 n2 n3 n4 n5 n6 n7 n8 n9 m0 m1 m2 m3 m5, K.lookup C = some (excClassObj n1 n2 C n3 n4 PySem.ESX.exTail true n5 n6 n7 n8 n9 m0 m1 m2 m3 m5 "Exception.__new__") := by
  unfold xcB at h
  split at h
  · rename_i t dd cd sl e
    split at h
    · rename_i k0 k1 k2 k3 n k5 hs
      simp only [Bool.and_eq_true, decide_eq_true_iff, Bool.not_eq_true'] at h
      obtain ⟨rfl, h2, rfl, h4, h5⟩ := h
      obtain ⟨nm, bs, mro, ns, qn, hd, sn, sub, ab, col, del⟩ := cd
      dsimp only at h2 h4 h5
      subst h2 h4 h5
      obtain ⟨l⟩ := sl
      dsimp only at hs
      subst hs
      exact ⟨_, _, _, _, _, _, _, _, _, _, _, _, _, _, e⟩
    · cases h
  · cases h
def xiB (K : Fr) (x : Str) : Bool := xcB K (He.ga K x) && (He.eqO (PySem.W.findIn K (.ref (He.ga K x)) "__setattr__") (some (some (.builtin "object.__setattr__"))) && (PySem.W.keepIn K (.ref (He.ga K x)) && (decide (PySem.W.subIn K (.ref (He.ga K x)) (.type "BaseException") = some true) && (decide (PySem.W.typeIn K (.ref (He.ga K x)) = some (.type "type")) &&
  (xfB K (He.ga K x) && (He.eqO (PySem.W.findIn K (.ref (He.ga K x)) "__init__") (some (some (.ref (He.ma K (He.ga K x) "__init__")))) && decide (PySem.W.typeIn K (.ref (He.ma K (He.ga K x) "__init__")) = some (.type "function"))))))))
def exB (K : Fr) : Bool := xpB K "NoTable" && (xpB K "WrongArgument" && (xpB K "NotInDeck" && (xiB K "InvalidText" && (tupAt K (He.ga K "WHITE_SPACE") [.int 32, .int 10] && (tupAt K (He.ga K "KEYWORDS") [.str "prime", .str "deck", .str "player", .str "key"] && (tupAt K (He.ga K "OPERATIONS") ((List.range 20).map fun j => .ref (opA K j)) &&
  (((List.range 20).all fun j => tupAt K (opA K j) [.ref (opF K j), .int ((opN.getD j (0, 0)).1 : Nat), .int ((opN.getD j (0, 0)).2 : Nat)]) && decide (He.ga K "is_letter" ≠ He.ga K "is_digit"))))))))
end Cl
set_option Elab.async false
set_option linter.unusedVariables false
set_option maxRecDepth 100000
set_option maxHeartbeats 4000000
/-! # The head -/
namespace Cl
open PySem PySem.Spec PyProof.Rows L2
theorem fun_of {K : Fr} {x q : Str} {st : Stmt} {f : Addr} (h : ∃ fd, FunD K x q (defArgs st) (defBody st) (defScope st) [] [] f fd) : ∃ fd, Fun K x q st f fd := by
  obtain ⟨fd, ⟨oc, od, dV, kV, doc, pm, an, cdv, ct, osl, e1, e2, e3, hD, hK⟩, kp⟩ := h
  rcases hD with ⟨_, rfl⟩ | ⟨e, _⟩
  · exact ⟨fd, ⟨⟨oc, od, kV, doc, pm, an, cdv, ct, osl, e1, e2, e3⟩, kp⟩⟩
  · exact absurd rfl e
/-- what the head leaves -/
structure Hd (K : Fr) (mg : Str → Option Value) (base : Heap) : Prop where
  kin : K.In base
  ns : base.Ns mainGlobals mg
  a : He.SaysD faL [] K
  b : He.SaysD fbL [] K
  n : He.SaysD [] fnL K
  ex : exB K = true
def predS (K : Fr) : Addr → Option Sp := fun a => if a = He.ga K "is_letter" then some (sp_pred Vbndal.isLetter) else if a = He.ga K "is_digit" then some (sp_pred Vbndal.isDigit) else none
structure ExAll (K : Fr) : Prop where
  nt : xpB K "NoTable" = true
  wa : xpB K "WrongArgument" = true
  nd : xpB K "NotInDeck" = true
  it : xiB K "InvalidText" = true
  ws : tupAt K (He.ga K "WHITE_SPACE") [.int 32, .int 10] = true
  kw : tupAt K (He.ga K "KEYWORDS") [.str "prime", .str "deck", .str "player", .str "key"] = true
  op : tupAt K (He.ga K "OPERATIONS") ((List.range 20).map fun j => .ref (opA K j)) = true
  one : ((List.range 20).all fun j => tupAt K (opA K j) [.ref (opF K j), .int ((opN.getD j (0, 0)).1 : Nat), .int ((opN.getD j (0, 0)).2 : Nat)]) = true
  ne : He.ga K "is_letter" ≠ He.ga K "is_digit"
theorem ex_all {K : Fr} (h : exB K = true) : ExAll K := by
  unfold exB at h
  obtain ⟨h1, h⟩ := He.ba h
  obtain ⟨h2, h⟩ := He.ba h
  obtain ⟨h3, h⟩ := He.ba h
  obtain ⟨h4, h⟩ := He.ba h
  obtain ⟨h5, h⟩ := He.ba h
  obtain ⟨h6, h⟩ := He.ba h
  obtain ⟨h7, h⟩ := He.ba h
  obtain ⟨h8, h9⟩ := He.ba h
  exact ⟨h1, h2, h3, h4, h5, h6, h7, h8, of_decide_eq_true h9⟩
section
variable {w : World} {K : Fr} {mg : Str → Option Value} {base : Heap}
theorem xp_of (hd : Hd K mg base) {x : Str} (h : xpB K x = true) (g : mg x = some (.ref (He.ga K x))) : Xp K mg x (He.ga K x) := by
  unfold xpB at h
  obtain ⟨h1, h⟩ := He.ba h
  obtain ⟨h2, h⟩ := He.ba h
  obtain ⟨h3, h4⟩ := He.ba h
  exact ⟨h1, g, h2, of_decide_eq_true h3, of_decide_eq_true h4⟩
structure XiAll (K : Fr) (C : Addr) : Prop where
  xi : Xi K C
  xf : XfC K C
  ini : PySem.W.findIn K (.ref C) "__init__" = some (some (.ref (He.ma K C "__init__")))
  ty : PySem.W.typeIn K (.ref (He.ma K C "__init__")) = some (.type "function")
theorem xi_all {x : Str} (h : xiB K x = true) : XiAll K (He.ga K x) := by
  unfold xiB at h
  obtain ⟨h1, h⟩ := He.ba h
  obtain ⟨h2, h⟩ := He.ba h
  obtain ⟨h3, h⟩ := He.ba h
  obtain ⟨h4, h⟩ := He.ba h
  obtain ⟨h5, h⟩ := He.ba h
  obtain ⟨h6, h⟩ := He.ba h
  obtain ⟨h7, h8⟩ := He.ba h
  exact ⟨⟨xcB_ok h1, He.eqO_ok h2, of_decide_eq_true h4, of_decide_eq_true h5, h3⟩, xfB_ok h6, He.eqO_ok h7, of_decide_eq_true h8⟩
theorem t_tWS (hd : Hd K mg base) : ∀ H : Hp, SqT K H (He.ga K "WHITE_SPACE") [.int 32, .int 10] := fun H => tupAt_ok (ex_all hd.ex).ws H
theorem t_tKW (hd : Hd K mg base) : ∀ H : Hp, SqT K H (He.ga K "KEYWORDS") [.str "prime", .str "deck", .str "player", .str "key"] := fun H => tupAt_ok (ex_all hd.ex).kw H
theorem gv_int {x : Str} {i : Int} (h : ∃ t, mg x = some (.int i t)) : Gv mg x (.int i) := by
  obtain ⟨t, e⟩ := h
  exact ⟨_, e, t, rfl⟩
theorem gv_str {x z : Str} (h : ∃ t, mg x = some (.str z t)) : Gv mg x (.str z) := by
  obtain ⟨t, e⟩ := h
  exact ⟨_, e, t, rfl⟩
theorem gv_ref {x : Str} {a : Addr} (h : mg x = some (.ref a)) : Gv mg x (.ref a) := ⟨_, h, rfl⟩
theorem t_CrT (hd : Hd K mg base) : CrT K (He.ga K "CallReader") := ⟨He.cls_ok (hd.b.fact 4 (f := .cls "CallReader") rfl), He.noat_ok (hd.b.fact 5 (f := .noat "CallReader" "calls") rfl), He.noat_ok (hd.b.fact 6 (f := .noat "CallReader" "place") rfl)⟩
theorem t_CcT (hd : Hd K mg base) : CcT K (He.ga K "Call") := ⟨He.cls_ok (hd.b.fact 0 (f := .cls "Call") rfl), He.noat_ok (hd.b.fact 1 (f := .noat "Call" "scalars") rfl), He.noat_ok (hd.b.fact 2 (f := .noat "Call" "rows") rfl)⟩
theorem t_TkT (hd : Hd K mg base) : TkT K (He.ga K "Token") := ⟨He.cls_ok (hd.b.fact 13 (f := .cls "Token") rfl), He.noat_ok (hd.b.fact 14 (f := .noat "Token" "kind") rfl), He.noat_ok (hd.b.fact 15 (f := .noat "Token" "value") rfl), He.noat_ok (hd.b.fact 16 (f := .noat "Token" "offset") rfl), He.noat_ok (hd.b.fact 17 (f := .noat "Token" "end") rfl)⟩
theorem t_TrT (hd : Hd K mg base) : TrT K (He.ga K "TokenReader") := ⟨He.cls_ok (hd.b.fact 19 (f := .cls "TokenReader") rfl), He.noat_ok (hd.b.fact 20 (f := .noat "TokenReader" "tokens") rfl), He.noat_ok (hd.b.fact 21 (f := .noat "TokenReader" "place") rfl)⟩
theorem t_TbT (hd : Hd K mg base) : TbT K (He.ga K "Table") := ⟨He.cls_ok (hd.b.fact 8 (f := .cls "Table") rfl), He.noat_ok (hd.b.fact 9 (f := .noat "Table" "prime") rfl), He.noat_ok (hd.b.fact 10 (f := .noat "Table" "deck") rfl), He.noat_ok (hd.b.fact 11 (f := .noat "Table" "players") rfl)⟩
theorem t_SeT (hd : Hd K mg base) : SeT K (He.ga K "Session") := ⟨He.cls_ok (hd.b.fact 23 (f := .cls "Session") rfl), He.noat_ok (hd.b.fact 24 (f := .noat "Session" "table") rfl)⟩
theorem t_XiA (hd : Hd K mg base) : XiAll K (He.ga K "InvalidText") := xi_all (ex_all hd.ex).it
theorem t_nc (hd : Hd K mg base) : PySem.W.findIn K (.ref (He.ga K "InvalidText")) "code" = some none := He.noat_ok (hd.b.fact 47 (f := .noat "InvalidText" "code") rfl)
theorem t_no (hd : Hd K mg base) : PySem.W.findIn K (.ref (He.ga K "InvalidText")) "offset" = some none := He.noat_ok (hd.b.fact 48 (f := .noat "InvalidText" "offset") rfl)
theorem E_NoTable (hd : Hd K mg base) : Xp K mg "NoTable" (He.ga K "NoTable") := xp_of hd (ex_all hd.ex).nt (He.glo_ok hd.kin hd.ns (hd.a.fact 89 (f := .glo "NoTable") rfl))
theorem E_WrongArgument (hd : Hd K mg base) : Xp K mg "WrongArgument" (He.ga K "WrongArgument") := xp_of hd (ex_all hd.ex).wa (He.glo_ok hd.kin hd.ns (hd.a.fact 90 (f := .glo "WrongArgument") rfl))
theorem E_NotInDeck (hd : Hd K mg base) : Xp K mg "NotInDeck" (He.ga K "NotInDeck") := xp_of hd (ex_all hd.ex).nd (He.glo_ok hd.kin hd.ns (hd.a.fact 91 (f := .glo "NotInDeck") rfl))
theorem t_hSL (hd : Hd K mg base) : predS K (He.ga K "is_letter") = some (sp_pred Vbndal.isLetter) := if_pos rfl
theorem t_hSD (hd : Hd K mg base) : predS K (He.ga K "is_digit") = some (sp_pred Vbndal.isDigit) := (if_neg (ex_all hd.ex).ne.symm).trans (if_pos rfl)
theorem F_Call___init__ (hd : Hd K mg base) : ∃ fd, FnOk PX w K mg base CX0 1 (He.ma K (He.ga K "Call") "__init__") fd ["self", "scalars", "rows"] (sp_call_init (He.ga K "Call")) ∧ KeepT K (He.ma K (He.ga K "Call") "__init__") ∧ Binds K fd ["self", "scalars", "rows"] [] := by
  obtain ⟨fd, F⟩ := fun_of (st := s_Call___init__) (hd.n.def_ 0 (d := ⟨("Call", some "__init__"), "__init__", "Call.__init__", defArgs s_Call___init__, defBody s_Call___init__, defScope s_Call___init__, [], []⟩) rfl)
  exact ⟨fd, ok_Call_init (t_CcT hd) F, F.kp, F.binds fun _ _ _ _ _ _ us hl => match us, hl with | [_, _, _], _ => rfl⟩
theorem K_Call (hd : Hd K mg base) : Mke PX w K mg base CX0 1 "Call" (He.ga K "Call") (sp_call_init (He.ga K "Call")) := by
  obtain ⟨fd, h1, h2, h3⟩ := F_Call___init__ (w := w) hd
  exact ⟨_, fd, _, He.mkr_ok (hd.b.fact 3 (f := .mkr "Call") rfl), (He.glo_ok hd.kin hd.ns (hd.a.fact 83 (f := .glo "Call") rfl)), h1, h3⟩
theorem F_CallReader___init__ (hd : Hd K mg base) : ∃ fd, FnOk PX w K mg base CX0 1 (He.ma K (He.ga K "CallReader") "__init__") fd ["self", "calls"] (sp_cr_init (He.ga K "CallReader")) ∧ KeepT K (He.ma K (He.ga K "CallReader") "__init__") ∧ Binds K fd ["self", "calls"] [] := by
  obtain ⟨fd, F⟩ := fun_of (st := s_CallReader___init__) (hd.n.def_ 1 (d := ⟨("CallReader", some "__init__"), "__init__", "CallReader.__init__", defArgs s_CallReader___init__, defBody s_CallReader___init__, defScope s_CallReader___init__, [], []⟩) rfl)
  exact ⟨fd, ok_CallReader_init (t_CrT hd) F, F.kp, F.binds fun _ _ _ _ _ _ us hl => match us, hl with | [_, _], _ => rfl⟩
theorem K_CallReader (hd : Hd K mg base) : Mke PX w K mg base CX0 1 "CallReader" (He.ga K "CallReader") (sp_cr_init (He.ga K "CallReader")) := by
  obtain ⟨fd, h1, h2, h3⟩ := F_CallReader___init__ (w := w) hd
  exact ⟨_, fd, _, He.mkr_ok (hd.b.fact 7 (f := .mkr "CallReader") rfl), (He.glo_ok hd.kin hd.ns (hd.a.fact 84 (f := .glo "CallReader") rfl)), h1, h3⟩
theorem F_CallReader_at_end (hd : Hd K mg base) : ∃ fd, FnOk PX w K mg base CX0 1 (He.ma K (He.ga K "CallReader") "at_end") fd ["self"] (sp_at_end K (He.ga K "CallReader")) ∧ KeepT K (He.ma K (He.ga K "CallReader") "at_end") ∧ Binds K fd ["self"] [] := by
  obtain ⟨fd, F⟩ := fun_of (st := s_CallReader_at_end) (hd.n.def_ 2 (d := ⟨("CallReader", some "at_end"), "at_end", "CallReader.at_end", defArgs s_CallReader_at_end, defBody s_CallReader_at_end, defScope s_CallReader_at_end, [], []⟩) rfl)
  exact ⟨fd, ok_at_end (t_CrT hd) F (He.free_ok hd.kin hd.ns (hd.a.fact 99 (f := .free "len") rfl)), F.kp, F.binds fun _ _ _ _ _ _ us hl => match us, hl with | [_], _ => rfl⟩
theorem D_CallReader_at_end (hd : Hd K mg base) : Mt PX w K mg base CX0 1 (He.ga K "CallReader") "at_end" (sp_at_end K (He.ga K "CallReader")) := by
  obtain ⟨fd, h1, h2, h3⟩ := F_CallReader_at_end (w := w) hd
  exact ⟨_, fd, _, He.cls_ok (hd.b.fact 4 (f := .cls "CallReader") rfl), He.meth_ok (hd.b.fact 26 (f := .meth "CallReader" "at_end") rfl), h1, h3⟩
theorem F_CallReader_take_number (hd : Hd K mg base) : ∃ fd, FnOk PX w K mg base CX0 1 (He.ma K (He.ga K "CallReader") "take_number") fd ["self"] (sp_tnum K (He.ga K "CallReader")) ∧ KeepT K (He.ma K (He.ga K "CallReader") "take_number") ∧ Binds K fd ["self"] [] := by
  obtain ⟨fd, F⟩ := fun_of (st := s_CallReader_take_number) (hd.n.def_ 3 (d := ⟨("CallReader", some "take_number"), "take_number", "CallReader.take_number", defArgs s_CallReader_take_number, defBody s_CallReader_take_number, defScope s_CallReader_take_number, [], []⟩) rfl)
  exact ⟨fd, ok_take_number (t_CrT hd) F, F.kp, F.binds fun _ _ _ _ _ _ us hl => match us, hl with | [_], _ => rfl⟩
theorem D_CallReader_take_number (hd : Hd K mg base) : Mt PX w K mg base CX0 1 (He.ga K "CallReader") "take_number" (sp_tnum K (He.ga K "CallReader")) := by
  obtain ⟨fd, h1, h2, h3⟩ := F_CallReader_take_number (w := w) hd
  exact ⟨_, fd, _, He.cls_ok (hd.b.fact 4 (f := .cls "CallReader") rfl), He.meth_ok (hd.b.fact 27 (f := .meth "CallReader" "take_number") rfl), h1, h3⟩
theorem F_CallReader_take_row (hd : Hd K mg base) : ∃ fd, FnOk PX w K mg base CX0 2 (He.ma K (He.ga K "CallReader") "take_row") fd ["self"] (sp_trow K (He.ga K "CallReader")) ∧ KeepT K (He.ma K (He.ga K "CallReader") "take_row") ∧ Binds K fd ["self"] [] := by
  obtain ⟨fd, F⟩ := fun_of (st := s_CallReader_take_row) (hd.n.def_ 4 (d := ⟨("CallReader", some "take_row"), "take_row", "CallReader.take_row", defArgs s_CallReader_take_row, defBody s_CallReader_take_row, defScope s_CallReader_take_row, [], []⟩) rfl)
  exact ⟨fd, ok_take_row (t_CrT hd) F (D_CallReader_take_number hd), F.kp, F.binds fun _ _ _ _ _ _ us hl => match us, hl with | [_], _ => rfl⟩
theorem D_CallReader_take_row (hd : Hd K mg base) : Mt PX w K mg base CX0 2 (He.ga K "CallReader") "take_row" (sp_trow K (He.ga K "CallReader")) := by
  obtain ⟨fd, h1, h2, h3⟩ := F_CallReader_take_row (w := w) hd
  exact ⟨_, fd, _, He.cls_ok (hd.b.fact 4 (f := .cls "CallReader") rfl), He.meth_ok (hd.b.fact 28 (f := .meth "CallReader" "take_row") rfl), h1, h3⟩
theorem F_CallReader_take_call (hd : Hd K mg base) : ∃ fd, FnOk PX w K mg base CX0 3 (He.ma K (He.ga K "CallReader") "take_call") fd ["self", "scalar_count", "row_count"] (sp_tcall K (He.ga K "CallReader") (He.ga K "Call")) ∧ KeepT K (He.ma K (He.ga K "CallReader") "take_call") ∧ Binds K fd ["self", "scalar_count", "row_count"] [] := by
  obtain ⟨fd, F⟩ := fun_of (st := s_CallReader_take_call) (hd.n.def_ 5 (d := ⟨("CallReader", some "take_call"), "take_call", "CallReader.take_call", defArgs s_CallReader_take_call, defBody s_CallReader_take_call, defScope s_CallReader_take_call, [], []⟩) rfl)
  exact ⟨fd, ok_take_call (t_CrT hd) F (D_CallReader_take_number hd) (D_CallReader_take_row hd) (K_Call hd) (He.free_ok hd.kin hd.ns (hd.a.fact 102 (f := .free "range") rfl)), F.kp, F.binds fun _ _ _ _ _ _ us hl => match us, hl with | [_, _, _], _ => rfl⟩
theorem D_CallReader_take_call (hd : Hd K mg base) : Mt PX w K mg base CX0 3 (He.ga K "CallReader") "take_call" (sp_tcall K (He.ga K "CallReader") (He.ga K "Call")) := by
  obtain ⟨fd, h1, h2, h3⟩ := F_CallReader_take_call (w := w) hd
  exact ⟨_, fd, _, He.cls_ok (hd.b.fact 4 (f := .cls "CallReader") rfl), He.meth_ok (hd.b.fact 29 (f := .meth "CallReader" "take_call") rfl), h1, h3⟩
theorem F_power (hd : Hd K mg base) : ∃ fd, FnOk PX w K mg base CX0 1 (He.ga K "power") fd ["base", "exponent", "modulus"] sp_power ∧ KeepT K (He.ga K "power") ∧ Binds K fd ["base", "exponent", "modulus"] [] := by
  obtain ⟨fd, F⟩ := fun_of (st := s_power) (hd.n.def_ 6 (d := ⟨("power", none), "power", "power", defArgs s_power, defBody s_power, defScope s_power, [], []⟩) rfl)
  exact ⟨fd, ok_power F, F.kp, F.binds fun _ _ _ _ _ _ us hl => match us, hl with | [_, _, _], _ => rfl⟩
theorem D_power (hd : Hd K mg base) : Df PX w K mg base CX0 1 "power" sp_power := by
  obtain ⟨fd, h1, h2, h3⟩ := F_power (w := w) hd
  exact ⟨_, fd, _, h1, (He.glo_ok hd.kin hd.ns (hd.a.fact 0 (f := .glo "power") rfl)), h2, h3⟩
theorem F_is_prime (hd : Hd K mg base) : ∃ fd, FnOk PX w K mg base CX0 1 (He.ga K "is_prime") fd ["number"] sp_prime ∧ KeepT K (He.ga K "is_prime") ∧ Binds K fd ["number"] [] := by
  obtain ⟨fd, F⟩ := fun_of (st := s_is_prime) (hd.n.def_ 7 (d := ⟨("is_prime", none), "is_prime", "is_prime", defArgs s_is_prime, defBody s_is_prime, defScope s_is_prime, [], []⟩) rfl)
  exact ⟨fd, ok_is_prime F, F.kp, F.binds fun _ _ _ _ _ _ us hl => match us, hl with | [_], _ => rfl⟩
theorem D_is_prime (hd : Hd K mg base) : Df PX w K mg base CX0 1 "is_prime" sp_prime := by
  obtain ⟨fd, h1, h2, h3⟩ := F_is_prime (w := w) hd
  exact ⟨_, fd, _, h1, (He.glo_ok hd.kin hd.ns (hd.a.fact 1 (f := .glo "is_prime") rfl)), h2, h3⟩
theorem F_are_coprime (hd : Hd K mg base) : ∃ fd, FnOk PX w K mg base CX0 1 (He.ga K "are_coprime") fd ["one", "other"] sp_coprime ∧ KeepT K (He.ga K "are_coprime") ∧ Binds K fd ["one", "other"] [] := by
  obtain ⟨fd, F⟩ := fun_of (st := s_are_coprime) (hd.n.def_ 8 (d := ⟨("are_coprime", none), "are_coprime", "are_coprime", defArgs s_are_coprime, defBody s_are_coprime, defScope s_are_coprime, [], []⟩) rfl)
  exact ⟨fd, ok_are_coprime F, F.kp, F.binds fun _ _ _ _ _ _ us hl => match us, hl with | [_, _], _ => rfl⟩
theorem D_are_coprime (hd : Hd K mg base) : Df PX w K mg base CX0 1 "are_coprime" sp_coprime := by
  obtain ⟨fd, h1, h2, h3⟩ := F_are_coprime (w := w) hd
  exact ⟨_, fd, _, h1, (He.glo_ok hd.kin hd.ns (hd.a.fact 2 (f := .glo "are_coprime") rfl)), h2, h3⟩
theorem F_factorial (hd : Hd K mg base) : ∃ fd, FnOk PX w K mg base CX0 1 (He.ga K "factorial") fd ["number"] sp_fact ∧ KeepT K (He.ga K "factorial") ∧ Binds K fd ["number"] [] := by
  obtain ⟨fd, F⟩ := fun_of (st := s_factorial) (hd.n.def_ 9 (d := ⟨("factorial", none), "factorial", "factorial", defArgs s_factorial, defBody s_factorial, defScope s_factorial, [], []⟩) rfl)
  exact ⟨fd, ok_factorial F (He.free_ok hd.kin hd.ns (hd.a.fact 102 (f := .free "range") rfl)), F.kp, F.binds fun _ _ _ _ _ _ us hl => match us, hl with | [_], _ => rfl⟩
theorem D_factorial (hd : Hd K mg base) : Df PX w K mg base CX0 1 "factorial" sp_fact := by
  obtain ⟨fd, h1, h2, h3⟩ := F_factorial (w := w) hd
  exact ⟨_, fd, _, h1, (He.glo_ok hd.kin hd.ns (hd.a.fact 3 (f := .glo "factorial") rfl)), h2, h3⟩
theorem F_key_modulus (hd : Hd K mg base) : ∃ fd, FnOk PX w K mg base CX0 1 (He.ga K "key_modulus") fd ["prime"] sp_half ∧ KeepT K (He.ga K "key_modulus") ∧ Binds K fd ["prime"] [] := by
  obtain ⟨fd, F⟩ := fun_of (st := s_key_modulus) (hd.n.def_ 10 (d := ⟨("key_modulus", none), "key_modulus", "key_modulus", defArgs s_key_modulus, defBody s_key_modulus, defScope s_key_modulus, [], []⟩) rfl)
  exact ⟨fd, ok_key_modulus F, F.kp, F.binds fun _ _ _ _ _ _ us hl => match us, hl with | [_], _ => rfl⟩
theorem D_key_modulus (hd : Hd K mg base) : Df PX w K mg base CX0 1 "key_modulus" sp_half := by
  obtain ⟨fd, h1, h2, h3⟩ := F_key_modulus (w := w) hd
  exact ⟨_, fd, _, h1, (He.glo_ok hd.kin hd.ns (hd.a.fact 4 (f := .glo "key_modulus") rfl)), h2, h3⟩
theorem F_is_table_prime (hd : Hd K mg base) : ∃ fd, FnOk PX w K mg base CX0 2 (He.ga K "is_table_prime") fd ["number"] sp_tprime ∧ KeepT K (He.ga K "is_table_prime") ∧ Binds K fd ["number"] [] := by
  obtain ⟨fd, F⟩ := fun_of (st := s_is_table_prime) (hd.n.def_ 11 (d := ⟨("is_table_prime", none), "is_table_prime", "is_table_prime", defArgs s_is_table_prime, defBody s_is_table_prime, defScope s_is_table_prime, [], []⟩) rfl)
  exact ⟨fd, ok_is_table_prime F (gv_int (He.int_ok hd.kin hd.ns (hd.a.fact 107 (f := .int "LEAST_PRIME" (11)) rfl))) (gv_int (He.int_ok hd.kin hd.ns (hd.a.fact 108 (f := .int "GREATEST_PRIME" (983)) rfl))) (D_is_prime hd) (D_key_modulus hd), F.kp, F.binds fun _ _ _ _ _ _ us hl => match us, hl with | [_], _ => rfl⟩
theorem D_is_table_prime (hd : Hd K mg base) : Df PX w K mg base CX0 2 "is_table_prime" sp_tprime := by
  obtain ⟨fd, h1, h2, h3⟩ := F_is_table_prime (w := w) hd
  exact ⟨_, fd, _, h1, (He.glo_ok hd.kin hd.ns (hd.a.fact 5 (f := .glo "is_table_prime") rfl)), h2, h3⟩
theorem F_is_square (hd : Hd K mg base) : ∃ fd, FnOk PX w K mg base CX0 2 (He.ga K "is_square") fd ["number", "prime"] sp_square ∧ KeepT K (He.ga K "is_square") ∧ Binds K fd ["number", "prime"] [] := by
  obtain ⟨fd, F⟩ := fun_of (st := s_is_square) (hd.n.def_ 12 (d := ⟨("is_square", none), "is_square", "is_square", defArgs s_is_square, defBody s_is_square, defScope s_is_square, [], []⟩) rfl)
  exact ⟨fd, ok_is_square F (D_power hd) (D_key_modulus hd), F.kp, F.binds fun _ _ _ _ _ _ us hl => match us, hl with | [_, _], _ => rfl⟩
theorem D_is_square (hd : Hd K mg base) : Df PX w K mg base CX0 2 "is_square" sp_square := by
  obtain ⟨fd, h1, h2, h3⟩ := F_is_square (w := w) hd
  exact ⟨_, fd, _, h1, (He.glo_ok hd.kin hd.ns (hd.a.fact 6 (f := .glo "is_square") rfl)), h2, h3⟩
theorem F_is_card (hd : Hd K mg base) : ∃ fd, FnOk PX w K mg base CX0 3 (He.ga K "is_card") fd ["number", "prime"] sp_card ∧ KeepT K (He.ga K "is_card") ∧ Binds K fd ["number", "prime"] [] := by
  obtain ⟨fd, F⟩ := fun_of (st := s_is_card) (hd.n.def_ 13 (d := ⟨("is_card", none), "is_card", "is_card", defArgs s_is_card, defBody s_is_card, defScope s_is_card, [], []⟩) rfl)
  exact ⟨fd, ok_is_card F (D_is_square hd), F.kp, F.binds fun _ _ _ _ _ _ us hl => match us, hl with | [_, _], _ => rfl⟩
theorem D_is_card (hd : Hd K mg base) : Df PX w K mg base CX0 3 "is_card" sp_card := by
  obtain ⟨fd, h1, h2, h3⟩ := F_is_card (w := w) hd
  exact ⟨_, fd, _, h1, (He.glo_ok hd.kin hd.ns (hd.a.fact 7 (f := .glo "is_card") rfl)), h2, h3⟩
theorem F_is_key (hd : Hd K mg base) : ∃ fd, FnOk PX w K mg base CX0 2 (He.ga K "is_key") fd ["number", "prime"] sp_key ∧ KeepT K (He.ga K "is_key") ∧ Binds K fd ["number", "prime"] [] := by
  obtain ⟨fd, F⟩ := fun_of (st := s_is_key) (hd.n.def_ 14 (d := ⟨("is_key", none), "is_key", "is_key", defArgs s_is_key, defBody s_is_key, defScope s_is_key, [], []⟩) rfl)
  exact ⟨fd, ok_is_key F (D_key_modulus hd), F.kp, F.binds fun _ _ _ _ _ _ us hl => match us, hl with | [_, _], _ => rfl⟩
theorem D_is_key (hd : Hd K mg base) : Df PX w K mg base CX0 2 "is_key" sp_key := by
  obtain ⟨fd, h1, h2, h3⟩ := F_is_key (w := w) hd
  exact ⟨_, fd, _, h1, (He.glo_ok hd.kin hd.ns (hd.a.fact 8 (f := .glo "is_key") rfl)), h2, h3⟩
theorem F_cards_of (hd : Hd K mg base) : ∃ fd, FnOk PX w K mg base CX0 4 (He.ga K "cards_of") fd ["prime"] sp_cards ∧ KeepT K (He.ga K "cards_of") ∧ Binds K fd ["prime"] [] := by
  obtain ⟨fd, F⟩ := fun_of (st := s_cards_of) (hd.n.def_ 15 (d := ⟨("cards_of", none), "cards_of", "cards_of", defArgs s_cards_of, defBody s_cards_of, defScope s_cards_of, [], []⟩) rfl)
  exact ⟨fd, ok_cards_of F (He.free_ok hd.kin hd.ns (hd.a.fact 102 (f := .free "range") rfl)) (D_is_card hd), F.kp, F.binds fun _ _ _ _ _ _ us hl => match us, hl with | [_], _ => rfl⟩
theorem D_cards_of (hd : Hd K mg base) : Df PX w K mg base CX0 4 "cards_of" sp_cards := by
  obtain ⟨fd, h1, h2, h3⟩ := F_cards_of (w := w) hd
  exact ⟨_, fd, _, h1, (He.glo_ok hd.kin hd.ns (hd.a.fact 9 (f := .glo "cards_of") rfl)), h2, h3⟩
theorem F_locked (hd : Hd K mg base) : ∃ fd, FnOk PX w K mg base CX0 2 (He.ga K "locked") fd ["card", "key", "prime"] sp_locked ∧ KeepT K (He.ga K "locked") ∧ Binds K fd ["card", "key", "prime"] [] := by
  obtain ⟨fd, F⟩ := fun_of (st := s_locked) (hd.n.def_ 16 (d := ⟨("locked", none), "locked", "locked", defArgs s_locked, defBody s_locked, defScope s_locked, [], []⟩) rfl)
  exact ⟨fd, ok_locked F (D_power hd), F.kp, F.binds fun _ _ _ _ _ _ us hl => match us, hl with | [_, _, _], _ => rfl⟩
theorem D_locked (hd : Hd K mg base) : Df PX w K mg base CX0 2 "locked" sp_locked := by
  obtain ⟨fd, h1, h2, h3⟩ := F_locked (w := w) hd
  exact ⟨_, fd, _, h1, (He.glo_ok hd.kin hd.ns (hd.a.fact 10 (f := .glo "locked") rfl)), h2, h3⟩
theorem F_inverse_of (hd : Hd K mg base) : ∃ fd, FnOk PX w K mg base CX0 2 (He.ga K "inverse_of") fd ["key", "prime"] sp_inv ∧ KeepT K (He.ga K "inverse_of") ∧ Binds K fd ["key", "prime"] [] := by
  obtain ⟨fd, F⟩ := fun_of (st := s_inverse_of) (hd.n.def_ 17 (d := ⟨("inverse_of", none), "inverse_of", "inverse_of", defArgs s_inverse_of, defBody s_inverse_of, defScope s_inverse_of, [], []⟩) rfl)
  exact ⟨fd, ok_inverse_of F (D_key_modulus hd) (D_power hd), F.kp, F.binds fun _ _ _ _ _ _ us hl => match us, hl with | [_, _], _ => rfl⟩
theorem D_inverse_of (hd : Hd K mg base) : Df PX w K mg base CX0 2 "inverse_of" sp_inv := by
  obtain ⟨fd, h1, h2, h3⟩ := F_inverse_of (w := w) hd
  exact ⟨_, fd, _, h1, (He.glo_ok hd.kin hd.ns (hd.a.fact 11 (f := .glo "inverse_of") rfl)), h2, h3⟩
theorem F_unlocked (hd : Hd K mg base) : ∃ fd, FnOk PX w K mg base CX0 3 (He.ga K "unlocked") fd ["card", "key", "prime"] sp_unlocked ∧ KeepT K (He.ga K "unlocked") ∧ Binds K fd ["card", "key", "prime"] [] := by
  obtain ⟨fd, F⟩ := fun_of (st := s_unlocked) (hd.n.def_ 18 (d := ⟨("unlocked", none), "unlocked", "unlocked", defArgs s_unlocked, defBody s_unlocked, defScope s_unlocked, [], []⟩) rfl)
  exact ⟨fd, ok_unlocked F (D_locked hd) (D_inverse_of hd), F.kp, F.binds fun _ _ _ _ _ _ us hl => match us, hl with | [_, _, _], _ => rfl⟩
theorem D_unlocked (hd : Hd K mg base) : Df PX w K mg base CX0 3 "unlocked" sp_unlocked := by
  obtain ⟨fd, h1, h2, h3⟩ := F_unlocked (w := w) hd
  exact ⟨_, fd, _, h1, (He.glo_ok hd.kin hd.ns (hd.a.fact 12 (f := .glo "unlocked") rfl)), h2, h3⟩
theorem F_joint_of (hd : Hd K mg base) : ∃ fd, FnOk PX w K mg base CX0 2 (He.ga K "joint_of") fd ["keys", "prime"] (sp_joint K) ∧ KeepT K (He.ga K "joint_of") ∧ Binds K fd ["keys", "prime"] [] := by
  obtain ⟨fd, F⟩ := fun_of (st := s_joint_of) (hd.n.def_ 19 (d := ⟨("joint_of", none), "joint_of", "joint_of", defArgs s_joint_of, defBody s_joint_of, defScope s_joint_of, [], []⟩) rfl)
  exact ⟨fd, ok_joint_of F (D_key_modulus hd), F.kp, F.binds fun _ _ _ _ _ _ us hl => match us, hl with | [_, _], _ => rfl⟩
theorem D_joint_of (hd : Hd K mg base) : Df PX w K mg base CX0 2 "joint_of" (sp_joint K) := by
  obtain ⟨fd, h1, h2, h3⟩ := F_joint_of (w := w) hd
  exact ⟨_, fd, _, h1, (He.glo_ok hd.kin hd.ns (hd.a.fact 13 (f := .glo "joint_of") rfl)), h2, h3⟩
theorem F_InvalidText___init__ (hd : Hd K mg base) : ∃ fd, FnOk PX w K mg base CX0 1 (He.ma K (He.ga K "InvalidText") "__init__") fd ["self", "code", "offset"] (sp_it_init K (He.ga K "InvalidText")) ∧ KeepT K (He.ma K (He.ga K "InvalidText") "__init__") ∧ Binds K fd ["self", "code", "offset"] [] := by
  obtain ⟨fd, F⟩ := fun_of (st := s_InvalidText___init__) (hd.n.def_ 20 (d := ⟨("InvalidText", some "__init__"), "__init__", "InvalidText.__init__", defArgs s_InvalidText___init__, defBody s_InvalidText___init__, defScope s_InvalidText___init__, [], []⟩) rfl)
  exact ⟨fd, ok_it_init (t_XiA hd).xi (t_nc hd) (t_no hd) F, F.kp, F.binds fun _ _ _ _ _ _ us hl => match us, hl with | [_, _, _], _ => rfl⟩
theorem E_InvalidText (hd : Hd K mg base) : Xt PX w K mg base "InvalidText" (He.ga K "InvalidText") := by
  obtain ⟨fd, h1, h2, h3⟩ := F_InvalidText___init__ (w := w) hd
  exact ⟨(t_XiA hd).xi, (He.glo_ok hd.kin hd.ns (hd.a.fact 92 (f := .glo "InvalidText") rfl)), ⟨_, fd, _, (t_XiA hd).ini, (t_XiA hd).ty, h1, h3⟩, (t_XiA hd).xf, t_nc hd, t_no hd⟩
theorem F_all_different (hd : Hd K mg base) : ∃ fd, FnOk PX w K mg base CX0 1 (He.ga K "all_different") fd ["numbers"] (sp_alldiff K) ∧ KeepT K (He.ga K "all_different") ∧ Binds K fd ["numbers"] [] := by
  obtain ⟨fd, F⟩ := fun_of (st := s_all_different) (hd.n.def_ 21 (d := ⟨("all_different", none), "all_different", "all_different", defArgs s_all_different, defBody s_all_different, defScope s_all_different, [], []⟩) rfl)
  exact ⟨fd, ok_all_different F (He.free_ok hd.kin hd.ns (hd.a.fact 99 (f := .free "len") rfl)) (He.free_ok hd.kin hd.ns (hd.a.fact 103 (f := .free "set") rfl)), F.kp, F.binds fun _ _ _ _ _ _ us hl => match us, hl with | [_], _ => rfl⟩
theorem D_all_different (hd : Hd K mg base) : Df PX w K mg base CX0 1 "all_different" (sp_alldiff K) := by
  obtain ⟨fd, h1, h2, h3⟩ := F_all_different (w := w) hd
  exact ⟨_, fd, _, h1, (He.glo_ok hd.kin hd.ns (hd.a.fact 14 (f := .glo "all_different") rfl)), h2, h3⟩
theorem F_is_row (hd : Hd K mg base) : ∃ fd, FnOk PX w K mg base CX0 4 (He.ga K "is_row") fd ["numbers", "prime"] (sp_isrow K) ∧ KeepT K (He.ga K "is_row") ∧ Binds K fd ["numbers", "prime"] [] := by
  obtain ⟨fd, F⟩ := fun_of (st := s_is_row) (hd.n.def_ 22 (d := ⟨("is_row", none), "is_row", "is_row", defArgs s_is_row, defBody s_is_row, defScope s_is_row, [], []⟩) rfl)
  exact ⟨fd, ok_is_row F (gv_int (He.int_ok hd.kin hd.ns (hd.a.fact 109 (f := .int "MOST_CARDS" (10)) rfl))) (D_all_different hd) (He.free_ok hd.kin hd.ns (hd.a.fact 96 (f := .free "all") rfl)) (He.free_ok hd.kin hd.ns (hd.a.fact 99 (f := .free "len") rfl)) (D_is_card hd), F.kp, F.binds fun _ _ _ _ _ _ us hl => match us, hl with | [_, _], _ => rfl⟩
theorem D_is_row (hd : Hd K mg base) : Df PX w K mg base CX0 4 "is_row" (sp_isrow K) := by
  obtain ⟨fd, h1, h2, h3⟩ := F_is_row (w := w) hd
  exact ⟨_, fd, _, h1, (He.glo_ok hd.kin hd.ns (hd.a.fact 15 (f := .glo "is_row") rfl)), h2, h3⟩
theorem F_is_order (hd : Hd K mg base) : ∃ fd, FnOk PX w K mg base CX0 1 (He.ga K "is_order") fd ["numbers", "count"] (sp_isorder K) ∧ KeepT K (He.ga K "is_order") ∧ Binds K fd ["numbers", "count"] [] := by
  obtain ⟨fd, F⟩ := fun_of (st := s_is_order) (hd.n.def_ 23 (d := ⟨("is_order", none), "is_order", "is_order", defArgs s_is_order, defBody s_is_order, defScope s_is_order, [], []⟩) rfl)
  exact ⟨fd, ok_is_order F (He.free_ok hd.kin hd.ns (hd.a.fact 104 (f := .free "sorted") rfl)) (He.free_ok hd.kin hd.ns (hd.a.fact 100 (f := .free "list") rfl)) (He.free_ok hd.kin hd.ns (hd.a.fact 102 (f := .free "range") rfl)), F.kp, F.binds fun _ _ _ _ _ _ us hl => match us, hl with | [_, _], _ => rfl⟩
theorem D_is_order (hd : Hd K mg base) : Df PX w K mg base CX0 1 "is_order" (sp_isorder K) := by
  obtain ⟨fd, h1, h2, h3⟩ := F_is_order (w := w) hd
  exact ⟨_, fd, _, h1, (He.glo_ok hd.kin hd.ns (hd.a.fact 16 (f := .glo "is_order") rfl)), h2, h3⟩
theorem F_parts_of (hd : Hd K mg base) : ∃ fd, FnOk PX w K mg base CX0 1 (He.ga K "parts_of") fd ["numbers", "length"] (sp_parts K) ∧ KeepT K (He.ga K "parts_of") ∧ Binds K fd ["numbers", "length"] [] := by
  obtain ⟨fd, F⟩ := fun_of (st := s_parts_of) (hd.n.def_ 24 (d := ⟨("parts_of", none), "parts_of", "parts_of", defArgs s_parts_of, defBody s_parts_of, defScope s_parts_of, [], []⟩) rfl)
  exact ⟨fd, ok_parts_of F (He.free_ok hd.kin hd.ns (hd.a.fact 102 (f := .free "range") rfl)) (He.free_ok hd.kin hd.ns (hd.a.fact 99 (f := .free "len") rfl)), F.kp, F.binds fun _ _ _ _ _ _ us hl => match us, hl with | [_, _], _ => rfl⟩
theorem D_parts_of (hd : Hd K mg base) : Df PX w K mg base CX0 1 "parts_of" (sp_parts K) := by
  obtain ⟨fd, h1, h2, h3⟩ := F_parts_of (w := w) hd
  exact ⟨_, fd, _, h1, (He.glo_ok hd.kin hd.ns (hd.a.fact 17 (f := .glo "parts_of") rfl)), h2, h3⟩
theorem F_locked_row (hd : Hd K mg base) : ∃ fd, FnOk PX w K mg base CX0 3 (He.ga K "locked_row") fd ["row", "key", "prime"] (sp_lkrow K) ∧ KeepT K (He.ga K "locked_row") ∧ Binds K fd ["row", "key", "prime"] [] := by
  obtain ⟨fd, F⟩ := fun_of (st := s_locked_row) (hd.n.def_ 25 (d := ⟨("locked_row", none), "locked_row", "locked_row", defArgs s_locked_row, defBody s_locked_row, defScope s_locked_row, [], []⟩) rfl)
  exact ⟨fd, ok_locked_row F (D_locked hd), F.kp, F.binds fun _ _ _ _ _ _ us hl => match us, hl with | [_, _, _], _ => rfl⟩
theorem D_locked_row (hd : Hd K mg base) : Df PX w K mg base CX0 3 "locked_row" (sp_lkrow K) := by
  obtain ⟨fd, h1, h2, h3⟩ := F_locked_row (w := w) hd
  exact ⟨_, fd, _, h1, (He.glo_ok hd.kin hd.ns (hd.a.fact 18 (f := .glo "locked_row") rfl)), h2, h3⟩
theorem F_shuffled (hd : Hd K mg base) : ∃ fd, FnOk PX w K mg base CX0 4 (He.ga K "shuffled") fd ["row", "key", "order", "prime"] (sp_shuf K) ∧ KeepT K (He.ga K "shuffled") ∧ Binds K fd ["row", "key", "order", "prime"] [] := by
  obtain ⟨fd, F⟩ := fun_of (st := s_shuffled) (hd.n.def_ 26 (d := ⟨("shuffled", none), "shuffled", "shuffled", defArgs s_shuffled, defBody s_shuffled, defScope s_shuffled, [], []⟩) rfl)
  exact ⟨fd, ok_shuffled F (D_locked_row hd), F.kp, F.binds fun _ _ _ _ _ _ us hl => match us, hl with | [_, _, _, _], _ => rfl⟩
theorem D_shuffled (hd : Hd K mg base) : Df PX w K mg base CX0 4 "shuffled" (sp_shuf K) := by
  obtain ⟨fd, h1, h2, h3⟩ := F_shuffled (w := w) hd
  exact ⟨_, fd, _, h1, (He.glo_ok hd.kin hd.ns (hd.a.fact 19 (f := .glo "shuffled") rfl)), h2, h3⟩
theorem F_error_count (hd : Hd K mg base) : ∃ fd, FnOk PX w K mg base CX0 4 (He.ga K "error_count") fd ["row", "key", "cards", "prime"] (sp_errs K) ∧ KeepT K (He.ga K "error_count") ∧ Binds K fd ["row", "key", "cards", "prime"] [] := by
  obtain ⟨fd, F⟩ := fun_of (st := s_error_count) (hd.n.def_ 27 (d := ⟨("error_count", none), "error_count", "error_count", defArgs s_error_count, defBody s_error_count, defScope s_error_count, [], []⟩) rfl)
  exact ⟨fd, ok_error_count F (He.free_ok hd.kin hd.ns (hd.a.fact 99 (f := .free "len") rfl)) (D_locked_row hd), F.kp, F.binds fun _ _ _ _ _ _ us hl => match us, hl with | [_, _, _, _], _ => rfl⟩
theorem D_error_count (hd : Hd K mg base) : Df PX w K mg base CX0 4 "error_count" (sp_errs K) := by
  obtain ⟨fd, h1, h2, h3⟩ := F_error_count (w := w) hd
  exact ⟨_, fd, _, h1, (He.glo_ok hd.kin hd.ns (hd.a.fact 20 (f := .glo "error_count") rfl)), h2, h3⟩
theorem F_matching_order (hd : Hd K mg base) : ∃ fd, FnOk PX w K mg base CX0 4 (He.ga K "matching_order") fd ["row", "key", "cards", "prime"] (sp_match K) ∧ KeepT K (He.ga K "matching_order") ∧ Binds K fd ["row", "key", "cards", "prime"] [] := by
  obtain ⟨fd, F⟩ := fun_of (st := s_matching_order) (hd.n.def_ 28 (d := ⟨("matching_order", none), "matching_order", "matching_order", defArgs s_matching_order, defBody s_matching_order, defScope s_matching_order, [], []⟩) rfl)
  exact ⟨fd, ok_matching_order F (D_locked_row hd), F.kp, F.binds fun _ _ _ _ _ _ us hl => match us, hl with | [_, _, _, _], _ => rfl⟩
theorem D_matching_order (hd : Hd K mg base) : Df PX w K mg base CX0 4 "matching_order" (sp_match K) := by
  obtain ⟨fd, h1, h2, h3⟩ := F_matching_order (w := w) hd
  exact ⟨_, fd, _, h1, (He.glo_ok hd.kin hd.ns (hd.a.fact 21 (f := .glo "matching_order") rfl)), h2, h3⟩
theorem F_remaining_count (hd : Hd K mg base) : ∃ fd, FnOk PX w K mg base CX0 2 (He.ga K "remaining_count") fd ["card_count", "positions"] (sp_remc K) ∧ KeepT K (He.ga K "remaining_count") ∧ Binds K fd ["card_count", "positions"] [] := by
  obtain ⟨fd, F⟩ := fun_of (st := s_remaining_count) (hd.n.def_ 29 (d := ⟨("remaining_count", none), "remaining_count", "remaining_count", defArgs s_remaining_count, defBody s_remaining_count, defScope s_remaining_count, [], []⟩) rfl)
  exact ⟨fd, ok_remaining_count F (D_factorial hd) (D_all_different hd) (He.free_ok hd.kin hd.ns (hd.a.fact 99 (f := .free "len") rfl)), F.kp, F.binds fun _ _ _ _ _ _ us hl => match us, hl with | [_, _], _ => rfl⟩
theorem D_remaining_count (hd : Hd K mg base) : Df PX w K mg base CX0 2 "remaining_count" (sp_remc K) := by
  obtain ⟨fd, h1, h2, h3⟩ := F_remaining_count (w := w) hd
  exact ⟨_, fd, _, h1, (He.glo_ok hd.kin hd.ns (hd.a.fact 22 (f := .glo "remaining_count") rfl)), h2, h3⟩
theorem F_need (hd : Hd K mg base) : ∃ fd, FnOk PX w K mg base (L2.CX PX w) 1 (He.ga K "need") fd ["condition"] (sp_need (He.ga K "WrongArgument")) ∧ KeepT K (He.ga K "need") ∧ Binds K fd ["condition"] [] := by
  obtain ⟨fd, F⟩ := fun_of (st := s_need) (hd.n.def_ 30 (d := ⟨("need", none), "need", "need", defArgs s_need, defBody s_need, defScope s_need, [], []⟩) rfl)
  exact ⟨fd, ok_need F (E_WrongArgument hd), F.kp, F.binds fun _ _ _ _ _ _ us hl => match us, hl with | [_], _ => rfl⟩
theorem D_need (hd : Hd K mg base) : Df PX w K mg base (L2.CX PX w) 1 "need" (sp_need (He.ga K "WrongArgument")) := by
  obtain ⟨fd, h1, h2, h3⟩ := F_need (w := w) hd
  exact ⟨_, fd, _, h1, (He.glo_ok hd.kin hd.ns (hd.a.fact 23 (f := .glo "need") rfl)), h2, h3⟩
theorem F_checked_text (hd : Hd K mg base) : ∃ fd, FnOk PX w K mg base (L2.CX PX w) 2 (He.ga K "checked_text") fd ["numbers"] (sp_ctext K (He.ga K "WrongArgument")) ∧ KeepT K (He.ga K "checked_text") ∧ Binds K fd ["numbers"] [] := by
  obtain ⟨fd, F⟩ := fun_of (st := s_checked_text) (hd.n.def_ 31 (d := ⟨("checked_text", none), "checked_text", "checked_text", defArgs s_checked_text, defBody s_checked_text, defScope s_checked_text, [], []⟩) rfl)
  exact ⟨fd, ok_checked_text F (D_need hd) (gv_int (He.int_ok hd.kin hd.ns (hd.a.fact 110 (f := .int "MOST_BYTES" (800)) rfl))) (He.free_ok hd.kin hd.ns (hd.a.fact 99 (f := .free "len") rfl)) (gv_int (He.int_ok hd.kin hd.ns (hd.a.fact 111 (f := .int "GREATEST_BYTE" (255)) rfl))), F.kp, F.binds fun _ _ _ _ _ _ us hl => match us, hl with | [_], _ => rfl⟩
theorem D_checked_text (hd : Hd K mg base) : Df PX w K mg base (L2.CX PX w) 2 "checked_text" (sp_ctext K (He.ga K "WrongArgument")) := by
  obtain ⟨fd, h1, h2, h3⟩ := F_checked_text (w := w) hd
  exact ⟨_, fd, _, h1, (He.glo_ok hd.kin hd.ns (hd.a.fact 24 (f := .glo "checked_text") rfl)), h2, h3⟩
theorem F_checked_card (hd : Hd K mg base) : ∃ fd, FnOk PX w K mg base (L2.CX PX w) 4 (He.ga K "checked_card") fd ["number", "prime"] (sp_ccard (He.ga K "WrongArgument")) ∧ KeepT K (He.ga K "checked_card") ∧ Binds K fd ["number", "prime"] [] := by
  obtain ⟨fd, F⟩ := fun_of (st := s_checked_card) (hd.n.def_ 32 (d := ⟨("checked_card", none), "checked_card", "checked_card", defArgs s_checked_card, defBody s_checked_card, defScope s_checked_card, [], []⟩) rfl)
  exact ⟨fd, ok_checked_card F (D_need hd) (D_is_card hd), F.kp, F.binds fun _ _ _ _ _ _ us hl => match us, hl with | [_, _], _ => rfl⟩
theorem D_checked_card (hd : Hd K mg base) : Df PX w K mg base (L2.CX PX w) 4 "checked_card" (sp_ccard (He.ga K "WrongArgument")) := by
  obtain ⟨fd, h1, h2, h3⟩ := F_checked_card (w := w) hd
  exact ⟨_, fd, _, h1, (He.glo_ok hd.kin hd.ns (hd.a.fact 25 (f := .glo "checked_card") rfl)), h2, h3⟩
theorem F_checked_key (hd : Hd K mg base) : ∃ fd, FnOk PX w K mg base (L2.CX PX w) 3 (He.ga K "checked_key") fd ["number", "prime"] (sp_ckey (He.ga K "WrongArgument")) ∧ KeepT K (He.ga K "checked_key") ∧ Binds K fd ["number", "prime"] [] := by
  obtain ⟨fd, F⟩ := fun_of (st := s_checked_key) (hd.n.def_ 33 (d := ⟨("checked_key", none), "checked_key", "checked_key", defArgs s_checked_key, defBody s_checked_key, defScope s_checked_key, [], []⟩) rfl)
  exact ⟨fd, ok_checked_key F (D_need hd) (D_is_key hd), F.kp, F.binds fun _ _ _ _ _ _ us hl => match us, hl with | [_, _], _ => rfl⟩
theorem D_checked_key (hd : Hd K mg base) : Df PX w K mg base (L2.CX PX w) 3 "checked_key" (sp_ckey (He.ga K "WrongArgument")) := by
  obtain ⟨fd, h1, h2, h3⟩ := F_checked_key (w := w) hd
  exact ⟨_, fd, _, h1, (He.glo_ok hd.kin hd.ns (hd.a.fact 26 (f := .glo "checked_key") rfl)), h2, h3⟩
theorem F_checked_keys (hd : Hd K mg base) : ∃ fd, FnOk PX w K mg base (L2.CX PX w) 4 (He.ga K "checked_keys") fd ["numbers", "prime"] (sp_ckeys K (He.ga K "WrongArgument")) ∧ KeepT K (He.ga K "checked_keys") ∧ Binds K fd ["numbers", "prime"] [] := by
  obtain ⟨fd, F⟩ := fun_of (st := s_checked_keys) (hd.n.def_ 34 (d := ⟨("checked_keys", none), "checked_keys", "checked_keys", defArgs s_checked_keys, defBody s_checked_keys, defScope s_checked_keys, [], []⟩) rfl)
  exact ⟨fd, ok_checked_keys F (D_need hd) (gv_int (He.int_ok hd.kin hd.ns (hd.a.fact 112 (f := .int "MOST_KEYS" (20)) rfl))) (D_checked_key hd) (He.free_ok hd.kin hd.ns (hd.a.fact 99 (f := .free "len") rfl)), F.kp, F.binds fun _ _ _ _ _ _ us hl => match us, hl with | [_, _], _ => rfl⟩
theorem D_checked_keys (hd : Hd K mg base) : Df PX w K mg base (L2.CX PX w) 4 "checked_keys" (sp_ckeys K (He.ga K "WrongArgument")) := by
  obtain ⟨fd, h1, h2, h3⟩ := F_checked_keys (w := w) hd
  exact ⟨_, fd, _, h1, (He.glo_ok hd.kin hd.ns (hd.a.fact 27 (f := .glo "checked_keys") rfl)), h2, h3⟩
theorem F_checked_row (hd : Hd K mg base) : ∃ fd, FnOk PX w K mg base (L2.CX PX w) 5 (He.ga K "checked_row") fd ["numbers", "prime"] (sp_crow K (He.ga K "WrongArgument")) ∧ KeepT K (He.ga K "checked_row") ∧ Binds K fd ["numbers", "prime"] [] := by
  obtain ⟨fd, F⟩ := fun_of (st := s_checked_row) (hd.n.def_ 35 (d := ⟨("checked_row", none), "checked_row", "checked_row", defArgs s_checked_row, defBody s_checked_row, defScope s_checked_row, [], []⟩) rfl)
  exact ⟨fd, ok_checked_row F (D_need hd) (D_is_row hd), F.kp, F.binds fun _ _ _ _ _ _ us hl => match us, hl with | [_, _], _ => rfl⟩
theorem D_checked_row (hd : Hd K mg base) : Df PX w K mg base (L2.CX PX w) 5 "checked_row" (sp_crow K (He.ga K "WrongArgument")) := by
  obtain ⟨fd, h1, h2, h3⟩ := F_checked_row (w := w) hd
  exact ⟨_, fd, _, h1, (He.glo_ok hd.kin hd.ns (hd.a.fact 28 (f := .glo "checked_row") rfl)), h2, h3⟩
theorem F_checked_cards (hd : Hd K mg base) : ∃ fd, FnOk PX w K mg base (L2.CX PX w) 5 (He.ga K "checked_cards") fd ["numbers", "count", "prime"] (sp_ccards K (He.ga K "WrongArgument")) ∧ KeepT K (He.ga K "checked_cards") ∧ Binds K fd ["numbers", "count", "prime"] [] := by
  obtain ⟨fd, F⟩ := fun_of (st := s_checked_cards) (hd.n.def_ 36 (d := ⟨("checked_cards", none), "checked_cards", "checked_cards", defArgs s_checked_cards, defBody s_checked_cards, defScope s_checked_cards, [], []⟩) rfl)
  exact ⟨fd, ok_checked_cards F (D_need hd) (D_checked_card hd) (He.free_ok hd.kin hd.ns (hd.a.fact 99 (f := .free "len") rfl)), F.kp, F.binds fun _ _ _ _ _ _ us hl => match us, hl with | [_, _, _], _ => rfl⟩
theorem D_checked_cards (hd : Hd K mg base) : Df PX w K mg base (L2.CX PX w) 5 "checked_cards" (sp_ccards K (He.ga K "WrongArgument")) := by
  obtain ⟨fd, h1, h2, h3⟩ := F_checked_cards (w := w) hd
  exact ⟨_, fd, _, h1, (He.glo_ok hd.kin hd.ns (hd.a.fact 29 (f := .glo "checked_cards") rfl)), h2, h3⟩
theorem F_checked_order (hd : Hd K mg base) : ∃ fd, FnOk PX w K mg base (L2.CX PX w) 2 (He.ga K "checked_order") fd ["numbers", "count"] (sp_corder K (He.ga K "WrongArgument")) ∧ KeepT K (He.ga K "checked_order") ∧ Binds K fd ["numbers", "count"] [] := by
  obtain ⟨fd, F⟩ := fun_of (st := s_checked_order) (hd.n.def_ 37 (d := ⟨("checked_order", none), "checked_order", "checked_order", defArgs s_checked_order, defBody s_checked_order, defScope s_checked_order, [], []⟩) rfl)
  exact ⟨fd, ok_checked_order F (D_need hd) (D_is_order hd), F.kp, F.binds fun _ _ _ _ _ _ us hl => match us, hl with | [_, _], _ => rfl⟩
theorem D_checked_order (hd : Hd K mg base) : Df PX w K mg base (L2.CX PX w) 2 "checked_order" (sp_corder K (He.ga K "WrongArgument")) := by
  obtain ⟨fd, h1, h2, h3⟩ := F_checked_order (w := w) hd
  exact ⟨_, fd, _, h1, (He.glo_ok hd.kin hd.ns (hd.a.fact 30 (f := .glo "checked_order") rfl)), h2, h3⟩
theorem F_checked_position (hd : Hd K mg base) : ∃ fd, FnOk PX w K mg base (L2.CX PX w) 2 (He.ga K "checked_position") fd ["number", "count"] (sp_cpos (He.ga K "WrongArgument")) ∧ KeepT K (He.ga K "checked_position") ∧ Binds K fd ["number", "count"] [] := by
  obtain ⟨fd, F⟩ := fun_of (st := s_checked_position) (hd.n.def_ 38 (d := ⟨("checked_position", none), "checked_position", "checked_position", defArgs s_checked_position, defBody s_checked_position, defScope s_checked_position, [], []⟩) rfl)
  exact ⟨fd, ok_checked_position F (D_need hd), F.kp, F.binds fun _ _ _ _ _ _ us hl => match us, hl with | [_, _], _ => rfl⟩
theorem D_checked_position (hd : Hd K mg base) : Df PX w K mg base (L2.CX PX w) 2 "checked_position" (sp_cpos (He.ga K "WrongArgument")) := by
  obtain ⟨fd, h1, h2, h3⟩ := F_checked_position (w := w) hd
  exact ⟨_, fd, _, h1, (He.glo_ok hd.kin hd.ns (hd.a.fact 31 (f := .glo "checked_position") rfl)), h2, h3⟩
theorem F_checked_shown (hd : Hd K mg base) : ∃ fd, FnOk PX w K mg base (L2.CX PX w) 4 (He.ga K "checked_shown") fd ["numbers", "count", "prime"] (sp_cshown K (He.ga K "WrongArgument")) ∧ KeepT K (He.ga K "checked_shown") ∧ Binds K fd ["numbers", "count", "prime"] [] := by
  obtain ⟨fd, F⟩ := fun_of (st := s_checked_shown) (hd.n.def_ 39 (d := ⟨("checked_shown", none), "checked_shown", "checked_shown", defArgs s_checked_shown, defBody s_checked_shown, defScope s_checked_shown, [], []⟩) rfl)
  exact ⟨fd, ok_checked_shown F (D_need hd) (D_parts_of hd) (D_checked_position hd) (D_checked_key hd) (D_all_different hd) (He.free_ok hd.kin hd.ns (hd.a.fact 99 (f := .free "len") rfl)), F.kp, F.binds fun _ _ _ _ _ _ us hl => match us, hl with | [_, _, _], _ => rfl⟩
theorem D_checked_shown (hd : Hd K mg base) : Df PX w K mg base (L2.CX PX w) 4 "checked_shown" (sp_cshown K (He.ga K "WrongArgument")) := by
  obtain ⟨fd, h1, h2, h3⟩ := F_checked_shown (w := w) hd
  exact ⟨_, fd, _, h1, (He.glo_ok hd.kin hd.ns (hd.a.fact 32 (f := .glo "checked_shown") rfl)), h2, h3⟩
theorem F_checked_revealed (hd : Hd K mg base) : ∃ fd, FnOk PX w K mg base (L2.CX PX w) 4 (He.ga K "checked_revealed") fd ["numbers", "table"] (sp_crev K (He.ga K "Table") (He.ga K "WrongArgument")) ∧ KeepT K (He.ga K "checked_revealed") ∧ Binds K fd ["numbers", "table"] [] := by
  obtain ⟨fd, F⟩ := fun_of (st := s_checked_revealed) (hd.n.def_ 40 (d := ⟨("checked_revealed", none), "checked_revealed", "checked_revealed", defArgs s_checked_revealed, defBody s_checked_revealed, defScope s_checked_revealed, [], []⟩) rfl)
  exact ⟨fd, ok_checked_revealed (t_TbT hd) F (D_need hd) (D_checked_key hd) (He.free_ok hd.kin hd.ns (hd.a.fact 99 (f := .free "len") rfl)), F.kp, F.binds fun _ _ _ _ _ _ us hl => match us, hl with | [_, _], _ => rfl⟩
theorem D_checked_revealed (hd : Hd K mg base) : Df PX w K mg base (L2.CX PX w) 4 "checked_revealed" (sp_crev K (He.ga K "Table") (He.ga K "WrongArgument")) := by
  obtain ⟨fd, h1, h2, h3⟩ := F_checked_revealed (w := w) hd
  exact ⟨_, fd, _, h1, (He.glo_ok hd.kin hd.ns (hd.a.fact 33 (f := .glo "checked_revealed") rfl)), h2, h3⟩
theorem F_checked_announced (hd : Hd K mg base) : ∃ fd, FnOk PX w K mg base (L2.CX PX w) 6 (He.ga K "checked_announced") fd ["numbers", "table"] (sp_cann K (He.ga K "Table") (He.ga K "WrongArgument")) ∧ KeepT K (He.ga K "checked_announced") ∧ Binds K fd ["numbers", "table"] [] := by
  obtain ⟨fd, F⟩ := fun_of (st := s_checked_announced) (hd.n.def_ 41 (d := ⟨("checked_announced", none), "checked_announced", "checked_announced", defArgs s_checked_announced, defBody s_checked_announced, defScope s_checked_announced, [], []⟩) rfl)
  exact ⟨fd, ok_checked_announced (t_TbT hd) F (D_checked_cards hd) (He.free_ok hd.kin hd.ns (hd.a.fact 99 (f := .free "len") rfl)), F.kp, F.binds fun _ _ _ _ _ _ us hl => match us, hl with | [_, _], _ => rfl⟩
theorem D_checked_announced (hd : Hd K mg base) : Df PX w K mg base (L2.CX PX w) 6 "checked_announced" (sp_cann K (He.ga K "Table") (He.ga K "WrongArgument")) := by
  obtain ⟨fd, h1, h2, h3⟩ := F_checked_announced (w := w) hd
  exact ⟨_, fd, _, h1, (He.glo_ok hd.kin hd.ns (hd.a.fact 34 (f := .glo "checked_announced") rfl)), h2, h3⟩
theorem F_checked_lists (hd : Hd K mg base) : ∃ fd, FnOk PX w K mg base (L2.CX PX w) 6 (He.ga K "checked_lists") fd ["numbers", "table"] (sp_clists K (He.ga K "Table") (He.ga K "WrongArgument")) ∧ KeepT K (He.ga K "checked_lists") ∧ Binds K fd ["numbers", "table"] [] := by
  obtain ⟨fd, F⟩ := fun_of (st := s_checked_lists) (hd.n.def_ 42 (d := ⟨("checked_lists", none), "checked_lists", "checked_lists", defArgs s_checked_lists, defBody s_checked_lists, defScope s_checked_lists, [], []⟩) rfl)
  exact ⟨fd, ok_checked_lists (t_TbT hd) F (He.free_ok hd.kin hd.ns (hd.a.fact 99 (f := .free "len") rfl)) (D_parts_of hd) (D_checked_cards hd), F.kp, F.binds fun _ _ _ _ _ _ us hl => match us, hl with | [_, _], _ => rfl⟩
theorem D_checked_lists (hd : Hd K mg base) : Df PX w K mg base (L2.CX PX w) 6 "checked_lists" (sp_clists K (He.ga K "Table") (He.ga K "WrongArgument")) := by
  obtain ⟨fd, h1, h2, h3⟩ := F_checked_lists (w := w) hd
  exact ⟨_, fd, _, h1, (He.glo_ok hd.kin hd.ns (hd.a.fact 35 (f := .glo "checked_lists") rfl)), h2, h3⟩
theorem F_checked_orders (hd : Hd K mg base) : ∃ fd, FnOk PX w K mg base (L2.CX PX w) 3 (He.ga K "checked_orders") fd ["numbers", "table"] (sp_corders K (He.ga K "Table") (He.ga K "WrongArgument")) ∧ KeepT K (He.ga K "checked_orders") ∧ Binds K fd ["numbers", "table"] [] := by
  obtain ⟨fd, F⟩ := fun_of (st := s_checked_orders) (hd.n.def_ 43 (d := ⟨("checked_orders", none), "checked_orders", "checked_orders", defArgs s_checked_orders, defBody s_checked_orders, defScope s_checked_orders, [], []⟩) rfl)
  exact ⟨fd, ok_checked_orders (t_TbT hd) F (He.free_ok hd.kin hd.ns (hd.a.fact 99 (f := .free "len") rfl)) (D_need hd) (D_checked_order hd) (D_parts_of hd), F.kp, F.binds fun _ _ _ _ _ _ us hl => match us, hl with | [_, _], _ => rfl⟩
theorem D_checked_orders (hd : Hd K mg base) : Df PX w K mg base (L2.CX PX w) 3 "checked_orders" (sp_corders K (He.ga K "Table") (He.ga K "WrongArgument")) := by
  obtain ⟨fd, h1, h2, h3⟩ := F_checked_orders (w := w) hd
  exact ⟨_, fd, _, h1, (He.glo_ok hd.kin hd.ns (hd.a.fact 36 (f := .glo "checked_orders") rfl)), h2, h3⟩
theorem F_checked_number (hd : Hd K mg base) : ∃ fd, FnOk PX w K mg base (L2.CX PX w) 2 (He.ga K "checked_number") fd ["number", "prime"] (sp_cnum (He.ga K "WrongArgument")) ∧ KeepT K (He.ga K "checked_number") ∧ Binds K fd ["number", "prime"] [] := by
  obtain ⟨fd, F⟩ := fun_of (st := s_checked_number) (hd.n.def_ 44 (d := ⟨("checked_number", none), "checked_number", "checked_number", defArgs s_checked_number, defBody s_checked_number, defScope s_checked_number, [], []⟩) rfl)
  exact ⟨fd, ok_checked_number F (D_need hd), F.kp, F.binds fun _ _ _ _ _ _ us hl => match us, hl with | [_, _], _ => rfl⟩
theorem D_checked_number (hd : Hd K mg base) : Df PX w K mg base (L2.CX PX w) 2 "checked_number" (sp_cnum (He.ga K "WrongArgument")) := by
  obtain ⟨fd, h1, h2, h3⟩ := F_checked_number (w := w) hd
  exact ⟨_, fd, _, h1, (He.glo_ok hd.kin hd.ns (hd.a.fact 37 (f := .glo "checked_number") rfl)), h2, h3⟩
theorem F_checked_exponent (hd : Hd K mg base) : ∃ fd, FnOk PX w K mg base (L2.CX PX w) 2 (He.ga K "checked_exponent") fd ["number", "prime"] (sp_cexp (He.ga K "WrongArgument")) ∧ KeepT K (He.ga K "checked_exponent") ∧ Binds K fd ["number", "prime"] [] := by
  obtain ⟨fd, F⟩ := fun_of (st := s_checked_exponent) (hd.n.def_ 45 (d := ⟨("checked_exponent", none), "checked_exponent", "checked_exponent", defArgs s_checked_exponent, defBody s_checked_exponent, defScope s_checked_exponent, [], []⟩) rfl)
  exact ⟨fd, ok_checked_exponent F (D_need hd) (D_are_coprime hd), F.kp, F.binds fun _ _ _ _ _ _ us hl => match us, hl with | [_, _], _ => rfl⟩
theorem D_checked_exponent (hd : Hd K mg base) : Df PX w K mg base (L2.CX PX w) 2 "checked_exponent" (sp_cexp (He.ga K "WrongArgument")) := by
  obtain ⟨fd, h1, h2, h3⟩ := F_checked_exponent (w := w) hd
  exact ⟨_, fd, _, h1, (He.glo_ok hd.kin hd.ns (hd.a.fact 38 (f := .glo "checked_exponent") rfl)), h2, h3⟩
theorem F_Table___init__ (hd : Hd K mg base) : ∃ fd, FnOk PX w K mg base CX0 1 (He.ma K (He.ga K "Table") "__init__") fd ["self", "prime", "deck", "players"] (sp_tb_init (He.ga K "Table")) ∧ KeepT K (He.ma K (He.ga K "Table") "__init__") ∧ Binds K fd ["self", "prime", "deck", "players"] [] := by
  obtain ⟨fd, F⟩ := fun_of (st := s_Table___init__) (hd.n.def_ 46 (d := ⟨("Table", some "__init__"), "__init__", "Table.__init__", defArgs s_Table___init__, defBody s_Table___init__, defScope s_Table___init__, [], []⟩) rfl)
  exact ⟨fd, ok_Table_init (t_TbT hd) F, F.kp, F.binds fun _ _ _ _ _ _ us hl => match us, hl with | [_, _, _, _], _ => rfl⟩
theorem K_Table (hd : Hd K mg base) : Mke PX w K mg base CX0 1 "Table" (He.ga K "Table") (sp_tb_init (He.ga K "Table")) := by
  obtain ⟨fd, h1, h2, h3⟩ := F_Table___init__ (w := w) hd
  exact ⟨_, fd, _, He.mkr_ok (hd.b.fact 12 (f := .mkr "Table") rfl), (He.glo_ok hd.kin hd.ns (hd.a.fact 85 (f := .glo "Table") rfl)), h1, h3⟩
theorem F_keys_of (hd : Hd K mg base) : ∃ fd, FnOk PX w K mg base CX0 1 (He.ga K "keys_of") fd ["table"] (sp_keysof (He.ga K "Table")) ∧ KeepT K (He.ga K "keys_of") ∧ Binds K fd ["table"] [] := by
  obtain ⟨fd, F⟩ := fun_of (st := s_keys_of) (hd.n.def_ 47 (d := ⟨("keys_of", none), "keys_of", "keys_of", defArgs s_keys_of, defBody s_keys_of, defScope s_keys_of, [], []⟩) rfl)
  exact ⟨fd, ok_keys_of (t_TbT hd) F, F.kp, F.binds fun _ _ _ _ _ _ us hl => match us, hl with | [_], _ => rfl⟩
theorem D_keys_of (hd : Hd K mg base) : Df PX w K mg base CX0 1 "keys_of" (sp_keysof (He.ga K "Table")) := by
  obtain ⟨fd, h1, h2, h3⟩ := F_keys_of (w := w) hd
  exact ⟨_, fd, _, h1, (He.glo_ok hd.kin hd.ns (hd.a.fact 39 (f := .glo "keys_of") rfl)), h2, h3⟩
theorem F_canonical_lines (hd : Hd K mg base) : ∃ fd, FnOk PX w K mg base CX0 1 (He.ga K "canonical_lines") fd ["table"] (sp_lines (He.ga K "Table")) ∧ KeepT K (He.ga K "canonical_lines") ∧ Binds K fd ["table"] [] := by
  obtain ⟨fd, F⟩ := fun_of (st := s_canonical_lines) (hd.n.def_ 48 (d := ⟨("canonical_lines", none), "canonical_lines", "canonical_lines", defArgs s_canonical_lines, defBody s_canonical_lines, defScope s_canonical_lines, [], []⟩) rfl)
  exact ⟨fd, ok_canonical_lines (t_TbT hd) F (He.free_ok hd.kin hd.ns (hd.a.fact 105 (f := .free "str") rfl)), F.kp, F.binds fun _ _ _ _ _ _ us hl => match us, hl with | [_], _ => rfl⟩
theorem D_canonical_lines (hd : Hd K mg base) : Df PX w K mg base CX0 1 "canonical_lines" (sp_lines (He.ga K "Table")) := by
  obtain ⟨fd, h1, h2, h3⟩ := F_canonical_lines (w := w) hd
  exact ⟨_, fd, _, h1, (He.glo_ok hd.kin hd.ns (hd.a.fact 40 (f := .glo "canonical_lines") rfl)), h2, h3⟩
theorem F_canonical_bytes (hd : Hd K mg base) : ∃ fd, FnOk PX w K mg base CX0 2 (He.ga K "canonical_bytes") fd ["table"] (sp_bytes (He.ga K "Table")) ∧ KeepT K (He.ga K "canonical_bytes") ∧ Binds K fd ["table"] [] := by
  obtain ⟨fd, F⟩ := fun_of (st := s_canonical_bytes) (hd.n.def_ 49 (d := ⟨("canonical_bytes", none), "canonical_bytes", "canonical_bytes", defArgs s_canonical_bytes, defBody s_canonical_bytes, defScope s_canonical_bytes, [], []⟩) rfl)
  exact ⟨fd, ok_canonical_bytes F (He.free_ok hd.kin hd.ns (hd.a.fact 101 (f := .free "ord") rfl)) (D_canonical_lines hd), F.kp, F.binds fun _ _ _ _ _ _ us hl => match us, hl with | [_], _ => rfl⟩
theorem D_canonical_bytes (hd : Hd K mg base) : Df PX w K mg base CX0 2 "canonical_bytes" (sp_bytes (He.ga K "Table")) := by
  obtain ⟨fd, h1, h2, h3⟩ := F_canonical_bytes (w := w) hd
  exact ⟨_, fd, _, h1, (He.glo_ok hd.kin hd.ns (hd.a.fact 41 (f := .glo "canonical_bytes") rfl)), h2, h3⟩
theorem F_dealt (hd : Hd K mg base) : ∃ fd, FnOk PX w K mg base CX0 5 (He.ga K "dealt") fd ["table", "orders"] (sp_dealt K (He.ga K "Table")) ∧ KeepT K (He.ga K "dealt") ∧ Binds K fd ["table", "orders"] [] := by
  obtain ⟨fd, F⟩ := fun_of (st := s_dealt) (hd.n.def_ 50 (d := ⟨("dealt", none), "dealt", "dealt", defArgs s_dealt, defBody s_dealt, defScope s_dealt, [], []⟩) rfl)
  exact ⟨fd, ok_dealt (t_TbT hd) F (He.free_ok hd.kin hd.ns (hd.a.fact 106 (f := .free "zip") rfl)) (D_keys_of hd) (D_shuffled hd), F.kp, F.binds fun _ _ _ _ _ _ us hl => match us, hl with | [_, _], _ => rfl⟩
theorem D_dealt (hd : Hd K mg base) : Df PX w K mg base CX0 5 "dealt" (sp_dealt K (He.ga K "Table")) := by
  obtain ⟨fd, h1, h2, h3⟩ := F_dealt (w := w) hd
  exact ⟨_, fd, _, h1, (He.glo_ok hd.kin hd.ns (hd.a.fact 42 (f := .glo "dealt") rfl)), h2, h3⟩
theorem F_opened (hd : Hd K mg base) : ∃ fd, FnOk PX w K mg base CX0 4 (He.ga K "opened") fd ["table", "card"] (sp_opened (He.ga K "Table")) ∧ KeepT K (He.ga K "opened") ∧ Binds K fd ["table", "card"] [] := by
  obtain ⟨fd, F⟩ := fun_of (st := s_opened) (hd.n.def_ 51 (d := ⟨("opened", none), "opened", "opened", defArgs s_opened, defBody s_opened, defScope s_opened, [], []⟩) rfl)
  exact ⟨fd, ok_opened (t_TbT hd) F (D_keys_of hd) (D_unlocked hd), F.kp, F.binds fun _ _ _ _ _ _ us hl => match us, hl with | [_, _], _ => rfl⟩
theorem D_opened (hd : Hd K mg base) : Df PX w K mg base CX0 4 "opened" (sp_opened (He.ga K "Table")) := by
  obtain ⟨fd, h1, h2, h3⟩ := F_opened (w := w) hd
  exact ⟨_, fd, _, h1, (He.glo_ok hd.kin hd.ns (hd.a.fact 43 (f := .glo "opened") rfl)), h2, h3⟩
theorem F_deal_audit (hd : Hd K mg base) : ∃ fd, FnOk PX w K mg base CX0 5 (He.ga K "deal_audit") fd ["table", "revealed", "lists"] (sp_daudit K (He.ga K "Table")) ∧ KeepT K (He.ga K "deal_audit") ∧ Binds K fd ["table", "revealed", "lists"] [] := by
  obtain ⟨fd, F⟩ := fun_of (st := s_deal_audit) (hd.n.def_ 52 (d := ⟨("deal_audit", none), "deal_audit", "deal_audit", defArgs s_deal_audit, defBody s_deal_audit, defScope s_deal_audit, [], []⟩) rfl)
  exact ⟨fd, ok_deal_audit (t_TbT hd) F (He.free_ok hd.kin hd.ns (hd.a.fact 98 (f := .free "enumerate") rfl)) (D_error_count hd) (D_matching_order hd), F.kp, F.binds fun _ _ _ _ _ _ us hl => match us, hl with | [_, _, _], _ => rfl⟩
theorem D_deal_audit (hd : Hd K mg base) : Df PX w K mg base CX0 5 "deal_audit" (sp_daudit K (He.ga K "Table")) := by
  obtain ⟨fd, h1, h2, h3⟩ := F_deal_audit (w := w) hd
  exact ⟨_, fd, _, h1, (He.glo_ok hd.kin hd.ns (hd.a.fact 44 (f := .glo "deal_audit") rfl)), h2, h3⟩
theorem F_opening_audit (hd : Hd K mg base) : ∃ fd, FnOk PX w K mg base CX0 3 (He.ga K "opening_audit") fd ["table", "card", "revealed", "announced"] (sp_oaudit K (He.ga K "Table")) ∧ KeepT K (He.ga K "opening_audit") ∧ Binds K fd ["table", "card", "revealed", "announced"] [] := by
  obtain ⟨fd, F⟩ := fun_of (st := s_opening_audit) (hd.n.def_ 53 (d := ⟨("opening_audit", none), "opening_audit", "opening_audit", defArgs s_opening_audit, defBody s_opening_audit, defScope s_opening_audit, [], []⟩) rfl)
  exact ⟨fd, ok_opening_audit (t_TbT hd) F (He.free_ok hd.kin hd.ns (hd.a.fact 98 (f := .free "enumerate") rfl)) (D_locked hd), F.kp, F.binds fun _ _ _ _ _ _ us hl => match us, hl with | [_, _, _, _], _ => rfl⟩
theorem D_opening_audit (hd : Hd K mg base) : Df PX w K mg base CX0 3 "opening_audit" (sp_oaudit K (He.ga K "Table")) := by
  obtain ⟨fd, h1, h2, h3⟩ := F_opening_audit (w := w) hd
  exact ⟨_, fd, _, h1, (He.glo_ok hd.kin hd.ns (hd.a.fact 45 (f := .glo "opening_audit") rfl)), h2, h3⟩
theorem F_Token___init__ (hd : Hd K mg base) : ∃ fd, FnOk PX w K mg base CX0 1 (He.ma K (He.ga K "Token") "__init__") fd ["self", "kind", "value", "offset", "end"] (sp_tk_init (He.ga K "Token")) ∧ KeepT K (He.ma K (He.ga K "Token") "__init__") ∧ Binds K fd ["self", "kind", "value", "offset", "end"] [] := by
  obtain ⟨fd, F⟩ := fun_of (st := s_Token___init__) (hd.n.def_ 54 (d := ⟨("Token", some "__init__"), "__init__", "Token.__init__", defArgs s_Token___init__, defBody s_Token___init__, defScope s_Token___init__, [], []⟩) rfl)
  exact ⟨fd, ok_Token_init (t_TkT hd) F, F.kp, F.binds fun _ _ _ _ _ _ us hl => match us, hl with | [_, _, _, _, _], _ => rfl⟩
theorem K_Token (hd : Hd K mg base) : Mke PX w K mg base CX0 1 "Token" (He.ga K "Token") (sp_tk_init (He.ga K "Token")) := by
  obtain ⟨fd, h1, h2, h3⟩ := F_Token___init__ (w := w) hd
  exact ⟨_, fd, _, He.mkr_ok (hd.b.fact 18 (f := .mkr "Token") rfl), (He.glo_ok hd.kin hd.ns (hd.a.fact 86 (f := .glo "Token") rfl)), h1, h3⟩
theorem F_is_letter (hd : Hd K mg base) : ∃ fd, FnOk PX w K mg base CX0 1 (He.ga K "is_letter") fd ["byte"] (sp_pred Vbndal.isLetter) ∧ KeepT K (He.ga K "is_letter") ∧ Binds K fd ["byte"] [] := by
  obtain ⟨fd, F⟩ := fun_of (st := s_is_letter) (hd.n.def_ 55 (d := ⟨("is_letter", none), "is_letter", "is_letter", defArgs s_is_letter, defBody s_is_letter, defScope s_is_letter, [], []⟩) rfl)
  exact ⟨fd, ok_is_letter F (gv_int (He.int_ok hd.kin hd.ns (hd.a.fact 113 (f := .int "LETTER_A" (97)) rfl))) (gv_int (He.int_ok hd.kin hd.ns (hd.a.fact 114 (f := .int "LETTER_Z" (122)) rfl))), F.kp, F.binds fun _ _ _ _ _ _ us hl => match us, hl with | [_], _ => rfl⟩
theorem D_is_letter (hd : Hd K mg base) : Df PX w K mg base CX0 1 "is_letter" (sp_pred Vbndal.isLetter) := by
  obtain ⟨fd, h1, h2, h3⟩ := F_is_letter (w := w) hd
  exact ⟨_, fd, _, h1, (He.glo_ok hd.kin hd.ns (hd.a.fact 46 (f := .glo "is_letter") rfl)), h2, h3⟩
theorem F_is_digit (hd : Hd K mg base) : ∃ fd, FnOk PX w K mg base CX0 1 (He.ga K "is_digit") fd ["byte"] (sp_pred Vbndal.isDigit) ∧ KeepT K (He.ga K "is_digit") ∧ Binds K fd ["byte"] [] := by
  obtain ⟨fd, F⟩ := fun_of (st := s_is_digit) (hd.n.def_ 56 (d := ⟨("is_digit", none), "is_digit", "is_digit", defArgs s_is_digit, defBody s_is_digit, defScope s_is_digit, [], []⟩) rfl)
  exact ⟨fd, ok_is_digit F (gv_int (He.int_ok hd.kin hd.ns (hd.a.fact 115 (f := .int "DIGIT_0" (48)) rfl))) (gv_int (He.int_ok hd.kin hd.ns (hd.a.fact 116 (f := .int "DIGIT_9" (57)) rfl))), F.kp, F.binds fun _ _ _ _ _ _ us hl => match us, hl with | [_], _ => rfl⟩
theorem D_is_digit (hd : Hd K mg base) : Df PX w K mg base CX0 1 "is_digit" (sp_pred Vbndal.isDigit) := by
  obtain ⟨fd, h1, h2, h3⟩ := F_is_digit (w := w) hd
  exact ⟨_, fd, _, h1, (He.glo_ok hd.kin hd.ns (hd.a.fact 47 (f := .glo "is_digit") rfl)), h2, h3⟩
theorem t_hS (hd : Hd K mg base) : ∀ f sp, predS K f = some sp → Held PX w K mg base 1 f sp := by
  intro f sp h
  unfold predS at h
  by_cases c : f = He.ga K "is_letter"
  · rw [if_pos c] at h
    cases h
    subst c
    obtain ⟨fd, h1, h2, h3⟩ := F_is_letter (w := w) hd
    exact ⟨⟨fd, _, h1, h2, h3⟩⟩
  · rw [if_neg c] at h
    by_cases c2 : f = He.ga K "is_digit"
    · rw [if_pos c2] at h
      cases h
      subst c2
      obtain ⟨fd, h1, h2, h3⟩ := F_is_digit (w := w) hd
      exact ⟨⟨fd, _, h1, h2, h3⟩⟩
    · rw [if_neg c2] at h
      cases h
theorem F_run_end (hd : Hd K mg base) : ∃ fd, FnOk PX w K mg base CX0 2 (He.ga K "run_end") fd ["text", "start", "belongs"] (sp_run_end K (predS K)) ∧ KeepT K (He.ga K "run_end") ∧ Binds K fd ["text", "start", "belongs"] [] := by
  obtain ⟨fd, F⟩ := fun_of (st := s_run_end) (hd.n.def_ 57 (d := ⟨("run_end", none), "run_end", "run_end", defArgs s_run_end, defBody s_run_end, defScope s_run_end, [], []⟩) rfl)
  exact ⟨fd, ok_run_end (t_hS hd) F (He.free_ok hd.kin hd.ns (hd.a.fact 99 (f := .free "len") rfl)), F.kp, F.binds fun _ _ _ _ _ _ us hl => match us, hl with | [_, _, _], _ => rfl⟩
theorem D_run_end (hd : Hd K mg base) : Df PX w K mg base CX0 2 "run_end" (sp_run_end K (predS K)) := by
  obtain ⟨fd, h1, h2, h3⟩ := F_run_end (w := w) hd
  exact ⟨_, fd, _, h1, (He.glo_ok hd.kin hd.ns (hd.a.fact 48 (f := .glo "run_end") rfl)), h2, h3⟩
theorem F_word_token (hd : Hd K mg base) : ∃ fd, FnOk PX w K mg base CX0 3 (He.ga K "word_token") fd ["text", "start"] (sp_wtok K (He.ga K "Token")) ∧ KeepT K (He.ga K "word_token") ∧ Binds K fd ["text", "start"] [] := by
  obtain ⟨fd, F⟩ := fun_of (st := s_word_token) (hd.n.def_ 58 (d := ⟨("word_token", none), "word_token", "word_token", defArgs s_word_token, defBody s_word_token, defScope s_word_token, [], []⟩) rfl)
  exact ⟨fd, ok_word_token (t_hSL hd) F (D_run_end hd) (gv_ref (He.glo_ok hd.kin hd.ns (hd.a.fact 46 (f := .glo "is_letter") rfl))) (gv_int (He.int_ok hd.kin hd.ns (hd.a.fact 118 (f := .int "LONGEST_WORD" (8)) rfl))) (K_Token hd) (gv_str (He.str_ok hd.kin hd.ns (hd.a.fact 130 (f := .str "WORD" "word") rfl))) (gv_str (He.str_ok hd.kin hd.ns (hd.a.fact 133 (f := .str "INVALID" "invalid") rfl))) (gv_str (He.str_ok hd.kin hd.ns (hd.a.fact 135 (f := .str "LETTERS" "abcdefghijklmnopqrstuvwxyz") rfl))) (gv_int (He.int_ok hd.kin hd.ns (hd.a.fact 113 (f := .int "LETTER_A" (97)) rfl))), F.kp, F.binds fun _ _ _ _ _ _ us hl => match us, hl with | [_, _], _ => rfl⟩
theorem D_word_token (hd : Hd K mg base) : Df PX w K mg base CX0 3 "word_token" (sp_wtok K (He.ga K "Token")) := by
  obtain ⟨fd, h1, h2, h3⟩ := F_word_token (w := w) hd
  exact ⟨_, fd, _, h1, (He.glo_ok hd.kin hd.ns (hd.a.fact 49 (f := .glo "word_token") rfl)), h2, h3⟩
theorem F_number_token (hd : Hd K mg base) : ∃ fd, FnOk PX w K mg base CX0 3 (He.ga K "number_token") fd ["text", "start"] (sp_ntok K (He.ga K "Token")) ∧ KeepT K (He.ga K "number_token") ∧ Binds K fd ["text", "start"] [] := by
  obtain ⟨fd, F⟩ := fun_of (st := s_number_token) (hd.n.def_ 59 (d := ⟨("number_token", none), "number_token", "number_token", defArgs s_number_token, defBody s_number_token, defScope s_number_token, [], []⟩) rfl)
  exact ⟨fd, ok_number_token (t_hSD hd) F (D_run_end hd) (gv_ref (He.glo_ok hd.kin hd.ns (hd.a.fact 47 (f := .glo "is_digit") rfl))) (K_Token hd) (gv_str (He.str_ok hd.kin hd.ns (hd.a.fact 131 (f := .str "NUMBER" "number") rfl))) (gv_int (He.int_ok hd.kin hd.ns (hd.a.fact 119 (f := .int "LONGEST_NUMBER" (3)) rfl))) (gv_str (He.str_ok hd.kin hd.ns (hd.a.fact 133 (f := .str "INVALID" "invalid") rfl))) (gv_int (He.int_ok hd.kin hd.ns (hd.a.fact 115 (f := .int "DIGIT_0" (48)) rfl))), F.kp, F.binds fun _ _ _ _ _ _ us hl => match us, hl with | [_, _], _ => rfl⟩
theorem D_number_token (hd : Hd K mg base) : Df PX w K mg base CX0 3 "number_token" (sp_ntok K (He.ga K "Token")) := by
  obtain ⟨fd, h1, h2, h3⟩ := F_number_token (w := w) hd
  exact ⟨_, fd, _, h1, (He.glo_ok hd.kin hd.ns (hd.a.fact 50 (f := .glo "number_token") rfl)), h2, h3⟩
theorem F_token_at (hd : Hd K mg base) : ∃ fd, FnOk PX w K mg base CX0 4 (He.ga K "token_at") fd ["text", "start"] (sp_tokat K (He.ga K "Token")) ∧ KeepT K (He.ga K "token_at") ∧ Binds K fd ["text", "start"] [] := by
  obtain ⟨fd, F⟩ := fun_of (st := s_token_at) (hd.n.def_ 60 (d := ⟨("token_at", none), "token_at", "token_at", defArgs s_token_at, defBody s_token_at, defScope s_token_at, [], []⟩) rfl)
  exact ⟨fd, ok_token_at F (D_is_letter hd) (D_is_digit hd) (gv_int (He.int_ok hd.kin hd.ns (hd.a.fact 117 (f := .int "SEMICOLON_BYTE" (59)) rfl))) (K_Token hd) (gv_str (He.str_ok hd.kin hd.ns (hd.a.fact 133 (f := .str "INVALID" "invalid") rfl))) (D_word_token hd) (D_number_token hd) (gv_str (He.str_ok hd.kin hd.ns (hd.a.fact 132 (f := .str "SEMICOLON" "semicolon") rfl))), F.kp, F.binds fun _ _ _ _ _ _ us hl => match us, hl with | [_, _], _ => rfl⟩
theorem D_token_at (hd : Hd K mg base) : Df PX w K mg base CX0 4 "token_at" (sp_tokat K (He.ga K "Token")) := by
  obtain ⟨fd, h1, h2, h3⟩ := F_token_at (w := w) hd
  exact ⟨_, fd, _, h1, (He.glo_ok hd.kin hd.ns (hd.a.fact 51 (f := .glo "token_at") rfl)), h2, h3⟩
theorem F_tokens_of (hd : Hd K mg base) : ∃ fd, FnOk PX w K mg base CX0 5 (He.ga K "tokens_of") fd ["text"] (sp_toks K (He.ga K "Token")) ∧ KeepT K (He.ga K "tokens_of") ∧ Binds K fd ["text"] [] := by
  obtain ⟨fd, F⟩ := fun_of (st := s_tokens_of) (hd.n.def_ 61 (d := ⟨("tokens_of", none), "tokens_of", "tokens_of", defArgs s_tokens_of, defBody s_tokens_of, defScope s_tokens_of, [], []⟩) rfl)
  exact ⟨fd, ok_tokens_of (t_TkT hd) F (He.free_ok hd.kin hd.ns (hd.a.fact 99 (f := .free "len") rfl)) (gv_ref (He.glo_ok hd.kin hd.ns (hd.a.fact 93 (f := .glo "WHITE_SPACE") rfl))) (t_tWS hd) (K_Token hd) (gv_str (He.str_ok hd.kin hd.ns (hd.a.fact 134 (f := .str "END" "end") rfl))) (D_token_at hd), F.kp, F.binds fun _ _ _ _ _ _ us hl => match us, hl with | [_], _ => rfl⟩
theorem D_tokens_of (hd : Hd K mg base) : Df PX w K mg base CX0 5 "tokens_of" (sp_toks K (He.ga K "Token")) := by
  obtain ⟨fd, h1, h2, h3⟩ := F_tokens_of (w := w) hd
  exact ⟨_, fd, _, h1, (He.glo_ok hd.kin hd.ns (hd.a.fact 52 (f := .glo "tokens_of") rfl)), h2, h3⟩
theorem F_TokenReader___init__ (hd : Hd K mg base) : ∃ fd, FnOk PX w K mg base CX0 1 (He.ma K (He.ga K "TokenReader") "__init__") fd ["self", "tokens"] (sp_tr_init (He.ga K "TokenReader")) ∧ KeepT K (He.ma K (He.ga K "TokenReader") "__init__") ∧ Binds K fd ["self", "tokens"] [] := by
  obtain ⟨fd, F⟩ := fun_of (st := s_TokenReader___init__) (hd.n.def_ 62 (d := ⟨("TokenReader", some "__init__"), "__init__", "TokenReader.__init__", defArgs s_TokenReader___init__, defBody s_TokenReader___init__, defScope s_TokenReader___init__, [], []⟩) rfl)
  exact ⟨fd, ok_TokenReader_init (t_TrT hd) F, F.kp, F.binds fun _ _ _ _ _ _ us hl => match us, hl with | [_, _], _ => rfl⟩
theorem K_TokenReader (hd : Hd K mg base) : Mke PX w K mg base CX0 1 "TokenReader" (He.ga K "TokenReader") (sp_tr_init (He.ga K "TokenReader")) := by
  obtain ⟨fd, h1, h2, h3⟩ := F_TokenReader___init__ (w := w) hd
  exact ⟨_, fd, _, He.mkr_ok (hd.b.fact 22 (f := .mkr "TokenReader") rfl), (He.glo_ok hd.kin hd.ns (hd.a.fact 87 (f := .glo "TokenReader") rfl)), h1, h3⟩
theorem F_TokenReader_is_at (hd : Hd K mg base) : ∃ fd, FnOk PX w K mg base CX0 1 (He.ma K (He.ga K "TokenReader") "is_at") fd ["self", "kind"] (sp_is_at (He.ga K "TokenReader") (He.ga K "Token")) ∧ KeepT K (He.ma K (He.ga K "TokenReader") "is_at") ∧ Binds K fd ["self", "kind"] [] := by
  obtain ⟨fd, F⟩ := fun_of (st := s_TokenReader_is_at) (hd.n.def_ 63 (d := ⟨("TokenReader", some "is_at"), "is_at", "TokenReader.is_at", defArgs s_TokenReader_is_at, defBody s_TokenReader_is_at, defScope s_TokenReader_is_at, [], []⟩) rfl)
  exact ⟨fd, ok_is_at (t_TrT hd) (t_TkT hd) F, F.kp, F.binds fun _ _ _ _ _ _ us hl => match us, hl with | [_, _], _ => rfl⟩
theorem D_TokenReader_is_at (hd : Hd K mg base) : Mt PX w K mg base CX0 1 (He.ga K "TokenReader") "is_at" (sp_is_at (He.ga K "TokenReader") (He.ga K "Token")) := by
  obtain ⟨fd, h1, h2, h3⟩ := F_TokenReader_is_at (w := w) hd
  exact ⟨_, fd, _, He.cls_ok (hd.b.fact 19 (f := .cls "TokenReader") rfl), He.meth_ok (hd.b.fact 30 (f := .meth "TokenReader" "is_at") rfl), h1, h3⟩
theorem F_TokenReader_take (hd : Hd K mg base) : ∃ fd, FnOk PX w K mg base (L2.CX PX w) 3 (He.ma K (He.ga K "TokenReader") "take") fd ["self", "kind"] (sp_take (He.ga K "TokenReader") (He.ga K "Token") (He.ga K "InvalidText")) ∧ KeepT K (He.ma K (He.ga K "TokenReader") "take") ∧ Binds K fd ["self", "kind"] [] := by
  obtain ⟨fd, F⟩ := fun_of (st := s_TokenReader_take) (hd.n.def_ 64 (d := ⟨("TokenReader", some "take"), "take", "TokenReader.take", defArgs s_TokenReader_take, defBody s_TokenReader_take, defScope s_TokenReader_take, [], []⟩) rfl)
  exact ⟨fd, ok_take (t_TrT hd) (t_TkT hd) F (E_InvalidText hd) (gv_int (He.int_ok hd.kin hd.ns (hd.a.fact 120 (f := .int "NOT_ALLOWED" (1)) rfl))), F.kp, F.binds fun _ _ _ _ _ _ us hl => match us, hl with | [_, _], _ => rfl⟩
theorem D_TokenReader_take (hd : Hd K mg base) : Mt PX w K mg base (L2.CX PX w) 3 (He.ga K "TokenReader") "take" (sp_take (He.ga K "TokenReader") (He.ga K "Token") (He.ga K "InvalidText")) := by
  obtain ⟨fd, h1, h2, h3⟩ := F_TokenReader_take (w := w) hd
  exact ⟨_, fd, _, He.cls_ok (hd.b.fact 19 (f := .cls "TokenReader") rfl), He.meth_ok (hd.b.fact 31 (f := .meth "TokenReader" "take") rfl), h1, h3⟩
theorem F_TokenReader_take_keyword (hd : Hd K mg base) : ∃ fd, FnOk PX w K mg base (L2.CX PX w) 4 (He.ma K (He.ga K "TokenReader") "take_keyword") fd ["self", "word"] (sp_kw (He.ga K "TokenReader") (He.ga K "Token") (He.ga K "InvalidText")) ∧ KeepT K (He.ma K (He.ga K "TokenReader") "take_keyword") ∧ Binds K fd ["self", "word"] [] := by
  obtain ⟨fd, F⟩ := fun_of (st := s_TokenReader_take_keyword) (hd.n.def_ 65 (d := ⟨("TokenReader", some "take_keyword"), "take_keyword", "TokenReader.take_keyword", defArgs s_TokenReader_take_keyword, defBody s_TokenReader_take_keyword, defScope s_TokenReader_take_keyword, [], []⟩) rfl)
  exact ⟨fd, ok_take_keyword (t_TrT hd) (t_TkT hd) F (D_TokenReader_take hd) (gv_str (He.str_ok hd.kin hd.ns (hd.a.fact 130 (f := .str "WORD" "word") rfl))) (E_InvalidText hd) (gv_int (He.int_ok hd.kin hd.ns (hd.a.fact 120 (f := .int "NOT_ALLOWED" (1)) rfl))), F.kp, F.binds fun _ _ _ _ _ _ us hl => match us, hl with | [_, _], _ => rfl⟩
theorem D_TokenReader_take_keyword (hd : Hd K mg base) : Mt PX w K mg base (L2.CX PX w) 4 (He.ga K "TokenReader") "take_keyword" (sp_kw (He.ga K "TokenReader") (He.ga K "Token") (He.ga K "InvalidText")) := by
  obtain ⟨fd, h1, h2, h3⟩ := F_TokenReader_take_keyword (w := w) hd
  exact ⟨_, fd, _, He.cls_ok (hd.b.fact 19 (f := .cls "TokenReader") rfl), He.meth_ok (hd.b.fact 32 (f := .meth "TokenReader" "take_keyword") rfl), h1, h3⟩
theorem F_read_prime (hd : Hd K mg base) : ∃ fd, FnOk PX w K mg base (L2.CX PX w) 5 (He.ga K "read_prime") fd ["reader"] (sp_rprime (He.ga K "TokenReader") (He.ga K "Token") (He.ga K "InvalidText")) ∧ KeepT K (He.ga K "read_prime") ∧ Binds K fd ["reader"] [] := by
  obtain ⟨fd, F⟩ := fun_of (st := s_read_prime) (hd.n.def_ 66 (d := ⟨("read_prime", none), "read_prime", "read_prime", defArgs s_read_prime, defBody s_read_prime, defScope s_read_prime, [], []⟩) rfl)
  exact ⟨fd, ok_read_prime (t_TkT hd) F (D_TokenReader_take_keyword hd) (D_TokenReader_take hd) (gv_str (He.str_ok hd.kin hd.ns (hd.a.fact 131 (f := .str "NUMBER" "number") rfl))) (gv_str (He.str_ok hd.kin hd.ns (hd.a.fact 132 (f := .str "SEMICOLON" "semicolon") rfl))) (D_is_table_prime hd) (E_InvalidText hd) (gv_int (He.int_ok hd.kin hd.ns (hd.a.fact 122 (f := .int "WRONG_NUMBER" (4)) rfl))), F.kp, F.binds fun _ _ _ _ _ _ us hl => match us, hl with | [_], _ => rfl⟩
theorem D_read_prime (hd : Hd K mg base) : Df PX w K mg base (L2.CX PX w) 5 "read_prime" (sp_rprime (He.ga K "TokenReader") (He.ga K "Token") (He.ga K "InvalidText")) := by
  obtain ⟨fd, h1, h2, h3⟩ := F_read_prime (w := w) hd
  exact ⟨_, fd, _, h1, (He.glo_ok hd.kin hd.ns (hd.a.fact 53 (f := .glo "read_prime") rfl)), h2, h3⟩
theorem F_read_card (hd : Hd K mg base) : ∃ fd, FnOk PX w K mg base (L2.CX PX w) 4 (He.ga K "read_card") fd ["reader", "prime", "deck"] (sp_rcard K (He.ga K "TokenReader") (He.ga K "Token") (He.ga K "InvalidText")) ∧ KeepT K (He.ga K "read_card") ∧ Binds K fd ["reader", "prime", "deck"] [] := by
  obtain ⟨fd, F⟩ := fun_of (st := s_read_card) (hd.n.def_ 67 (d := ⟨("read_card", none), "read_card", "read_card", defArgs s_read_card, defBody s_read_card, defScope s_read_card, [], []⟩) rfl)
  exact ⟨fd, ok_read_card (t_TkT hd) F (D_TokenReader_take hd) (gv_str (He.str_ok hd.kin hd.ns (hd.a.fact 131 (f := .str "NUMBER" "number") rfl))) (D_is_card hd) (E_InvalidText hd) (gv_int (He.int_ok hd.kin hd.ns (hd.a.fact 122 (f := .int "WRONG_NUMBER" (4)) rfl))) (gv_int (He.int_ok hd.kin hd.ns (hd.a.fact 109 (f := .int "MOST_CARDS" (10)) rfl))) (gv_int (He.int_ok hd.kin hd.ns (hd.a.fact 121 (f := .int "REPEATED_OR_TOO_MANY" (3)) rfl))) (He.free_ok hd.kin hd.ns (hd.a.fact 99 (f := .free "len") rfl)), F.kp, F.binds fun _ _ _ _ _ _ us hl => match us, hl with | [_, _, _], _ => rfl⟩
theorem D_read_card (hd : Hd K mg base) : Df PX w K mg base (L2.CX PX w) 4 "read_card" (sp_rcard K (He.ga K "TokenReader") (He.ga K "Token") (He.ga K "InvalidText")) := by
  obtain ⟨fd, h1, h2, h3⟩ := F_read_card (w := w) hd
  exact ⟨_, fd, _, h1, (He.glo_ok hd.kin hd.ns (hd.a.fact 54 (f := .glo "read_card") rfl)), h2, h3⟩
theorem F_read_deck (hd : Hd K mg base) : ∃ fd, FnOk PX w K mg base (L2.CX PX w) 5 (He.ga K "read_deck") fd ["reader", "prime"] (sp_rdeck (He.ga K "TokenReader") (He.ga K "Token") (He.ga K "InvalidText")) ∧ KeepT K (He.ga K "read_deck") ∧ Binds K fd ["reader", "prime"] [] := by
  obtain ⟨fd, F⟩ := fun_of (st := s_read_deck) (hd.n.def_ 68 (d := ⟨("read_deck", none), "read_deck", "read_deck", defArgs s_read_deck, defBody s_read_deck, defScope s_read_deck, [], []⟩) rfl)
  exact ⟨fd, ok_read_deck F (D_TokenReader_take_keyword hd) (D_TokenReader_take hd) (D_TokenReader_is_at hd) (gv_str (He.str_ok hd.kin hd.ns (hd.a.fact 132 (f := .str "SEMICOLON" "semicolon") rfl))) (gv_int (He.int_ok hd.kin hd.ns (hd.a.fact 123 (f := .int "FEWEST_CARDS" (2)) rfl))) (gv_str (He.str_ok hd.kin hd.ns (hd.a.fact 131 (f := .str "NUMBER" "number") rfl))) (He.free_ok hd.kin hd.ns (hd.a.fact 99 (f := .free "len") rfl)) (D_read_card hd), F.kp, F.binds fun _ _ _ _ _ _ us hl => match us, hl with | [_, _], _ => rfl⟩
theorem D_read_deck (hd : Hd K mg base) : Df PX w K mg base (L2.CX PX w) 5 "read_deck" (sp_rdeck (He.ga K "TokenReader") (He.ga K "Token") (He.ga K "InvalidText")) := by
  obtain ⟨fd, h1, h2, h3⟩ := F_read_deck (w := w) hd
  exact ⟨_, fd, _, h1, (He.glo_ok hd.kin hd.ns (hd.a.fact 55 (f := .glo "read_deck") rfl)), h2, h3⟩
theorem F_read_name (hd : Hd K mg base) : ∃ fd, FnOk PX w K mg base (L2.CX PX w) 4 (He.ga K "read_name") fd ["reader", "players"] (sp_rname K (He.ga K "TokenReader") (He.ga K "Token") (He.ga K "InvalidText")) ∧ KeepT K (He.ga K "read_name") ∧ Binds K fd ["reader", "players"] [] := by
  obtain ⟨fd, F⟩ := fun_of (st := s_read_name) (hd.n.def_ 69 (d := ⟨("read_name", none), "read_name", "read_name", defArgs s_read_name, defBody s_read_name, defScope s_read_name, [], []⟩) rfl)
  exact ⟨fd, ok_read_name (t_TkT hd) F (D_TokenReader_take hd) (gv_str (He.str_ok hd.kin hd.ns (hd.a.fact 130 (f := .str "WORD" "word") rfl))) (gv_ref (He.glo_ok hd.kin hd.ns (hd.a.fact 94 (f := .glo "KEYWORDS") rfl))) (t_tKW hd) (E_InvalidText hd) (gv_int (He.int_ok hd.kin hd.ns (hd.a.fact 120 (f := .int "NOT_ALLOWED" (1)) rfl))) (gv_int (He.int_ok hd.kin hd.ns (hd.a.fact 124 (f := .int "MOST_PLAYERS" (4)) rfl))) (gv_int (He.int_ok hd.kin hd.ns (hd.a.fact 121 (f := .int "REPEATED_OR_TOO_MANY" (3)) rfl))) (He.free_ok hd.kin hd.ns (hd.a.fact 99 (f := .free "len") rfl)), F.kp, F.binds fun _ _ _ _ _ _ us hl => match us, hl with | [_, _], _ => rfl⟩
theorem D_read_name (hd : Hd K mg base) : Df PX w K mg base (L2.CX PX w) 4 "read_name" (sp_rname K (He.ga K "TokenReader") (He.ga K "Token") (He.ga K "InvalidText")) := by
  obtain ⟨fd, h1, h2, h3⟩ := F_read_name (w := w) hd
  exact ⟨_, fd, _, h1, (He.glo_ok hd.kin hd.ns (hd.a.fact 56 (f := .glo "read_name") rfl)), h2, h3⟩
theorem F_read_key (hd : Hd K mg base) : ∃ fd, FnOk PX w K mg base (L2.CX PX w) 5 (He.ga K "read_key") fd ["reader", "prime"] (sp_rkey (He.ga K "TokenReader") (He.ga K "Token") (He.ga K "InvalidText")) ∧ KeepT K (He.ga K "read_key") ∧ Binds K fd ["reader", "prime"] [] := by
  obtain ⟨fd, F⟩ := fun_of (st := s_read_key) (hd.n.def_ 70 (d := ⟨("read_key", none), "read_key", "read_key", defArgs s_read_key, defBody s_read_key, defScope s_read_key, [], []⟩) rfl)
  exact ⟨fd, ok_read_key (t_TkT hd) F (D_TokenReader_take_keyword hd) (D_TokenReader_take hd) (gv_str (He.str_ok hd.kin hd.ns (hd.a.fact 131 (f := .str "NUMBER" "number") rfl))) (D_is_key hd) (E_InvalidText hd) (gv_int (He.int_ok hd.kin hd.ns (hd.a.fact 122 (f := .int "WRONG_NUMBER" (4)) rfl))), F.kp, F.binds fun _ _ _ _ _ _ us hl => match us, hl with | [_, _], _ => rfl⟩
theorem D_read_key (hd : Hd K mg base) : Df PX w K mg base (L2.CX PX w) 5 "read_key" (sp_rkey (He.ga K "TokenReader") (He.ga K "Token") (He.ga K "InvalidText")) := by
  obtain ⟨fd, h1, h2, h3⟩ := F_read_key (w := w) hd
  exact ⟨_, fd, _, h1, (He.glo_ok hd.kin hd.ns (hd.a.fact 57 (f := .glo "read_key") rfl)), h2, h3⟩
theorem F_read_player (hd : Hd K mg base) : ∃ fd, FnOk PX w K mg base (L2.CX PX w) 6 (He.ga K "read_player") fd ["reader", "prime", "players"] (sp_rplayer K (He.ga K "TokenReader") (He.ga K "Token") (He.ga K "InvalidText")) ∧ KeepT K (He.ga K "read_player") ∧ Binds K fd ["reader", "prime", "players"] [] := by
  obtain ⟨fd, F⟩ := fun_of (st := s_read_player) (hd.n.def_ 71 (d := ⟨("read_player", none), "read_player", "read_player", defArgs s_read_player, defBody s_read_player, defScope s_read_player, [], []⟩) rfl)
  exact ⟨fd, ok_read_player F (D_TokenReader_take_keyword hd) (D_TokenReader_take hd) (D_read_name hd) (D_read_key hd) (gv_str (He.str_ok hd.kin hd.ns (hd.a.fact 132 (f := .str "SEMICOLON" "semicolon") rfl))), F.kp, F.binds fun _ _ _ _ _ _ us hl => match us, hl with | [_, _, _], _ => rfl⟩
theorem D_read_player (hd : Hd K mg base) : Df PX w K mg base (L2.CX PX w) 6 "read_player" (sp_rplayer K (He.ga K "TokenReader") (He.ga K "Token") (He.ga K "InvalidText")) := by
  obtain ⟨fd, h1, h2, h3⟩ := F_read_player (w := w) hd
  exact ⟨_, fd, _, h1, (He.glo_ok hd.kin hd.ns (hd.a.fact 58 (f := .glo "read_player") rfl)), h2, h3⟩
theorem F_read_table (hd : Hd K mg base) : ∃ fd, FnOk PX w K mg base (L2.CX PX w) 7 (He.ga K "read_table") fd ["text"] (sp_rtable K (He.ga K "Table") (He.ga K "InvalidText")) ∧ KeepT K (He.ga K "read_table") ∧ Binds K fd ["text"] [] := by
  obtain ⟨fd, F⟩ := fun_of (st := s_read_table) (hd.n.def_ 72 (d := ⟨("read_table", none), "read_table", "read_table", defArgs s_read_table, defBody s_read_table, defScope s_read_table, [], []⟩) rfl)
  exact ⟨fd, ok_read_table F (K_TokenReader hd) (D_read_prime hd) (D_read_deck hd) (D_TokenReader_is_at hd) (K_Table hd) (D_tokens_of hd) (gv_str (He.str_ok hd.kin hd.ns (hd.a.fact 134 (f := .str "END" "end") rfl))) (D_read_player hd), F.kp, F.binds fun _ _ _ _ _ _ us hl => match us, hl with | [_], _ => rfl⟩
theorem D_read_table (hd : Hd K mg base) : Df PX w K mg base (L2.CX PX w) 7 "read_table" (sp_rtable K (He.ga K "Table") (He.ga K "InvalidText")) := by
  obtain ⟨fd, h1, h2, h3⟩ := F_read_table (w := w) hd
  exact ⟨_, fd, _, h1, (He.glo_ok hd.kin hd.ns (hd.a.fact 59 (f := .glo "read_table") rfl)), h2, h3⟩
theorem F_Session___init__ (hd : Hd K mg base) : ∃ fd, FnOk PX w K mg base CX0 1 (He.ma K (He.ga K "Session") "__init__") fd ["self"] (sp_se_init (He.ga K "Session")) ∧ KeepT K (He.ma K (He.ga K "Session") "__init__") ∧ Binds K fd ["self"] [] := by
  obtain ⟨fd, F⟩ := fun_of (st := s_Session___init__) (hd.n.def_ 73 (d := ⟨("Session", some "__init__"), "__init__", "Session.__init__", defArgs s_Session___init__, defBody s_Session___init__, defScope s_Session___init__, [], []⟩) rfl)
  exact ⟨fd, ok_Session_init (t_SeT hd) F, F.kp, F.binds fun _ _ _ _ _ _ us hl => match us, hl with | [_], _ => rfl⟩
theorem K_Session (hd : Hd K mg base) : Mke PX w K mg base CX0 1 "Session" (He.ga K "Session") (sp_se_init (He.ga K "Session")) := by
  obtain ⟨fd, h1, h2, h3⟩ := F_Session___init__ (w := w) hd
  exact ⟨_, fd, _, He.mkr_ok (hd.b.fact 25 (f := .mkr "Session") rfl), (He.glo_ok hd.kin hd.ns (hd.a.fact 88 (f := .glo "Session") rfl)), h1, h3⟩
theorem F_needed_table (hd : Hd K mg base) : ∃ fd, FnOk PX w K mg base (L2.CX PX w) 1 (He.ga K "needed_table") fd ["session"] (sp_needed (He.ga K "Session") (He.ga K "Table") (He.ga K "NoTable")) ∧ KeepT K (He.ga K "needed_table") ∧ Binds K fd ["session"] [] := by
  obtain ⟨fd, F⟩ := fun_of (st := s_needed_table) (hd.n.def_ 74 (d := ⟨("needed_table", none), "needed_table", "needed_table", defArgs s_needed_table, defBody s_needed_table, defScope s_needed_table, [], []⟩) rfl)
  exact ⟨fd, ok_needed_table (t_SeT hd) F (E_NoTable hd), F.kp, F.binds fun _ _ _ _ _ _ us hl => match us, hl with | [_], _ => rfl⟩
theorem D_needed_table (hd : Hd K mg base) : Df PX w K mg base (L2.CX PX w) 1 "needed_table" (sp_needed (He.ga K "Session") (He.ga K "Table") (He.ga K "NoTable")) := by
  obtain ⟨fd, h1, h2, h3⟩ := F_needed_table (w := w) hd
  exact ⟨_, fd, _, h1, (He.glo_ok hd.kin hd.ns (hd.a.fact 60 (f := .glo "needed_table") rfl)), h2, h3⟩
theorem F_load_table (hd : Hd K mg base) : ∃ fd, FnOk PX w K mg base (L2.CX PX w) 8 (He.ga K "load_table") fd ["session", "call"] (sp_op K (He.ga K "Session") (He.ga K "Table") (He.ga K "Call") (He.ga K "NoTable") (He.ga K "WrongArgument") (He.ga K "NotInDeck") (He.ga K "InvalidText") 0 0 1) ∧ KeepT K (He.ga K "load_table") ∧ Binds K fd ["session", "call"] [] := by
  obtain ⟨fd, F⟩ := fun_of (st := s_load_table) (hd.n.def_ 75 (d := ⟨("load_table", none), "load_table", "load_table", defArgs s_load_table, defBody s_load_table, defScope s_load_table, [], []⟩) rfl)
  exact ⟨fd, ok_load_table (t_SeT hd) (t_CcT hd) (t_TbT hd) F (D_read_table hd) (D_checked_text hd) (He.free_ok hd.kin hd.ns (hd.a.fact 99 (f := .free "len") rfl)), F.kp, F.binds fun _ _ _ _ _ _ us hl => match us, hl with | [_, _], _ => rfl⟩
theorem D_load_table (hd : Hd K mg base) : Df PX w K mg base (L2.CX PX w) 8 "load_table" (sp_op K (He.ga K "Session") (He.ga K "Table") (He.ga K "Call") (He.ga K "NoTable") (He.ga K "WrongArgument") (He.ga K "NotInDeck") (He.ga K "InvalidText") 0 0 1) := by
  obtain ⟨fd, h1, h2, h3⟩ := F_load_table (w := w) hd
  exact ⟨_, fd, _, h1, (He.glo_ok hd.kin hd.ns (hd.a.fact 61 (f := .glo "load_table") rfl)), h2, h3⟩
theorem F_check_table (hd : Hd K mg base) : ∃ fd, FnOk PX w K mg base (L2.CX PX w) 8 (He.ga K "check_table") fd ["session", "call"] (sp_op K (He.ga K "Session") (He.ga K "Table") (He.ga K "Call") (He.ga K "NoTable") (He.ga K "WrongArgument") (He.ga K "NotInDeck") (He.ga K "InvalidText") 1 0 1) ∧ KeepT K (He.ga K "check_table") ∧ Binds K fd ["session", "call"] [] := by
  obtain ⟨fd, F⟩ := fun_of (st := s_check_table) (hd.n.def_ 76 (d := ⟨("check_table", none), "check_table", "check_table", defArgs s_check_table, defBody s_check_table, defScope s_check_table, [], []⟩) rfl)
  exact ⟨fd, ok_check_table (t_SeT hd) (t_CcT hd) (t_TbT hd) F (D_read_table hd) (D_checked_text hd), F.kp, F.binds fun _ _ _ _ _ _ us hl => match us, hl with | [_, _], _ => rfl⟩
theorem D_check_table (hd : Hd K mg base) : Df PX w K mg base (L2.CX PX w) 8 "check_table" (sp_op K (He.ga K "Session") (He.ga K "Table") (He.ga K "Call") (He.ga K "NoTable") (He.ga K "WrongArgument") (He.ga K "NotInDeck") (He.ga K "InvalidText") 1 0 1) := by
  obtain ⟨fd, h1, h2, h3⟩ := F_check_table (w := w) hd
  exact ⟨_, fd, _, h1, (He.glo_ok hd.kin hd.ns (hd.a.fact 62 (f := .glo "check_table") rfl)), h2, h3⟩
theorem F_print_table (hd : Hd K mg base) : ∃ fd, FnOk PX w K mg base (L2.CX PX w) 3 (He.ga K "print_table") fd ["session", "call"] (sp_op K (He.ga K "Session") (He.ga K "Table") (He.ga K "Call") (He.ga K "NoTable") (He.ga K "WrongArgument") (He.ga K "NotInDeck") (He.ga K "InvalidText") 2 0 0) ∧ KeepT K (He.ga K "print_table") ∧ Binds K fd ["session", "call"] [] := by
  obtain ⟨fd, F⟩ := fun_of (st := s_print_table) (hd.n.def_ 77 (d := ⟨("print_table", none), "print_table", "print_table", defArgs s_print_table, defBody s_print_table, defScope s_print_table, [], []⟩) rfl)
  exact ⟨fd, ok_print_table (t_SeT hd) (t_CcT hd) (t_TbT hd) F (D_canonical_bytes hd) (D_needed_table hd), F.kp, F.binds fun _ _ _ _ _ _ us hl => match us, hl with | [_, _], _ => rfl⟩
theorem D_print_table (hd : Hd K mg base) : Df PX w K mg base (L2.CX PX w) 3 "print_table" (sp_op K (He.ga K "Session") (He.ga K "Table") (He.ga K "Call") (He.ga K "NoTable") (He.ga K "WrongArgument") (He.ga K "NotInDeck") (He.ga K "InvalidText") 2 0 0) := by
  obtain ⟨fd, h1, h2, h3⟩ := F_print_table (w := w) hd
  exact ⟨_, fd, _, h1, (He.glo_ok hd.kin hd.ns (hd.a.fact 63 (f := .glo "print_table") rfl)), h2, h3⟩
theorem F_status (hd : Hd K mg base) : ∃ fd, FnOk PX w K mg base (L2.CX PX w) 2 (He.ga K "status") fd ["session", "call"] (sp_op K (He.ga K "Session") (He.ga K "Table") (He.ga K "Call") (He.ga K "NoTable") (He.ga K "WrongArgument") (He.ga K "NotInDeck") (He.ga K "InvalidText") 3 0 0) ∧ KeepT K (He.ga K "status") ∧ Binds K fd ["session", "call"] [] := by
  obtain ⟨fd, F⟩ := fun_of (st := s_status) (hd.n.def_ 78 (d := ⟨("status", none), "status", "status", defArgs s_status, defBody s_status, defScope s_status, [], []⟩) rfl)
  exact ⟨fd, ok_status (t_SeT hd) (t_CcT hd) (t_TbT hd) F (D_needed_table hd) (D_key_modulus hd) (He.free_ok hd.kin hd.ns (hd.a.fact 99 (f := .free "len") rfl)), F.kp, F.binds fun _ _ _ _ _ _ us hl => match us, hl with | [_, _], _ => rfl⟩
theorem D_status (hd : Hd K mg base) : Df PX w K mg base (L2.CX PX w) 2 "status" (sp_op K (He.ga K "Session") (He.ga K "Table") (He.ga K "Call") (He.ga K "NoTable") (He.ga K "WrongArgument") (He.ga K "NotInDeck") (He.ga K "InvalidText") 3 0 0) := by
  obtain ⟨fd, h1, h2, h3⟩ := F_status (w := w) hd
  exact ⟨_, fd, _, h1, (He.glo_ok hd.kin hd.ns (hd.a.fact 64 (f := .glo "status") rfl)), h2, h3⟩
theorem F_all_cards (hd : Hd K mg base) : ∃ fd, FnOk PX w K mg base (L2.CX PX w) 5 (He.ga K "all_cards") fd ["session", "call"] (sp_op K (He.ga K "Session") (He.ga K "Table") (He.ga K "Call") (He.ga K "NoTable") (He.ga K "WrongArgument") (He.ga K "NotInDeck") (He.ga K "InvalidText") 4 0 0) ∧ KeepT K (He.ga K "all_cards") ∧ Binds K fd ["session", "call"] [] := by
  obtain ⟨fd, F⟩ := fun_of (st := s_all_cards) (hd.n.def_ 79 (d := ⟨("all_cards", none), "all_cards", "all_cards", defArgs s_all_cards, defBody s_all_cards, defScope s_all_cards, [], []⟩) rfl)
  exact ⟨fd, ok_all_cards (t_SeT hd) (t_CcT hd) (t_TbT hd) F (D_cards_of hd) (D_needed_table hd) (He.free_ok hd.kin hd.ns (hd.a.fact 99 (f := .free "len") rfl)), F.kp, F.binds fun _ _ _ _ _ _ us hl => match us, hl with | [_, _], _ => rfl⟩
theorem D_all_cards (hd : Hd K mg base) : Df PX w K mg base (L2.CX PX w) 5 "all_cards" (sp_op K (He.ga K "Session") (He.ga K "Table") (He.ga K "Call") (He.ga K "NoTable") (He.ga K "WrongArgument") (He.ga K "NotInDeck") (He.ga K "InvalidText") 4 0 0) := by
  obtain ⟨fd, h1, h2, h3⟩ := F_all_cards (w := w) hd
  exact ⟨_, fd, _, h1, (He.glo_ok hd.kin hd.ns (hd.a.fact 65 (f := .glo "all_cards") rfl)), h2, h3⟩
theorem F_lock (hd : Hd K mg base) : ∃ fd, FnOk PX w K mg base (L2.CX PX w) 5 (He.ga K "lock") fd ["session", "call"] (sp_op K (He.ga K "Session") (He.ga K "Table") (He.ga K "Call") (He.ga K "NoTable") (He.ga K "WrongArgument") (He.ga K "NotInDeck") (He.ga K "InvalidText") 5 2 0) ∧ KeepT K (He.ga K "lock") ∧ Binds K fd ["session", "call"] [] := by
  obtain ⟨fd, F⟩ := fun_of (st := s_lock) (hd.n.def_ 80 (d := ⟨("lock", none), "lock", "lock", defArgs s_lock, defBody s_lock, defScope s_lock, [], []⟩) rfl)
  exact ⟨fd, ok_lock (t_SeT hd) (t_CcT hd) (t_TbT hd) F (D_checked_card hd) (D_checked_key hd) (D_needed_table hd) (D_locked hd), F.kp, F.binds fun _ _ _ _ _ _ us hl => match us, hl with | [_, _], _ => rfl⟩
theorem D_lock (hd : Hd K mg base) : Df PX w K mg base (L2.CX PX w) 5 "lock" (sp_op K (He.ga K "Session") (He.ga K "Table") (He.ga K "Call") (He.ga K "NoTable") (He.ga K "WrongArgument") (He.ga K "NotInDeck") (He.ga K "InvalidText") 5 2 0) := by
  obtain ⟨fd, h1, h2, h3⟩ := F_lock (w := w) hd
  exact ⟨_, fd, _, h1, (He.glo_ok hd.kin hd.ns (hd.a.fact 66 (f := .glo "lock") rfl)), h2, h3⟩
theorem F_unlock (hd : Hd K mg base) : ∃ fd, FnOk PX w K mg base (L2.CX PX w) 5 (He.ga K "unlock") fd ["session", "call"] (sp_op K (He.ga K "Session") (He.ga K "Table") (He.ga K "Call") (He.ga K "NoTable") (He.ga K "WrongArgument") (He.ga K "NotInDeck") (He.ga K "InvalidText") 6 2 0) ∧ KeepT K (He.ga K "unlock") ∧ Binds K fd ["session", "call"] [] := by
  obtain ⟨fd, F⟩ := fun_of (st := s_unlock) (hd.n.def_ 81 (d := ⟨("unlock", none), "unlock", "unlock", defArgs s_unlock, defBody s_unlock, defScope s_unlock, [], []⟩) rfl)
  exact ⟨fd, ok_unlock (t_SeT hd) (t_CcT hd) (t_TbT hd) F (D_checked_card hd) (D_checked_key hd) (D_needed_table hd) (D_unlocked hd), F.kp, F.binds fun _ _ _ _ _ _ us hl => match us, hl with | [_, _], _ => rfl⟩
theorem D_unlock (hd : Hd K mg base) : Df PX w K mg base (L2.CX PX w) 5 "unlock" (sp_op K (He.ga K "Session") (He.ga K "Table") (He.ga K "Call") (He.ga K "NoTable") (He.ga K "WrongArgument") (He.ga K "NotInDeck") (He.ga K "InvalidText") 6 2 0) := by
  obtain ⟨fd, h1, h2, h3⟩ := F_unlock (w := w) hd
  exact ⟨_, fd, _, h1, (He.glo_ok hd.kin hd.ns (hd.a.fact 67 (f := .glo "unlock") rfl)), h2, h3⟩
theorem F_inverse_key (hd : Hd K mg base) : ∃ fd, FnOk PX w K mg base (L2.CX PX w) 4 (He.ga K "inverse_key") fd ["session", "call"] (sp_op K (He.ga K "Session") (He.ga K "Table") (He.ga K "Call") (He.ga K "NoTable") (He.ga K "WrongArgument") (He.ga K "NotInDeck") (He.ga K "InvalidText") 7 1 0) ∧ KeepT K (He.ga K "inverse_key") ∧ Binds K fd ["session", "call"] [] := by
  obtain ⟨fd, F⟩ := fun_of (st := s_inverse_key) (hd.n.def_ 82 (d := ⟨("inverse_key", none), "inverse_key", "inverse_key", defArgs s_inverse_key, defBody s_inverse_key, defScope s_inverse_key, [], []⟩) rfl)
  exact ⟨fd, ok_inverse_key (t_SeT hd) (t_CcT hd) (t_TbT hd) F (D_needed_table hd) (D_inverse_of hd) (D_checked_key hd), F.kp, F.binds fun _ _ _ _ _ _ us hl => match us, hl with | [_, _], _ => rfl⟩
theorem D_inverse_key (hd : Hd K mg base) : Df PX w K mg base (L2.CX PX w) 4 "inverse_key" (sp_op K (He.ga K "Session") (He.ga K "Table") (He.ga K "Call") (He.ga K "NoTable") (He.ga K "WrongArgument") (He.ga K "NotInDeck") (He.ga K "InvalidText") 7 1 0) := by
  obtain ⟨fd, h1, h2, h3⟩ := F_inverse_key (w := w) hd
  exact ⟨_, fd, _, h1, (He.glo_ok hd.kin hd.ns (hd.a.fact 68 (f := .glo "inverse_key") rfl)), h2, h3⟩
theorem F_joint_key (hd : Hd K mg base) : ∃ fd, FnOk PX w K mg base (L2.CX PX w) 5 (He.ga K "joint_key") fd ["session", "call"] (sp_op K (He.ga K "Session") (He.ga K "Table") (He.ga K "Call") (He.ga K "NoTable") (He.ga K "WrongArgument") (He.ga K "NotInDeck") (He.ga K "InvalidText") 8 0 1) ∧ KeepT K (He.ga K "joint_key") ∧ Binds K fd ["session", "call"] [] := by
  obtain ⟨fd, F⟩ := fun_of (st := s_joint_key) (hd.n.def_ 83 (d := ⟨("joint_key", none), "joint_key", "joint_key", defArgs s_joint_key, defBody s_joint_key, defScope s_joint_key, [], []⟩) rfl)
  exact ⟨fd, ok_joint_key (t_SeT hd) (t_CcT hd) (t_TbT hd) F (D_needed_table hd) (D_joint_of hd) (D_checked_keys hd), F.kp, F.binds fun _ _ _ _ _ _ us hl => match us, hl with | [_, _], _ => rfl⟩
theorem D_joint_key (hd : Hd K mg base) : Df PX w K mg base (L2.CX PX w) 5 "joint_key" (sp_op K (He.ga K "Session") (He.ga K "Table") (He.ga K "Call") (He.ga K "NoTable") (He.ga K "WrongArgument") (He.ga K "NotInDeck") (He.ga K "InvalidText") 8 0 1) := by
  obtain ⟨fd, h1, h2, h3⟩ := F_joint_key (w := w) hd
  exact ⟨_, fd, _, h1, (He.glo_ok hd.kin hd.ns (hd.a.fact 69 (f := .glo "joint_key") rfl)), h2, h3⟩
theorem F_check_lock (hd : Hd K mg base) : ∃ fd, FnOk PX w K mg base (L2.CX PX w) 5 (He.ga K "check_lock") fd ["session", "call"] (sp_op K (He.ga K "Session") (He.ga K "Table") (He.ga K "Call") (He.ga K "NoTable") (He.ga K "WrongArgument") (He.ga K "NotInDeck") (He.ga K "InvalidText") 9 3 0) ∧ KeepT K (He.ga K "check_lock") ∧ Binds K fd ["session", "call"] [] := by
  obtain ⟨fd, F⟩ := fun_of (st := s_check_lock) (hd.n.def_ 84 (d := ⟨("check_lock", none), "check_lock", "check_lock", defArgs s_check_lock, defBody s_check_lock, defScope s_check_lock, [], []⟩) rfl)
  exact ⟨fd, ok_check_lock (t_SeT hd) (t_CcT hd) (t_TbT hd) F (D_checked_card hd) (D_checked_key hd) (D_needed_table hd) (D_locked hd), F.kp, F.binds fun _ _ _ _ _ _ us hl => match us, hl with | [_, _], _ => rfl⟩
theorem D_check_lock (hd : Hd K mg base) : Df PX w K mg base (L2.CX PX w) 5 "check_lock" (sp_op K (He.ga K "Session") (He.ga K "Table") (He.ga K "Call") (He.ga K "NoTable") (He.ga K "WrongArgument") (He.ga K "NotInDeck") (He.ga K "InvalidText") 9 3 0) := by
  obtain ⟨fd, h1, h2, h3⟩ := F_check_lock (w := w) hd
  exact ⟨_, fd, _, h1, (He.glo_ok hd.kin hd.ns (hd.a.fact 70 (f := .glo "check_lock") rfl)), h2, h3⟩
theorem F_shuffle_row (hd : Hd K mg base) : ∃ fd, FnOk PX w K mg base (L2.CX PX w) 6 (He.ga K "shuffle_row") fd ["session", "call"] (sp_op K (He.ga K "Session") (He.ga K "Table") (He.ga K "Call") (He.ga K "NoTable") (He.ga K "WrongArgument") (He.ga K "NotInDeck") (He.ga K "InvalidText") 10 1 2) ∧ KeepT K (He.ga K "shuffle_row") ∧ Binds K fd ["session", "call"] [] := by
  obtain ⟨fd, F⟩ := fun_of (st := s_shuffle_row) (hd.n.def_ 85 (d := ⟨("shuffle_row", none), "shuffle_row", "shuffle_row", defArgs s_shuffle_row, defBody s_shuffle_row, defScope s_shuffle_row, [], []⟩) rfl)
  exact ⟨fd, ok_shuffle_row (t_SeT hd) (t_CcT hd) (t_TbT hd) F (D_checked_key hd) (D_checked_row hd) (D_checked_order hd) (D_shuffled hd) (D_needed_table hd) (He.free_ok hd.kin hd.ns (hd.a.fact 99 (f := .free "len") rfl)), F.kp, F.binds fun _ _ _ _ _ _ us hl => match us, hl with | [_, _], _ => rfl⟩
theorem D_shuffle_row (hd : Hd K mg base) : Df PX w K mg base (L2.CX PX w) 6 "shuffle_row" (sp_op K (He.ga K "Session") (He.ga K "Table") (He.ga K "Call") (He.ga K "NoTable") (He.ga K "WrongArgument") (He.ga K "NotInDeck") (He.ga K "InvalidText") 10 1 2) := by
  obtain ⟨fd, h1, h2, h3⟩ := F_shuffle_row (w := w) hd
  exact ⟨_, fd, _, h1, (He.glo_ok hd.kin hd.ns (hd.a.fact 71 (f := .glo "shuffle_row") rfl)), h2, h3⟩
theorem F_check_shuffle (hd : Hd K mg base) : ∃ fd, FnOk PX w K mg base (L2.CX PX w) 6 (He.ga K "check_shuffle") fd ["session", "call"] (sp_op K (He.ga K "Session") (He.ga K "Table") (He.ga K "Call") (He.ga K "NoTable") (He.ga K "WrongArgument") (He.ga K "NotInDeck") (He.ga K "InvalidText") 11 1 2) ∧ KeepT K (He.ga K "check_shuffle") ∧ Binds K fd ["session", "call"] [] := by
  obtain ⟨fd, F⟩ := fun_of (st := s_check_shuffle) (hd.n.def_ 86 (d := ⟨("check_shuffle", none), "check_shuffle", "check_shuffle", defArgs s_check_shuffle, defBody s_check_shuffle, defScope s_check_shuffle, [], []⟩) rfl)
  exact ⟨fd, ok_check_shuffle (t_SeT hd) (t_CcT hd) (t_TbT hd) F (D_checked_key hd) (D_checked_row hd) (D_checked_cards hd) (D_error_count hd) (D_needed_table hd) (He.free_ok hd.kin hd.ns (hd.a.fact 99 (f := .free "len") rfl)) (D_matching_order hd), F.kp, F.binds fun _ _ _ _ _ _ us hl => match us, hl with | [_, _], _ => rfl⟩
theorem D_check_shuffle (hd : Hd K mg base) : Df PX w K mg base (L2.CX PX w) 6 "check_shuffle" (sp_op K (He.ga K "Session") (He.ga K "Table") (He.ga K "Call") (He.ga K "NoTable") (He.ga K "WrongArgument") (He.ga K "NotInDeck") (He.ga K "InvalidText") 11 1 2) := by
  obtain ⟨fd, h1, h2, h3⟩ := F_check_shuffle (w := w) hd
  exact ⟨_, fd, _, h1, (He.glo_ok hd.kin hd.ns (hd.a.fact 72 (f := .glo "check_shuffle") rfl)), h2, h3⟩
theorem F_check_symmetry (hd : Hd K mg base) : ∃ fd, FnOk PX w K mg base (L2.CX PX w) 6 (He.ga K "check_symmetry") fd ["session", "call"] (sp_op K (He.ga K "Session") (He.ga K "Table") (He.ga K "Call") (He.ga K "NoTable") (He.ga K "WrongArgument") (He.ga K "NotInDeck") (He.ga K "InvalidText") 12 1 1) ∧ KeepT K (He.ga K "check_symmetry") ∧ Binds K fd ["session", "call"] [] := by
  obtain ⟨fd, F⟩ := fun_of (st := s_check_symmetry) (hd.n.def_ 87 (d := ⟨("check_symmetry", none), "check_symmetry", "check_symmetry", defArgs s_check_symmetry, defBody s_check_symmetry, defScope s_check_symmetry, [], []⟩) rfl)
  exact ⟨fd, ok_check_symmetry (t_SeT hd) (t_CcT hd) (t_TbT hd) F (D_checked_key hd) (D_checked_row hd) (D_needed_table hd) (D_error_count hd) (D_matching_order hd), F.kp, F.binds fun _ _ _ _ _ _ us hl => match us, hl with | [_, _], _ => rfl⟩
theorem D_check_symmetry (hd : Hd K mg base) : Df PX w K mg base (L2.CX PX w) 6 "check_symmetry" (sp_op K (He.ga K "Session") (He.ga K "Table") (He.ga K "Call") (He.ga K "NoTable") (He.ga K "WrongArgument") (He.ga K "NotInDeck") (He.ga K "InvalidText") 12 1 1) := by
  obtain ⟨fd, h1, h2, h3⟩ := F_check_symmetry (w := w) hd
  exact ⟨_, fd, _, h1, (He.glo_ok hd.kin hd.ns (hd.a.fact 73 (f := .glo "check_symmetry") rfl)), h2, h3⟩
theorem F_audit_deal (hd : Hd K mg base) : ∃ fd, FnOk PX w K mg base (L2.CX PX w) 7 (He.ga K "audit_deal") fd ["session", "call"] (sp_op K (He.ga K "Session") (He.ga K "Table") (He.ga K "Call") (He.ga K "NoTable") (He.ga K "WrongArgument") (He.ga K "NotInDeck") (He.ga K "InvalidText") 13 0 2) ∧ KeepT K (He.ga K "audit_deal") ∧ Binds K fd ["session", "call"] [] := by
  obtain ⟨fd, F⟩ := fun_of (st := s_audit_deal) (hd.n.def_ 88 (d := ⟨("audit_deal", none), "audit_deal", "audit_deal", defArgs s_audit_deal, defBody s_audit_deal, defScope s_audit_deal, [], []⟩) rfl)
  exact ⟨fd, ok_audit_deal (t_SeT hd) (t_CcT hd) (t_TbT hd) F (D_needed_table hd) (D_checked_revealed hd) (D_checked_lists hd) (D_deal_audit hd), F.kp, F.binds fun _ _ _ _ _ _ us hl => match us, hl with | [_, _], _ => rfl⟩
theorem D_audit_deal (hd : Hd K mg base) : Df PX w K mg base (L2.CX PX w) 7 "audit_deal" (sp_op K (He.ga K "Session") (He.ga K "Table") (He.ga K "Call") (He.ga K "NoTable") (He.ga K "WrongArgument") (He.ga K "NotInDeck") (He.ga K "InvalidText") 13 0 2) := by
  obtain ⟨fd, h1, h2, h3⟩ := F_audit_deal (w := w) hd
  exact ⟨_, fd, _, h1, (He.glo_ok hd.kin hd.ns (hd.a.fact 74 (f := .glo "audit_deal") rfl)), h2, h3⟩
theorem F_remaining_orders (hd : Hd K mg base) : ∃ fd, FnOk PX w K mg base (L2.CX PX w) 6 (He.ga K "remaining_orders") fd ["session", "call"] (sp_op K (He.ga K "Session") (He.ga K "Table") (He.ga K "Call") (He.ga K "NoTable") (He.ga K "WrongArgument") (He.ga K "NotInDeck") (He.ga K "InvalidText") 14 0 3) ∧ KeepT K (He.ga K "remaining_orders") ∧ Binds K fd ["session", "call"] [] := by
  obtain ⟨fd, F⟩ := fun_of (st := s_remaining_orders) (hd.n.def_ 89 (d := ⟨("remaining_orders", none), "remaining_orders", "remaining_orders", defArgs s_remaining_orders, defBody s_remaining_orders, defScope s_remaining_orders, [], []⟩) rfl)
  exact ⟨fd, ok_remaining_orders (t_SeT hd) (t_CcT hd) (t_TbT hd) F (D_checked_row hd) (D_checked_cards hd) (D_checked_shown hd) (He.free_ok hd.kin hd.ns (hd.a.fact 97 (f := .free "any") rfl)) (D_needed_table hd) (He.free_ok hd.kin hd.ns (hd.a.fact 99 (f := .free "len") rfl)) (D_unlocked hd) (D_remaining_count hd), F.kp, F.binds fun _ _ _ _ _ _ us hl => match us, hl with | [_, _], _ => rfl⟩
theorem D_remaining_orders (hd : Hd K mg base) : Df PX w K mg base (L2.CX PX w) 6 "remaining_orders" (sp_op K (He.ga K "Session") (He.ga K "Table") (He.ga K "Call") (He.ga K "NoTable") (He.ga K "WrongArgument") (He.ga K "NotInDeck") (He.ga K "InvalidText") 14 0 3) := by
  obtain ⟨fd, h1, h2, h3⟩ := F_remaining_orders (w := w) hd
  exact ⟨_, fd, _, h1, (He.glo_ok hd.kin hd.ns (hd.a.fact 75 (f := .glo "remaining_orders") rfl)), h2, h3⟩
theorem F_deal (hd : Hd K mg base) : ∃ fd, FnOk PX w K mg base (L2.CX PX w) 6 (He.ga K "deal") fd ["session", "call"] (sp_op K (He.ga K "Session") (He.ga K "Table") (He.ga K "Call") (He.ga K "NoTable") (He.ga K "WrongArgument") (He.ga K "NotInDeck") (He.ga K "InvalidText") 15 0 1) ∧ KeepT K (He.ga K "deal") ∧ Binds K fd ["session", "call"] [] := by
  obtain ⟨fd, F⟩ := fun_of (st := s_deal) (hd.n.def_ 90 (d := ⟨("deal", none), "deal", "deal", defArgs s_deal, defBody s_deal, defScope s_deal, [], []⟩) rfl)
  exact ⟨fd, ok_deal (t_SeT hd) (t_CcT hd) (t_TbT hd) F (D_needed_table hd) (D_dealt hd) (D_checked_orders hd), F.kp, F.binds fun _ _ _ _ _ _ us hl => match us, hl with | [_, _], _ => rfl⟩
theorem D_deal (hd : Hd K mg base) : Df PX w K mg base (L2.CX PX w) 6 "deal" (sp_op K (He.ga K "Session") (He.ga K "Table") (He.ga K "Call") (He.ga K "NoTable") (He.ga K "WrongArgument") (He.ga K "NotInDeck") (He.ga K "InvalidText") 15 0 1) := by
  obtain ⟨fd, h1, h2, h3⟩ := F_deal (w := w) hd
  exact ⟨_, fd, _, h1, (He.glo_ok hd.kin hd.ns (hd.a.fact 76 (f := .glo "deal") rfl)), h2, h3⟩
theorem F_open_card (hd : Hd K mg base) : ∃ fd, FnOk PX w K mg base (L2.CX PX w) 6 (He.ga K "open_card") fd ["session", "call"] (sp_op K (He.ga K "Session") (He.ga K "Table") (He.ga K "Call") (He.ga K "NoTable") (He.ga K "WrongArgument") (He.ga K "NotInDeck") (He.ga K "InvalidText") 16 1 1) ∧ KeepT K (He.ga K "open_card") ∧ Binds K fd ["session", "call"] [] := by
  obtain ⟨fd, F⟩ := fun_of (st := s_open_card) (hd.n.def_ 91 (d := ⟨("open_card", none), "open_card", "open_card", defArgs s_open_card, defBody s_open_card, defScope s_open_card, [], []⟩) rfl)
  exact ⟨fd, ok_open_card (t_SeT hd) (t_CcT hd) (t_TbT hd) F (D_needed_table hd) (D_checked_position hd) (D_checked_cards hd) (D_opened hd) (He.free_ok hd.kin hd.ns (hd.a.fact 99 (f := .free "len") rfl)) (E_NotInDeck hd), F.kp, F.binds fun _ _ _ _ _ _ us hl => match us, hl with | [_, _], _ => rfl⟩
theorem D_open_card (hd : Hd K mg base) : Df PX w K mg base (L2.CX PX w) 6 "open_card" (sp_op K (He.ga K "Session") (He.ga K "Table") (He.ga K "Call") (He.ga K "NoTable") (He.ga K "WrongArgument") (He.ga K "NotInDeck") (He.ga K "InvalidText") 16 1 1) := by
  obtain ⟨fd, h1, h2, h3⟩ := F_open_card (w := w) hd
  exact ⟨_, fd, _, h1, (He.glo_ok hd.kin hd.ns (hd.a.fact 77 (f := .glo "open_card") rfl)), h2, h3⟩
theorem F_audit_opening (hd : Hd K mg base) : ∃ fd, FnOk PX w K mg base (L2.CX PX w) 7 (He.ga K "audit_opening") fd ["session", "call"] (sp_op K (He.ga K "Session") (He.ga K "Table") (He.ga K "Call") (He.ga K "NoTable") (He.ga K "WrongArgument") (He.ga K "NotInDeck") (He.ga K "InvalidText") 17 1 3) ∧ KeepT K (He.ga K "audit_opening") ∧ Binds K fd ["session", "call"] [] := by
  obtain ⟨fd, F⟩ := fun_of (st := s_audit_opening) (hd.n.def_ 92 (d := ⟨("audit_opening", none), "audit_opening", "audit_opening", defArgs s_audit_opening, defBody s_audit_opening, defScope s_audit_opening, [], []⟩) rfl)
  exact ⟨fd, ok_audit_opening (t_SeT hd) (t_CcT hd) (t_TbT hd) F (D_needed_table hd) (D_checked_position hd) (D_checked_revealed hd) (D_checked_cards hd) (D_checked_announced hd) (D_opening_audit hd) (He.free_ok hd.kin hd.ns (hd.a.fact 99 (f := .free "len") rfl)), F.kp, F.binds fun _ _ _ _ _ _ us hl => match us, hl with | [_, _], _ => rfl⟩
theorem D_audit_opening (hd : Hd K mg base) : Df PX w K mg base (L2.CX PX w) 7 "audit_opening" (sp_op K (He.ga K "Session") (He.ga K "Table") (He.ga K "Call") (He.ga K "NoTable") (He.ga K "WrongArgument") (He.ga K "NotInDeck") (He.ga K "InvalidText") 17 1 3) := by
  obtain ⟨fd, h1, h2, h3⟩ := F_audit_opening (w := w) hd
  exact ⟨_, fd, _, h1, (He.glo_ok hd.kin hd.ns (hd.a.fact 78 (f := .glo "audit_opening") rfl)), h2, h3⟩
theorem F_raise_number (hd : Hd K mg base) : ∃ fd, FnOk PX w K mg base (L2.CX PX w) 3 (He.ga K "raise_number") fd ["session", "call"] (sp_op K (He.ga K "Session") (He.ga K "Table") (He.ga K "Call") (He.ga K "NoTable") (He.ga K "WrongArgument") (He.ga K "NotInDeck") (He.ga K "InvalidText") 18 2 0) ∧ KeepT K (He.ga K "raise_number") ∧ Binds K fd ["session", "call"] [] := by
  obtain ⟨fd, F⟩ := fun_of (st := s_raise_number) (hd.n.def_ 93 (d := ⟨("raise_number", none), "raise_number", "raise_number", defArgs s_raise_number, defBody s_raise_number, defScope s_raise_number, [], []⟩) rfl)
  exact ⟨fd, ok_raise_number (t_SeT hd) (t_CcT hd) (t_TbT hd) F (D_checked_number hd) (D_power hd) (D_needed_table hd) (D_checked_exponent hd) (D_is_square hd), F.kp, F.binds fun _ _ _ _ _ _ us hl => match us, hl with | [_, _], _ => rfl⟩
theorem D_raise_number (hd : Hd K mg base) : Df PX w K mg base (L2.CX PX w) 3 "raise_number" (sp_op K (He.ga K "Session") (He.ga K "Table") (He.ga K "Call") (He.ga K "NoTable") (He.ga K "WrongArgument") (He.ga K "NotInDeck") (He.ga K "InvalidText") 18 2 0) := by
  obtain ⟨fd, h1, h2, h3⟩ := F_raise_number (w := w) hd
  exact ⟨_, fd, _, h1, (He.glo_ok hd.kin hd.ns (hd.a.fact 79 (f := .glo "raise_number") rfl)), h2, h3⟩
theorem F_clear_table (hd : Hd K mg base) : ∃ fd, FnOk PX w K mg base (L2.CX PX w) 1 (He.ga K "clear_table") fd ["session", "call"] (sp_op K (He.ga K "Session") (He.ga K "Table") (He.ga K "Call") (He.ga K "NoTable") (He.ga K "WrongArgument") (He.ga K "NotInDeck") (He.ga K "InvalidText") 19 0 0) ∧ KeepT K (He.ga K "clear_table") ∧ Binds K fd ["session", "call"] [] := by
  obtain ⟨fd, F⟩ := fun_of (st := s_clear_table) (hd.n.def_ 94 (d := ⟨("clear_table", none), "clear_table", "clear_table", defArgs s_clear_table, defBody s_clear_table, defScope s_clear_table, [], []⟩) rfl)
  exact ⟨fd, ok_clear_table (t_SeT hd) (t_CcT hd) (t_TbT hd) F, F.kp, F.binds fun _ _ _ _ _ _ us hl => match us, hl with | [_, _], _ => rfl⟩
theorem D_clear_table (hd : Hd K mg base) : Df PX w K mg base (L2.CX PX w) 1 "clear_table" (sp_op K (He.ga K "Session") (He.ga K "Table") (He.ga K "Call") (He.ga K "NoTable") (He.ga K "WrongArgument") (He.ga K "NotInDeck") (He.ga K "InvalidText") 19 0 0) := by
  obtain ⟨fd, h1, h2, h3⟩ := F_clear_table (w := w) hd
  exact ⟨_, fd, _, h1, (He.glo_ok hd.kin hd.ns (hd.a.fact 80 (f := .glo "clear_table") rfl)), h2, h3⟩
theorem t_ExT (hd : Hd K mg base) : ExT K (He.ga K "NoTable") (He.ga K "WrongArgument") (He.ga K "NotInDeck") (He.ga K "InvalidText") := ⟨He.exm_ok (hd.b.fact 33 (f := .exm "NoTable" "NoTable" true) rfl), He.exm_ok (hd.b.fact 34 (f := .exm "WrongArgument" "NoTable" false) rfl), He.exm_ok (hd.b.fact 35 (f := .exm "WrongArgument" "WrongArgument" true) rfl), He.exm_ok (hd.b.fact 36 (f := .exm "NotInDeck" "NoTable" false) rfl), He.exm_ok (hd.b.fact 37 (f := .exm "NotInDeck" "WrongArgument" false) rfl), He.exm_ok (hd.b.fact 38 (f := .exm "NotInDeck" "NotInDeck" true) rfl), He.exm_ok (hd.b.fact 39 (f := .exm "InvalidText" "NoTable" false) rfl), He.exm_ok (hd.b.fact 40 (f := .exm "InvalidText" "WrongArgument" false) rfl), He.exm_ok (hd.b.fact 41 (f := .exm "InvalidText" "NotInDeck" false) rfl), He.exm_ok (hd.b.fact 42 (f := .exm "InvalidText" "InvalidText" true) rfl)⟩
theorem opT_at {j : Nat} {x : Addr × Addr} (h : (opT K)[j]? = some x) : j < 20 ∧ x = (opA K j, opF K j) := by
  unfold opT at h
  obtain ⟨i, hi, e⟩ := map_at h
  obtain ⟨h1, h2⟩ := List.getElem?_eq_some_iff.mp hi
  rw [List.length_range] at h1
  rw [List.getElem_range] at h2
  subst h2
  exact ⟨h1, e⟩
theorem opN_at {j n k : Nat} (h : opN[j]? = some (n, k)) : opN.getD j (0, 0) = (n, k) := by
  rw [List.getD_eq_getElem?_getD, h]
  rfl
theorem up8 {k : Nat} {f : Addr} {fd : FuncData} {ps : List Str} {sp sp2 : Sp} (h : FnOk PX w K mg base (L2.CX PX w) k f fd ps sp ∧ KeepT K f ∧ Binds K fd ps []) (hk : k ≤ 8) (e : sp = sp2) : HeldX PX w K mg base 8 f sp2 := by
  subst e
  exact ⟨fd, ps, h.1.mono hk, h.2.1, h.2.2⟩
theorem H_load_table (hd : Hd K mg base) : HeldX PX w K mg base 8 (opF K 0) (sp_op K (He.ga K "Session") (He.ga K "Table") (He.ga K "Call") (He.ga K "NoTable") (He.ga K "WrongArgument") (He.ga K "NotInDeck") (He.ga K "InvalidText") ((0 : Nat) : Int) 0 1) := by
  obtain ⟨fd, h⟩ := F_load_table (w := w) hd
  exact up8 h (by decide) rfl
theorem H_check_table (hd : Hd K mg base) : HeldX PX w K mg base 8 (opF K 1) (sp_op K (He.ga K "Session") (He.ga K "Table") (He.ga K "Call") (He.ga K "NoTable") (He.ga K "WrongArgument") (He.ga K "NotInDeck") (He.ga K "InvalidText") ((1 : Nat) : Int) 0 1) := by
  obtain ⟨fd, h⟩ := F_check_table (w := w) hd
  exact up8 h (by decide) rfl
theorem H_print_table (hd : Hd K mg base) : HeldX PX w K mg base 8 (opF K 2) (sp_op K (He.ga K "Session") (He.ga K "Table") (He.ga K "Call") (He.ga K "NoTable") (He.ga K "WrongArgument") (He.ga K "NotInDeck") (He.ga K "InvalidText") ((2 : Nat) : Int) 0 0) := by
  obtain ⟨fd, h⟩ := F_print_table (w := w) hd
  exact up8 h (by decide) rfl
theorem H_status (hd : Hd K mg base) : HeldX PX w K mg base 8 (opF K 3) (sp_op K (He.ga K "Session") (He.ga K "Table") (He.ga K "Call") (He.ga K "NoTable") (He.ga K "WrongArgument") (He.ga K "NotInDeck") (He.ga K "InvalidText") ((3 : Nat) : Int) 0 0) := by
  obtain ⟨fd, h⟩ := F_status (w := w) hd
  exact up8 h (by decide) rfl
theorem H_all_cards (hd : Hd K mg base) : HeldX PX w K mg base 8 (opF K 4) (sp_op K (He.ga K "Session") (He.ga K "Table") (He.ga K "Call") (He.ga K "NoTable") (He.ga K "WrongArgument") (He.ga K "NotInDeck") (He.ga K "InvalidText") ((4 : Nat) : Int) 0 0) := by
  obtain ⟨fd, h⟩ := F_all_cards (w := w) hd
  exact up8 h (by decide) rfl
theorem H_lock (hd : Hd K mg base) : HeldX PX w K mg base 8 (opF K 5) (sp_op K (He.ga K "Session") (He.ga K "Table") (He.ga K "Call") (He.ga K "NoTable") (He.ga K "WrongArgument") (He.ga K "NotInDeck") (He.ga K "InvalidText") ((5 : Nat) : Int) 2 0) := by
  obtain ⟨fd, h⟩ := F_lock (w := w) hd
  exact up8 h (by decide) rfl
theorem H_unlock (hd : Hd K mg base) : HeldX PX w K mg base 8 (opF K 6) (sp_op K (He.ga K "Session") (He.ga K "Table") (He.ga K "Call") (He.ga K "NoTable") (He.ga K "WrongArgument") (He.ga K "NotInDeck") (He.ga K "InvalidText") ((6 : Nat) : Int) 2 0) := by
  obtain ⟨fd, h⟩ := F_unlock (w := w) hd
  exact up8 h (by decide) rfl
theorem H_inverse_key (hd : Hd K mg base) : HeldX PX w K mg base 8 (opF K 7) (sp_op K (He.ga K "Session") (He.ga K "Table") (He.ga K "Call") (He.ga K "NoTable") (He.ga K "WrongArgument") (He.ga K "NotInDeck") (He.ga K "InvalidText") ((7 : Nat) : Int) 1 0) := by
  obtain ⟨fd, h⟩ := F_inverse_key (w := w) hd
  exact up8 h (by decide) rfl
theorem H_joint_key (hd : Hd K mg base) : HeldX PX w K mg base 8 (opF K 8) (sp_op K (He.ga K "Session") (He.ga K "Table") (He.ga K "Call") (He.ga K "NoTable") (He.ga K "WrongArgument") (He.ga K "NotInDeck") (He.ga K "InvalidText") ((8 : Nat) : Int) 0 1) := by
  obtain ⟨fd, h⟩ := F_joint_key (w := w) hd
  exact up8 h (by decide) rfl
theorem H_check_lock (hd : Hd K mg base) : HeldX PX w K mg base 8 (opF K 9) (sp_op K (He.ga K "Session") (He.ga K "Table") (He.ga K "Call") (He.ga K "NoTable") (He.ga K "WrongArgument") (He.ga K "NotInDeck") (He.ga K "InvalidText") ((9 : Nat) : Int) 3 0) := by
  obtain ⟨fd, h⟩ := F_check_lock (w := w) hd
  exact up8 h (by decide) rfl
theorem H_shuffle_row (hd : Hd K mg base) : HeldX PX w K mg base 8 (opF K 10) (sp_op K (He.ga K "Session") (He.ga K "Table") (He.ga K "Call") (He.ga K "NoTable") (He.ga K "WrongArgument") (He.ga K "NotInDeck") (He.ga K "InvalidText") ((10 : Nat) : Int) 1 2) := by
  obtain ⟨fd, h⟩ := F_shuffle_row (w := w) hd
  exact up8 h (by decide) rfl
theorem H_check_shuffle (hd : Hd K mg base) : HeldX PX w K mg base 8 (opF K 11) (sp_op K (He.ga K "Session") (He.ga K "Table") (He.ga K "Call") (He.ga K "NoTable") (He.ga K "WrongArgument") (He.ga K "NotInDeck") (He.ga K "InvalidText") ((11 : Nat) : Int) 1 2) := by
  obtain ⟨fd, h⟩ := F_check_shuffle (w := w) hd
  exact up8 h (by decide) rfl
theorem H_check_symmetry (hd : Hd K mg base) : HeldX PX w K mg base 8 (opF K 12) (sp_op K (He.ga K "Session") (He.ga K "Table") (He.ga K "Call") (He.ga K "NoTable") (He.ga K "WrongArgument") (He.ga K "NotInDeck") (He.ga K "InvalidText") ((12 : Nat) : Int) 1 1) := by
  obtain ⟨fd, h⟩ := F_check_symmetry (w := w) hd
  exact up8 h (by decide) rfl
theorem H_audit_deal (hd : Hd K mg base) : HeldX PX w K mg base 8 (opF K 13) (sp_op K (He.ga K "Session") (He.ga K "Table") (He.ga K "Call") (He.ga K "NoTable") (He.ga K "WrongArgument") (He.ga K "NotInDeck") (He.ga K "InvalidText") ((13 : Nat) : Int) 0 2) := by
  obtain ⟨fd, h⟩ := F_audit_deal (w := w) hd
  exact up8 h (by decide) rfl
theorem H_remaining_orders (hd : Hd K mg base) : HeldX PX w K mg base 8 (opF K 14) (sp_op K (He.ga K "Session") (He.ga K "Table") (He.ga K "Call") (He.ga K "NoTable") (He.ga K "WrongArgument") (He.ga K "NotInDeck") (He.ga K "InvalidText") ((14 : Nat) : Int) 0 3) := by
  obtain ⟨fd, h⟩ := F_remaining_orders (w := w) hd
  exact up8 h (by decide) rfl
theorem H_deal (hd : Hd K mg base) : HeldX PX w K mg base 8 (opF K 15) (sp_op K (He.ga K "Session") (He.ga K "Table") (He.ga K "Call") (He.ga K "NoTable") (He.ga K "WrongArgument") (He.ga K "NotInDeck") (He.ga K "InvalidText") ((15 : Nat) : Int) 0 1) := by
  obtain ⟨fd, h⟩ := F_deal (w := w) hd
  exact up8 h (by decide) rfl
theorem H_open_card (hd : Hd K mg base) : HeldX PX w K mg base 8 (opF K 16) (sp_op K (He.ga K "Session") (He.ga K "Table") (He.ga K "Call") (He.ga K "NoTable") (He.ga K "WrongArgument") (He.ga K "NotInDeck") (He.ga K "InvalidText") ((16 : Nat) : Int) 1 1) := by
  obtain ⟨fd, h⟩ := F_open_card (w := w) hd
  exact up8 h (by decide) rfl
theorem H_audit_opening (hd : Hd K mg base) : HeldX PX w K mg base 8 (opF K 17) (sp_op K (He.ga K "Session") (He.ga K "Table") (He.ga K "Call") (He.ga K "NoTable") (He.ga K "WrongArgument") (He.ga K "NotInDeck") (He.ga K "InvalidText") ((17 : Nat) : Int) 1 3) := by
  obtain ⟨fd, h⟩ := F_audit_opening (w := w) hd
  exact up8 h (by decide) rfl
theorem H_raise_number (hd : Hd K mg base) : HeldX PX w K mg base 8 (opF K 18) (sp_op K (He.ga K "Session") (He.ga K "Table") (He.ga K "Call") (He.ga K "NoTable") (He.ga K "WrongArgument") (He.ga K "NotInDeck") (He.ga K "InvalidText") ((18 : Nat) : Int) 2 0) := by
  obtain ⟨fd, h⟩ := F_raise_number (w := w) hd
  exact up8 h (by decide) rfl
theorem H_clear_table (hd : Hd K mg base) : HeldX PX w K mg base 8 (opF K 19) (sp_op K (He.ga K "Session") (He.ga K "Table") (He.ga K "Call") (He.ga K "NoTable") (He.ga K "WrongArgument") (He.ga K "NotInDeck") (He.ga K "InvalidText") ((19 : Nat) : Int) 0 0) := by
  obtain ⟨fd, h⟩ := F_clear_table (w := w) hd
  exact up8 h (by decide) rfl
theorem t_OpT (hd : Hd K mg base) : OpT PX w K mg base (He.ga K "OPERATIONS") (opT K) (He.ga K "Session") (He.ga K "Table") (He.ga K "Call") (He.ga K "NoTable") (He.ga K "WrongArgument") (He.ga K "NotInDeck") (He.ga K "InvalidText") := by
  have E := ex_all hd.ex
  refine ⟨?_, fun H => ?_, fun H j x n k hx hn => ?_, fun j x n k hx hn => ?_⟩
  · unfold opT
    rw [List.length_map, List.length_range]
  · have e : (opT K).map (fun x => V.ref x.1) = (List.range 20).map fun j => V.ref (opA K j) := by
      unfold opT
      rw [List.map_map]
      rfl
    rw [e]
    exact tupAt_ok E.op H
  · obtain ⟨hj, rfl⟩ := opT_at hx
    have z := tupAt_ok (List.all_eq_true.mp E.one j (List.mem_range.mpr hj)) H
    rw [opN_at hn] at z
    exact z
  · obtain ⟨hj, rfl⟩ := opT_at hx
    match j, hj, hn with
    | 0, _, hn => cases hn; exact H_load_table hd
    | 1, _, hn => cases hn; exact H_check_table hd
    | 2, _, hn => cases hn; exact H_print_table hd
    | 3, _, hn => cases hn; exact H_status hd
    | 4, _, hn => cases hn; exact H_all_cards hd
    | 5, _, hn => cases hn; exact H_lock hd
    | 6, _, hn => cases hn; exact H_unlock hd
    | 7, _, hn => cases hn; exact H_inverse_key hd
    | 8, _, hn => cases hn; exact H_joint_key hd
    | 9, _, hn => cases hn; exact H_check_lock hd
    | 10, _, hn => cases hn; exact H_shuffle_row hd
    | 11, _, hn => cases hn; exact H_check_shuffle hd
    | 12, _, hn => cases hn; exact H_check_symmetry hd
    | 13, _, hn => cases hn; exact H_audit_deal hd
    | 14, _, hn => cases hn; exact H_remaining_orders hd
    | 15, _, hn => cases hn; exact H_deal hd
    | 16, _, hn => cases hn; exact H_open_card hd
    | 17, _, hn => cases hn; exact H_audit_opening hd
    | 18, _, hn => cases hn; exact H_raise_number hd
    | 19, _, hn => cases hn; exact H_clear_table hd
    | j + 20, hj, _ => exact absurd hj (by omega)
theorem F_answer_next (hd : Hd K mg base) : ∃ fd, FnOk PX w K mg base CX0 9 (He.ga K "answer_next") fd ["session", "reader"] (sp_next K (He.ga K "CallReader") (He.ga K "Session") (He.ga K "Table")) ∧ KeepT K (He.ga K "answer_next") ∧ Binds K fd ["session", "reader"] [] := by
  obtain ⟨fd, F⟩ := fun_of (st := s_answer_next) (hd.n.def_ 95 (d := ⟨("answer_next", none), "answer_next", "answer_next", defArgs s_answer_next, defBody s_answer_next, defScope s_answer_next, [], []⟩) rfl)
  exact ⟨fd, ok_answer_next (t_OpT hd) (t_ExT hd) F (D_CallReader_take_call hd) (gv_ref (He.glo_ok hd.kin hd.ns (hd.a.fact 95 (f := .glo "OPERATIONS") rfl))) (D_CallReader_take_number hd) (E_NoTable hd) (E_WrongArgument hd) (E_NotInDeck hd) (E_InvalidText hd) (gv_int (He.int_ok hd.kin hd.ns (hd.a.fact 125 (f := .int "DONE" (0)) rfl))) (gv_int (He.int_ok hd.kin hd.ns (hd.a.fact 129 (f := .int "TABLE_MISSING" (-20)) rfl))) (gv_int (He.int_ok hd.kin hd.ns (hd.a.fact 127 (f := .int "ARGUMENT_WRONG" (-1)) rfl))) (gv_int (He.int_ok hd.kin hd.ns (hd.a.fact 128 (f := .int "CARD_NOT_IN_DECK" (-6)) rfl))) (gv_int (He.int_ok hd.kin hd.ns (hd.a.fact 126 (f := .int "TEXT_INVALID" (1)) rfl))), F.kp, F.binds fun _ _ _ _ _ _ us hl => match us, hl with | [_, _], _ => rfl⟩
theorem D_answer_next (hd : Hd K mg base) : Df PX w K mg base CX0 9 "answer_next" (sp_next K (He.ga K "CallReader") (He.ga K "Session") (He.ga K "Table")) := by
  obtain ⟨fd, h1, h2, h3⟩ := F_answer_next (w := w) hd
  exact ⟨_, fd, _, h1, (He.glo_ok hd.kin hd.ns (hd.a.fact 81 (f := .glo "answer_next") rfl)), h2, h3⟩
theorem F_answers (hd : Hd K mg base) : ∃ fd, FnOk PX w K mg base CX0 10 (He.ga K "answers") fd ["calls"] (sp_ans K) ∧ KeepT K (He.ga K "answers") ∧ Binds K fd ["calls"] [] := by
  obtain ⟨fd, F⟩ := fun_of (st := s_answers) (hd.n.def_ 96 (d := ⟨("answers", none), "answers", "answers", defArgs s_answers, defBody s_answers, defScope s_answers, [], []⟩) rfl)
  exact ⟨fd, ok_answers F (K_Session hd) (K_CallReader hd) (D_CallReader_at_end hd) (D_answer_next hd) (He.free_ok hd.kin hd.ns (hd.a.fact 99 (f := .free "len") rfl)), F.kp, F.binds fun _ _ _ _ _ _ us hl => match us, hl with | [_], _ => rfl⟩
theorem D_answers (hd : Hd K mg base) : Df PX w K mg base CX0 10 "answers" (sp_ans K) := by
  obtain ⟨fd, h1, h2, h3⟩ := F_answers (w := w) hd
  exact ⟨_, fd, _, h1, (He.glo_ok hd.kin hd.ns (hd.a.fact 82 (f := .glo "answers") rfl)), h2, h3⟩
end
end Cl
set_option Elab.async false
set_option linter.unusedVariables false
set_option maxRecDepth 100000
set_option maxHeartbeats 0
/-! # The head -/
namespace Cl
open PySem PySem.Spec PyProof.Rows L2
theorem run_looks (w : World) (os : OsState) : (HandSHeadRun.endF (HandSHeadRun.stepQ (HandSHeadRun.denQ HandSHeadRun.tabQ) PX w) 9000 PX w os).map (fun s => HandSHeadRun.looksF PX (PySem.W.boot_heap w.params) s.abs) = some true := by
  kernel_rfl
theorem run_seen (w : World) (os : OsState) : (HandSHeadRun.endF (HandSHeadRun.stepQ (HandSHeadRun.denQ HandSHeadRun.tabQ) PX w) 9000 PX w os).map (fun s => HandSHeadRun.seenQ qv names (importedModules PX.main.body) (fun s => PySem.W.xlAt qv [] s && PySem.W.recOk [] s) s.abs) = some (PySem.W.openGood qv names) := by
  kernel_rfl
theorem run_facts (w : World) (os : OsState) : (HandSHeadRun.endF (HandSHeadRun.stepQ (HandSHeadRun.denQ HandSHeadRun.tabQ) PX w) 9000 PX w os).map (fun s => (He.obsD faL [] (KF (HandSHeadRun.getT s)), He.obsD fbL [] (KF (HandSHeadRun.getT s)), exB (KF (HandSHeadRun.getT s)))) = some (He.valD [], He.valD [], true) := by
  kernel_rfl
theorem run_defs (w : World) (os : OsState) : (HandSHeadRun.endF (HandSHeadRun.stepQ (HandSHeadRun.denQ HandSHeadRun.tabQ) PX w) 9000 PX w os).map (fun s => He.obsD [] fnL (KF (HandSHeadRun.getT s))) = some (He.valD fnL) := by
  kernel_rfl
end Cl
set_option Elab.async false
set_option linter.unusedVariables false
set_option maxRecDepth 100000
set_option maxHeartbeats 4000000
/-! # The head -/
namespace Cl
open PySem PySem.Spec PyProof.Rows L2
/-- what the head leaves of a heap -/
def YX (h : Heap) : Prop := ∃ K : Fr, K.In h ∧ He.SaysD faL [] K ∧ He.SaysD fbL [] K ∧ He.SaysD [] fnL K ∧ exB K = true
theorem fun_1 {K : Fr} {x q : Str} {st : Stmt} {f : Addr} {fd : FuncData} (h : FunD K x q (defArgs st) (defBody st) (defScope st) [] [] f fd) : Fun K x q st f fd := by
  obtain ⟨⟨oc, od, dV, kV, doc, pm, an, cdv, ct, osl, e1, e2, e3, hD, hK⟩, kp⟩ := h
  rcases hD with ⟨_, rfl⟩ | ⟨e, _⟩
  · exact ⟨⟨oc, od, kV, doc, pm, an, cdv, ct, osl, e1, e2, e3⟩, kp⟩
  · exact absurd rfl e
abbrev RX : PySem.W.OpenSpec := PySem.Challenge.rw_cardlocks_s01_answers
def dX : PySem.DefRec := HandSHeadRun.topDef PX 136
theorem dX_name : dX.name = ("answers" : Str) := by kernel_rfl
theorem dX_defaults : dX.params.defaults = [] := by kernel_rfl
/-- the def that is asked for keeps its promise over whatever heap holds the head's part -/
theorem end_fn {K : Fr} {mg : Str → Option Value} {h : Heap} (X : K.In h) (G : h.Ns mainGlobals mg) (c1 : He.SaysD faL [] K) (c2 : He.SaysD fbL [] K) (c3 : He.SaysD [] fnL K) (c4 : exB K = true) :
    mg "answers" = some (.ref (He.ga K "answers")) ∧ ∃ fd : FuncData, (∀ (s : Shared) (us : List Value), us.length = 1 → BindsTo s fd ⟨us, []⟩ ((["calls"] : List Str).zip us)) ∧
      ∀ (w : World) (base : Heap), K.In base → base.Ns mainGlobals mg → FnOk PX w K mg base CX0 10 (He.ga K "answers") fd ["calls"] (sp_ans K) := by
  have hd : Hd K mg h := ⟨X, G, c1, c2, c3, c4⟩
  obtain ⟨fd, F0⟩ := c3.def_ 96 (d := ⟨("answers", none), "answers", "answers", defArgs s_answers, defBody s_answers, defScope s_answers, [], []⟩) rfl
  have b := FunD.bindsA (ps := ["calls"]) F0 fun _ _ _ _ _ _ us hl => match us, hl with | [_], _ => rfl
  refine ⟨(He.glo_ok hd.kin hd.ns (hd.a.fact 82 (f := .glo "answers") rfl)), fd, fun s us hl => b s us hl, fun w base kb nb => ?_⟩
  have hd : Hd K mg base := ⟨kb, nb, c1, c2, c3, c4⟩
  exact ok_answers (fun_1 (st := s_answers) F0) (K_Session hd) (K_CallReader hd) (D_CallReader_at_end hd) (D_answer_next hd) (He.free_ok hd.kin hd.ns (hd.a.fact 99 (f := .free "len") rfl))
theorem said : RX.wellSaid = true := by decide +kernel
theorem room : Room 10 callerA := ⟨rfl, by decide, by decide⟩
/-- the arguments, read -/
theorem arg_is {K : Fr} {H : Hp} {xs : List V} (a : PySem.W.Codec.denoteAll RX.args) (hq : PySem.W.Codec.app RX.args RX.asked a = true) (hx : DwAll K H xs (PySem.W.Codec.encAll RX.args a)) (Q : VK)
    (hQ : ∀ (H' : Hp) (d : Addr), H' d = some (.lst (VI (PyVbndal.answers a.1))) → Q (.ref d) H') : sp_ans K xs H Q fun _ _ _ => False := by
  obtain ⟨l, u⟩ := a
  have hx2 : DwAll K H xs [.list (l.map PySem.W.WData.int)] := hx
  cases hx2 with
  | cons h1 h2 =>
    cases h2
    cases h1 with
    | lst s1 s2 =>
      have e := ints_dw _ _ s2
      subst e
      obtain ⟨cs, hcs⟩ := asked_of (l := l) hq
      exact ⟨_, l, cs, rfl, s1, hcs, fun H' d _ hd => hQ H' d hd⟩
theorem walk_all : PySem.W.WalkOS qv names (PySem.W.XL qv []) (fun _ h => YX h) RX dX [] (fun f vs => PySem.call f vs) := by
  intro w sA sB mg mb G Y fa o pm cd doc dV kV ho hdt hcd hD hmg hgn args vals as hpre hlay hrd hwl hlo
  obtain ⟨a, e1, e2⟩ := PySem.W.os_pre_some hpre
  obtain ⟨rfl, hwi⟩ := PySem.W.Codec.encAll_of_decAll RX.args args a e1
  obtain ⟨K, X, c1, c2, c3, c4⟩ := Y
  obtain ⟨g0, fd, hb, hF⟩ := end_fn X G.T.g c1 c2 c3 c4
  have ea : fa = He.ga K "answers" := by
    rw [dX_name, g0] at hmg
    exact (Value.ref.inj (Option.some.inj hmg)).symm
  subst ea
  refine PySem.W.enter_call (codeAny_mono (spec_call (R := []) (cl := classAt sA.heap) (d0 := RX.ret.enc (PySem.W.Codec.app RX.args RX.f a)) (sp := sp_ans K) (CX := CX0) (k := 10) (ps := ["calls"]) X G.T.g G.T.b G.T.builtins G.T.nolimit
    hgn hwl (pl_encAll _ _) (layable_weight hlay) room (hF w) hb (by rw [encAll_len] <;> rfl)
    (fun H xs _ hS => arg_is a e2 hS _ fun H' d hd => Dw.lst (SqL.of hd) (dw_ints _)) fun _ _ _ z => z) fun r' s' q => ?_)
  obtain ⟨u, as', rfl, q1, q2, q3, q4⟩ := q
  refine ⟨.inl ⟨u, _, as', rfl, fun _ => rfl, q1, ?_, fun z => Bool.noConfusion (show false = true from z)⟩, q2, q3, q4⟩
  exact (PySem.W.OpenSpec.post_iff said hwi _ _).mpr rfl
/-! ### the run, put together -/
theorem map_two {α β γ : Type} {x : Option α} {f : α → β} {g : α → γ} {b : β} {c : γ} (h1 : x.map f = some b) (h2 : x.map g = some c) : x.map (fun s => (f s, g s)) = some (b, c) := by
  cases x with
  | none => cases h1
  | some s =>
    cases h1
    cases h2
    rfl
abbrev Yf (s : Shared) : (He.AlD × He.AlD × Bool) × He.AlD := ((He.obsD faL [] (KF s.heap.get?), He.obsD fbL [] (KF s.heap.get?), exB (KF s.heap.get?)), He.obsD [] fnL (KF s.heap.get?))
theorem left : PySem.W.LeftO PX qv names (fun s => PySem.W.xlAt qv [] s && PySem.W.recOk [] s) Yf (fun _ => ((He.valD [], He.valD [], true), He.valD fnL)) 9600 true := by
  refine HandSHeadRun.left_one (M := 9000) (by kernel_rfl) (by decide) (fun s => by kernel_rfl) (by decide) fun w os => ?_
  have eg : ∀ s : PySem.W.SharedT, HandSHeadRun.getT s = s.abs.heap.get? := fun s => funext (HandSHeadRun.getT_eq s)
  have z3 := run_facts w os
  have z4 := run_defs w os
  simp only [eg] at z3 z4
  simp only [HandSHeadRun.endQ_eq, HandSHeadRun.seenQ_eq]
  exact map_two (run_looks w os) (map_two (run_seen w os) (map_two z3 z4))
end Cl
set_option maxRecDepth 100000 in
theorem PySem.Challenge.cw_cardlocks_s01_answers_holds : PySem.Challenge.rw_cardlocks_s01_answers.Holds := by
  refine PySem.W.holds_os (q := Cl.qv) (loose := Cl.names) (XP := PySem.W.XL Cl.qv []) (YP := fun _ h => Cl.YX h) (d := Cl.dX) (kwd := []) Cl.left ?_ ?_ (fun s z => PySem.W.xl_of s (Bool.and_eq_true_iff.mp z).1) PySem.W.XL.keeps
    (by kernel_rfl) (by kernel_rfl) (by kernel_rfl) (fun s z => PySem.W.recFacts_of (Bool.and_eq_true_iff.mp z).2) PySem.W.os_shapes Cl.said (by decide +kernel) ⟨rfl, rfl, rfl, rfl, rfl, by decide +kernel⟩ ?_ Cl.walk_all
  · intro w s e
    have e1 := congrArg (fun z => z.1.1) e
    have e2 := congrArg (fun z => z.1.2.1) e
    have e3 := congrArg (fun z => z.1.2.2) e
    have e4 := congrArg (fun z => z.2) e
    exact ⟨_, He.frG_in, e1, e2, e4, e3⟩
  · rintro w h h' ⟨K, X, c⟩ k
    exact ⟨K, PySem.W.Frag.In.keeps X k, c⟩
  · exact ⟨[.list [.int 19]], by decide +kernel, by decide +kernel⟩
