import PyProof.Rows.All
import Wide.All
import OpenK.AllK
import Wide.FinOn
import HandS.Base
import HandS.Call
import HandS.List
import HandS.Comp
import HandS.Ends
import HandS.Dict
import HandS.Iter
import HandS.Text
import HandS.Words
import PyProof.Rows.StrNews2
import PyProof.StrLawsLast
import HandS.Wide
import HandS.Walk
import HandS.IsInst
import HandS.Style
import KE.IntTextLaws
import HandS.StrMore
import HandS.TupMul
import HandS.TupAny
import PyProof.Rows.StrFirst
import PyProof.Rows.RegReprOcc
import KE.GoesEnum
import HandS.Exc
import HandS.ExcOwn
import HandS.ExcInit
import HandS.ExcField
import HandS.WordsExc
import PyProof.ReprReads
import PyProof.ReprRoads
import KE.KxStill
import PyProof.Rows.StrCase
import PyProof.StrLawsRepr
import PyProof.Rows.StrJoinMade
import HandS.ExcCtx
import HandS.HotCalls
import HandS.RaiseFrom
import HandS.SuiteRaise
import HandS.ExcInitHot
import HandS.Finally
import PyProof.ReprBulk
import HandS.WordsDict
import KE.KIntText
import PyProof.Rows.StrIntSpec
import HandS.Replace
import HandS.ReplaceDef
import HandS.ReplaceLit
import HandS.ReplaceList
import PyProof.Rows.StrStrike
import KE.KRevSl
import HandS.Codes
import HandS.Flow
import HandS.Evl
import PySem.Challenge.RW_crumbjar_k06_suffixes_and_families
set_option Elab.async false
set_option linter.all false
set_option maxRecDepth 100000
set_option maxHeartbeats 4000000
namespace Kb
open PySem PySem.Spec PyProof.Rows L2
/-! ### a def of the text, a def that may be called -/
def Df (K : PySem.W.Frag) (mg : Str → Option Value) (x : Str) (st : Stmt) (ps : List Str) : Prop :=
  ∃ (f : Addr) (fd : FuncData), Fun K x x st f fd ∧ mg x = some (.ref f) ∧ ∀ us : List Value, us.length = ps.length → bindArgs fd ⟨us, []⟩ = pure (ps.zip us)
theorem Df.mk {K : PySem.W.Frag} {mg : Str → Option Value} {h : Heap} {x : Str} {st : Stmt} {ps : List Str} {f : Addr} {oc : Value} {od an : Option Addr} {sl : Array (Option Value)} {kV doc pm cd ct : Value} (X : K.In h) (G : h.Ns PySem.mainGlobals mg)
    (b : ∀ (kV doc pm : Value) (an : Option Addr) (cdv ct : Value) (us : List Value), us.length = ps.length → bindArgs (PySem.W.fnOf x x (defArgs st) (defBody st) (defScope st) .none kV doc pm an cdv ct) ⟨us, []⟩ = pure (ps.zip us))
    (a : PySem.W.nsIn K PySem.mainGlobals x = some (some (.ref f)))
    (l : K.lookup f = some ⟨oc, od, .func (PySem.W.fnOf x x (defArgs st) (defBody st) (defScope st) .none kV doc pm an cd ct), sl⟩)
    (c : PySem.W.codeIn K cd x = true) (k : PySem.W.keepIn K (.ref f) = true) : Df K mg x st ps :=
  ⟨f, _, fun_mk l c k, PySem.W.mg_of X G a, b kV doc pm an cd ct⟩
def Cal (P : Program) (w : World) (K : PySem.W.Frag) (mg : Str → Option Value) (base : Heap) (CX : CXT) (k : Nat) (x : Str) (ps : List Str) (sp : Sp) : Prop :=
  ∃ (f : Addr) (fd : FuncData), FnOk P w K mg base CX k f fd ps sp ∧ mg x = some (.ref f) ∧ PySem.W.keepIn K (.ref f) = true ∧ Binds K fd ps []
section
variable {P : Program} {w : World} {K : PySem.W.Frag} {mg : Str → Option Value} {base : Heap}
theorem Df.ok0 {x : Str} {st : Stmt} {N ps : List Str} {k : Nat} {sp : Sp} (D : Df K mg x st ps) (S : FnScope N ps (defScope st)) (len : ∀ vs H Q E, sp vs H Q E → vs.length = ps.length)
    (hbody : ∀ (f : Addr) (cdv : Value) (A : Around) (outer : List Env) (s : Shared) (H : Hp) (vs : List V) (Q : VK) (E : XK), Room k (A.deeper (envOfC x (defScope st) s.heap.objs.size f cdv)) → sp vs H Q E →
      ∃ t, PSs (cxOf CX0 P w K mg base N x (defScope st) f cdv A outer s H E).nox (defBody st) t ∧ t { nx := fun _ H' => Q .non H', rt := Q } (start N vs) H) : Cal P w K mg base CX0 (k + 1) x ps sp := by
  obtain ⟨f, fd, F, m, b⟩ := D
  exact ⟨f, fd, F.ok S len (hbody f), m, F.kp, .all b⟩
end
theorem pe_c {X : Cx} {CX : CXT} {j k : Nat} {x : Str} {ps : List Str} {sp : Sp} {E : XK} {p pos : Pos} {e : Expr} {es : List Expr} {t : TA} (c : Cal X.prog X.w X.K X.mg X.base CX j x ps sp) (hr : Room k X.A) (hjk : j ≤ k) (hg : Gl X x) (hx : Passes CX X E)
    (ha : PA X (e :: es) t) (hdb : (x == ("__debug__" : Str)) = false := by decide) (he : starEach (e :: es) X.env = (false, eval e X.env) :: starEach es X.env := by rfl) (hpl : (backTo pos (starEach es X.env)).any (·.1) = false := by rfl) :
    PE X (.Call (.Name x p) (e :: es) [] pos) (tCall sp [] E t) := by
  obtain ⟨f, fd, F, m, kp, b⟩ := c
  exact pe_call F (hr.mono hjk) hg m kp b .nil hx ha hdb he hpl
end Kb

namespace Kb
open PySem PySem.Spec PyProof.Rows L2
/-! ### a def that is called by keywords alone -/
def kwg {α : Type} (ps ks : List Str) (ws : List α) : List α := ps.filterMap fun p => (ks.zip ws).lookup p
def DfW (K : PySem.W.Frag) (mg : Str → Option Value) (x : Str) (st : Stmt) (ps ks : List Str) : Prop :=
  ∃ (f : Addr) (fd : FuncData), Fun K x x st f fd ∧ mg x = some (.ref f) ∧ (∀ us : List Value, us.length = ps.length → bindArgs fd ⟨us, []⟩ = pure (ps.zip us)) ∧
    ∀ ws : List Value, ws.length = ks.length → bindArgs fd ⟨[], ks.zip ws⟩ = pure (ps.zip (kwg ps ks ws))
theorem DfW.mk {K : PySem.W.Frag} {mg : Str → Option Value} {h : Heap} {x : Str} {st : Stmt} {ps ks : List Str} {f : Addr} {oc : Value} {od an : Option Addr} {sl : Array (Option Value)} {kV doc pm cd ct : Value} (X : K.In h) (G : h.Ns PySem.mainGlobals mg)
    (b : ∀ (kV doc pm : Value) (an : Option Addr) (cdv ct : Value) (us : List Value), us.length = ps.length → bindArgs (PySem.W.fnOf x x (defArgs st) (defBody st) (defScope st) .none kV doc pm an cdv ct) ⟨us, []⟩ = pure (ps.zip us))
    (bw : ∀ (kV doc pm : Value) (an : Option Addr) (cdv ct : Value) (ws : List Value), ws.length = ks.length → bindArgs (PySem.W.fnOf x x (defArgs st) (defBody st) (defScope st) .none kV doc pm an cdv ct) ⟨[], ks.zip ws⟩ = pure (ps.zip (kwg ps ks ws)))
    (a : PySem.W.nsIn K PySem.mainGlobals x = some (some (.ref f)))
    (l : K.lookup f = some ⟨oc, od, .func (PySem.W.fnOf x x (defArgs st) (defBody st) (defScope st) .none kV doc pm an cd ct), sl⟩)
    (c : PySem.W.codeIn K cd x = true) (k : PySem.W.keepIn K (.ref f) = true) : DfW K mg x st ps ks :=
  ⟨f, _, fun_mk l c k, PySem.W.mg_of X G a, b kV doc pm an cd ct, bw kV doc pm an cd ct⟩
def CalW (P : Program) (w : World) (K : PySem.W.Frag) (mg : Str → Option Value) (base : Heap) (CX : CXT) (k : Nat) (x : Str) (ps ks : List Str) (sp : Sp) : Prop :=
  ∃ (f : Addr) (fd : FuncData), FnOk P w K mg base CX k f fd ps sp ∧ mg x = some (.ref f) ∧ PySem.W.keepIn K (.ref f) = true ∧ Binds K fd ps [] ∧
    ∀ ws : List Value, ws.length = ks.length → bindArgs fd ⟨[], ks.zip ws⟩ = pure (ps.zip (kwg ps ks ws))
section
variable {P : Program} {w : World} {K : PySem.W.Frag} {mg : Str → Option Value} {base : Heap}
theorem CalW.cal {CX : CXT} {k : Nat} {x : Str} {ps ks : List Str} {sp : Sp} (c : CalW P w K mg base CX k x ps ks sp) : Cal P w K mg base CX k x ps sp := by
  obtain ⟨f, fd, F, m, kp, b, _⟩ := c
  exact ⟨f, fd, F, m, kp, b⟩
theorem DfW.ok0 {x : Str} {st : Stmt} {N ps ks : List Str} {k : Nat} {sp : Sp} (D : DfW K mg x st ps ks) (S : FnScope N ps (defScope st)) (len : ∀ vs H Q E, sp vs H Q E → vs.length = ps.length)
    (hbody : ∀ (f : Addr) (cdv : Value) (A : Around) (outer : List Env) (s : Shared) (H : Hp) (vs : List V) (Q : VK) (E : XK), Room k (A.deeper (envOfC x (defScope st) s.heap.objs.size f cdv)) → sp vs H Q E →
      ∃ t, PSs (cxOf CX0 P w K mg base N x (defScope st) f cdv A outer s H E).nox (defBody st) t ∧ t { nx := fun _ H' => Q .non H', rt := Q } (start N vs) H) : CalW P w K mg base CX0 (k + 1) x ps ks sp := by
  obtain ⟨f, fd, F, m, b, bw⟩ := D
  exact ⟨f, fd, F.ok S len (hbody f), m, F.kp, .all b, bw⟩
end
theorem vals_lookup {p : Str} : ∀ {ks : List Str} {zs : List V} {ws : List Value}, Vals zs ws → ((ks.zip zs).lookup p = none ∧ (ks.zip ws).lookup p = none) ∨ ∃ z u, (ks.zip zs).lookup p = some z ∧ (ks.zip ws).lookup p = some u ∧ RelV z u
  | [], _, _, _ => .inl ⟨by rw [List.zip_nil_left]; rfl, by rw [List.zip_nil_left]; rfl⟩
  | k :: ks, _, _, .nil => .inl ⟨by rw [List.zip_nil_right]; rfl, by rw [List.zip_nil_right]; rfl⟩
  | k :: ks, _, _, .cons r t => by
    rw [List.zip_cons_cons, List.zip_cons_cons, List.lookup_cons, List.lookup_cons]
    cases p == k with
    | true => exact .inr ⟨_, _, rfl, rfl, r⟩
    | false => exact vals_lookup (ks := ks) t
theorem vals_kwg {ks : List Str} {zs : List V} {ws : List Value} (r : Vals zs ws) : ∀ ps : List Str, Vals (kwg ps ks zs) (kwg ps ks ws)
  | [] => .nil
  | p :: ps => by
    unfold kwg
    rw [List.filterMap_cons, List.filterMap_cons]
    rcases vals_lookup (p := p) (ks := ks) r with ⟨h1, h2⟩ | ⟨z, u, h1, h2, h3⟩
    · rw [h1, h2]; exact vals_kwg r ps
    · rw [h1, h2]; exact .cons h3 (vals_kwg r ps)
def tCallW (sp : Sp) (ps ks : List Str) (E : XK) (tk : TA) : TE := fun σ H Q => tk σ H fun zs H2 => zs.length = ks.length ∧ sp (kwg ps ks zs) H2 Q E
theorem pe_cw {X : Cx} {CX : CXT} {j k : Nat} {x : Str} {ps ks : List Str} {sp : Sp} {E : XK} {p pos : Pos} {kws : List Keyword} {tk : TA} (c : CalW X.prog X.w X.K X.mg X.base CX j x ps ks sp) (hr : Room k X.A) (hjk : j ≤ k) (hg : Gl X x) (hx : Passes CX X E)
    (hkw : PK X kws tk) (hall : (backToKw pos (keywordEach kws X.env)).all (·.1.isSome) = true := by rfl) (hks : (backToKw pos (keywordEach kws X.env)).filterMap (·.1) = ks := by rfl) (hdb : (x == ("__debug__" : Str)) = false := by decide)
    (hpl : ((backTo pos (starEach [] X.env)).any (·.1) || (backToKw pos (keywordEach kws X.env)).any (·.1.isNone)) = false := by rfl) :
    PE X (.Call (.Name x p) [] kws pos) (tCallW sp ps ks E tk) := by
  obtain ⟨f, fd, F, m, kp, b, bw⟩ := c
  refine ⟨fun pins s σ H Q I h => ?_⟩
  refine wpAny_Call_Name_kw (ld_glob I hg m ?_ hdb)
  refine PySem.W.callWith_KW0 (h₀ := X.base) I.ok.mod.kin kp hall ?_ hpl
  refine thn (hkw.run pos pins s σ H _ I h) fun ws s2 ⟨zs, H2, I2, rz, l1, q2⟩ => ⟨I2.kIn, ?_⟩
  rw [hks]
  have r2 := vals_kwg rz (ks := ks) ps
  have lw : ws.length = ks.length := by rw [← rz.length]; exact l1
  refine wpAny_call (codeAny_mono (F.run X.A X.stack s2 H2 ⟨[], ks.zip ws⟩ (kwg ps ks ws) (kwg ps ks zs) Q E (hr.mono hjk) I2.env0 (.of_eq (bw ws lw)) r2 q2) fun r s' hq => ?_)
  cases r with
  | error e => exact hx pins σ H2 s2 e s' I2 hq
  | ok fl =>
    cases fl with
    | ret u => exact I2.after hq
    | next => exact False.elim hq
    | brk => exact False.elim hq
    | cont => exact False.elim hq
end Kb

namespace Kb
open PySem PySem.Spec PyProof.Rows L2 TL PySem.StrLaws Builtin.Str
/-! ### lists of signs: parts between one sign -/
def sp1 (c : Nat) : List Nat → List (List Nat)
  | [] => [[]]
  | x :: l => if x = c then [] :: sp1 c l else match sp1 c l with
    | [] => [[x]]
    | h :: t => (x :: h) :: t
theorem sp1_ne (c : Nat) : ∀ l, sp1 c l ≠ []
  | [] => by simp [sp1]
  | x :: l => by
    unfold sp1
    split
    · simp
    · cases h : sp1 c l <;> simp
theorem sp1_hit (c : Nat) (l : List Nat) : sp1 c (c :: l) = [] :: sp1 c l := by simp [sp1]
theorem sp1_miss {c x : Nat} (h : x ≠ c) {l p : List Nat} {r : List (List Nat)} (e : sp1 c l = p :: r) : sp1 c (x :: l) = (x :: p) :: r := by
  simp only [sp1, if_neg h, e]
theorem sp1_cons (c : Nat) (l : List Nat) : ∃ p r, sp1 c l = p :: r := by
  cases h : sp1 c l with
  | nil => exact absurd h (sp1_ne c l)
  | cons p r => exact ⟨p, r, rfl⟩
theorem spl_sp1 (c : Nat) : ∀ (l acc : List Nat) (p : List Nat) (r : List (List Nat)), sp1 c l = p :: r → spl [c] 0 acc l = (acc ++ p) :: r
  | [], acc, p, r, h => by
    simp only [sp1, List.cons.injEq] at h
    obtain ⟨rfl, rfl⟩ := h
    simp [spl_nil]
  | x :: l, acc, p, r, h => by
    obtain ⟨q, s, e⟩ := sp1_cons c l
    by_cases hx : x = c
    · subst hx
      rw [sp1_hit] at h
      simp only [List.cons.injEq] at h
      obtain ⟨rfl, rfl⟩ := h
      rw [spl_hit (by simp [pre])]
      rw [show [x].length - 1 = 0 from rfl, spl_sp1 x l [] q s e, e]
      simp
    · rw [sp1_miss hx e] at h
      simp only [List.cons.injEq] at h
      obtain ⟨rfl, rfl⟩ := h
      rw [spl_miss (by simp [pre, hx]), spl_sp1 c l _ q s e]
      simp
theorem split_sp1 (x : Str) {c : Nat} (hc : c < 256) : (Txt.split x ⟨#[c]⟩).map tl = sp1 c (tl x) := by
  rw [split_spl x ⟨#[c]⟩ (by simp [tl]) (kind_ok (by simp [hc]))]
  obtain ⟨p, r, e⟩ := sp1_cons c (tl x)
  show spl [c] 0 [] (tl x) = _
  rw [spl_sp1 c _ [] p r e, e]
  rfl
theorem joinL_sp1 (c : Nat) : ∀ l, joinL [c] (sp1 c l) = l
  | [] => rfl
  | x :: l => by
    obtain ⟨q, s, e⟩ := sp1_cons c l
    have ih := joinL_sp1 c l
    by_cases hx : x = c
    · subst hx
      rw [sp1_hit, e]
      rw [e] at ih
      show [] ++ ([x] ++ joinL [x] (q :: s)) = _
      rw [ih]; rfl
    · rw [sp1_miss hx e]
      rw [e] at ih
      cases s with
      | nil => exact congrArg (x :: ·) ih
      | cons a b => exact congrArg (x :: ·) ih
theorem sp1_free (c : Nat) : ∀ l, ∀ p ∈ sp1 c l, c ∉ p
  | [], p, h => by simp only [sp1, List.mem_singleton] at h; subst h; simp
  | x :: l, p, h => by
    obtain ⟨q, s, e⟩ := sp1_cons c l
    have ih := sp1_free c l
    by_cases hx : x = c
    · subst hx
      rw [sp1_hit] at h
      rcases List.mem_cons.mp h with rfl | h
      · simp
      · exact ih p h
    · rw [sp1_miss hx e] at h
      rw [e] at ih
      rcases List.mem_cons.mp h with rfl | h
      · intro hm
        rcases List.mem_cons.mp hm with r | r
        · exact hx r.symm
        · exact ih q (List.mem_cons_self ..) r
      · exact ih p (List.mem_cons_of_mem _ h)
theorem sp1_of_free {c : Nat} : ∀ {l : List Nat}, c ∉ l → sp1 c l = [l]
  | [], _ => rfl
  | x :: l, h => by
    have hx : x ≠ c := fun e => h (e ▸ List.mem_cons_self ..)
    rw [sp1_miss hx (sp1_of_free fun m => h (List.mem_cons_of_mem _ m))]
theorem sp1_app (c : Nat) : ∀ (a b : List Nat), sp1 c (a ++ c :: b) = sp1 c a ++ sp1 c b
  | [], b => by rw [List.nil_append, sp1_hit]; rfl
  | x :: a, b => by
    obtain ⟨q, s, e⟩ := sp1_cons c a
    have ih := sp1_app c a b
    rw [e] at ih
    by_cases hx : x = c
    · subst hx
      rw [List.cons_append, sp1_hit, sp1_hit, ih, e]; rfl
    · rw [List.cons_append, sp1_miss hx ih, sp1_miss hx e]; rfl
/-- r and the sign stand at the head exactly if r's parts are the first ones, with one more behind -/
theorem sp1_prefix (c : Nat) : ∀ (r p : List Nat), ((sp1 c r).length < (sp1 c p).length ∧ (sp1 c p).take (sp1 c r).length = sp1 c r) ↔ (r ++ [c]) <+: p
  | [], p => by
    show (1 < _ ∧ List.take 1 _ = [[]]) ↔ [c] <+: p
    cases p with
    | nil => simp [sp1]
    | cons x p =>
      obtain ⟨q, s, e⟩ := sp1_cons c p
      by_cases hx : x = c
      · subst hx
        simp [sp1_hit, e]
      · rw [sp1_miss hx e]
        simp [List.cons_prefix_cons, Ne.symm hx]
  | y :: r, p => by
    obtain ⟨q, s, e⟩ := sp1_cons c r
    cases p with
    | nil =>
      have h1 : 0 < (sp1 c (y :: r)).length := List.length_pos_iff.mpr (sp1_ne c _)
      constructor
      · rintro ⟨h, _⟩
        simp only [sp1, List.length_cons, List.length_nil] at h
        exact absurd h (by have : (sp1 c (y :: r)).length = (sp1 c (y :: r)).length := rfl; simp only [sp1] at h1; omega)
      · intro h; simp at h
    | cons x p =>
      obtain ⟨q', s', e'⟩ := sp1_cons c p
      have ih := sp1_prefix c r p
      rw [List.cons_append, List.cons_prefix_cons]
      by_cases hy : y = c
      · subst hy
        rw [sp1_hit]
        by_cases hx : x = y
        · subst hx
          rw [sp1_hit]
          simp only [List.length_cons, List.take_succ_cons, List.cons.injEq, true_and, Nat.add_lt_add_iff_right]
          exact ih
        · rw [sp1_miss hx e']
          simp [Ne.symm hx]
      · rw [sp1_miss hy e]
        by_cases hx : x = c
        · subst hx
          rw [sp1_hit]
          simp [Ne.symm hy, hy]
        · rw [sp1_miss hx e']
          rw [e, e'] at ih
          simp only [List.length_cons, List.take_succ_cons, List.cons.injEq] at ih ⊢
          constructor
          · rintro ⟨h1, ⟨h2, h3⟩, h4⟩
            exact ⟨h2.symm, ih.mp ⟨h1, h3, h4⟩⟩
          · rintro ⟨h2, h⟩
            obtain ⟨h1, h3, h4⟩ := ih.mpr h
            exact ⟨h1, ⟨h2.symm, h3⟩, h4⟩
/-- the last part -/
theorem last_cut {c : Nat} : ∀ {l : List Nat}, c ∈ l → ∃ a b, l = a ++ c :: b ∧ c ∉ b
  | [], h => by cases h
  | x :: l, h => by
    by_cases hm : c ∈ l
    · obtain ⟨a, b, e, hb⟩ := last_cut hm
      exact ⟨x :: a, b, by rw [e]; rfl, hb⟩
    · have hx : c = x := by
        rcases List.mem_cons.mp h with e | e
        · exact e
        · exact absurd e hm
      exact ⟨[], l, by rw [hx]; rfl, hm⟩
/-! ### the model's words as list functions -/
theorem startswith_tl (x y : Str) : Txt.startswith x y = (tl y).isPrefixOf (tl x) := by
  unfold Txt.startswith
  rw [subAt_eq, List.drop_zero, len_tl, len_tl, Nat.zero_add]
  rw [Bool.eq_iff_iff]
  simp only [Bool.and_eq_true, decide_eq_true_eq, beq_iff_eq, List.isPrefixOf_iff_prefix]
  constructor
  · rintro ⟨_, h⟩
    have h : List.take (tl y).length (tl x) = tl y := h
    exact h ▸ List.take_prefix _ _
  · intro h
    exact ⟨h.length_le, (List.prefix_iff_eq_take.mp h).symm⟩
theorem endswith_tl (x y : Str) : Txt.endswith x y = (tl y).isSuffixOf (tl x) := by
  unfold Txt.endswith
  rw [subAt_eq, len_tl, len_tl, Nat.zero_add]
  rw [Bool.eq_iff_iff]
  simp only [Bool.and_eq_true, decide_eq_true_eq, beq_iff_eq, List.isSuffixOf_iff_suffix]
  constructor
  · rintro ⟨h1, h⟩
    have h : List.take (tl y).length (List.drop ((tl x).length - (tl y).length) (tl x)) = tl y := h
    rw [List.take_of_length_le (by rw [List.length_drop]; omega)] at h
    exact h ▸ List.drop_suffix _ _
  · intro h
    have hl := h.length_le
    refine ⟨hl, ?_⟩
    show List.take (tl y).length (List.drop ((tl x).length - (tl y).length) (tl x)) = tl y
    rw [List.take_of_length_le (by rw [List.length_drop]; omega)]
    exact (List.suffix_iff_eq_drop.mp h).symm
theorem rpartition_hit {x : Str} {c : Nat} {a b : List Nat} (e : tl x = a ++ c :: b) (hb : c ∉ b) : tl (Txt.rpartition x ⟨#[c]⟩).1 = a := by
  have hy : tl (⟨#[c]⟩ : Str) ≠ [] := by simp [tl]
  have at' : ∀ i, At x ⟨#[c]⟩ x.length i ↔ (tl x)[i]? = some c := fun i => by
    rw [at_iff hy]
    show (((tl x).drop i).take 1 == [c]) = true ↔ _
    exact take1_drop
  have hit : At x ⟨#[c]⟩ x.length a.length := (at' _).mpr (by rw [e]; simp)
  unfold Txt.rpartition
  rcases last_spec x ⟨#[c]⟩ with ⟨e1, h⟩ | ⟨i, e1, h1, h2⟩
  · exact absurd hit (h _)
  · rw [e1]
    show tl (strSub x 0 i) = a
    have hi : i = a.length := by
      rcases Nat.lt_trichotomy i a.length with q | q | q
      · exact absurd hit (h2 _ q)
      · exact q
      · have g := (at' i).mp h1
        rw [e, List.getElem?_append_right (by omega)] at g
        obtain ⟨k, hk⟩ : ∃ k, i - a.length = k + 1 := ⟨i - a.length - 1, by omega⟩
        rw [hk, List.getElem?_cons_succ] at g
        exact absurd (List.mem_of_getElem? g) hb
    rw [tl_strSub, hi, e]
    simp
theorem tl_S (l : List Nat) : tl ⟨l.toArray⟩ = l := rfl
theorem str_eq_iff {x y : Str} : x = y ↔ tl x = tl y := ⟨fun e => by rw [e], ext_tl⟩
end Kb
namespace Kb
open PySem PySem.Spec PyProof.Rows L2 TL PySem.StrLaws Builtin.Str
theorem cutS_to (z : Str) {i : Int} (h : 0 ≤ i) : tl (cutS z none (some i)) = (tl z).take i.toNat := by
  obtain ⟨k, rfl⟩ : ∃ k : Nat, i = (k : Int) := ⟨i.toNat, by omega⟩
  show ((tl z).drop (HT.sIx z.length 0 none)).take (HT.sIx z.length z.length (some (k : Int)) - HT.sIx z.length 0 none) = _
  rw [HT.sIx_none, HT.sIx_nat, List.drop_zero, Nat.sub_zero, Int.toNat_natCast, len_tl, ← List.take_take, List.take_of_length_le (Nat.le_refl _)]
end Kb
namespace Kb
open PySem PySem.Spec PyProof.Rows L2 TL PySem.StrLaws Builtin.Str
theorem cutV_to (xs : List V) {i : Int} (h : 0 ≤ i) : cutV xs none (some i) = xs.take i.toNat := by
  obtain ⟨k, rfl⟩ : ∃ k : Nat, i = (k : Int) := ⟨i.toNat, by omega⟩
  show (xs.drop (HT.sIx xs.length 0 none)).take (HT.sIx xs.length xs.length (some (k : Int)) - HT.sIx xs.length 0 none) = _
  rw [HT.sIx_none, HT.sIx_nat, List.drop_zero, Nat.sub_zero, Int.toNat_natCast, ← List.take_take, List.take_of_length_le (Nat.le_refl _)]
theorem cutV_m1 (xs : List V) : cutV xs none (some (-1)) = xs.dropLast := by
  show (xs.drop (HT.sIx xs.length 0 none)).take (HT.sIx xs.length xs.length (some (-1)) - HT.sIx xs.length 0 none) = _
  rw [HT.sIx_none, List.drop_zero, Nat.sub_zero, List.dropLast_eq_take]
  have e : HT.sIx xs.length xs.length (some (-1)) = xs.length - 1 := by
    show (if (-1 : Int) < 0 then ((-1 : Int) + (xs.length : Int)).toNat else min (-1 : Int).toNat xs.length) = _
    rw [if_pos (by decide)]
    omega
  rw [e]
theorem sp1_mem {c s : Nat} : ∀ {l p : List Nat}, p ∈ sp1 c l → s ∈ p → s ∈ l
  | [], p, h, hs => by simp only [sp1, List.mem_singleton] at h; subst h; exact hs
  | x :: l, p, h, hs => by
    obtain ⟨q, r, e⟩ := sp1_cons c l
    have ih := fun p => sp1_mem (c := c) (s := s) (l := l) (p := p)
    by_cases hx : x = c
    · subst hx
      rw [sp1_hit] at h
      rcases List.mem_cons.mp h with rfl | h
      · cases hs
      · exact List.mem_cons_of_mem _ (ih p h hs)
    · rw [sp1_miss hx e] at h
      rw [e] at ih
      rcases List.mem_cons.mp h with rfl | h
      · rcases List.mem_cons.mp hs with rfl | hs
        · exact List.mem_cons_self ..
        · exact List.mem_cons_of_mem _ (ih q (List.mem_cons_self ..) hs)
      · exact List.mem_cons_of_mem _ (ih p (List.mem_cons_of_mem _ h) hs)
theorem split_mem {x p : Str} {c : Nat} (hc : c < 256) (h : p ∈ Txt.split x ⟨#[c]⟩) : ∀ s ∈ tl p, s ∈ tl x := fun s hs =>
  sp1_mem (c := c) (by rw [← split_sp1 x hc]; exact List.mem_map.mpr ⟨p, h, rfl⟩) hs
theorem split_strOk {x : Str} {c : Nat} (hc : c < 256) (hx : ∀ s ∈ tl x, s < 1114112) : ∀ p ∈ Txt.split x ⟨#[c]⟩, PyData.canLay0 (.str p) = true := fun p hp => by
  rw [PyData.canLay0]
  show p.cps.all _ = true
  rw [Array.all_eq_true_iff_forall_mem]
  intro s hs
  exact decide_eq_true (hx s (split_mem hc hp s (Array.mem_toList_iff.mpr hs)))
theorem prefix_snoc {q p : List Nat} {c : Nat} : (q ++ [c]) <+: p ↔ q <+: p ∧ p[q.length]? = some c := by
  constructor
  · rintro ⟨r, e⟩
    refine ⟨⟨c :: r, by rw [← e]; simp⟩, ?_⟩
    rw [← e]; simp
  · rintro ⟨⟨r, e⟩, h⟩
    rw [← e, List.getElem?_append_right (Nat.le_refl _), Nat.sub_self] at h
    cases r with
    | nil => cases h
    | cons a r =>
      cases h
      exact ⟨r, by rw [← e]; simp⟩
theorem snoc_of_ne {l : List Nat} (h : l ≠ []) : ∃ r c, l = r ++ [c] := ⟨l.dropLast, l.getLast h, (List.dropLast_concat_getLast h).symm⟩
theorem sp1_length {c : Nat} : ∀ l : List Nat, (sp1 c l).length ≤ l.length + 1
  | [] => by simp [sp1]
  | x :: l => by
    obtain ⟨q, r, e⟩ := sp1_cons c l
    have ih := sp1_length (c := c) l
    by_cases hx : x = c
    · subst hx; rw [sp1_hit]; simp; omega
    · rw [sp1_miss hx e]; rw [e] at ih; simp at ih ⊢; omega
theorem split_length (x : Str) {c : Nat} (hc : c < 256) : (Txt.split x ⟨#[c]⟩).length ≤ x.length + 1 := by
  have := sp1_length (c := c) (tl x)
  rw [← split_sp1 x hc, List.length_map] at this
  rw [len_tl]; exact this
end Kb
namespace Kb
open PySem PySem.Spec PyProof.Rows L2 TL PySem.StrLaws Builtin.Str
theorem sp1_mem_len {c : Nat} : ∀ {l p : List Nat}, p ∈ sp1 c l → p.length ≤ l.length
  | [], p, h => by simp only [sp1, List.mem_singleton] at h; subst h; simp
  | x :: l, p, h => by
    obtain ⟨q, r, e⟩ := sp1_cons c l
    have ih := fun p => sp1_mem_len (c := c) (l := l) (p := p)
    by_cases hx : x = c
    · subst hx
      rw [sp1_hit] at h
      rcases List.mem_cons.mp h with rfl | h
      · simp
      · have := ih p h; simp; omega
    · rw [sp1_miss hx e] at h
      rw [e] at ih
      rcases List.mem_cons.mp h with rfl | h
      · have := ih q (List.mem_cons_self ..); simp; omega
      · have := ih p (List.mem_cons_of_mem _ h); simp; omega
theorem split_mem_len {x p : Str} {c : Nat} (hc : c < 256) (h : p ∈ Txt.split x ⟨#[c]⟩) : p.length ≤ x.length := by
  rw [len_tl, len_tl]
  exact sp1_mem_len (c := c) (by rw [← split_sp1 x hc]; exact List.mem_map.mpr ⟨p, h, rfl⟩)
theorem joinL_nil {c : Nat} : ∀ {L : List (List Nat)}, joinL [c] L = [] → L = [] ∨ L = [[]]
  | [], _ => .inl rfl
  | [p], h => .inr (by rw [show p = [] from h])
  | p :: q :: r, h => by
    have : p ++ ([c] ++ joinL [c] (q :: r)) = [] := h
    simp at this
theorem join_tl (y : Str) (parts : List Str) : tl (Txt.join y parts) = joinL (tl y) (parts.map tl) := by rw [join_eq, tl_join]
end Kb
namespace Kb
open PySem PySem.Spec PyProof.Rows L2 TL PySem.StrLaws Builtin.Str
theorem cutV_from (xs : List V) {i : Int} (h : 0 ≤ i) : cutV xs (some i) none = xs.drop i.toNat := by
  obtain ⟨k, rfl⟩ : ∃ k : Nat, i = (k : Int) := ⟨i.toNat, by omega⟩
  show (xs.drop (HT.sIx xs.length 0 (some (k : Int)))).take (HT.sIx xs.length xs.length none - HT.sIx xs.length 0 (some (k : Int))) = _
  rw [HT.sIx_none, HT.sIx_nat, Int.toNat_natCast]
  rcases Nat.le_total k xs.length with q | q
  · rw [Nat.min_eq_left q, List.take_of_length_le (by rw [List.length_drop]; omega)]
  · rw [Nat.min_eq_right q, List.drop_length, List.drop_eq_nil_of_le q, List.take_nil]
end Kb

namespace Kb
open PySem PySem.Spec PyProof.Rows L2
section
variable {X : Cx}
theorem pe_gc {x : Str} {pos : Pos} {v : V} (hg : Gl X x) (h : ∃ u, X.mg x = some u ∧ RelV v u) (hd : (x == ("__debug__" : Str)) = false := by decide) : PE X (.Name x pos) (tC v) := by
  obtain ⟨u, hm, r⟩ := h
  exact pe_glob hg hm r hd
theorem mt_rpartition : MtR X "str.rpartition" (fun x xs H Q => ∃ a b, x = .str a ∧ xs = [.str b] ∧ (b.length == 0) = false ∧ a.length ≤ sizeLine ∧
    ∀ p, H p = none → Q (.ref p) (upd H p (.tup [.str (Txt.rpartition a b).1, .str (Txt.rpartition a b).2.1, .str (Txt.rpartition a b).2.2]))) := by
  intro pins s σ H x xs v us Q I rx rs h
  obtain ⟨a, b, rfl, rfl, hb, hz, h⟩ := h
  obtain ⟨t, rfl⟩ := rx
  cases rs with
  | cons r1 rs =>
    cases rs
    obtain ⟨u, rfl⟩ := r1
    refine call_meets F.slot_str_rpartition (typeIs_str _ _ _) F.entry_str_rpartition (F.args_str_rpartition_2 _ _) (meets_str_rpartition a b t u hb hz) ?_
    unfold Txt.rpartition at h
    revert h
    cases Builtin.Str.lastOccurrence a b 0 a.length with
    | none => intro h; exact laid_parts I h
    | some i => intro h; exact laid_parts I h
end
/-! ### frames -/
/-- all that was tracked is as it was, but for d -/
def Keep (d : Addr) (H H' : Hp) : Prop := ∀ b o, H b = some o → b ≠ d → H' b = some o
theorem Keep.refl {d : Addr} {H : Hp} : Keep d H H := fun _ _ h _ => h
theorem Keep.trans {d : Addr} {H H1 H2 : Hp} (a : Keep d H H1) (b : Keep d H1 H2) : Keep d H H2 := fun c o h n => b c o (a c o h n) n
theorem Same.keep {d : Addr} {H H' : Hp} (a : Same H H') : Keep d H H' := fun c o h _ => a c o h
theorem Same.new {H : Hp} {p : Addr} {o : HO} (h : H p = none) : Same H (upd H p o) := fun b u e => by
  rw [upd_ne (ne_of_none e h)]
  exact e
theorem Keep.upd {d : Addr} {H H' : Hp} {o : HO} (a : Keep d H H') : Keep d H (upd H' d o) := fun c u h n => by
  rw [upd_ne n]
  exact a c u h n
theorem Keep.same {d : Addr} {H H1 H2 : Hp} (a : Keep d H H1) (b : Same H1 H2) : Keep d H H2 := fun c o h n => b c o (a c o h n)
theorem Same.then {d : Addr} {H H1 H2 : Hp} (a : Same H H1) (b : Keep d H1 H2) : Keep d H H2 := fun c o h n => b c o (a c o h) n
theorem Keep.seqL {K : PySem.W.Frag} {d a : Addr} {H H' : Hp} {xs : List V} (k : Keep d H H') (n : a ≠ d) (h : SqL K H a xs) : SqL K H' a xs := by
  rcases h with (h | ⟨o, h⟩) | h
  · exact .inl (.inl (k _ _ h n))
  · exact .inl (.inr ⟨o, k _ _ h n⟩)
  · exact .inr h
/-- an object that is new behind d's own changes -/
theorem Keep.fresh {d : Addr} {H H' : Hp} {l : Addr} (k : Keep d H H') (hd : H d = none) (h : H' l = none) : H l = none := by
  cases q : H l with
  | none => rfl
  | some o =>
    have : l ≠ d := fun e => by rw [e, hd] at q; cases q
    rw [k l o q this] at h
    cases h
/-- what is new since H stays new in Same's way -/
theorem Keep.toSame {d : Addr} {H H' : Hp} (k : Keep d H H') (hd : H d = none) : Same H H' := fun b o h => k b o h (ne_of_none h hd)
/-! ### a menu at an index in bounds -/
theorem menu {xs : List V} {i : Int} (h0 : 0 ≤ i) (h1 : i < (xs.length : Int)) : ∃ v, v ∈ xs ∧ atI xs i = some v := by
  obtain ⟨n, rfl⟩ : ∃ n : Nat, i = (n : Int) := ⟨i.toNat, by omega⟩
  have hn : n < xs.length := by omega
  exact ⟨xs[n], List.getElem_mem hn, atI_nat (List.getElem?_eq_getElem hn)⟩
theorem iteB {b : Bool} {A B : Prop} (h1 : b = true → A) (h2 : b = false → B) : if b = true then A else B := by
  cases b
  · rw [if_neg Bool.false_ne_true]; exact h2 rfl
  · rw [if_pos rfl]; exact h1 rfl
/-! ### the draw -/
def kLeft : Key := Sum.inr "left"
def kCell : Key := Sum.inr "cell"
def kTurns : Key := Sum.inr "turns"
def dkv (l c t : Int) : List (Key × V) := [(Sum.inr "left", .int l), (Sum.inr "cell", .int c), (Sum.inr "turns", .int t)]
theorem kne1 : ¬ (("left" : Str) = "cell") := by decide +kernel
theorem kne2 : ¬ (("left" : Str) = "turns") := by decide +kernel
theorem kne3 : ¬ (("cell" : Str) = "turns") := by decide +kernel
theorem dkv_left (l c t : Int) : valV (dkv l c t) (Sum.inr "left" : Key) = some (.int l) := by
  simp [valV, dkv]
theorem dkv_cell (l c t : Int) : valV (dkv l c t) (Sum.inr "cell" : Key) = some (.int c) := by
  simp [valV, dkv, kne1]
theorem dkv_turns (l c t : Int) : valV (dkv l c t) (Sum.inr "turns" : Key) = some (.int t) := by
  simp [valV, dkv, kne2, kne3]
theorem dkv_putL (l c t x : Int) : putK (dkv l c t) (Sum.inr "left" : Key) (.int x) = dkv x c t := by
  simp [putK, dkv, Ne.symm kne1, Ne.symm kne2]
theorem dkv_putT (l c t x : Int) : putK (dkv l c t) (Sum.inr "turns" : Key) (.int x) = dkv l c x := by
  simp [putK, dkv, kne2, kne3]
def DrawAt (H : Hp) (d : Addr) (n : Nat) : Prop := ∃ l c t : Int, H d = some (.dK (dkv l c t)) ∧ 0 ≤ l ∧ 0 ≤ t ∧ t + 4 * (n : Int) ≤ 1000000000
theorem DrawAt.less {H : Hp} {d : Addr} {n m : Nat} (h : DrawAt H d n) (e : m ≤ n) : DrawAt H d m := by
  obtain ⟨l, c, t, h1, h2, h3, h4⟩ := h
  exact ⟨l, c, t, h1, h2, h3, by omega⟩
theorem DrawAt.same {H H' : Hp} {d : Addr} {n : Nat} (h : DrawAt H d n) (s : Same H H') : DrawAt H' d n := by
  obtain ⟨l, c, t, h1, h2⟩ := h
  exact ⟨l, c, t, s _ _ h1, h2⟩
theorem DrawAt.keep {H H' : Hp} {d e : Addr} {n : Nat} (h : DrawAt H d n) (s : Keep e H H') (x : d ≠ e) : DrawAt H' d n := by
  obtain ⟨l, c, t, h1, h2⟩ := h
  exact ⟨l, c, t, s _ _ h1 x, h2⟩
end Kb
namespace Kb
open PySem PySem.Spec PyProof.Rows L2
theorem dget_left {H : Hp} {d : Addr} {l c t : Int} (h : H d = some (.dK (dkv l c t))) : DGet H d (.str "left") (some (.int l)) := by
  have e := DGet.k (k := (Sum.inr "left" : Key)) h
  rw [dkv_left] at e
  exact e
theorem dget_cell {H : Hp} {d : Addr} {l c t : Int} (h : H d = some (.dK (dkv l c t))) : DGet H d (.str "cell") (some (.int c)) := by
  have e := DGet.k (k := (Sum.inr "cell" : Key)) h
  rw [dkv_cell] at e
  exact e
theorem dget_turns {H : Hp} {d : Addr} {l c t : Int} (h : H d = some (.dK (dkv l c t))) : DGet H d (.str "turns") (some (.int t)) := by
  have e := DGet.k (k := (Sum.inr "turns" : Key)) h
  rw [dkv_turns] at e
  exact e
theorem dput_left {H : Hp} {d : Addr} {l c t : Int} (x : Int) (h : H d = some (.dK (dkv l c t))) : DPut H d (.str "left") (.int x) (upd H d (.dK (dkv x c t))) := by
  have e := DPut.k (k := (Sum.inr "left" : Key)) (v := .int x) h (Nat.lt_of_lt_of_le (by show 3 < 10; decide) (by decide))
  rw [dkv_putL] at e
  exact e
theorem dput_turns {H : Hp} {d : Addr} {l c t : Int} (x : Int) (h : H d = some (.dK (dkv l c t))) : DPut H d (.str "turns") (.int x) (upd H d (.dK (dkv l c x))) := by
  have e := DPut.k (k := (Sum.inr "turns" : Key)) (v := .int x) h (Nat.lt_of_lt_of_le (by show 3 < 10; decide) (by decide))
  rw [dkv_putT] at e
  exact e
end Kb
namespace Kb
open PySem PySem.Spec PyProof.Rows L2 TL
section
variable {K : PySem.W.Frag} {a : Addr} {xs : List V} {g : TG} {tb : TS} {D : Ends} {σ : L2.St} {H : Hp}
theorem for_str {z : Str} (Pv : Nat → L2.St → Hp → Prop) (h0 : Pv 0 σ H)
    (hs : ∀ i c σ H, (tl z)[i]? = some c → Pv i σ H → g (.str ⟨#[c]⟩) σ H fun σ2 H2 => tb { D with nx := Pv (i + 1), ct := Pv (i + 1), bk := D.nx } σ2 H2) (hd : ∀ σ H, Pv (tl z).length σ H → D.nx σ H) :
    ∃ W : Nat → Nat → L2.St → Hp → Prop, (∃ m, W 0 m σ H) ∧ ∀ i m σ H, W i m σ H →
      ((Its z).stop i H ∧ D.nx σ H) ∨ ((Its z).go i H ∧ ∃ N : L2.St → Hp → Prop, (∀ σ' H', N σ' H' → ∃ m', m' < m ∧ W (i + 1) m' σ' H') ∧ ∀ x H', (Its z).yld i H x H' → g x σ H' fun σ2 H2 => tb { D with nx := N, ct := N, bk := D.nx } σ2 H2) := by
  refine for_it walk_str Pv h0 (fun _ _ _ _ _ => trivial) (fun i x σ H H' hi p y => ?_) (fun σ H p => hd σ H (by rw [show (tl z).length = z.cps.size by simp [tl]]; exact p))
  obtain ⟨rfl, c, hc, rfl⟩ := y
  exact hs i c σ _ (by rw [← hc]; simp [tl]) p
theorem for_enum (Pv : Nat → L2.St → Hp → Prop) (h0 : Pv 0 σ H) (hG : ∀ i σ H, i ≤ xs.length → Pv i σ H → SqL K H a xs)
    (hs : ∀ i x T σ H, xs[i]? = some x → Pv i σ H → H T = none → g (.ref T) σ (upd H T (.tup [.int (i : Nat), x])) fun σ2 H2 => tb { D with nx := Pv (i + 1), ct := Pv (i + 1), bk := D.nx } σ2 H2) (hd : ∀ σ H, Pv xs.length σ H → D.nx σ H) :
    ∃ W : Nat → Nat → L2.St → Hp → Prop, (∃ m, W 0 m σ H) ∧ ∀ i m σ H, W i m σ H →
      ((Ite K a).stop i H ∧ D.nx σ H) ∨ ((Ite K a).go i H ∧ ∃ N : L2.St → Hp → Prop, (∀ σ' H', N σ' H' → ∃ m', m' < m ∧ W (i + 1) m' σ' H') ∧ ∀ x H', (Ite K a).yld i H x H' → g x σ H' fun σ2 H2 => tb { D with nx := N, ct := N, bk := D.nx } σ2 H2) := by
  refine for_it walk_enum Pv h0 hG (fun i x σ H H' hi p y => ?_) hd
  obtain ⟨T, x, y, rfl, hT, rfl, h1, h2⟩ := y
  cases h1
  exact hs i y T σ H h2 p hT
end
end Kb
namespace Kb
open PySem PySem.Spec PyProof.Rows L2 TL
/-! ### == of lists of texts -/
theorem dpAll_strs {K : PySem.W.Frag} {H : Hp} : ∀ ys : List Str, DpAll K H (ys.map V.str) (ys.map PyData.str)
  | [] => .nil
  | y :: ys => .cons (.str y) (dpAll_strs ys)
theorem dp_strs {K : PySem.W.Frag} {H : Hp} {p : Addr} {ys : List Str} (h : SqL K H p (ys.map V.str)) : Dp K H (.ref p) (.list (ys.map PyData.str)) := .lst h (dpAll_strs ys)
theorem dp_strsT {K : PySem.W.Frag} {H : Hp} {p : Addr} {ys : List Str} (h : SqT K H p (ys.map V.str)) : Dp K H (.ref p) (.tuple (ys.map PyData.str)) := .tup h (dpAll_strs ys)
theorem eqvAll_strs : ∀ ys zs : List Str, PyData.eqvAll (ys.map PyData.str) (zs.map PyData.str) = decide (ys = zs)
  | [], [] => by simp [PyData.eqvAll]
  | [], z :: zs => by simp [PyData.eqvAll]
  | y :: ys, [] => by simp [PyData.eqvAll]
  | y :: ys, z :: zs => by
    rw [List.map_cons, List.map_cons, PyData.eqvAll, eqvAll_strs ys zs]
    rw [show PyData.eqv (.str y) (.str z) = (y == z) by simp [PyData.eqv]]
    rw [Bool.eq_iff_iff]
    simp
theorem canLay_strs : ∀ ys : List Str, (∀ y ∈ ys, PyData.canLay0 (.str y) = true) → PyData.canLayAll0 (ys.map PyData.str) = true
  | [], _ => by simp [PyData.canLayAll0]
  | y :: ys, h => by
    rw [List.map_cons, PyData.canLayAll0, h y (List.mem_cons_self ..), canLay_strs ys fun z hz => h z (List.mem_cons_of_mem _ hz)]; rfl
theorem depth_strs : ∀ ys : List Str, PyData.depthAll (ys.map PyData.str) = 0
  | [] => by simp [PyData.depthAll]
  | y :: ys => by
    rw [List.map_cons, PyData.depthAll, depth_strs ys]
    simp [PyData.depth]
theorem shaped_strs {ys : List Str} (h : ∀ y ∈ ys, PyData.canLay0 (.str y) = true) : SeqAt.shaped (.list (ys.map PyData.str)) = true := by
  unfold SeqAt.shaped
  rw [PyData.canLay0, canLay_strs ys h, PyData.depth, depth_strs]; rfl
end Kb
namespace Kb
open PySem PySem.Spec PyProof.Rows L2 TL
/-! ### rules with the written part named -/
def rLenQ (K : PySem.W.Frag) : List V → Hp → VK → Prop := fun xs H Q => ∃ p ys, xs = [.ref p] ∧ (SqL K H p ys ∨ SqT K H p ys) ∧ Q (.int ys.length) H
def rJoinQ (K : PySem.W.Frag) : V → List V → Hp → VK → Prop := fun x xs H Q => ∃ a p, ∃ ys : List Str, x = .str a ∧ xs = [.ref p] ∧ (SqL K H p (ys.map V.str) ∨ SqT K H p (ys.map V.str)) ∧ (ys.map (·.length)).sum + ys.length * a.length ≤ 16777216 ∧ Q (.str (Txt.join a ys)) H
end Kb
namespace Kb
open PySem PySem.Spec PyProof.Rows L2 TL
theorem DrawAt.upd {H : Hp} {d L : Addr} {n : Nat} {o : HO} (h : DrawAt H d n) (x : d ≠ L) : DrawAt (L2.upd H L o) d n := by
  obtain ⟨l, c, t, h1, h2⟩ := h
  exact ⟨l, c, t, by rw [upd_ne x]; exact h1, h2⟩
theorem DrawAt.ne {H : Hp} {d L : Addr} {n : Nat} (h : DrawAt H d n) (x : H L = none) : L ≠ d := fun e => by
  obtain ⟨_, _, _, q, _⟩ := h
  rw [e, q] at x; cases x
theorem Keep.updN {d L : Addr} {H H' : Hp} {o : HO} (k : Keep d H H') (h : H L = none) : Keep d H (L2.upd H' L o) := fun b q e n => by
  rw [upd_ne (ne_of_none e h)]
  exact k b q e n
end Kb
namespace Kb
open PySem PySem.Spec PyProof.Rows L2 TL
theorem all_at {p : Nat → Bool} {l : List Nat} {i : Nat} {c : Nat} (h : l[i]? = some c) : (l.take (i + 1)).all p = ((l.take i).all p && p c) := by
  rw [List.take_add_one, h, List.all_append]; simp
theorem allS_at {p : List Nat → Bool} {l : List Str} {i : Nat} {c : Str} (h : l[i]? = some c) : ((l.take (i + 1)).map tl).all p = (((l.take i).map tl).all p && p (tl c)) := by
  rw [List.take_add_one, h, List.map_append, List.all_append]; simp
theorem strAt {xs : List Str} {i : Nat} {v : V} (h : (xs.map V.str)[i]? = some v) : ∃ x, xs[i]? = some x ∧ v = .str x := by
  rw [List.getElem?_map] at h
  cases e : xs[i]? with
  | none => rw [e] at h; cases h
  | some x => rw [e] at h; exact ⟨x, rfl, (Option.some.inj h).symm⟩
/-- a text with f, or a value that is no text -/
def TxV (f : List Nat → Bool) (K : PySem.W.Frag) (H : Hp) (v : V) (b : Bool) : Prop :=
  (∃ x : Str, v = .str x ∧ x.length ≤ 1000000 ∧ b = f (tl x)) ∨ (∃ t : Value, TyX K H v t ∧ PySem.W.kitOne K t (.type "str") = some false ∧ b = false)
theorem kit_str (K : PySem.W.Frag) : PySem.W.kitOne K (.type "str") (.type "str") = some true := kit_ty (by decide +kernel)
theorem TxV.of {f : List Nat → Bool} {K : PySem.W.Frag} {H : Hp} {x : Str} (h : x.length ≤ 1000000) : TxV f K H (.str x) (f (tl x)) := .inl ⟨x, rfl, h, rfl⟩
end Kb

namespace Kb
open PySem PySem.Spec PyProof.Rows L2 TL
/-! ### hosts as lists of signs -/
def onlyB (g l : List Nat) : Bool := (l.all fun c => decide (c ∈ g)) && decide (l ≠ [])
def digs : List Nat := [48, 49, 50, 51, 52, 53, 54, 55, 56, 57]
def lsig : List Nat := [97, 98, 99, 100, 101, 102, 103, 104, 105, 106, 107, 108, 109, 110, 111, 112, 113, 114, 115, 116, 117, 118, 119, 120, 121, 122, 48, 49, 50, 51, 52, 53, 54, 55, 56, 57, 45]
def digB (l : List Nat) : Bool := onlyB digs l
def labB (l : List Nat) : Bool := decide (l.length ≤ 20) && (onlyB lsig l && (decide (l.head? ≠ some 45) && decide (l.getLast? ≠ some 45)))
def numB (l : List Nat) : Bool := digB l && (decide (NumText.digitsVal l ≤ 255) && (decide (l = [48]) || decide (l.head? ≠ some 48)))
def lastL (L : List (List Nat)) : List Nat := L.getLast?.getD []
def hostL (L : List (List Nat)) : Bool := decide (L.length ≤ 10) && (L.all labB && (!digB (lastL L) || (L.all numB && decide (L.length = 4))))
def hostB (l : List Nat) : Bool := decide (l.length ≤ 100) && hostL (sp1 46 l)
def addrB (l : List Nat) : Bool := hostB l && digB (lastL (sp1 46 l))
def fitB (h d : List Nat) : Bool := decide (h = d) || (!addrB h && (46 :: d).isSuffixOf h)
theorem tl_dot : tl ("." : Str) = [46] := by decide +kernel
theorem dot_eq : ("." : Str) = ⟨#[46]⟩ := ext_tl tl_dot
theorem tl_lsig : tl ("abcdefghijklmnopqrstuvwxyz0123456789-" : Str) = lsig := by decide +kernel
theorem tl_digs : tl ("0123456789" : Str) = digs := by decide +kernel
theorem hostB_len {x : Str} (h : hostB (tl x) = true) : x.length ≤ 100 := by
  unfold hostB at h
  rw [Bool.and_eq_true, decide_eq_true_eq] at h
  rw [len_tl]; exact h.1
theorem digs_iff {c : Nat} : c ∈ digs ↔ 48 ≤ c ∧ c ≤ 57 := by
  simp only [digs, List.mem_cons, List.not_mem_nil, or_false]
  omega
theorem digB_iff {l : List Nat} : digB l = true ↔ NumText.AllDigits l ∧ l ≠ [] := by
  unfold digB onlyB NumText.AllDigits
  rw [Bool.and_eq_true, List.all_eq_true, decide_eq_true_eq]
  constructor
  · rintro ⟨h, n⟩; exact ⟨fun c hc => digs_iff.mp (of_decide_eq_true (h c hc)), n⟩
  · rintro ⟨h, n⟩; exact ⟨fun c hc => decide_eq_true (digs_iff.mpr (h c hc)), n⟩
theorem int_dig {x : Str} (h : digB (tl x) = true) (hl : x.length ≤ 640) : intText? x = some ((NumText.digitsVal (tl x) : Nat) : Int) :=
  intText_digits (digB_iff.mp h).1 (digB_iff.mp h).2 (by omega)
theorem lsig_lt {c : Nat} (h : c ∈ lsig) : c < 128 ∧ 45 ≤ c := by
  simp only [lsig, List.mem_cons, List.not_mem_nil, or_false] at h
  omega
theorem dot_free {l : List Nat} (h : labB l = true) : 46 ∉ l := fun hm => by
  unfold labB onlyB at h
  simp only [Bool.and_eq_true, List.all_eq_true, decide_eq_true_eq] at h
  exact absurd (h.2.1.1 46 hm) (by decide)
theorem lab_ne {l : List Nat} (h : labB l = true) : l ≠ [] := by
  unfold labB onlyB at h
  simp only [Bool.and_eq_true, List.all_eq_true, decide_eq_true_eq] at h
  exact h.2.1.2
theorem lab_len {l : List Nat} (h : labB l = true) : l.length ≤ 20 := by
  unfold labB at h
  simp only [Bool.and_eq_true, decide_eq_true_eq] at h
  exact h.1
theorem lab_sign {l : List Nat} (h : labB l = true) {c : Nat} (hc : c ∈ l) : c ∈ lsig := by
  unfold labB onlyB at h
  simp only [Bool.and_eq_true, List.all_eq_true, decide_eq_true_eq] at h
  exact h.2.1.1 c hc
theorem lastL_snoc (L : List (List Nat)) (p : List Nat) : lastL (L ++ [p]) = p := by
  unfold lastL; rw [List.getLast?_concat]; rfl
/-- joined labels are their parts -/
theorem sp1_joinL {c : Nat} : ∀ {L : List (List Nat)}, L ≠ [] → (∀ p ∈ L, c ∉ p) → sp1 c (joinL [c] L) = L
  | [], h, _ => absurd rfl h
  | [p], _, hp => sp1_of_free (hp p (List.mem_singleton.mpr rfl))
  | p :: q :: r, _, hp => by
    show sp1 c (p ++ (c :: joinL [c] (q :: r))) = _
    rw [sp1_app, sp1_of_free (hp p (List.mem_cons_self ..)), sp1_joinL (by simp) fun z hz => hp z (List.mem_cons_of_mem _ hz)]
    rfl
theorem joinL_app {c : Nat} : ∀ {L M : List (List Nat)}, L ≠ [] → M ≠ [] → joinL [c] (L ++ M) = joinL [c] L ++ c :: joinL [c] M
  | [], _, h, _ => absurd rfl h
  | [p], m :: M, _, _ => rfl
  | [p], [], _, h => absurd rfl h
  | p :: q :: r, M, _, hM => by
    show p ++ (c :: joinL [c] (q :: r ++ M)) = _
    rw [joinL_app (L := q :: r) (by simp) hM]
    simp [joinL]
/-- d's parts are the last parts exactly if it is all, or stands behind a sign -/
theorem sp1_suffix (c : Nat) (h d : List Nat) : ((sp1 c d).length ≤ (sp1 c h).length ∧ (sp1 c h).drop ((sp1 c h).length - (sp1 c d).length) = sp1 c d) ↔ (h = d ∨ (c :: d) <:+ h) := by
  constructor
  · rintro ⟨h1, h2⟩
    have e : sp1 c h = (sp1 c h).take ((sp1 c h).length - (sp1 c d).length) ++ sp1 c d := by
      conv => lhs; rw [← List.take_append_drop ((sp1 c h).length - (sp1 c d).length) (sp1 c h), h2]
    by_cases ht : (sp1 c h).take ((sp1 c h).length - (sp1 c d).length) = []
    · rw [ht, List.nil_append] at e
      exact .inl (by rw [← joinL_sp1 c h, e, joinL_sp1])
    · refine .inr ⟨joinL [c] ((sp1 c h).take ((sp1 c h).length - (sp1 c d).length)), ?_⟩
      have e2 := joinL_sp1 c h
      rw [e, joinL_app ht (sp1_ne c d), joinL_sp1] at e2
      exact e2
  · rintro (rfl | ⟨r, e⟩)
    · simp
    · rw [← e, sp1_app, List.length_append]
      refine ⟨by omega, ?_⟩
      rw [Nat.add_sub_cancel, List.drop_left]
end Kb
namespace Kb
open PySem PySem.Spec PyProof.Rows L2 TL
/-! ### drawn hosts: small labels that are no numbers -/
def wlab (l : List Nat) : Bool := labB l && (!digB l && decide (l.length ≤ 4))
def HostW (n : Nat) (x : Str) : Prop := ∃ L : List (List Nat), L ≠ [] ∧ L.length ≤ n ∧ (∀ l ∈ L, wlab l = true) ∧ tl x = joinL [46] L
theorem wlab_lab {l : List Nat} (h : wlab l = true) : labB l = true ∧ digB l = false ∧ l.length ≤ 4 := by
  unfold wlab at h
  simp only [Bool.and_eq_true, Bool.not_eq_true', decide_eq_true_eq] at h
  exact h
theorem joinL_len {c B : Nat} : ∀ L : List (List Nat), (∀ l ∈ L, l.length ≤ B) → (joinL [c] L).length ≤ L.length * (B + 1)
  | [], _ => by simp [joinL]
  | [p], h => by have := h p (List.mem_singleton.mpr rfl); simp [joinL]; omega
  | p :: q :: r, h => by
    have h1 := h p (List.mem_cons_self ..)
    have h2 := joinL_len (c := c) (q :: r) fun l hl => h l (List.mem_cons_of_mem _ hl)
    show (p ++ (c :: joinL [c] (q :: r))).length ≤ _
    rw [List.length_append, List.length_cons, List.length_cons (a := p), Nat.succ_mul]
    omega
theorem lastL_mem {L : List (List Nat)} (h : L ≠ []) : lastL L ∈ L := by
  have e : L = L.dropLast ++ [L.getLast h] := (List.dropLast_concat_getLast h).symm
  have e2 : lastL L = L.getLast h := by
    conv => lhs; rw [e]
    exact lastL_snoc _ _
  rw [e2]
  exact List.getLast_mem h
theorem HostW.parts {n : Nat} {x : Str} (h : HostW n x) : ∃ L : List (List Nat), sp1 46 (tl x) = L ∧ L ≠ [] ∧ L.length ≤ n ∧ (∀ l ∈ L, wlab l = true) ∧ tl x = joinL [46] L := by
  obtain ⟨L, h1, h2, h3, h4⟩ := h
  exact ⟨L, by rw [h4, sp1_joinL h1 fun p hp => dot_free (wlab_lab (h3 p hp)).1], h1, h2, h3, h4⟩
theorem HostW.len {n : Nat} {x : Str} (h : HostW n x) : x.length ≤ 5 * n := by
  obtain ⟨L, h1, h2, h3, h4⟩ := h
  rw [len_tl, h4]
  have := joinL_len (c := 46) (B := 4) L fun l hl => (wlab_lab (h3 l hl)).2.2
  omega
theorem HostW.host {n : Nat} {x : Str} (h : HostW n x) (hn : n ≤ 10) : hostB (tl x) = true ∧ digB (lastL (sp1 46 (tl x))) = false := by
  have hl := h.len
  obtain ⟨L, e, h1, h2, h3, h4⟩ := h.parts
  have hz : digB (lastL L) = false := (wlab_lab (h3 _ (lastL_mem h1))).2.1
  rw [e]
  refine ⟨?_, hz⟩
  unfold hostB hostL
  rw [e, hz, decide_eq_true (by rw [← len_tl]; omega), decide_eq_true (by omega), List.all_eq_true.mpr fun l hl => (wlab_lab (h3 l hl)).1]
  rfl
theorem HostW.more {n m : Nat} {x : Str} (h : HostW n x) (e : n ≤ m) : HostW m x := by
  obtain ⟨L, h1, h2, h3, h4⟩ := h
  exact ⟨L, h1, Nat.le_trans h2 e, h3, h4⟩
theorem HostW.dot {n m : Nat} {x y : Str} (h : HostW n x) (k : HostW m y) : HostW (n + m) (x ++ "." ++ y) := by
  obtain ⟨L, h1, h2, h3, h4⟩ := h
  obtain ⟨M, k1, k2, k3, k4⟩ := k
  refine ⟨L ++ M, by simp [h1], by rw [List.length_append]; omega, fun l hl => ?_, ?_⟩
  · rcases List.mem_append.mp hl with q | q
    · exact h3 l q
    · exact k3 l q
  · rw [tl_append, tl_append, tl_dot, h4, k4, joinL_app h1 k1, List.append_assoc]; rfl
/-- address hosts: four numbers -/
def AddrW (x : Str) : Prop := ∃ L : List (List Nat), L.length = 4 ∧ (∀ l ∈ L, ∃ n : Nat, n < 256 ∧ l = numL n) ∧ tl x = joinL [46] L
theorem num_ok : ∀ n : Nat, n < 256 → (labB (numL n) && (numB (numL n) && (digB (numL n) && decide ((numL n).length ≤ 3)))) = true := by decide +kernel
theorem AddrW.parts {x : Str} (h : AddrW x) : ∃ L : List (List Nat), sp1 46 (tl x) = L ∧ L.length = 4 ∧ (∀ l ∈ L, labB l = true ∧ numB l = true ∧ digB l = true ∧ l.length ≤ 3) ∧ tl x = joinL [46] L := by
  obtain ⟨L, h1, h2, h3⟩ := h
  have h4 : ∀ l ∈ L, labB l = true ∧ numB l = true ∧ digB l = true ∧ l.length ≤ 3 := fun l hl => by
    obtain ⟨n, hn, rfl⟩ := h2 l hl
    have := num_ok n hn
    simp only [Bool.and_eq_true, decide_eq_true_eq] at this
    exact this
  refine ⟨L, ?_, h1, h4, h3⟩
  rw [h3, sp1_joinL (by intro e; rw [e] at h1; cases h1) fun p hp => dot_free (h4 p hp).1]
theorem AddrW.len {x : Str} (h : AddrW x) : x.length ≤ 16 := by
  obtain ⟨L, e, h1, h2, h3⟩ := h.parts
  rw [len_tl, h3]
  have := joinL_len (c := 46) (B := 3) L fun l hl => (h2 l hl).2.2.2
  omega
theorem AddrW.host {x : Str} (h : AddrW x) : hostB (tl x) = true ∧ digB (lastL (sp1 46 (tl x))) = true := by
  have hl := h.len
  obtain ⟨L, e, h1, h2, h3⟩ := h.parts
  have hz : digB (lastL L) = true := (h2 _ (lastL_mem (by intro e; rw [e] at h1; cases h1))).2.2.1
  rw [e]
  refine ⟨?_, hz⟩
  unfold hostB hostL
  rw [e, hz, decide_eq_true (by rw [← len_tl]; omega), decide_eq_true (by omega), List.all_eq_true.mpr fun l hl => (h2 l hl).1, List.all_eq_true.mpr fun l hl => (h2 l hl).2.1, decide_eq_true h1]
  rfl
/-- what a host is, for the law's own reckoning -/
theorem fit_due {h d : List Nat} (hh : hostB h = true) : fitB h d = (if digB (lastL (sp1 46 h)) = true then decide (sp1 46 h = sp1 46 d) else decide ((sp1 46 d).length ≤ (sp1 46 h).length) && decide ((sp1 46 h).drop ((sp1 46 h).length - (sp1 46 d).length) = sp1 46 d)) := by
  unfold fitB addrB
  rw [hh, Bool.true_and]
  cases hz : digB (lastL (sp1 46 h)) with
  | true =>
    rw [if_pos rfl, Bool.not_true, Bool.false_and, Bool.or_false, Bool.eq_iff_iff, decide_eq_true_eq, decide_eq_true_eq]
    exact ⟨fun e => by rw [e], fun e => by rw [← joinL_sp1 46 h, e, joinL_sp1]⟩
  | false =>
    rw [if_neg Bool.false_ne_true, Bool.not_false, Bool.true_and, Bool.eq_iff_iff, Bool.or_eq_true, Bool.and_eq_true, decide_eq_true_eq, decide_eq_true_eq, decide_eq_true_eq, List.isSuffixOf_iff_suffix]
    exact (sp1_suffix 46 h d).symm
end Kb
namespace Kb
open PySem PySem.Spec PyProof.Rows L2 TL
theorem digit_lsig : ∀ c ∈ lsig, Unicode.isDigit c = decide (c ∈ digs) := by decide +kernel
theorem isdigit_lab {z : Str} (h : labB (tl z) = true) : Txt.isdigit z = digB (tl z) := by
  unfold Txt.isdigit digB onlyB
  have hn := lab_ne h
  have h0 : decide (z.length > 0) = true := decide_eq_true (by rw [len_tl]; exact List.length_pos_iff.mpr hn)
  rw [h0, Bool.true_and, decide_eq_true hn, Bool.and_true, Bool.eq_iff_iff, Array.all_eq_true_iff_forall_mem, List.all_eq_true]
  constructor
  · intro q c hc
    rw [← digit_lsig c (lab_sign h hc)]
    exact q c (Array.mem_toList_iff.mp hc)
  · intro q c hc
    have hc := Array.mem_toList_iff.mpr hc
    rw [digit_lsig c (lab_sign h hc)]
    exact q c hc
theorem host_labels {x : Str} (h : hostB (tl x) = true) : ∀ l ∈ sp1 46 (tl x), labB l = true := by
  unfold hostB hostL at h
  simp only [Bool.and_eq_true, List.all_eq_true] at h
  exact h.2.2.1
theorem host_lt {x : Str} (h : hostB (tl x) = true) : ∀ s ∈ tl x, s < 1114112 := fun s hs => by
  have hl := host_labels h
  rw [← joinL_sp1 46 (tl x)] at hs
  have : ∀ L : List (List Nat), (∀ l ∈ L, labB l = true) → ∀ s ∈ joinL [46] L, s = 46 ∨ s ∈ lsig := by
    intro L
    induction L with
    | nil => intro _ s hs; cases hs
    | cons p L ih =>
      intro hL s hs
      cases L with
      | nil => exact .inr (lab_sign (hL p (List.mem_cons_self ..)) hs)
      | cons q r =>
        have hs : s ∈ p ++ (46 :: joinL [46] (q :: r)) := hs
        rcases List.mem_append.mp hs with a | a
        · exact .inr (lab_sign (hL p (List.mem_cons_self ..)) a)
        · rcases List.mem_cons.mp a with a | a
          · exact .inl a
          · exact ih (fun l hl => hL l (List.mem_cons_of_mem _ hl)) s a
  rcases this _ hl s hs with rfl | q
  · decide
  · have := lsig_lt q; omega
end Kb

namespace Kb
open PySem PySem.Spec PyProof.Rows L2 TL PySem.Builtin PySem.Builtin.Str
/-! ### what is stripped away of a text at both ends -/
theorem strip_none (x g : Str) : (Txt.stripChars x g = ("" : Str)) ↔ ∀ c ∈ tl x, c ∈ tl g := by
  unfold Txt.stripChars
  rw [stripBy_eq]
  have hc : ∀ c, g.cps.contains c = true ↔ c ∈ tl g := fun c => by
    unfold tl
    rw [← Array.contains_toList, List.contains_iff_mem]
  obtain ⟨l1, l2, l3⟩ := lo_facts g.cps.contains x
  obtain ⟨h1, h2, h3, h4⟩ := hi_facts g.cps.contains x _ l1
  generalize stripLo g.cps.contains true x = lo at *
  generalize stripHi g.cps.contains true x lo = hi at *
  have hx : x.length = (tl x).length := len_tl x
  have e0 : (strSub x lo hi = ("" : Str)) ↔ hi = lo := by
    constructor
    · intro e
      have : (strSub x lo hi).length = 0 := by rw [e]; decide +kernel
      simp [strSub, Str.length] at this
      have hx' : x.length = x.cps.size := rfl
      omega
    · intro e
      subst e
      apply ext_tl
      simp [strSub, tl]
      decide +kernel
  rw [e0]
  have gd : ∀ k, k < x.length → ∃ c, (tl x)[k]? = some c ∧ x.cps.getD k 0 = c := fun k hk => by
    refine ⟨x.cps.getD k 0, ?_, rfl⟩
    have hk' : k < x.cps.size := hk
    simp [tl, Array.getD, hk']
  constructor
  · intro e c hm
    obtain ⟨k, hk⟩ := List.mem_iff_getElem?.mp hm
    have hl : k < (tl x).length := by
      rw [List.getElem?_eq_some_iff] at hk
      exact hk.1
    rw [← hx] at hl
    obtain ⟨c', e1, e2⟩ := gd k hl
    rw [hk] at e1
    cases e1
    rw [← hc]
    by_cases q : k < lo
    · have := l2 k q; rw [e2] at this; exact this
    · have := h3 k (by omega) hl; rw [e2] at this; exact this
  · intro al
    have al' : ∀ k, k < x.length → g.cps.contains (x.cps.getD k 0) = true := fun k hk => by
      obtain ⟨c, e1, e2⟩ := gd k hk
      rw [e2, hc]
      exact al c (List.mem_of_getElem? e1)
    by_cases q : lo = x.length
    · omega
    · have := l3.resolve_left q
      rw [al' lo (by omega)] at this
      cases this
theorem strip_only (x g : Str) : (!decide (V.str x = V.str ("" : Str)) && decide (V.str (Txt.stripChars x g) = V.str ("" : Str))) = onlyB (tl g) (tl x) := by
  unfold onlyB
  rw [Bool.eq_iff_iff, Bool.and_eq_true, Bool.and_eq_true, Bool.not_eq_true', decide_eq_true_eq, decide_eq_true_eq, decide_eq_false_iff_not, List.all_eq_true]
  have e1 : (V.str x = V.str ("" : Str)) ↔ tl x = [] := ⟨fun q => by rw [V.str.inj q]; decide +kernel, fun q => by rw [show x = ("" : Str) from ext_tl (by rw [q]; decide +kernel)]⟩
  have e2 : (V.str (Txt.stripChars x g) = V.str ("" : Str)) ↔ ∀ c ∈ tl x, c ∈ tl g := by
    rw [← strip_none]
    exact ⟨fun q => V.str.inj q, fun q => by rw [q]⟩
  rw [e1, e2]
  constructor
  · rintro ⟨a, b⟩; exact ⟨fun c hc => decide_eq_true (b c hc), a⟩
  · rintro ⟨a, b⟩; exact ⟨b, fun c hc => of_decide_eq_true (a c hc)⟩
end Kb

namespace Kb
open PySem PySem.Spec PyProof.Rows L2 TL
/-! ### paths as lists of signs -/
/-- a sign that a path may have -/
def psign (c : Nat) : Bool := decide (33 ≤ c) && decide (c ≤ 126) && (decide (c ≠ 59) && decide (c ≠ 63) && decide (c ≠ 35)) && decide (c ≠ 37)
def pathB (l : List Nat) : Bool := decide (l.length ≤ 200) && ([47].isPrefixOf l && l.all psign)
def pfB (p q : List Nat) : Bool := decide (p = q) || (q.isPrefixOf p && ([47].isSuffixOf q || p[q.length]? == some 47))
/-- all in front of the last slash, or a slash -/
def dflt (l : List Nat) : List Nat := if joinL [47] (sp1 47 l).dropLast = [] then [47] else joinL [47] (sp1 47 l).dropLast
theorem tl_slash : tl ("/" : Str) = [47] := by decide +kernel
theorem slash_eq : ("/" : Str) = ⟨#[47]⟩ := ext_tl tl_slash
theorem dflt_cut {l a b : List Nat} (e : l = a ++ 47 :: b) (hb : 47 ∉ b) : dflt l = if a = [] then [47] else a := by
  unfold dflt
  have : (sp1 47 l).dropLast = sp1 47 a := by
    rw [e, sp1_app, sp1_of_free hb, List.dropLast_concat]
  rw [this, joinL_sp1]
theorem pathB_len {x : Str} (h : pathB (tl x) = true) : x.length ≤ 200 := by
  unfold pathB at h
  rw [Bool.and_eq_true, decide_eq_true_eq] at h
  rw [len_tl]; exact h.1
theorem pathB_head {x : Str} (h : pathB (tl x) = true) : ∃ r, tl x = 47 :: r := by
  unfold pathB at h
  rw [Bool.and_eq_true, Bool.and_eq_true, List.isPrefixOf_iff_prefix] at h
  obtain ⟨r, e⟩ := h.2.1
  exact ⟨r, e.symm⟩
/-- the signs a, b, the dot and the slash -/
def sgn4 (z : Str) : Bool := (tl z).all fun c => c == 47 || c == 97 || c == 98 || c == 46
def PathQ (m : Nat) (x : Str) : Prop := (∃ r, tl x = 47 :: r) ∧ sgn4 x = true ∧ x.length ≤ m
theorem sgn4_app {x y : Str} (h1 : sgn4 x = true) (h2 : sgn4 y = true) : sgn4 (x ++ y) = true := by
  unfold sgn4 at *
  rw [tl_append, List.all_append, h1, h2]; rfl
theorem PathQ.app {m k : Nat} {x y : Str} (h : PathQ m x) (h2 : sgn4 y = true) (h3 : y.length ≤ k) : PathQ (m + k) (x ++ y) := by
  obtain ⟨⟨r, e⟩, h1, h4⟩ := h
  refine ⟨⟨r ++ tl y, by rw [tl_append, e]; rfl⟩, sgn4_app h1 h2, ?_⟩
  rw [Str.length_append]; omega
theorem PathQ.more {m k : Nat} {x : Str} (h : PathQ m x) (e : m ≤ k) : PathQ k x := ⟨h.1, h.2.1, Nat.le_trans h.2.2 e⟩
theorem PathQ.path {m : Nat} {x : Str} (h : PathQ m x) (e : m ≤ 200) : pathB (tl x) = true := by
  obtain ⟨⟨r, e1⟩, h2, h3⟩ := h
  unfold pathB
  rw [decide_eq_true (by rw [len_tl] at h3; omega), Bool.true_and]
  have a : [47].isPrefixOf (tl x) = true := List.isPrefixOf_iff_prefix.mpr ⟨r, e1.symm⟩
  rw [a, Bool.true_and, List.all_eq_true]
  intro s hs
  unfold sgn4 at h2
  rw [List.all_eq_true] at h2
  have := h2 s hs
  simp only [Bool.or_eq_true, beq_iff_eq] at this
  rcases this with ((rfl | rfl) | rfl) | rfl <;> decide
/-- the default path: a part of it -/
theorem dflt_cases {l r : List Nat} (e : l = 47 :: r) : ∃ a b, l = a ++ 47 :: b ∧ 47 ∉ b ∧ ((a = [] ∧ dflt l = [47]) ∨ (a ≠ [] ∧ dflt l = a)) := by
  obtain ⟨a, b, e2, hb⟩ := last_cut (c := 47) (l := l) (by rw [e]; exact List.mem_cons_self ..)
  refine ⟨a, b, e2, hb, ?_⟩
  by_cases ha : a = []
  · exact .inl ⟨ha, by rw [dflt_cut e2 hb, if_pos ha]⟩
  · exact .inr ⟨ha, by rw [dflt_cut e2 hb, if_neg ha]⟩
theorem dflt_head {l r : List Nat} (e : l = 47 :: r) : ∃ r2, dflt l = 47 :: r2 := by
  obtain ⟨a, b, e2, hb, (⟨ha, h⟩ | ⟨ha, h⟩)⟩ := dflt_cases e
  · exact ⟨[], h⟩
  · rw [h]
    obtain ⟨x, a2, rfl⟩ := List.exists_cons_of_ne_nil ha
    rw [e] at e2
    simp only [List.cons_append, List.cons.injEq] at e2
    exact ⟨a2, by rw [← e2.1]⟩
theorem dflt_sub {l r : List Nat} (e : l = 47 :: r) : (dflt l).length ≤ l.length ∧ ∀ c ∈ dflt l, c ∈ l := by
  obtain ⟨a, b, e2, hb, (⟨ha, h⟩ | ⟨ha, h⟩)⟩ := dflt_cases e
  · rw [h, e]
    exact ⟨by simp, fun c hc => by rw [List.mem_singleton.mp hc]; exact List.mem_cons_self ..⟩
  · rw [h, e2]
    exact ⟨by simp, fun c hc => List.mem_append_left _ hc⟩
theorem dflt_less {l r : List Nat} (e : l = 47 :: r) (h0 : l ≠ [47]) : (dflt l).length < l.length := by
  obtain ⟨a, b, e2, hb, (⟨ha, h⟩ | ⟨ha, h⟩)⟩ := dflt_cases e
  · rw [h, e2, ha]
    cases b with
    | nil => exact absurd (by rw [e2, ha]; rfl) h0
    | cons x b => simp
  · rw [h, e2]; simp
theorem PathQ.dflt {m : Nat} {x y : Str} (h : PathQ m x) (e : tl y = dflt (tl x)) : PathQ m y := by
  obtain ⟨⟨r, e1⟩, h2, h3⟩ := h
  obtain ⟨h4, h5⟩ := dflt_sub e1
  obtain ⟨r2, e2⟩ := dflt_head e1
  refine ⟨⟨r2, by rw [e, e2]⟩, ?_, ?_⟩
  · unfold sgn4 at *
    rw [List.all_eq_true] at *
    intro c hc
    rw [e] at hc
    exact h2 c (h5 c hc)
  · rw [len_tl, e]
    rw [len_tl] at h3
    omega
/-! ### to fit is an order -/
theorem pf_iff {p q : List Nat} : pfB p q = true ↔ p = q ∨ (q <+: p ∧ ((∃ r, q = r ++ [47]) ∨ p[q.length]? = some 47)) := by
  unfold pfB
  rw [Bool.or_eq_true, Bool.and_eq_true, Bool.or_eq_true, decide_eq_true_eq, List.isPrefixOf_iff_prefix, List.isSuffixOf_iff_suffix, beq_iff_eq]
  constructor
  · rintro (h | ⟨h, (⟨r, e⟩ | h2)⟩)
    · exact .inl h
    · exact .inr ⟨h, .inl ⟨r, e.symm⟩⟩
    · exact .inr ⟨h, .inr h2⟩
  · rintro (h | ⟨h, (⟨r, e⟩ | h2)⟩)
    · exact .inl h
    · exact .inr ⟨h, .inl ⟨r, e.symm⟩⟩
    · exact .inr ⟨h, .inr h2⟩
theorem pf_self (p : List Nat) : pfB p p = true := pf_iff.mpr (.inl rfl)
theorem pf_slash {p r : List Nat} (e : p = 47 :: r) : pfB p [47] = true := pf_iff.mpr (.inr ⟨⟨r, e.symm⟩, .inl ⟨[], rfl⟩⟩)
theorem pf_pre {p q : List Nat} (h : pfB p q = true) : q <+: p := by
  rcases pf_iff.mp h with rfl | h
  · exact List.prefix_refl _
  · exact h.1
theorem pf_anti {p q : List Nat} (h : pfB p q = true) (k : pfB q p = true) : p = q := by
  have a := pf_pre h
  have b := pf_pre k
  exact b.eq_of_length (Nat.le_antisymm b.length_le a.length_le)
theorem pre_at {p q : List Nat} (h : q <+: p) {i : Nat} (hi : i < q.length) : p[i]? = q[i]? := by
  obtain ⟨r, rfl⟩ := h
  rw [List.getElem?_append_left hi]
theorem pf_trans {p q r : List Nat} (h : pfB p q = true) (k : pfB q r = true) : pfB p r = true := by
  rcases pf_iff.mp k with rfl | ⟨k1, k2⟩
  · exact h
  have a := pf_pre h
  refine pf_iff.mpr (.inr ⟨k1.trans a, ?_⟩)
  rcases k2 with k2 | k2
  · exact .inl k2
  · have : r.length < q.length := by
      have := (List.getElem?_eq_some_iff.mp k2).1
      exact this
    exact .inr (by rw [pre_at a this]; exact k2)
theorem pf_comp {p q r : List Nat} (h : pfB p q = true) (k : pfB p r = true) (hl : q.length ≤ r.length) : pfB r q = true := by
  have a := pf_pre h
  have b := pf_pre k
  have c : q <+: r := List.prefix_of_prefix_length_le a b hl
  rcases Nat.lt_or_ge q.length r.length with g | g
  · rcases pf_iff.mp h with rfl | ⟨_, h2⟩
    · have := b.length_le
      omega
    · refine pf_iff.mpr (.inr ⟨c, ?_⟩)
      rcases h2 with h2 | h2
      · exact .inl h2
      · exact .inr (by rw [← pre_at b g]; exact h2)
  · exact pf_iff.mpr (.inl (c.eq_of_length (Nat.le_antisymm hl g)).symm)
theorem pf_dflt {p r : List Nat} (e : p = 47 :: r) : pfB p (dflt p) = true := by
  obtain ⟨a, b, e2, hb, (⟨ha, h⟩ | ⟨ha, h⟩)⟩ := dflt_cases e
  · rw [h]; exact pf_slash e
  · rw [h]
    exact pf_iff.mpr (.inr ⟨⟨47 :: b, e2.symm⟩, .inr (by rw [e2]; simp)⟩)
end Kb

namespace Kb
open PySem PySem.Spec PyProof.Rows L2
/-! ### a tuple times one -/
theorem tuple_mul1 (l : Addr) (items : Array Value) (n : Nat) (dd : Option Addr) (sl : Array (Option Value)) (u : Tok) :
    Meets (Builtin.«tuple.__mul__» ⟨[.ref l, .int 1 u], []⟩) (fun _ R s => s.heap.get? l = some { cls := .type "tuple", dict := dd, data := .seq items n, slots := sl } ∧
      R (.ok (.ret (Value.ref l))) s) :=
  .of_wp fun prog w A R s h => by
    obtain ⟨hp, g, d, tk, os⟩ := s
    obtain ⟨hl, h⟩ := h
    have f1 := AutoSeq1.idx_int
    have c1 : (items.isEmpty || (1 : Int) == 1) = true := by simp
    wp_walk using wpAny_loadPart' hl
    repeat (first
      | (refine wpAny_ite_false (decide_eq_false (by decide)) ?_; wp_walk using wpAny_loadPart' hl)
      | (refine wpAny_ite_true (decide_eq_true (by exact c1)) ?_; wp_walk using wpAny_loadPart' hl))
    all_goals first | exact ⟨_, rfl, h⟩ | skip
def rRep1 (K : PySem.W.Frag) : R2 := fun x y H Q => ∃ l xs, x = .ref l ∧ y = .int 1 ∧ SqT K H l xs ∧ Q (.ref l) H
section
variable {X : Cx}
theorem op_rep1 : OpR X (binaryOp .Mult) (rRep1 X.K) := by
  intro pins s σ H x y v u Q I rx ry h
  obtain ⟨l, xs, rfl, rfl, hT, q⟩ := h
  cases rx
  obtain ⟨t, rfl⟩ := ry
  obtain ⟨its, r, ⟨⟨cls, dd, data, sl⟩, ho, hc, n, hd⟩, hs⟩ := I.tuple hT
  simp only at hc hd
  subst hc hd
  refine wpAny_binaryOp_repeat_ref (T := "tuple") (U := "int") (by decide) ⟨_, ho, rfl⟩ (fun s' => typeIs_int s' 1 t) noFill_tuple_mul F.fills_int_mul F.slot_int_rmul repeat_tuple F.slot_int_index.lookup
    (call_meets F.slot_int_rmul (typeIs_int s 1 t) F.entry_int_rmul (F.args_int_rmul_2 _ _) (int_rmul_tuple 1 t l its.toArray n dd sl)
      ⟨ho, rfl, ⟨_, ho, rfl⟩, call_meets F.slot_tuple_mul ⟨_, ho, rfl⟩ F.entry_tuple_mul (F.args_tuple_mul_2 _ _) (tuple_mul1 l its.toArray n dd sl t) ⟨ho, ?_⟩⟩)
  exact ⟨.ref l, H, I, rfl, q⟩
end
end Kb

namespace Kb
open PySem PySem.Spec PyProof.Rows L2 TL PySem.StrLaws Builtin.Str
/-! ### partition, removeprefix, count -/
theorem partition_behind {x : Str} {c : Nat} {a b : List Nat} (e : tl x = a ++ c :: b) (ha : c ∉ a) : tl (Txt.partition x ⟨#[c]⟩).2.2 = b := by
  have hy : tl (⟨#[c]⟩ : Str) ≠ [] := by simp [tl]
  have at' : ∀ i, At x ⟨#[c]⟩ x.length i ↔ (tl x)[i]? = some c := fun i => by
    rw [at_iff hy]
    show (((tl x).drop i).take 1 == [c]) = true ↔ _
    exact take1_drop
  have hit : At x ⟨#[c]⟩ x.length a.length := (at' _).mpr (by rw [e]; simp)
  have key : ∀ i, At x ⟨#[c]⟩ x.length i → (∀ k, k < i → ¬ At x ⟨#[c]⟩ x.length k) → i = a.length := fun i h1 h2 => by
    rcases Nat.lt_trichotomy i a.length with q | q | q
    · have g := (at' i).mp h1
      rw [e, List.getElem?_append_left q] at g
      exact absurd (List.mem_of_getElem? g) ha
    · exact q
    · exact absurd hit (h2 _ q)
  have fw := find_whole x ⟨#[c]⟩
  unfold Txt.find at fw
  unfold Txt.partition
  cases ho : occurrences x ⟨#[c]⟩ 0 x.length 1 with
  | nil =>
    rw [ho] at fw
    rcases fw with ⟨_, h⟩ | ⟨i, e1, _⟩
    · exact absurd hit (h _)
    · simp only at e1; omega
  | cons j r =>
    rw [ho] at fw
    rcases fw with ⟨e1, _⟩ | ⟨i, e1, h1, h2⟩
    · simp only at e1; omega
    · simp only at e1
      have hj : j = a.length := (Int.ofNat_inj.mp e1) ▸ key i h1 h2
      show tl (strSub x (j + 1) x.length) = b
      rw [tl_strSub, hj, e, len_tl, e]
      rw [show a ++ c :: b = (a ++ [c]) ++ b by simp, List.drop_left' (by simp)]
      rw [List.take_of_length_le (by simp; omega)]
theorem partition_none {x : Str} {c : Nat} (h : c ∉ tl x) : tl (Txt.partition x ⟨#[c]⟩).2.2 = [] := by
  have hy : tl (⟨#[c]⟩ : Str) ≠ [] := by simp [tl]
  have at' : ∀ i, At x ⟨#[c]⟩ x.length i ↔ (tl x)[i]? = some c := fun i => by
    rw [at_iff hy]
    show (((tl x).drop i).take 1 == [c]) = true ↔ _
    exact take1_drop
  have fw := find_whole x ⟨#[c]⟩
  unfold Txt.find at fw
  unfold Txt.partition
  cases ho : occurrences x ⟨#[c]⟩ 0 x.length 1 with
  | nil => rfl
  | cons j r =>
    rw [ho] at fw
    rcases fw with ⟨e1, _⟩ | ⟨i, e1, h1, h2⟩
    · simp only at e1; omega
    · exact absurd (List.mem_of_getElem? ((at' i).mp h1)) h
theorem removeprefix_hit {x y : Str} {b : List Nat} (e : tl x = tl y ++ b) : tl (Txt.removeprefix x y) = b := by
  unfold Txt.removeprefix
  have hs : subAt x y 0 = true := by
    rw [subAt_eq, List.drop_zero]
    show (List.take y.length (tl x) == tl y) = true
    rw [e, len_tl, List.take_left, beq_iff_eq]
  rw [if_pos hs]
  show tl (if x.length - y.length == x.length then x else strSub x y.length x.length) = b
  by_cases h0 : y.length = 0
  · rw [if_pos (by simp [h0])]
    rw [len_tl] at h0
    rw [e, List.eq_nil_of_length_eq_zero h0, List.nil_append]
  · have hx : x.length = y.length + b.length := by rw [len_tl, e, List.length_append, ← len_tl]
    rw [if_neg (by simp; omega), tl_strSub_end, e, len_tl, List.drop_left]
theorem removeprefix_miss {x y : Str} (h : ¬ tl y <+: tl x) : Txt.removeprefix x y = x := by
  unfold Txt.removeprefix
  rw [if_neg]
  · rfl
  · intro hs
    rw [subAt_eq, List.drop_zero] at hs
    have hs : (List.take y.length (tl x) == tl y) = true := hs
    exact h ((beq_iff_eq.mp hs) ▸ List.take_prefix _ _)
theorem count_sp1 (x : Str) (c : Nat) : Txt.count x ⟨#[c]⟩ + 1 = ((sp1 c (tl x)).length : Int) := by
  rw [count_cnt]
  show cnt c (tl x) + 1 = _
  generalize tl x = l
  induction l with
  | nil => rfl
  | cons y l ih =>
    rw [cnt_cons]
    by_cases h : y = c
    · subst h
      rw [sp1_hit, if_pos rfl, List.length_cons]
      push_cast
      omega
    · obtain ⟨p, r, e⟩ := sp1_cons c l
      rw [sp1_miss h e, if_neg h]
      rw [e] at ih
      rw [List.length_cons] at ih ⊢
      omega
end Kb
namespace Kb
open PySem PySem.Spec PyProof.Rows L2 TL
/-! ### rules, and the suffixes that they give, by labels -/
def excT (t : List Nat) : Bool := decide (t.head? = some 33)
def patT (t : List Nat) : List Nat := if excT t then t.tail else t
def ruleB (t : List Nat) : Bool :=
  if excT t then decide (1 < (sp1 46 t.tail).length) && (sp1 46 t.tail).all labB
  else (sp1 46 (if [42, 46].isPrefixOf t then t.drop 2 else t)).all labB
def patL (t : List Nat) : List (List Nat) := sp1 46 (patT t)
def lastN {α : Type} (n : Nat) (w : List α) : List α := w.drop (w.length - n)
def mtL (P w : List (List Nat)) : Bool := decide (P.length ≤ w.length) && (if P.head? = some [42] then decide ((lastN P.length w).tail = P.tail) else decide (lastN P.length w = P))
def bigN (b : Nat) (q : List Nat → Bool) : List (List Nat) → Nat
  | [] => b
  | t :: rs => bigN (if q t then max b (patL t).length else b) q rs
def excN (rs w : List (List Nat)) : Nat := bigN 0 (fun t => excT t && mtL (patL t) w) rs
def lonN (rs w : List (List Nat)) : Nat := bigN 1 (fun t => !excT t && mtL (patL t) w) rs
def sufN (rs w : List (List Nat)) : Nat := if 0 < excN rs w then excN rs w - 1 else lonN rs w
def famL (rs w : List (List Nat)) : List (List Nat) := lastN ((lastN (sufN rs w) w).length + 1) w
section
variable {α : Type}
theorem lastN_len (n : Nat) (w : List α) : (lastN n w).length = min n w.length := by
  unfold lastN; rw [List.length_drop]; omega
theorem lastN_all {n : Nat} {w : List α} (h : w.length ≤ n) : lastN n w = w := by
  unfold lastN; rw [show w.length - n = 0 by omega, List.drop_zero]
theorem lastN_lastN {n m : Nat} {w : List α} (h : n ≤ m) : lastN n (lastN m w) = lastN n w := by
  unfold lastN; rw [List.drop_drop, List.length_drop]; congr 1; omega
theorem lastN_cons {n : Nat} {x : α} {w : List α} (h : n ≤ w.length) : lastN n (x :: w) = lastN n w := by
  unfold lastN
  rw [List.length_cons, show w.length + 1 - n = (w.length - n) + 1 by omega, List.drop_succ_cons]
theorem lastN_mem {n : Nat} {w : List α} {x : α} (h : x ∈ lastN n w) : x ∈ w := List.mem_of_mem_drop h
theorem lastN_min {n : Nat} {w : List α} : lastN (min n w.length) w = lastN n w := by
  unfold lastN; congr 1; omega
end
theorem cutV_last (xs : List V) {n : Nat} (h : 1 ≤ n) : cutV xs (some (-(n : Int))) none = lastN n xs := by
  show (xs.drop (HT.sIx xs.length 0 (some (-(n : Int))))).take (HT.sIx xs.length xs.length none - HT.sIx xs.length 0 (some (-(n : Int)))) = _
  have e : HT.sIx xs.length 0 (some (-(n : Int))) = xs.length - n := by
    show (if (-(n : Int)) < 0 then ((-(n : Int)) + (xs.length : Int)).toNat else min (-(n : Int)).toNat xs.length) = _
    rw [if_pos (by omega)]
    omega
  rw [e, HT.sIx_none]
  exact List.take_of_length_le (by rw [List.length_drop] <;> omega)
/-! #### the greatest of sizes -/
theorem bigN_ge (q : List Nat → Bool) : ∀ (rs : List (List Nat)) (b : Nat), b ≤ bigN b q rs
  | [], b => Nat.le_refl _
  | t :: rs, b => by
    show b ≤ bigN _ q rs
    refine Nat.le_trans ?_ (bigN_ge q rs _)
    split <;> omega
theorem bigN_mem (q : List Nat → Bool) : ∀ (rs : List (List Nat)) (b : Nat) (t : List Nat), t ∈ rs → q t = true → (patL t).length ≤ bigN b q rs
  | r :: rs, b, t, h, hq => by
    show _ ≤ bigN _ q rs
    rcases List.mem_cons.mp h with e | e
    · subst e
      have := bigN_ge q rs (if q t then max b (patL t).length else b)
      rw [if_pos hq] at this ⊢
      omega
    · exact bigN_mem q rs _ t e hq
theorem bigN_cases (q : List Nat → Bool) : ∀ (rs : List (List Nat)) (b : Nat), bigN b q rs = b ∨ ∃ t ∈ rs, q t = true ∧ bigN b q rs = (patL t).length
  | [], b => .inl rfl
  | r :: rs, b => by
    show bigN _ q rs = b ∨ _
    by_cases hq : q r = true
    · rcases bigN_cases q rs (max b (patL r).length) with e | ⟨t, h1, h2, h3⟩
      · rcases Nat.le_total (patL r).length b with g | g
        · left; rw [if_pos hq, e]; omega
        · right; exact ⟨r, List.mem_cons_self .., hq, by show bigN _ q rs = _; rw [if_pos hq, e]; omega⟩
      · right; exact ⟨t, List.mem_cons_of_mem _ h1, h2, by show bigN _ q rs = _; rw [if_pos hq, h3]⟩
    · rw [if_neg hq]
      rcases bigN_cases q rs b with e | ⟨t, h1, h2, h3⟩
      · exact .inl e
      · right; exact ⟨t, List.mem_cons_of_mem _ h1, h2, by show bigN _ q rs = _; rw [if_neg hq, h3]⟩
theorem bigN_congr {q q' : List Nat → Bool} : ∀ {rs : List (List Nat)} {b : Nat}, (∀ t ∈ rs, q t = q' t) → bigN b q rs = bigN b q' rs
  | [], b, _ => rfl
  | r :: rs, b, h => by
    show bigN _ q rs = bigN _ q' rs
    rw [h r (List.mem_cons_self ..)]
    exact bigN_congr fun t ht => h t (List.mem_cons_of_mem _ ht)
theorem bigN_snoc (q : List Nat → Bool) : ∀ (rs : List (List Nat)) (b : Nat) (t : List Nat), bigN b q (rs ++ [t]) = if q t then max (bigN b q rs) (patL t).length else bigN b q rs
  | [], b, t => rfl
  | r :: rs, b, t => by
    show bigN _ q (rs ++ [t]) = _
    rw [bigN_snoc q rs]
    rfl
/-! #### what a match tells -/
theorem mtL_len {P w : List (List Nat)} (h : mtL P w = true) : P.length ≤ w.length := by
  unfold mtL at h
  rw [Bool.and_eq_true, decide_eq_true_eq] at h
  exact h.1
theorem mtL_lastN {P w : List (List Nat)} {k : Nat} (hk : k ≤ w.length) : mtL P (lastN k w) = (decide (P.length ≤ k) && mtL P w) := by
  unfold mtL
  rw [lastN_len, Nat.min_eq_left hk]
  by_cases h : P.length ≤ k
  · rw [lastN_lastN h, decide_eq_true h, decide_eq_true (Nat.le_trans h hk)]
    rfl
  · rw [decide_eq_false h]; rfl
theorem excT_len {t : List Nat} (hr : ruleB t = true) (h : excT t = true) : 2 ≤ (patL t).length := by
  unfold ruleB at hr
  rw [if_pos h, Bool.and_eq_true, decide_eq_true_eq] at hr
  unfold patL patT
  rw [if_pos h]
  exact hr.1
theorem excN_ge {rs w : List (List Nat)} (hr : ∀ t ∈ rs, ruleB t = true) (h : 0 < excN rs w) : 2 ≤ excN rs w ∧ excN rs w ≤ w.length := by
  unfold excN at h ⊢
  rcases bigN_cases (fun t => excT t && mtL (patL t) w) rs 0 with e | ⟨t, h1, h2, h3⟩
  · omega
  · rw [h3]
    simp only [Bool.and_eq_true] at h2
    exact ⟨excT_len (hr t h1) h2.1, mtL_len h2.2⟩
theorem lonN_ge {rs w : List (List Nat)} (hw : w ≠ []) : 1 ≤ lonN rs w ∧ lonN rs w ≤ w.length := by
  have h0 : 0 < w.length := List.length_pos_iff.mpr hw
  unfold lonN
  refine ⟨bigN_ge _ _ _, ?_⟩
  rcases bigN_cases (fun t => !excT t && mtL (patL t) w) rs 1 with e | ⟨t, h1, h2, h3⟩
  · omega
  · rw [h3]
    simp only [Bool.and_eq_true] at h2
    exact mtL_len h2.2
theorem sufN_ge {rs w : List (List Nat)} (hr : ∀ t ∈ rs, ruleB t = true) (hw : w ≠ []) : 1 ≤ sufN rs w ∧ sufN rs w ≤ w.length := by
  unfold sufN
  split
  · next h => have := excN_ge hr h; omega
  · exact lonN_ge hw
theorem famL_eq {rs w : List (List Nat)} (hr : ∀ t ∈ rs, ruleB t = true) (hw : w ≠ []) : famL rs w = lastN (sufN rs w + 1) w := by
  unfold famL
  have := sufN_ge hr hw
  rw [lastN_len, Nat.min_eq_left this.2]
/-- the last labels, if they are no fewer than the family's, have the same suffix -/
theorem sufN_lastN {rs w : List (List Nat)} {k : Nat} (hr : ∀ t ∈ rs, ruleB t = true) (hw : w ≠ []) (hk : k ≤ w.length) (h : min (sufN rs w + 1) w.length ≤ k) : sufN rs (lastN k w) = sufN rs w := by
  have e1 : excN rs (lastN k w) = excN rs w := by
    unfold excN
    refine bigN_congr fun t ht => ?_
    rw [mtL_lastN hk]
    cases hx : excT t <;> cases hm : mtL (patL t) w
    · rfl
    · rfl
    · rw [Bool.and_false]
    · have g : (patL t).length ≤ excN rs w := bigN_mem _ rs 0 t ht (by simp [hx, hm])
      have g0 := excT_len (hr t ht) hx
      have g1 := excN_ge hr (w := w) (rs := rs) (by omega)
      have g2 : sufN rs w = excN rs w - 1 := by unfold sufN; rw [if_pos (by omega)]
      rw [decide_eq_true (by omega)]; rfl
  unfold sufN
  rw [e1]
  by_cases h0 : 0 < excN rs w
  · rw [if_pos h0, if_pos h0]
  · rw [if_neg h0, if_neg h0]
    unfold lonN
    refine bigN_congr fun t ht => ?_
    rw [mtL_lastN hk]
    cases hx : excT t <;> cases hm : mtL (patL t) w
    · rw [Bool.and_false]
    · have g : (patL t).length ≤ lonN rs w := bigN_mem _ rs 1 t ht (by simp [hx, hm])
      have g2 : sufN rs w = lonN rs w := by unfold sufN; rw [if_neg h0]
      have := mtL_len hm
      rw [decide_eq_true (by omega)]; rfl
    · rfl
    · rfl
/-- hosts that hold the family have this family, others have another one -/
theorem famL_part {rs w : List (List Nat)} {k : Nat} (hr : ∀ t ∈ rs, ruleB t = true) (hw : w ≠ []) (hk0 : 1 ≤ k) (hk : k ≤ w.length) : decide (famL rs (lastN k w) = famL rs w) = decide ((famL rs w).length ≤ k) := by
  have hn : lastN k w ≠ [] := fun e => by have := lastN_len k w; rw [e] at this; simp at this; omega
  rw [famL_eq hr hn, famL_eq hr hw, lastN_len]
  rw [Bool.eq_iff_iff, decide_eq_true_eq, decide_eq_true_eq]
  constructor
  · intro e
    have := congrArg List.length e
    rw [lastN_len, lastN_len, lastN_len] at this
    omega
  · intro h
    rw [sufN_lastN hr hw hk h]
    by_cases g : sufN rs w + 1 ≤ k
    · exact lastN_lastN g
    · rw [lastN_all (n := k) (by omega)]
theorem famL_idem {rs w : List (List Nat)} (hr : ∀ t ∈ rs, ruleB t = true) (hw : w ≠ []) : famL rs (famL rs w) = famL rs w := by
  have h1 := sufN_ge hr hw
  have h0 : 0 < w.length := List.length_pos_iff.mpr hw
  have e : famL rs w = lastN (min (sufN rs w + 1) w.length) w := by rw [lastN_min]; exact famL_eq hr hw
  have := famL_part (k := min (sufN rs w + 1) w.length) hr hw (by omega) (by omega)
  rw [← e] at this
  rw [← decide_eq_true_iff (p := famL rs (famL rs w) = famL rs w), this, decide_eq_true_iff, e, lastN_len]
  omega
/-- a rule that does not match changes nothing -/
theorem sufN_snoc {rs w : List (List Nat)} {t : List Nat} (h : mtL (patL t) w = false) : sufN (rs ++ [t]) w = sufN rs w := by
  unfold sufN excN lonN
  rw [bigN_snoc, bigN_snoc]
  simp only [h, Bool.and_false, Bool.false_eq_true, if_false]
end Kb
namespace Kb
open PySem PySem.Spec PyProof.Rows L2 TL
/-! #### a label in front -/
theorem mtL_cons {P w : List (List Nat)} {y : List Nat} (h : P.length ≤ w.length) : mtL P (y :: w) = mtL P w := by
  unfold mtL
  rw [lastN_cons h, decide_eq_true h, List.length_cons, decide_eq_true (by omega)]
theorem lonN_below (rs w : List (List Nat)) (y : List Nat) : lonN rs (y :: w) = lonN rs w ∨ lonN rs (y :: w) = w.length + 1 := by
  have up : lonN rs w ≤ lonN rs (y :: w) := by
    unfold lonN
    rcases bigN_cases (fun t => !excT t && mtL (patL t) w) rs 1 with e | ⟨t, h1, h2, h3⟩
    · rw [e]; exact bigN_ge _ _ _
    · rw [h3]
      simp only [Bool.and_eq_true] at h2
      exact bigN_mem _ rs 1 t h1 (by simp only [Bool.and_eq_true]; exact ⟨h2.1, by rw [mtL_cons (mtL_len h2.2)]; exact h2.2⟩)
  have lo : 1 ≤ lonN rs w := bigN_ge _ _ _
  rcases bigN_cases (fun t => !excT t && mtL (patL t) (y :: w)) rs 1 with e | ⟨t, h1, h2, h3⟩
  · left
    have e : lonN rs (y :: w) = 1 := e
    omega
  · simp only [Bool.and_eq_true] at h2
    have h3 : lonN rs (y :: w) = (patL t).length := h3
    have hl := mtL_len h2.2
    rw [List.length_cons] at hl
    by_cases g : (patL t).length ≤ w.length
    · left
      have : (patL t).length ≤ lonN rs w := bigN_mem _ rs 1 t h1 (by simp only [Bool.and_eq_true]; exact ⟨h2.1, by rw [← mtL_cons (y := y) g]; exact h2.2⟩)
      omega
    · right; omega
theorem excN_below {rs w : List (List Nat)} {y : List Nat} (h : ∀ t ∈ rs, excT t = true → (patL t).head? ≠ some [42] ∧ y ∉ patL t) : excN rs (y :: w) = excN rs w := by
  unfold excN
  refine bigN_congr fun t ht => ?_
  cases hx : excT t
  · rfl
  · obtain ⟨h1, h2⟩ := h t ht hx
    by_cases g : (patL t).length ≤ w.length
    · rw [mtL_cons g]
    · have e : mtL (patL t) w = false := by unfold mtL; rw [decide_eq_false g]; rfl
      rw [e]
      unfold mtL
      rw [if_neg h1]
      by_cases g2 : (patL t).length ≤ (y :: w).length
      · rw [List.length_cons] at g2
        rw [lastN_all (by rw [List.length_cons]; omega), decide_eq_false (p := y :: w = patL t) fun e => h2 (e ▸ List.mem_cons_self ..), Bool.and_false]
      · rw [decide_eq_false g2]; rfl
theorem famL_below {rs w : List (List Nat)} {y : List Nat} (hr : ∀ t ∈ rs, ruleB t = true) (hw : w ≠ []) (h : ∀ t ∈ rs, excT t = true → (patL t).head? ≠ some [42] ∧ y ∉ patL t) :
    (famL rs (y :: w) = famL rs w ∨ famL rs (y :: w) = y :: w) ∧ (sufN rs w = w.length → famL rs (y :: w) = y :: w) := by
  have e1 := excN_below (w := w) h
  have n1 := sufN_ge hr hw
  rw [famL_eq hr hw, famL_eq hr (List.cons_ne_nil y w)]
  by_cases h0 : 0 < excN rs w
  · have g := excN_ge hr h0
    have e2 : sufN rs w = excN rs w - 1 := by unfold sufN; rw [if_pos h0]
    have e3 : sufN rs (y :: w) = excN rs w - 1 := by unfold sufN; rw [e1, if_pos h0]
    rw [e2, e3, lastN_cons (by omega)]
    exact ⟨.inl rfl, fun q => by omega⟩
  · have e2 : sufN rs w = lonN rs w := by unfold sufN; rw [if_neg h0]
    have e3 : sufN rs (y :: w) = lonN rs (y :: w) := by unfold sufN; rw [e1, if_neg h0]
    rw [e3]
    rcases lonN_below rs w y with e | e
    · rw [e, ← e2]
      by_cases g : sufN rs w + 1 ≤ w.length
      · rw [lastN_cons g]
        exact ⟨.inl rfl, fun q => by omega⟩
      · rw [lastN_all (w := y :: w) (by rw [List.length_cons]; omega)]
        exact ⟨.inr rfl, fun _ => rfl⟩
    · rw [e, lastN_all (w := y :: w) (by rw [List.length_cons]; omega)]
      exact ⟨.inr rfl, fun _ => rfl⟩
end Kb
namespace Kb
open PySem PySem.Spec PyProof.Rows L2 TL
/-! ### drawn rules over a, b and c -/
def abc (l : List Nat) : Prop := l = [97] ∨ l = [98] ∨ l = [99]
def GenR (t : List Nat) : Prop := ∃ L : List (List Nat), L ≠ [] ∧ L.length ≤ 4 ∧ (∀ l ∈ L, abc l) ∧ (t = joinL [46] L ∨ t = 42 :: 46 :: joinL [46] L ∨ (2 ≤ L.length ∧ t = 33 :: joinL [46] L))
theorem abc_wlab {l : List Nat} (h : abc l) : wlab l = true := by rcases h with rfl | rfl | rfl <;> decide
theorem abc_lab {l : List Nat} (h : abc l) : labB l = true := (wlab_lab (abc_wlab h)).1
theorem abc_len {l : List Nat} (h : abc l) : l.length ≤ 1 := by rcases h with rfl | rfl | rfl <;> decide
theorem abc_head {L : List (List Nat)} (hL : L ≠ []) (h : ∀ l ∈ L, abc l) : ∃ a r, joinL [46] L = a :: r ∧ a ≠ 33 ∧ a ≠ 42 := by
  obtain ⟨l, r, rfl⟩ := List.exists_cons_of_ne_nil hL
  have h1 := h l (List.mem_cons_self ..)
  have e : ∀ z, ∃ s, joinL [46] ([z] :: r) = z :: s := fun z => by
    cases r with
    | nil => exact ⟨[], rfl⟩
    | cons q r => exact ⟨_, rfl⟩
  rcases h1 with rfl | rfl | rfl
  · obtain ⟨s, e⟩ := e 97; exact ⟨97, s, e, by decide, by decide⟩
  · obtain ⟨s, e⟩ := e 98; exact ⟨98, s, e, by decide, by decide⟩
  · obtain ⟨s, e⟩ := e 99; exact ⟨99, s, e, by decide, by decide⟩
theorem abc_sp1 {L : List (List Nat)} (hL : L ≠ []) (h : ∀ l ∈ L, abc l) : sp1 46 (joinL [46] L) = L := sp1_joinL hL fun l hl => dot_free (abc_lab (h l hl))
theorem GenR.cases {t : List Nat} (h : GenR t) : ∃ L : List (List Nat), L ≠ [] ∧ L.length ≤ 4 ∧ (∀ l ∈ L, abc l) ∧ ((excT t = false ∧ t = joinL [46] L ∧ patL t = L) ∨ (excT t = false ∧ t = 42 :: 46 :: joinL [46] L ∧ patL t = [42] :: L) ∨ (excT t = true ∧ 2 ≤ L.length ∧ t = 33 :: joinL [46] L ∧ patL t = L)) := by
  obtain ⟨L, h1, h2, h3, h4⟩ := h
  refine ⟨L, h1, h2, h3, ?_⟩
  rcases h4 with rfl | rfl | ⟨h4, rfl⟩
  · left
    obtain ⟨a, r, e, e1, e2⟩ := abc_head h1 h3
    have hx : excT (joinL [46] L) = false := by unfold excT; rw [e]; exact decide_eq_false (by simpa using e1)
    refine ⟨hx, rfl, ?_⟩
    unfold patL patT
    rw [hx]
    exact abc_sp1 h1 h3
  · right; left
    refine ⟨rfl, rfl, ?_⟩
    show sp1 46 ([42] ++ 46 :: joinL [46] L) = _
    rw [sp1_app, abc_sp1 h1 h3]
    rfl
  · right; right
    refine ⟨rfl, h4, rfl, ?_⟩
    exact abc_sp1 h1 h3
theorem GenR.rule {t : List Nat} (h : GenR t) : ruleB t = true := by
  obtain ⟨L, h1, h2, h3, h4⟩ := h.cases
  have all : L.all labB = true := List.all_eq_true.mpr fun l hl => abc_lab (h3 l hl)
  unfold ruleB
  rcases h4 with ⟨hx, e, hp⟩ | ⟨hx, e, hp⟩ | ⟨hx, h5, e, hp⟩
  · rw [hx, e]
    obtain ⟨a, r, ea, e1, e2⟩ := abc_head h1 h3
    have : [42, 46].isPrefixOf (joinL [46] L) = false := by
      rw [ea]
      show ((42 == a) && _) = false
      rw [beq_eq_false_iff_ne.mpr (Ne.symm e2), Bool.false_and]
    rw [this]
    simp only [Bool.false_eq_true, if_false]
    rw [abc_sp1 h1 h3]
    exact all
  · rw [hx, e]
    have : [42, 46].isPrefixOf (42 :: 46 :: joinL [46] L) = true := by simp [List.isPrefixOf]
    rw [this]
    simp only [Bool.false_eq_true, if_false, if_true, List.drop_succ_cons, List.drop_zero]
    rw [abc_sp1 h1 h3]
    exact all
  · rw [hx, e, if_pos rfl]
    show (decide (1 < (sp1 46 (joinL [46] L)).length) && (sp1 46 (joinL [46] L)).all labB) = true
    rw [abc_sp1 h1 h3, all, decide_eq_true (by omega)]
    rfl
theorem GenR.exc {t : List Nat} (h : GenR t) (hx : excT t = true) : (patL t).head? ≠ some [42] ∧ ∀ l ∈ patL t, abc l := by
  obtain ⟨L, h1, h2, h3, h4⟩ := h.cases
  rcases h4 with ⟨e0, e, hp⟩ | ⟨e0, e, hp⟩ | ⟨e0, h5, e, hp⟩
  · rw [e0] at hx; cases hx
  · rw [e0] at hx; cases hx
  · rw [hp]
    refine ⟨fun q => ?_, h3⟩
    have := h3 [42] (List.mem_of_mem_head? q)
    rcases this with q | q | q <;> simp at q
theorem GenR.head {t : List Nat} (h : GenR t) : t.head? ≠ some 122 := by
  obtain ⟨L, h1, h2, h3, rfl | rfl | ⟨_, rfl⟩⟩ := h
  · obtain ⟨l, r, rfl⟩ := List.exists_cons_of_ne_nil h1
    have hq := h3 l (List.mem_cons_self ..)
    have e : ∀ z, (joinL [46] ([z] :: r)).head? = some z := fun z => by cases r <;> rfl
    rcases hq with rfl | rfl | rfl <;> rw [e] <;> decide
  · simp
  · simp
theorem GenR.len {t : List Nat} (h : GenR t) : t.length ≤ 12 := by
  obtain ⟨L, h1, h2, h3, h4⟩ := h
  have := joinL_len (c := 46) (B := 1) L fun l hl => abc_len (h3 l hl)
  rcases h4 with rfl | rfl | ⟨_, rfl⟩
  · omega
  · simp only [List.length_cons]; omega
  · simp only [List.length_cons]; omega
end Kb
namespace Kb
open PySem PySem.Spec PyProof.Rows L2
theorem Same.seqT {K : PySem.W.Frag} {a : Addr} {H H' : Hp} {xs : List V} (k : Same H H') (h : SqT K H a xs) : SqT K H' a xs := by
  rcases h with (h | ⟨o, h⟩) | h
  · exact .inl (.inl (k _ _ h))
  · exact .inl (.inr ⟨o, k _ _ h⟩)
  · exact .inr h
theorem Keep.seqT {K : PySem.W.Frag} {d a : Addr} {H H' : Hp} {xs : List V} (k : Keep d H H') (n : a ≠ d) (h : SqT K H a xs) : SqT K H' a xs := by
  rcases h with (h | ⟨o, h⟩) | h
  · exact .inl (.inl (k _ _ h n))
  · exact .inl (.inr ⟨o, k _ _ h n⟩)
  · exact .inr h
end Kb
namespace Kb
open PySem PySem.Spec PyProof.Rows L2 TL PySem.StrLaws Builtin.Str
theorem cutS_from (z : Str) {i : Int} (h : 0 ≤ i) : tl (cutS z (some i) none) = (tl z).drop i.toNat := by
  obtain ⟨k, rfl⟩ : ∃ k : Nat, i = (k : Int) := ⟨i.toNat, by omega⟩
  show ((tl z).drop (HT.sIx z.length 0 (some (k : Int)))).take (HT.sIx z.length z.length none - HT.sIx z.length 0 (some (k : Int))) = _
  rw [HT.sIx_none, HT.sIx_nat, Int.toNat_natCast, len_tl]
  rw [List.take_of_length_le (by rw [List.length_drop] <;> omega)]
  rcases Nat.le_total k (tl z).length with g | g
  · rw [Nat.min_eq_left g]
  · rw [Nat.min_eq_right g, List.drop_of_length_le (Nat.le_refl _), List.drop_of_length_le g]
end Kb
namespace Kb
open PySem PySem.Spec PyProof.Rows L2 TL
def RulesOK (rs : List Str) : Prop := rs.Nodup ∧ ∀ r ∈ rs, ruleB (tl r) = true ∧ r.length ≤ 1000
end Kb
namespace Kb
open PySem PySem.Spec PyProof.Rows L2 TL
theorem abc_at {r : Int} (h0 : 0 ≤ r) (h1 : r < 3) : ∃ c : Nat, atI ("abc" : Str).cps.toList r = some c ∧ abc (tl (⟨#[c]⟩ : Str)) := by
  rcases (by omega : r = 0 ∨ r = 1 ∨ r = 2) with rfl | rfl | rfl
  · exact ⟨97, by decide +kernel, .inl rfl⟩
  · exact ⟨98, by decide +kernel, .inr (.inl rfl)⟩
  · exact ⟨99, by decide +kernel, .inr (.inr rfl)⟩
theorem words_join (W : List Str) : tl (Txt.join ("." : Str) W) = joinL [46] (W.map tl) := by rw [join_tl, tl_dot]
theorem words_len {W : List Str} {B : Nat} (h : ∀ x ∈ W, (tl x).length ≤ B) : (W.map (·.length)).sum ≤ W.length * B :=
  PySem.StrLaws.sumLen_le (B := B) W fun w hw => by rw [len_tl]; exact h w hw
end Kb
namespace Kb
open PySem PySem.Spec PyProof.Rows L2 TL
theorem Keep.newer {d L : Addr} {H H' : Hp} (k : Keep d H H') (n : L ≠ d) (h : H' L = none) : H L = none := by
  cases e : H L with
  | none => rfl
  | some o => rw [k _ _ e n] at h; cases h
theorem Same.newer {L : Addr} {H H' : Hp} (k : Same H H') (h : H' L = none) : H L = none := by
  cases e : H L with
  | none => rfl
  | some o => rw [k _ _ e] at h; cases h
theorem in_strs {r : Str} {L : List Str} : inV (.str r) (L.map V.str) = decide (r ∈ L) := by
  unfold inV
  rw [Bool.eq_iff_iff, List.any_eq_true, decide_eq_true_eq]
  constructor
  · rintro ⟨v, hv, q⟩
    obtain ⟨x, hx, rfl⟩ := List.mem_map.mp hv
    have : x = r := by simpa [eqV] using q
    exact this ▸ hx
  · intro h
    exact ⟨.str r, List.mem_map.mpr ⟨r, h, rfl⟩, by simp [eqV]⟩
theorem flat_strs (L : List Str) : (L.map V.str).all flatV = true := by
  rw [List.all_eq_true]
  intro v hv
  obtain ⟨x, _, rfl⟩ := List.mem_map.mp hv
  rfl
end Kb
namespace Kb
open PySem PySem.Spec PyProof.Rows L2 TL
/-! ### hosts of small labels -/
theorem host_facts {w : List (List Nat)} {t : Str} (hw : w ≠ []) (hl : w.length ≤ 10) (ha : ∀ l ∈ w, wlab l = true) (e : tl t = joinL [46] w) :
    hostB (tl t) = true ∧ addrB (tl t) = false ∧ sp1 46 (tl t) = w ∧ t.length ≤ 50 := by
  have h : HostW 10 t := ⟨w, hw, hl, ha, e⟩
  have h1 := h.host (Nat.le_refl 10)
  have h2 := h.len
  refine ⟨h1.1, ?_, by rw [e, sp1_joinL hw fun p hp => dot_free (wlab_lab (ha p hp)).1], by omega⟩
  unfold addrB
  rw [h1.2, Bool.and_false]
theorem fit_last {w : List (List Nat)} {k : Nat} {h d : List Nat} (e1 : sp1 46 h = w) (e2 : sp1 46 d = lastN k w) (hk : k ≤ w.length) (ha : addrB h = false) : fitB h d = true := by
  have hd : (sp1 46 d).length = k := by rw [e2, lastN_len, Nat.min_eq_left hk]
  have := (sp1_suffix 46 h d).mp ⟨by rw [hd, e1]; exact hk, by rw [e1, hd, e2]; rfl⟩
  unfold fitB
  rw [ha]
  rcases this with q | q
  · rw [decide_eq_true q]; rfl
  · rw [List.isSuffixOf_iff_suffix.mpr q]; simp
theorem famL_len {rs w : List (List Nat)} (hr : ∀ t ∈ rs, ruleB t = true) (hw : w ≠ []) : famL rs w = lastN (famL rs w).length w ∧ 1 ≤ (famL rs w).length ∧ (famL rs w).length ≤ w.length := by
  have h0 : 0 < w.length := List.length_pos_iff.mpr hw
  have := sufN_ge hr hw
  have e := famL_eq hr hw
  have el : (famL rs w).length = min (sufN rs w + 1) w.length := by rw [e, lastN_len]
  refine ⟨?_, by omega, by omega⟩
  rw [el, lastN_min]; exact e
theorem lastN_ne {α : Type} {k : Nat} {w : List α} (h1 : 1 ≤ k) (h2 : w ≠ []) : lastN k w ≠ [] := fun q => by
  have := lastN_len k w
  have h0 : 0 < w.length := List.length_pos_iff.mpr h2
  rw [q, List.length_nil] at this
  omega
theorem lastN_map {α β : Type} (f : α → β) (k : Nat) (w : List α) : (lastN k w).map f = lastN k (w.map f) := by
  unfold lastN; rw [List.map_drop, List.length_map]
/-- a rule that asks a label before the host -/
theorem zrule {w : List (List Nat)} {t : List Nat} {rs : List (List Nat)} (hw : w ≠ []) (ha : ∀ l ∈ w, abc l) (e : t = 122 :: 46 :: joinL [46] w) (u : List (List Nat)) (hu : u.length ≤ w.length) :
    ruleB t = true ∧ sufN (rs ++ [t]) u = sufN rs u := by
  have hx : excT t = false := by rw [e]; rfl
  have hp : patL t = [122] :: w := by
    unfold patL patT
    rw [hx, e]
    show sp1 46 ([122] ++ 46 :: joinL [46] w) = _
    rw [sp1_app, abc_sp1 hw ha]; rfl
  constructor
  · unfold ruleB
    rw [hx, e]
    have : [42, 46].isPrefixOf (122 :: 46 :: joinL [46] w) = false := rfl
    rw [this]
    simp only [Bool.false_eq_true, if_false]
    show (sp1 46 ([122] ++ 46 :: joinL [46] w)).all labB = true
    rw [sp1_app, abc_sp1 hw ha, List.all_append, Bool.and_eq_true]
    exact ⟨by decide +kernel, List.all_eq_true.mpr fun l hl => abc_lab (ha l hl)⟩
  · refine sufN_snoc ?_
    rw [hp]
    unfold mtL
    rw [decide_eq_false (by rw [List.length_cons]; omega)]; rfl
theorem below_ok {rs : List (List Nat)} (h : ∀ t ∈ rs, GenR t) : ∀ t ∈ rs, excT t = true → (patL t).head? ≠ some [42] ∧ [121] ∉ patL t := fun t ht hx => by
  obtain ⟨h1, h2⟩ := (h t ht).exc hx
  exact ⟨h1, fun q => by rcases h2 _ q with r | r | r <;> simp at r⟩
end Kb

namespace Kb
open PySem PySem.Spec PyProof.Rows L2
/-! ### enumerate(tuple) -/
theorem enum_newB {v : Value} {o : Obj} {H : Heap → Prop} (B : Begins v o H) :
    Meets (Builtin.«enumerate.__new__» ⟨[.type "enumerate", v], []⟩) (fun _ R s => H s.heap ∧
      R (.ok (.ret (.ref (s.heap.push o).objs.size))) { s with heap := (s.heap.push o).push { cls := .type "enumerate", data := .fields #[.none, .bool false, .ref s.heap.objs.size, rawInt 0, .none, .none] } }) :=
  .of_wp fun prog w A R s h => by
    obtain ⟨hp, g, d, tk, os⟩ := s; obtain ⟨h1, h⟩ := h
    have hsub := sub_enumerate
    have q1 : ∀ {A' : Around} {E : Value → Shared → Prop} {Q : Value → Shared → Prop}, Q (.ref hp.objs.size) ⟨hp.push o, g, d, tk, os⟩ → wpAny (model prog w) A' (pyIter v) Q E ⟨hp, g, d, tk, os⟩ :=
      fun q => B.iter prog w _ _ ⟨hp, g, d, tk, os⟩ _ h1 q
    wp_walk using q1
    refine wpAny_stack_any fun st => wpAny_pure ?_
    split
    · rename_i c _ _ _ _ _
      cases (c == Value.type "enumerate")
      · wp_walk using q1
        exact ⟨_, rfl, h⟩
      · wp_walk using q1
        exact ⟨_, rfl, h⟩
    · wp_walk using q1
      exact ⟨_, rfl, h⟩
section
variable {prog : Program} {w : World} {A : Around} {E : Value → Shared → Prop} {s : Shared}
theorem call_enum1 {v : Value} {o : Obj} {H : Heap → Prop} {Q : Value → Shared → Prop} (B : Begins v o H) (h1 : H s.heap)
    (h : ∀ h', IsEnum h' (s.heap.objs.size + 1) s.heap.objs.size 0 .none → h'.get? s.heap.objs.size = some o → h'.objs.size = s.heap.objs.size + 2 →
      (∀ b o, s.heap.get? b = some o → h'.get? b = some o) → Q (.ref (s.heap.objs.size + 1)) { s with heap := h' }) :
    wpAny (model prog w) A (call (.type "enumerate") [v]) Q E s := by
  refine callType_new F.called_enumerate (by decide) (F.typeCall_enumerate_1 _) (F.newCall_enumerate_1 _) (fun obj => F.args_object_init_2 obj _) F.entry_enumerate_new
    (enum_newB B) ⟨h1, ?_⟩
  have hz : (s.heap.push o).objs.size = s.heap.objs.size + 1 := Heap.size_push ..
  show _ ∧ _
  rw [hz]
  have he : IsEnum ((s.heap.push o).push { cls := .type "enumerate", data := .fields #[.none, .bool false, .ref s.heap.objs.size, rawInt 0, .none, .none] }) (s.heap.objs.size + 1) s.heap.objs.size 0 .none := by
    have := Heap.get?_push_size (s.heap.push o) (o := { cls := .type "enumerate", data := .fields #[.none, .bool false, .ref s.heap.objs.size, rawInt 0, .none, .none] }) rfl
    rw [hz] at this; exact this
  refine ⟨⟨_, he, rfl⟩, h _ he (Heap.get?_push_of_some _ (Heap.get?_push_size _ B.free)) (by rw [Heap.size_push, hz]) fun b o x => Heap.get?_push_of_some _ (Heap.get?_push_of_some _ x)⟩
end
def Itet (K : PySem.W.Frag) (a : Addr) : It :=
  ⟨fun i H => ∃ (xs : List V) (x : V), SqT K H a xs ∧ xs[i]? = some x, fun i H v H' => ∃ T x, v = .ref T ∧ H T = none ∧ H' = L2.upd H T (.tup [.int (i : Nat), x]) ∧ ∀ xs, SqT K H a xs → xs[i]? = some x, fun i H => ∃ xs : List V, SqT K H a xs ∧ xs.length ≤ i⟩
theorem turn_enumT {P : Program} {w : World} {K : PySem.W.Frag} {elts : List Expr} {kk : Nat} {tpos : Pos} (a e it : Addr) :
    Turn P w K (.Tuple elts kk tpos) (Itet K a) [e, it] e (fun i h => (∃ old, IsEnum h e it ((i : Nat) : Int) old) ∧ h.IsTupleIter it a i ∧ e ≠ it ∧ e ≠ a ∧ a ≠ it) where
  mem := by simp
  obj := fun i h st b hb => by
    obtain ⟨⟨old, he⟩, ⟨o, ho, hc, hd⟩, _⟩ := st
    have e' : b = e ∨ b = it := by simpa using hb
    rcases e' with z | z
    · rw [z]; exact ⟨_, he, fun v q => nomatch q⟩
    · rw [z]; exact ⟨o, ho, fun v q => by rw [hd] at q; cases q⟩
  keep := fun i h h' st k => let ⟨⟨old, he⟩, hi, hne⟩ := st; ⟨⟨old, k e (by simp) _ he⟩, hi.at fun o q => k it (by simp) o q, hne⟩
  item := by
    intro X hP hw hK hc i pins s σ H E I hf st hg
    subst hP hw hK
    obtain ⟨⟨old, he⟩, hit, hne, hea, hai⟩ := st
    obtain ⟨xs, x, hq, hx⟩ := hg
    obtain ⟨its, rv, p, hz⟩ := I.tuple hq
    obtain ⟨u, hu, ru⟩ := rv.get hx
    have hel : e < s.heap.objs.size := Heap.lt_size he
    have hil : it < s.heap.objs.size := by obtain ⟨_, q, _⟩ := hit; exact Heap.lt_size q
    have hlt : i < its.toArray.size := by
      have := (List.getElem?_eq_some_iff.mp hu).1
      simpa using this
    have hhd : X.A.in1.handled = none := I.ok.hd hc
    refine wpAny_pyNext_enum_itemD (Draws.tuple hhd it a hai its.toArray) he ⟨hit, show s.heap.IsTuple a its.toArray from p⟩ hlt hne (by simp [hne, hea]) fun x' h' tk hP ho hst' hT hsz hk => ?_
    have ex : x' = u := by
      have e1 : its[i]? = some x' := by simpa using hP
      rw [e1] at hu
      exact Option.some.inj hu
    subst ex
    obtain ⟨hit', _⟩ := hst'
    refine ⟨_, rfl, wpAny_letOwnedTupleGo_enum (s := { s with heap := h', toks := tk + 1 }) ho fun h'' he' sb => ?_⟩
    have hT2 : h''.get? s.heap.objs.size = some { cls := .type "tuple", data := .seq #[.int i tk, x'] } := (sb.2 _ (Nat.ne_of_gt hel)).trans hT
    have new : ObjOk X.prog X.w (L2.upd H s.heap.objs.size (.tup [.int (i : Nat), x])) h'' s.heap.objs.size (.tup [.int (i : Nat), x]) :=
      ⟨by show 2 ≤ sizeLine; decide, [.int i tk, x'], .cons ⟨_, rfl⟩ (.cons ru .nil), ⟨_, hT2, rfl, _, rfl⟩⟩
    have I1 : Inv X pins σ (L2.upd H s.heap.objs.size (.tup [.int (i : Nat), x])) { s with heap := h'', toks := tk + 1 } :=
      I.turnedNew (ch := [e, it]) (fun b ob hb q => (sb.2 b (fun z => hb (by simp [z]))).trans (hk b ob (fun z => hb (by simp [z])) (fun z => hb (by simp [z])) q)) hf (Nat.le_refl _) new
    refine ⟨.ref s.heap.objs.size, _, I1, rfl, ⟨_, x, rfl, I.hok.fresh (Nat.le_refl _), rfl, fun ys hy => by rw [I.tuple_inj hy hq]; exact hx⟩, ⟨⟨x', ?_⟩, hit'.at fun o q => (sb.2 it (Ne.symm hne)).trans q, hne, hea, hai⟩, fun b hb => ?_⟩
    · have e1 : ((i + 1 : Nat) : Int) = (i : Int) + 1 := by omega
      rw [e1]; exact he'
    · have hb' : b < s.heap.objs.size := by
        have e' : b = e ∨ b = it := by simpa using hb
        rcases e' with z | z
        · rw [z]; exact hel
        · rw [z]; exact hil
      rw [upd_ne (Nat.ne_of_lt hb')]
      exact (hf b hb).1
  done := by
    intro X hP hw hK hc i pins s σ H E I hf st hg
    subst hP hw hK
    obtain ⟨⟨old, he⟩, hit, hne, hea, hai⟩ := st
    obtain ⟨xs, hq, hx⟩ := hg
    obtain ⟨its, rv, p, hz⟩ := I.tuple hq
    obtain ⟨f0, f1, f2, f3, f4, f5⟩ := hf it (by simp)
    have hl := rv.length
    have hT : s.TypeIs (.ref e) "enumerate" := ⟨_, he, rfl⟩
    unfold pyNext
    refine wpAny_bind (wpAny_attempt (wpAny_callSpecial?_slot (name := Str.ofString "__next__") hT F.slot_enumerate_next
      (wpAny_call_entry F.slot_enumerate_next hT F.entry_enumerate_next ?_ (F.args_enumerate_next_1 _))))
    show wpAny _ _ (field (.ref e) 2 >>= _) _ _ _
    refine wpAny_bind (wpAny_field he rfl (x := .ref it) rfl ?_)
    refine wpAny_bind (wpAny_nextOf_tuple_end (show X.A.in1.handled = none from I.ok.hd hc) hit (show s.heap.IsTuple a its.toArray from p) (by simp; omega) fun h' x he' hx' => ?_)
    obtain ⟨o, ho, hcc⟩ := hx'
    refine wpAny_bind (wpAny_isInstance (T := "StopIteration") (b := true) ⟨o, ho, hcc⟩ isSubtype_stop ?_)
    exact wpAny_pure ⟨rfl, I.turned (t' := s.toks) (fun b o hb q => he' b o hb q) f0 f1 f3 f4 f5⟩
  self := fun A i s Q E st h => let ⟨⟨_, he⟩, _⟩ := st; wpAny_pyIter_enum he h
def iEnumT (K : PySem.W.Frag) (ta : TA) : TI := fun σ H R => ta σ H fun vs H1 => ∃ a xs, vs = [.ref a] ∧ SqT K H1 a xs ∧ R (Itet K a) H1
theorem pi_enumT {X : Cx} {e : Expr} {ta : TA} {p pos tpos : Pos} {elts : List Expr} {kk : Nat} (hg : Gl X "enumerate") (hm : X.mg "enumerate" = none) (ha : PA X [e] ta) (hs : starEach [e] X.env = [(false, eval e X.env)] := by rfl) :
    PI X (.Tuple elts kk tpos) (.Call (.Name "enumerate" p) [e] [] pos) (iEnumT X.K ta) := by
  refine ⟨fun pins s σ H R I h => ?_⟩
  refine Call_ (ld_blt I hg hm boot_enumerate (PyProof.Rows.callWith_type1 (thn (ha.run pos pins s σ H _ I h) fun us s1 ⟨vs, H1, I1, r1, q1⟩ => ?_) hs rfl))
  obtain ⟨a, xs, ex, hq, q⟩ := q1
  subst ex
  cases r1 with
  | cons r rr =>
    cases rr
    cases r
    obtain ⟨its, rv, p', hz⟩ := I1.tuple hq
    have p'' : s1.heap.IsTuple a its.toArray := p'
    have hal : a < s1.heap.objs.size := by obtain ⟨_, q, _⟩ := id p''; exact Heap.lt_size q
    refine call_enum1 (begins_tuple a its.toArray) p'' fun h' he hit hsz hk => wpAny_pyIter_enum he ?_
    have I2 : Inv X pins σ H1 { s1 with heap := h' } := I1.kept (t' := s1.toks) hk
    refine ⟨s1.heap.objs.size + 1, [s1.heap.objs.size + 1, s1.heap.objs.size], _, _, H1, rfl, I2, turn_enumT a (s1.heap.objs.size + 1) s1.heap.objs.size, ⟨⟨.none, he⟩, ⟨_, hit, rfl, rfl⟩, Nat.succ_ne_self _, Nat.ne_of_gt (Nat.lt_succ_of_lt hal), Nat.ne_of_lt hal⟩, fun b hb => ?_, q⟩
    have e' : b = s1.heap.objs.size + 1 ∨ b = s1.heap.objs.size := by simpa using hb
    have hle : s1.heap.objs.size ≤ b := by
      rcases e' with z | z
      · rw [z]; exact Nat.le_add_right _ _
      · rw [z]; exact Nat.le_refl _
    exact I1.fpOk hle (I1.hok.fresh hle)
theorem walk_enumT {K : PySem.W.Frag} {a : Addr} {xs : List V} : Walk (Itet K a) xs.length (fun H => SqT K H a xs) (YPair (fun i => some (.int (i : Nat))) (fun i => xs[i]?)) := by
  refine ⟨fun i _ hi q => ⟨xs, xs[i], q, by simp [hi]⟩, fun _ q => ⟨xs, q, Nat.le_refl _⟩, fun i H v H' _ q y => ?_⟩
  obtain ⟨T, x, h1, h2, h3, h4⟩ := y
  exact ⟨T, .int (i : Nat), x, h1, h2, h3, rfl, h4 xs q⟩
section
variable {K : PySem.W.Frag} {a : Addr} {xs : List V} {g : TG} {tb : TS} {D : Ends} {σ : L2.St} {H : Hp}
theorem for_enumT (Pv : Nat → L2.St → Hp → Prop) (h0 : Pv 0 σ H) (hG : ∀ i σ H, i ≤ xs.length → Pv i σ H → SqT K H a xs)
    (hs : ∀ i x T σ H, xs[i]? = some x → Pv i σ H → H T = none → g (.ref T) σ (L2.upd H T (.tup [.int (i : Nat), x])) fun σ2 H2 => tb { D with nx := Pv (i + 1), ct := Pv (i + 1), bk := D.nx } σ2 H2) (hd : ∀ σ H, Pv xs.length σ H → D.nx σ H) :
    ∃ W : Nat → Nat → L2.St → Hp → Prop, (∃ m, W 0 m σ H) ∧ ∀ i m σ H, W i m σ H →
      ((Itet K a).stop i H ∧ D.nx σ H) ∨ ((Itet K a).go i H ∧ ∃ N : L2.St → Hp → Prop, (∀ σ' H', N σ' H' → ∃ m', m' < m ∧ W (i + 1) m' σ' H') ∧ ∀ x H', (Itet K a).yld i H x H' → g x σ H' fun σ2 H2 => tb { D with nx := N, ct := N, bk := D.nx } σ2 H2) := by
  refine for_it walk_enumT Pv h0 hG (fun i x σ H H' hi p y => ?_) hd
  obtain ⟨T, x, y, rfl, hT, rfl, h1, h2⟩ := y
  cases h1
  exact hs i y T σ H h2 p hT
end
end Kb

namespace Kb
open PySem PySem.Spec PyProof.Rows L2
/-! ### own errors with one field -/
def spInit (K : PySem.W.Frag) (C : Addr) (f : Str) : Sp := fun vs H Q _ => ∃ (a : Addr) (v : V), vs = [.ref a, v] ∧ H a = some (exo a C none) ∧ OexC K C ∧ PySem.W.findIn K (.ref C) f = some none ∧
  ∀ dx, H dx = none → dx ≠ a → Q .non (L2.upd (L2.upd H dx (exd dx [(f, v)])) a (exo a C (some dx)))
/-- what the top has written of such a class -/
structure Err (K : PySem.W.Frag) (mg : Str → Option Value) (cn f : Str) (C : Addr) : Prop where
  T : OexC K C
  X : XfC K C
  g : mg cn = some (.ref C)
  no : PySem.W.findIn K (.ref C) f = some none
  te : PySem.W.exmOne K (.ref C) (.ref C) = some true
  ini : ∃ (fI : Addr) (fd : FuncData), PySem.W.findIn K (.ref C) "__init__" = some (some (.ref fI)) ∧ PySem.W.typeIn K (.ref fI) = some (.type "function") ∧ Binds K fd ["self", f] [] ∧
    ∀ (P : Program) (w : World) (base : Heap), FnOk P w K mg base CX0 1 fI fd ["self", f] (spInit K C f)
/-- C(e) -/
def tErr (C : Addr) (f : Str) (ta : TA) : L2.St → Hp → XK → Prop := fun σ H Q => ta σ H fun vs H1 => ∃ v, vs = [v] ∧ ∀ d, H1 d = none → Q (.ref C) (some d) (L2.upd H1 d (.xd [(f, v)]))
def taMono (t : TA) : TA := fun σ H Q => ∃ Q0 : List V → Hp → Prop, t σ H Q0 ∧ ∀ x H1, Q0 x H1 → Q x H1
theorem pa_mono {X : Cx} {es : List Expr} {t : TA} (h : PA X es t) : PA X es (taMono t) :=
  ⟨fun pos pins s σ H Q I ⟨Q0, h0, m⟩ => thn (h.run pos pins s σ H Q0 I h0) fun us s1 ⟨vs, H1, I1, r1, q1⟩ => ⟨vs, H1, I1, r1, m _ _ q1⟩⟩
theorem upd_del {H : Hp} {a d : Addr} {o1 o2 o3 o4 : HO} (ha : H a = none) (hd : d ≠ a) : L2.upd (del (L2.upd (L2.upd (L2.upd H a o1) d o2) a o3) a) d o4 = L2.upd H d o4 := by
  funext b
  by_cases h1 : b = d
  · subst h1; rw [upd_same, upd_same]
  · rw [upd_ne h1, upd_ne h1]
    by_cases h2 : b = a
    · subst h2; rw [del_same, ha]
    · rw [del_ne h2, upd_ne h2, upd_ne h1, upd_ne h2]
section
variable {X : Cx}
theorem pmk_err {cn f : Str} {C : Addr} {e : Expr} {ta : TA} {p pos : Pos} {k : Nat} (T : Err X.K X.mg cn f C) (hr : Room k X.A) (hk : 2 ≤ k) (hx : Passes CX0 X (fun _ _ _ => False)) (ha : PA X [e] ta) (hg : Gl X cn)
    (hdb : (cn == ("__debug__" : Str)) = false := by decide) (he : starEach (e :: []) X.env = (false, eval e X.env) :: starEach [] X.env := by rfl) (hpl : (backTo pos (starEach [] X.env)).any (·.1) = false := by rfl) :
    PMk X (.Call (.Name cn p) [e] [] pos) (tErr C f ta) := by
  intro pins s σ H Q I h
  obtain ⟨fI, fd, iC, tI, hb, F⟩ := T.ini
  refine pmk_oex (dvs := []) (ds := []) T.T iC tI (F X.prog X.w X.base) (hr.mono hk) hb .nil hx hg T.g (pa_mono ha) hdb he hpl pins s σ H Q I ?_
  refine ⟨_, h, ?_⟩
  rintro vs H1 ⟨v, rfl, hq⟩
  refine ⟨by show 1 ≤ 1000; decide, fun a hn => ⟨a, v, rfl, upd_same, T.T, T.no, fun dx hdx hne => ⟨rfl, dx, [(f, v)], upd_same, ?_, ?_, ?_⟩⟩⟩
  · rw [upd_ne hne, upd_same]
  · rw [upd_ne hne] at hdx; exact hdx
  · rw [upd_ne hne] at hdx
    rw [upd_del hn hne]
    exact hq dx hdx
/-- raise C(e) -/
def tRaise (C : Addr) (f : Str) (W : WX) (ta : TA) : TS := fun _ σ H => tErr C f ta σ H fun cls d H' => W cls d σ H'
theorem ps_raiseE {cn f : Str} {C : Addr} {e : Expr} {ta : TA} {W : WX} {p pos pos2 : Pos} {k : Nat} (hc : X.calm = true) (T : Err X.K X.mg cn f C) (hr : Room k X.A) (hk : 2 ≤ k) (hx : Passes CX0 X (fun _ _ _ => False)) (tk : Takes X W) (ha : PA X [e] ta) (hg : Gl X cn)
    (hdb : (cn == ("__debug__" : Str)) = false := by decide) (he : starEach (e :: []) X.env = (false, eval e X.env) :: starEach [] X.env := by rfl) (hpl : (backTo pos (starEach [] X.env)).any (·.1) = false := by rfl) :
    PS X (.Raise (some (.Call (.Name cn p) [e] [] pos)) none pos2) (tRaise C f W ta) := ps_raise hc tk (pmk_err T hr hk hx ha hg hdb he hpl)
theorem pe_cX {W : WX} {j k : Nat} {x : Str} {ps : List Str} {sp : Sp} {p pos : Pos} {e : Expr} {es : List Expr} {t : TA} (c : Cal X.prog X.w X.K X.mg X.base (L2.CX X.prog X.w) j x ps sp) (hr : Room k X.A) (hjk : j ≤ k) (hg : Gl X x) (tk : Takes X W)
    (ha : PA X (e :: es) t) (hdb : (x == ("__debug__" : Str)) = false := by decide) (he : starEach (e :: es) X.env = (false, eval e X.env) :: starEach es X.env := by rfl) (hpl : (backTo pos (starEach es X.env)).any (·.1) = false := by rfl) :
    PE X (.Call (.Name x p) (e :: es) [] pos) (tCallS sp (WE W) t) := by
  obtain ⟨f, fd, F, m, kp, b⟩ := c
  exact pe_callS F (hr.mono hjk) hg m kp b (fun σ => passAt tk σ) ha hdb he hpl
end
section
variable {P : Program} {w : World} {K : PySem.W.Frag} {mg : Str → Option Value} {base : Heap}
theorem Df.okX {x : Str} {st : Stmt} {N ps : List Str} {k : Nat} {sp : Sp} (D : Df K mg x st ps) (S : FnScope N ps (defScope st)) (len : ∀ vs H Q E, sp vs H Q E → vs.length = ps.length)
    (hbody : ∀ (f : Addr) (cdv : Value) (A : Around) (outer : List Env) (s : Shared) (H : Hp) (vs : List V) (Q : VK) (E : XK), Room k (A.deeper (envOfC x (defScope st) s.heap.objs.size f cdv)) → sp vs H Q E →
      ∃ t, PSs (cxOf (L2.CX P w) P w K mg base N x (defScope st) f cdv A outer s H E) (defBody st) t ∧ t { nx := fun _ H' => Q .non H', rt := Q } (start N vs) H) : Cal P w K mg base (L2.CX P w) (k + 1) x ps sp := by
  obtain ⟨f, fd, F, m, b⟩ := D
  exact ⟨f, fd, F.okX S len (hbody f), m, F.kp, .all b⟩
end
/-! ### such a class, from the written part -/
theorem exm_own {K : PySem.W.Frag} {S : Addr} (h1 : PySem.W.subIn K (.ref S) (.type "BaseException") = some true) (h2 : PySem.W.isClsIn K S = true) (h3 : PySem.W.typeIn K (.ref S) = some (.type "type")) (h4 : PySem.W.subIn K (.ref S) (.ref S) = some true) :
    PySem.W.exmOne K (.ref S) (.ref S) = some true := by
  unfold PySem.W.isClsIn at h2
  unfold PySem.W.exmOne
  simp only [h1, h2, h3, h4]
  unfold PySem.W.kitCls
  simp [h2, h3, h4]
theorem Err.mk' {K : PySem.W.Frag} {mg : Str → Option Value} {h : Heap} {cn f q0 : Str} {C fI : Addr} {st : Stmt} {nm q : Str} {N : Addr} {bs bm : List Value} {sn : List Str} {sub : List Value} {ab : Bool} {col : Option Bool} {dd : Option Addr} {m0 m1 m2 m3 m5 : Option Value}
    {oc : Value} {od an : Option Addr} {sl : Array (Option Value)} {kV doc pm cd ct : Value} (X : K.In h) (G : h.Ns PySem.mainGlobals mg)
    (b : ∀ (kV doc pm : Value) (an : Option Addr) (cdv ct : Value) (us : List Value), us.length = (["self", f] : List Str).length → bindArgs (PySem.W.fnOf "__init__" q0 (defArgs st) (defBody st) (defScope st) .none kV doc pm an cdv ct) ⟨us, []⟩ = pure ((["self", f] : List Str).zip us))
    (ok : ∀ {fI : Addr} {fd : FuncData} (P : Program) (w : World) (base : Heap), Fun K "__init__" q0 st fI fd → FnOk P w K mg base CX0 1 fI fd ["self", f] (spInit K C f))
    (aC : PySem.W.nsIn K PySem.mainGlobals cn = some (some (.ref C)))
    (xL : K.lookup C = some (excClassObj nm q C N bs bm true sn sub ab col dd m0 m1 m2 m3 m5 "ValueError.__new__")) (rv : PySem.HandSPX.refsVE bm = true)
    (sa : PySem.W.findIn K (.ref C) "__setattr__" = some (some (.builtin "object.__setattr__"))) (ga : PySem.W.findIn K (.ref C) "__getattribute__" = some (some (.builtin "BaseException.__getattribute__"))) (gg : PySem.W.findIn K (.ref C) "__getattr__" = some none) (nb : PySem.W.findIn K (.ref C) f = some none)
    (a1 : PySem.W.findIn K (.ref C) "__init__" = some (some (.ref fI))) (t1 : PySem.W.typeIn K (.ref fI) = some (.type "function"))
    (l1 : K.lookup fI = some ⟨oc, od, .func (PySem.W.fnOf "__init__" q0 (defArgs st) (defBody st) (defScope st) .none kV doc pm an cd ct), sl⟩) (c1 : PySem.W.codeIn K cd q0 = true) (k1 : PySem.W.keepIn K (.ref fI) = true)
    (kC : PySem.W.keepIn K (.ref C) = true) (eC : PySem.W.subIn K (.ref C) (.type "BaseException") = some true) (tC : PySem.W.typeIn K (.ref C) = some (.type "type")) (hC : PySem.W.hasDictIn K C = true) (iC : PySem.W.isClsIn K C = true) (sC : PySem.W.subIn K (.ref C) (.ref C) = some true) : Err K mg cn f C where
  T := ⟨⟨nm, q, N, bs, bm, sn, sub, ab, col, dd, m0, m1, m2, m3, m5, xL, rv⟩, sa, eC, tC, kC⟩
  X := ⟨ga, gg, eC, hC⟩
  g := PySem.W.mg_of X G aC
  no := nb
  te := exm_own eC iC tC sC
  ini := ⟨fI, _, a1, t1, .all (b kV doc pm an cd ct), fun P w base => ok P w base (fun_mk l1 c1 k1)⟩
end Kb
namespace Kb
open PySem PySem.Spec PyProof.Rows L2
/-- nothing is let out -/
theorem passF {P : Program} {w : World} {X : Cx} : Passes (L2.CX P w) X (fun _ _ _ => False) := fun _ _ _ _ _ _ _ h => by
  obtain ⟨_, _, _, _, _, _, _, _, _, _, _, _, q⟩ := h
  exact q.elim
end Kb
namespace Kb
open PySem PySem.Spec PyProof.Rows L2
/-- a tuple of the written part -/
theorem sqT_of_lookup {K : PySem.W.Frag} {a : Addr} {dd : Option Addr} {its : Array Value} {n : Nat} {sl : Array (Option Value)} {xs : List V} (l : K.lookup a = some ⟨.type "tuple", dd, .seq its n, sl⟩) (z : its.size ≤ sizeLine) (v : Vals xs its.toList) : ∀ H : Hp, SqT K H a xs :=
  fun _ => .inr ⟨_, its, n, l, rfl, rfl, z, v⟩
theorem pe_gt {X : Cx} {x : Str} {pos : Pos} {a : Addr} (hg : Gl X x) (h : X.mg x = some (.ref a)) (hd : (x == ("__debug__" : Str)) = false := by decide) : PE X (.Name x pos) (tC (.ref a)) := pe_glob hg h rfl hd
end Kb

namespace Kb
open PySem PySem.Spec PyProof.Rows L2
/-! ### defs that are called while no repr is under way -/
structure FnG (P : Program) (w : World) (K : PySem.W.Frag) (mg : Str → Option Value) (base : Heap) (CX : CXT) (k : Nat) (f : Addr) (fd : FuncData) (ps : List Str) (sp : Sp) : Prop where
  len : ∀ vs H Q E, sp vs H Q E → vs.length = ps.length
  run : ∀ (A : Around) (outer : List Env) (s : Shared) (H : Hp) (args : Args) (us : List Value) (vs : List V) (Q : VK) (E : XK), A.guards = some [] → Room k A → Env0 P w K mg base A outer s H → BindsTo s fd args (ps.zip us) → Vals vs us → sp vs H Q E →
    codeAny (model P w) A (.call (.ref f) args) (CR CX outer P w H s Q E) s
section
variable {P : Program} {w : World} {K : PySem.W.Frag} {mg : Str → Option Value} {base : Heap} {CX : CXT}
theorem FnG.mono {j k : Nat} {f : Addr} {fd : FuncData} {ps : List Str} {sp : Sp} (F : FnG P w K mg base CX j f fd ps sp) (h : j ≤ k) : FnG P w K mg base CX k f fd ps sp :=
  ⟨F.len, fun A outer s H args us vs Q E hg hr => F.run A outer s H args us vs Q E hg (hr.mono h)⟩
theorem fnG_of {k : Nat} {f : Addr} {x qual : Str} {st : Stmt} {fd : FuncData} {N ps : List Str} {sp : Sp} (F : Fun K x qual st f fd) (S : FnScope N ps (defScope st)) (len : ∀ vs H Q E, sp vs H Q E → vs.length = ps.length)
    (hbody : ∀ (cdv : Value) (A : Around) (outer : List Env) (s : Shared) (H : Hp) (vs : List V) (Q : VK) (E : XK), A.guards = some [] → Room k (A.deeper (envOfC qual (defScope st) s.heap.objs.size f cdv)) → sp vs H Q E →
      ∃ t, PSs (cxOf CX P w K mg base N qual (defScope st) f cdv A outer s H E) (defBody st) t ∧ t { nx := fun _ H' => Q .non H', rt := Q } (start N vs) H) : FnG P w K mg base CX (k + 1) f fd ps sp := by
  obtain ⟨oc, od, kV, doc, pm, an, cdv, ct, osl, rfl, lk, hcd⟩ := F.ex
  refine ⟨len, fun A outer s H args us vs Q E hgd hr e0 hb r hsp => ?_⟩
  have KX : K.In s.heap := e0.mod.kin.keeps fun b o e => (e0.bs b o e).1
  have hkind : ∀ y ∈ ps.zip us, (defScope st).names.lookup y.1 = some .local ∨ ((defScope st).names.lookup y.1 = some .cell ∧ ((cellsFrom (s.heap.objs.size + 1) (defScope st).names []).lookup y.1).isSome = true) := fun ⟨n, v⟩ hy =>
    (S.par n (List.of_mem_zip hy).1).elim .inl fun q => .inr ⟨q, PySem.W.cellsFrom_some _ _ _ (.inl q)⟩
  refine codeAny_call_function hr.depth (KX _ _ lk) rfl S.co S.gen rfl (PySem.W.codeRec_of KX hcd) (hb _ _ _ _ (wpAny_newFunctionEnv_cells S.kind hkind fun env he s1 x => ?_))
  subst he
  refine ⟨(e0.mod.nolimit.keeps fun b o e => (e0.bs b o e).1).keeps x.toInCall.keep, codeAny_func ?_⟩
  obtain ⟨t, ht, hq⟩ := hbody cdv A outer s H vs Q E hgd (hr.deeper _) hsp
  refine wpAny_mono (ht.run [] s1 (start N vs) H _ (inv_start S hr.hd e0 (len _ _ _ _ hsp) r x) hq) (fun fl s' hs => ?_) fun e s' hs => hs
  cases fl with
  | ret u => obtain ⟨v, σ', H', J, rv, q⟩ := hs; exact ⟨v, H', J.os, J.bare, J.base, J.hok, rv, q⟩
  | next => obtain ⟨σ', H', J, q⟩ := hs; exact ⟨V.non, H', J.os, J.bare, J.base, J.hok, rfl, q⟩
  | brk => obtain ⟨_, _, _, q⟩ := hs; exact q.elim
  | cont => obtain ⟨_, _, _, q⟩ := hs; exact q.elim
end
/-! ### repr -/
section
variable {X : Cx}
/-- repr of what is no dict -/
def rRepr (K : PySem.W.Frag) : List V → Hp → VK → Prop := fun xs H Q => ∃ x d, xs = [x] ∧ Dp K H x d ∧ d.showable = true ∧ d.hasDict = false ∧ d.shown.length ≤ sizeLine ∧ d.depth ≤ 64 ∧ Q (.str d.shown) H
theorem call_reprD (hu : X.A.units + 65 < cLine) (hg : X.A.guards = some []) : CallR X (.builtin "repr") (rRepr X.K) := by
  intro pins s σ H xs us Q I r h
  obtain ⟨x, d, rfl, hd, hs, hn, hz, hp, q⟩ := h
  obtain ⟨u, rfl, r1⟩ := vals1 r
  obtain ⟨as, rd⟩ := Dp.reads I d x u hd r1
  have ref : ∀ a : Addr, u = .ref a → wpAny (model X.prog X.w) X.A (call (Value.builtin "repr") [u]) (EP X pins σ Q) X.xe s := fun a e => by
    subst e
    exact repr_of_reads' rd hs (fun q => by rw [hn] at q; cases q) hg (by omega) (fun _ _ e => e) (fun h' t tk k => ⟨.str d.shown, H, I.kept (t' := tk) k, ⟨t, rfl⟩, q⟩) hz
  cases rd with
  | none => simp only [PyData.shown] at q; exact PySem.P.repr_of_none ⟨.str "None", H, I.tok _, ⟨_, rfl⟩, q⟩
  | bool b => simp only [PyData.shown] at q; exact PySem.P.repr_of_bool ⟨.str (if b then "True" else "False"), H, I.tok _, ⟨_, rfl⟩, q⟩
  | int i t => simp only [PyData.shown] at q; exact PySem.P.repr_of_int (by simpa [PyData.showable] using hs) ⟨.str (toString i), H, I.tok _, ⟨_, rfl⟩, q⟩
  | str y t => simp only [PyData.shown] at q; exact PySem.P.repr_of_str ⟨.str (reprText y), H, I.tok _, ⟨_, rfl⟩, q⟩ (by simpa only [PyData.shown] using hz)
  | list h1 h2 h3 h4 => exact ref _ rfl
  | tuple h1 h2 h3 h4 => exact ref _ rfl
  | dict h1 h2 h3 h4 h5 => exact ref _ rfl
end
end Kb
namespace Kb
open PySem PySem.Spec PyProof.Rows L2
/-! ### the law's call, by such a promise: nothing but the script is tracked -/
theorem law_callG {P : Program} {w : World} {K : PySem.W.Frag} {mg mb : Str → Option Value} {CX : CXT} {k : Nat} {fa a : Addr} {fd : FuncData} {x : Str} {sp : Sp} {s₁ : Shared} {vs : List Value} {ns : List Int}
    (KX : K.In s₁.heap) (hns : s₁.heap.Ns PySem.mainGlobals mg) (hb : s₁.heap.Ns builtinsNs mb) (hbb : ∀ x : Str, x ≠ "__name__" → mb x = bootBuiltins x) (hlim : s₁.heap.NoLimit) (hg : s₁.gens = #[])
    (ha : s₁.heap.get? a = some { cls := .type "list", data := .seq vs.toArray }) (hi : IntsAre vs ns) (hl : ns.length ≤ sizeLine) (hr : Room k callerA)
    (F : ∀ base : Heap, K.In base → base.Ns PySem.mainGlobals mg → FnG P w K mg base CX k fa fd [x] sp) (hbind : ∀ (s : Shared) (u : Value), BindsTo s fd ⟨[u], []⟩ [(x, u)])
    (hsp : ∀ H : Hp, Only H → SqL K H a (ns.map V.int) → sp [.ref a] H (fun v _ => v = .bl true) fun _ _ _ => False)
    (hCX : ∀ H e s', CX [] H s₁ (fun _ _ _ => False) e s' → False) :
    codeAny (model P w) callerA (.call (.ref fa) ⟨[.ref a], []⟩) (fun r s' => r = .ok (.ret (.bool true)) ∧ OldK s₁.heap s'.heap ∧ s'.os = s₁.os ∧ AllBare s'.gens) s₁ := by
  have rv := vals_ints hi
  have core : ∀ H : Hp, Only H → SqL K H a (ns.map V.int) → HOk P w H s₁.heap → (∀ b, H b ≠ none → b = a) → (H a ≠ none → K.lookup a = none) →
      codeAny (model P w) callerA (.call (.ref fa) ⟨[.ref a], []⟩) (fun r s' => r = .ok (.ret (.bool true)) ∧ OldK s₁.heap s'.heap ∧ s'.os = s₁.os ∧ AllBare s'.gens) s₁ := by
    intro H hO hS hok hA hK
    have one : ∀ b, b ≠ a → H b = none := fun b n => Classical.byContradiction fun q => n (hA b q)
    have dicts : ∀ {b : Addr} {o : Obj} {es : Array DictEntry} {ep : Nat}, s₁.heap.get? b = some o → o.data = .dict es ep → b ≠ a := fun {b o es ep} e d q => by
      subst q
      rw [ha] at e
      cases e
      cases (show Data.seq vs.toArray _ = Data.dict es ep from d)
    have spaces : ∀ {b : Addr} {m : Str → Option Value}, s₁.heap.Ns b m → (hidT s₁.heap H).Ns b m := fun ⟨o, es, ep, e, d, r⟩ => ⟨o, es, ep, hidT_get e (one _ (dicts e d)), d, r⟩
    have kin : K.In (hidT s₁.heap H) := fun b o e => hidT_get (KX b o e) (Classical.byContradiction fun q => by
      have e2 : b = a := hA b q
      subst e2
      rw [hK q] at e
      cases e)
    obtain ⟨mc, l1, l2⟩ := hlim
    refine codeAny_mono ((F _ kin (spaces hns)).run callerA [] s₁ H ⟨[.ref a], []⟩ [.ref a] [.ref a] _ _ rfl hr
      ⟨rfl, ⟨kin, spaces hns, ⟨mb, spaces hb, hbb⟩, ⟨mc, spaces l1, l2⟩⟩, fun b o e => of_hidT e, Nat.le_of_eq (hidT_size _ _), trivial, fun b hb => absurd (show b ∈ ([] : List Addr) from hb) (by simp), hok, .of_eq hg⟩
      (hbind s₁ (.ref a)) (.cons rfl .nil) (hsp H hO hS)) fun r s' h => ?_
    match r, h with
    | .error e, h => exact (hCX H e s' h).elim
    | .ok (.ret u), ⟨v, H', os, bare, un, hok', r', q⟩ =>
      cases (show v = .bl true from q)
      cases (show u = Value.bool true from r')
      refine ⟨rfl, OldK.of_keep fun b o e => ?_, os, bare⟩
      rcases hO b with z | ⟨ob, xs, z⟩
      · exact un.keep b o e z (fun y => absurd (show b ∈ ([] : List Addr) from y) (by simp)) (by simp)
      · obtain ⟨e1, _⟩ := hok b _ z
        obtain ⟨e2, _⟩ := hok' b _ (un.frzs b ob _ z)
        rw [e] at e1
        cases e1
        exact e2
  cases hk : K.lookup a with
  | some o =>
    have e := KX a o hk
    rw [ha] at e
    cases e
    exact core (fun _ => none) (fun _ => .inl rfl) (.inr ⟨_, vs.toArray, _, hk, rfl, rfl, rfl, by rw [List.size_toArray, hi.length]; exact hl, by simpa using rv⟩) (fun b u z => nomatch (show (none : Option HO) = some u from z)) (fun b z => absurd rfl z) fun z => absurd rfl z
  | none =>
    have at' : ∀ b, b ≠ a → (if b = a then some (HO.frz { cls := .type "list", data := .seq vs.toArray } (.lst (ns.map V.int))) else none) = none := fun b n => if_neg n
    refine core (fun b => if b = a then some (.frz { cls := .type "list", data := .seq vs.toArray } (.lst (ns.map V.int))) else none) (fun b => ?_) (.inl (.inr ⟨{ cls := .type "list", data := .seq vs.toArray }, if_pos rfl⟩)) (fun b u z => ?_) (fun b z => Classical.byContradiction fun n => z (at' b n)) fun _ => hk
    · by_cases hb : b = a
      · exact .inr ⟨_, _, if_pos hb⟩
      · exact .inl (at' b hb)
    · by_cases hb : b = a
      · subst hb
        cases (if_pos rfl).symm.trans z
        exact ⟨ha, by rw [List.length_map]; exact hl, vs, _, rv, ha⟩
      · cases (at' b hb).symm.trans z
theorem walkG {l : PySem.W.OpenLaw} {n k : Nat} {q : Program} {loose : List Str} {XP : (Str → Option Value) → Heap → Prop} {YP : World → Heap → Prop} {d : DefRec} {K : Params → PySem.W.Frag} {CX : World → CXT} {sp : World → Sp} {x : Str}
    (hn : l.most = some n) (hn2 : n ≤ sizeLine) (hdf : d.params.defaults = []) (hr : Room k callerA) (hY : ∀ (w : World) (h : Heap), YP w h → (K w.params).In h)
    (F : ∀ (w : World) (mg : Str → Option Value) (fa : Addr) (h : Heap), (K w.params).In h → h.Ns PySem.mainGlobals mg → mg d.name = some (.ref fa) →
      ∃ fd : FuncData, (∀ (s : Shared) (u : Value), BindsTo s fd ⟨[u], []⟩ [(x, u)]) ∧
        ∀ base : Heap, (K w.params).In base → base.Ns PySem.mainGlobals mg → FnG l.prog w (K w.params) mg base (CX w) k fa fd [x] (sp w))
    (hsp : ∀ (w : World) (H : Hp) (a : Addr) (ns : List Int), ns.length ≤ n → Only H → SqL (K w.params) H a (ns.map V.int) → sp w [.ref a] H (fun v _ => v = .bl true) fun _ _ _ => False)
    (hCX : ∀ (w : World) (H : Hp) (s : Shared) (e : Value) (s' : Shared), CX w [] H s (fun _ _ _ => False) e s' → False) :
    PySem.W.WalkO q loose XP YP l.row.toRowW d [] (fun f vs => PySem.call f vs) := by
  refine Att.attach_call hn hdf fun w s₀ s₁ mg mb fa o pm cd doc a vs ns G Y ho hd hcd hmg hobj hints hlen hg => ?_
  have KX := hY w _ Y
  obtain ⟨fd, hb, hF⟩ := F w mg fa _ KX G.T.g hmg
  exact law_callG KX G.T.g G.T.b G.T.builtins G.T.nolimit hg hobj hints (Nat.le_trans hlen hn2) hr hF hb (fun H hO hS => hsp w H a ns hlen hO hS) fun H e s' => hCX w H s₁ e s'
end Kb
namespace Kb
open PySem PySem.Spec PyProof.Rows L2
theorem repr_u {k : Nat} {A : Around} (hr : Room k A) : A.units + 65 < cLine := by have := hr.un; omega
theorem Fun.okG {P : Program} {w : World} {K : PySem.W.Frag} {mg : Str → Option Value} {base : Heap} {k : Nat} {f : Addr} {x qual : Str} {st : Stmt} {fd : FuncData} {N ps : List Str} {sp : Sp} (F : Fun K x qual st f fd) (S : FnScope N ps (defScope st)) (len : ∀ vs H Q E, sp vs H Q E → vs.length = ps.length)
    (hbody : ∀ (cdv : Value) (A : Around) (outer : List Env) (s : Shared) (H : Hp) (vs : List V) (Q : VK) (E : XK), A.guards = some [] → Room k (A.deeper (envOfC qual (defScope st) s.heap.objs.size f cdv)) → sp vs H Q E →
      ∃ t, PSs (cxOf CX0 P w K mg base N qual (defScope st) f cdv A outer s H E).nox (defBody st) t ∧ t { nx := fun _ H' => Q .non H', rt := Q } (start N vs) H) : FnG P w K mg base CX0 (k + 1) f fd ps sp :=
  fnG_of F S len fun cdv A outer s H vs Q E hg hr h => let ⟨t, a, q⟩ := hbody cdv A outer s H vs Q E hg hr h; ⟨t, a.nox, q⟩
end Kb
namespace Kb
open PySem PySem.Spec PyProof.Rows L2 TL
/-! ### a text times a number -/
def rMulS : R2 := fun x y H Q => ∃ (a : Str) (n : Int), x = .str a ∧ y = .int n ∧ n ≤ 1000 ∧ 0 ≤ n ∧ a.length ≤ 1000 ∧ ∀ z : Str, tl z = (List.replicate n.toNat (tl a)).flatten → Q (.str z) H
theorem foldl_app (c : Array Nat) : ∀ (m : Nat) (acc : Array Nat), ((List.replicate m c).foldl (· ++ ·) acc).toList = acc.toList ++ (List.replicate m c.toList).flatten
  | 0, acc => by simp
  | m + 1, acc => by
    rw [List.replicate_succ, List.foldl_cons, foldl_app c m, List.replicate_succ, List.flatten_cons, Array.toList_append, List.append_assoc]
theorem op_mulS {X : Cx} : OpR X (binaryOp .Mult) rMulS := by
  intro pins s σ H x y v u Q I rx ry h
  obtain ⟨a, n, rfl, rfl, h1, h2, h3, q⟩ := h
  obtain ⟨t, rfl⟩ := rx
  obtain ⟨t2, rfl⟩ := ry
  have hz : a.length * n.toNat ≤ 1000 * 1000 := Nat.mul_le_mul h3 (by omega)
  have hline : sizeLine = 16777216 := sizeLine_eq
  refine PySem.P.mul_str (by rw [decide_eq_false (by omega), decide_eq_false (by omega)]; rfl) (fun h4 _ h5 => ?_) (fun _ _ => ?_) ?_
  · have h6 : (1000 : Int) ≤ (2 ^ 63 - 1) / n := Int.le_ediv_of_mul_le (by omega) (by omega)
    omega
  · unfold Builtin.Str.tooLong
    rw [hline]
    exact decide_eq_false (by omega)
  · by_cases hn : n < 1
    · rw [if_pos hn]
      have e : n = 0 := by omega
      subst e
      exact ⟨by decide, .str Str.empty, H, I.tok _, ⟨_, rfl⟩, q Str.empty rfl⟩
    · rw [if_neg hn]
      by_cases h5 : (n == 1 || a.length == 0) = true
      · rw [if_pos h5]
        refine ⟨.str a, H, I, ⟨_, rfl⟩, q a ?_⟩
        rw [Bool.or_eq_true, beq_iff_eq, beq_iff_eq] at h5
        rcases h5 with rfl | h5
        · simp
        · rw [len_tl] at h5
          rw [List.eq_nil_of_length_eq_zero h5]; simp
      · rw [if_neg h5]
        refine ⟨?_, .str ⟨(List.replicate n.toNat a.cps).foldl (· ++ ·) #[]⟩, H, I.tok _, ⟨_, rfl⟩, q _ ?_⟩
        · rw [hline, len_tl]
          show (((List.replicate n.toNat a.cps).foldl (· ++ ·) #[]).toList).length ≤ _
          rw [foldl_app]
          have : ((List.replicate n.toNat a.cps.toList).flatten).length = n.toNat * a.length := by
            rw [PyProof.Rows.lm_len_rep_flat]; rfl
          simp only [Array.toList_empty, List.nil_append]
          rw [this, Nat.mul_comm]
          omega
        · show (((List.replicate n.toNat a.cps).foldl (· ++ ·) #[]).toList) = _
          rw [foldl_app]
          rfl
end Kb

namespace Kb
open PySem PySem.Spec PyProof.Rows L2 TL
/-! ### texts of plain signs -/
def ascii (x : Str) : Prop := ∀ s ∈ tl x, s < 128
theorem ascii.app {x y : Str} (a : ascii x) (b : ascii y) : ascii (x ++ y) := fun s hs => by
  rw [tl_append] at hs
  rcases List.mem_append.mp hs with q | q
  · exact a s q
  · exact b s q
theorem joinE : ∀ L : List (List Nat), joinL [] L = L.flatten
  | [] => rfl
  | [p] => by simp [joinL]
  | p :: q :: r => by
    show p ++ ([] ++ joinL [] (q :: r)) = _
    rw [joinE (q :: r)]
    rfl
theorem ascii.join {c : Str} {W : List Str} (hc : ascii c) (h : ∀ x ∈ W, ascii x) : ascii (Txt.join c W) := fun s hs => by
  rw [join_tl] at hs
  induction W with
  | nil => simp [joinL] at hs
  | cons p W ih =>
    cases W with
    | nil => exact h p (List.mem_cons_self ..) s (by simpa [joinL] using hs)
    | cons q r =>
      have hs : s ∈ tl p ++ (tl c ++ joinL (tl c) ((q :: r).map tl)) := hs
      rcases List.mem_append.mp hs with g | g
      · exact h p (List.mem_cons_self ..) s g
      · rcases List.mem_append.mp g with g | g
        · exact hc s g
        · exact ih (fun x hx => h x (List.mem_cons_of_mem _ hx)) g
theorem ascii.cut {x : Str} {lo hi : Option Int} (h : ascii x) : ascii (cutS x lo hi) := fun s hs => by
  have hs : s ∈ ((tl x).drop (HT.sIx x.length 0 lo)).take (HT.sIx x.length x.length hi - HT.sIx x.length 0 lo) := hs
  exact h s (List.mem_of_mem_drop (List.mem_of_mem_take hs))
theorem cut_len {x : Str} {lo hi : Option Int} : (cutS x lo hi).length ≤ x.length := by
  rw [len_tl, len_tl]
  show (((tl x).drop (HT.sIx x.length 0 lo)).take (HT.sIx x.length x.length hi - HT.sIx x.length 0 lo)).length ≤ _
  rw [List.length_take, List.length_drop]
  omega
theorem ascii.rep {x y : Str} {n : Nat} (h : ascii x) (e : tl y = (List.replicate n (tl x)).flatten) : ascii y := fun s hs => by
  rw [e, List.mem_flatten] at hs
  obtain ⟨l, hl, hs⟩ := hs
  rw [List.eq_of_mem_replicate hl] at hs
  exact h s hs
theorem ascii.up {x : Str} (h : ascii x) : ascii (Txt.upper x) ∧ (Txt.upper x).length = x.length := by
  have e : tl (Txt.upper x) = (tl x).map up1 := by rw [upper_ascii h]; simp [tl]
  refine ⟨fun s hs => ?_, by rw [len_tl, e, List.length_map, ← len_tl]⟩
  rw [e] at hs
  obtain ⟨c, hc, rfl⟩ := List.mem_map.mp hs
  have : ∀ c, c < 128 → up1 c < 128 := by decide +kernel
  exact this c (h c hc)
theorem lower_tl {x : Str} (h : ascii x) : tl (Txt.lower x) = (tl x).map lo1 := by rw [lower_ascii h]; simp [tl]
theorem ascii.low {x : Str} (h : ascii x) : ascii (Txt.lower x) ∧ (Txt.lower x).length = x.length := by
  refine ⟨fun s hs => ?_, by rw [len_tl, lower_tl h, List.length_map, ← len_tl]⟩
  rw [lower_tl h] at hs
  obtain ⟨c, hc, rfl⟩ := List.mem_map.mp hs
  have : ∀ c, c < 128 → lo1 c < 128 := by decide +kernel
  exact this c (h c hc)
/-- a sign of a written text -/
theorem sign_at {z : Str} {r : Int} (h0 : 0 ≤ r) (h1 : r < (z.length : Int)) (ha : ascii z) : ∃ c : Nat, atI z.cps.toList r = some c ∧ ascii (⟨#[c]⟩ : Str) := by
  obtain ⟨n, rfl⟩ : ∃ n : Nat, r = (n : Int) := ⟨r.toNat, by omega⟩
  have hn : n < (tl z).length := by rw [← len_tl]; omega
  refine ⟨(tl z)[n], atI_nat (List.getElem?_eq_getElem hn), fun s hs => ?_⟩
  have : s = (tl z)[n] := by simpa [tl] using hs
  rw [this]
  exact ha _ (List.getElem_mem hn)
end Kb
namespace Kb
open PySem PySem.Spec PyProof.Rows L2 TL
theorem ends_at {x : Str} (h : 1 ≤ x.length) : ∃ a z : Nat, atI x.cps.toList 0 = some a ∧ atI x.cps.toList (-1) = some z ∧ (tl x).head? = some a ∧ (tl x).getLast? = some z := by
  have hne : tl x ≠ [] := fun e => by rw [len_tl, e] at h; simp at h
  obtain ⟨r, d, er⟩ := snoc_of_ne hne
  obtain ⟨a, r2, ea⟩ : ∃ a r2, tl x = a :: r2 := List.exists_cons_of_ne_nil hne
  refine ⟨a, d, ?_, ?_, by rw [ea]; rfl, by rw [er, List.getLast?_concat]⟩
  · show atI (tl x) ((0 : Nat) : Int) = _; rw [ea]; exact atI_nat rfl
  · show atI (tl x) (-1) = _; rw [er]; exact atI_last r d
theorem ascii_lit {x : Str} (h : (tl x).all (· < 128) = true) : ascii x := fun s hs => by
  have := List.all_eq_true.mp h s hs
  simpa using this
end Kb
namespace Kb
open PySem PySem.Spec PyProof.Rows L2 TL
/-- a comprehension over a text -/
theorem lc_str {z : Str} {g : TG} {tt : TT} {te : TE} {vs : List Nat} {σ : L2.St} {H1 : Hp} {D : Addr} {Qd : Hp → Prop} (Pv : Nat → Hp → Prop) (h0 : Pv 0 (L2.upd H1 D (.lst [])))
    (hs : ∀ i c H, (tl z)[i]? = some c → Pv i H → g (.str ⟨#[c]⟩) (wipe σ vs) H fun σ2 H2 => wipe σ2 vs = wipe σ vs ∧ tt σ2 H2 fun b H3 =>
      if b = true then te σ2 H3 fun y H4 => ∃ acc, H4 D = some (.lst acc) ∧ acc.length < sizeLine ∧ Pv (i + 1) (L2.upd H4 D (.lst (acc ++ [y]))) else Pv (i + 1) H3) (hd : ∀ H, Pv (tl z).length H → Qd H) :
    ∃ W : Nat → Nat → Hp → Prop, (∃ m, W 0 m (L2.upd H1 D (.lst []))) ∧ ∀ i m H, W i m H →
      ((Its z).stop i H ∧ Qd H) ∨ ((Its z).go i H ∧ ∃ Nx : Hp → Prop, (∀ H', Nx H' → ∃ m', m' < m ∧ W (i + 1) m' H') ∧ ∀ x H', (Its z).yld i H x H' → g x (wipe σ vs) H' fun σ2 H2 => wipe σ2 vs = wipe σ vs ∧ tt σ2 H2 fun b H3 =>
        if b = true then te σ2 H3 fun y H4 => ∃ acc, H4 D = some (.lst acc) ∧ acc.length < sizeLine ∧ Nx (L2.upd H4 D (.lst (acc ++ [y]))) else Nx H3) := by
  refine lc_it walk_str Pv h0 (fun _ _ _ _ => trivial) (fun i x H H' hi p y => ?_) (fun H p => hd H (by rw [show (tl z).length = z.cps.size by simp [tl]]; exact p))
  obtain ⟨rfl, c, hc, rfl⟩ := y
  exact hs i c _ (by rw [← hc]; simp [tl]) p
/-- the last part of a text -/
def smallS (x : Str) : Prop := x.length ≤ 1000 ∧ ascii x
theorem lay_str {x : Str} (h : ascii x) : PyData.canLay0 (.str x) = true := by
  rw [PyData.canLay0]
  show x.cps.all _ = true
  rw [Array.all_eq_true_iff_forall_mem]
  intro s hs
  have := h s (Array.mem_toList_iff.mpr hs)
  exact decide_eq_true (by omega)
end Kb
namespace Kb
open PySem PySem.Spec PyProof.Rows L2 TL
theorem Same.put {H H1 : Hp} {L : Addr} {o : HO} (s : Same H H1) (h : H L = none) : Same H (L2.upd H1 L o) := fun b u e => by
  rw [upd_ne (ne_of_none e h)]
  exact s b u e
theorem all_take1 {α : Type} {p : α → Bool} {l : List α} {i : Nat} {c : α} (h : l[i]? = some c) : (l.take (i + 1)).all p = ((l.take i).all p && p c) := by
  rw [List.take_succ, h, List.all_append]
  simp
theorem eq_nil_snoc {α : Type} {W : List α} {x : α} : (W ++ [x] = []) ↔ False := by simp
theorem lay_strs {W : List Str} (h : ∀ w ∈ W, ascii w) : SeqAt.shaped (.list (W.map PyData.str)) = true := shaped_strs fun w hw => lay_str (h w hw)
theorem eqv_nil (W : List Str) : PyData.eqv (.list (W.map PyData.str)) (.list (([] : List Str).map PyData.str)) = decide (W = []) := by rw [PyData.eqv, eqvAll_strs]
theorem tl_lsig2 : ("abcdefghijklmnopqrstuvwxyz0123456789-" : Str).cps.toList = lsig := tl_lsig
theorem tl_digs2 : ("0123456789" : Str).cps.toList = digs := tl_digs
theorem ascii_mem {x : Str} {i c : Nat} (h : ascii x) (hi : (tl x)[i]? = some c) : ascii (⟨#[c]⟩ : Str) := fun s hs => by
  have : s = c := by simpa [tl] using hs
  rw [this]
  exact h c (List.mem_of_getElem? hi)
end Kb
namespace Kb
open PySem PySem.Spec PyProof.Rows L2 TL
theorem numB_iff {l : List Nat} : numB l = true ↔ ∃ j, j < 256 ∧ l = numL j := by
  constructor
  · intro h
    unfold numB at h
    rw [Bool.and_eq_true, Bool.and_eq_true, Bool.or_eq_true, decide_eq_true_eq, decide_eq_true_eq, decide_eq_true_eq] at h
    obtain ⟨hd, hv, hz⟩ := h
    obtain ⟨had, hne⟩ := digB_iff.mp hd
    refine ⟨NumText.digitsVal l, by omega, ?_⟩
    obtain ⟨n, hn⟩ : ∃ n, l.length = n + 1 := ⟨l.length - 1, by have := List.length_pos_iff.mpr hne; omega⟩
    have e := NumText.toDigits_digitsVal n l hn had (by
      rcases hz with rfl | hz
      · left; simp at hn; omega
      · right
        obtain ⟨c, r, rfl⟩ := List.exists_cons_of_ne_nil hne
        refine ⟨c, r, rfl, ?_⟩
        have := had c (List.mem_cons_self ..)
        have hc : c ≠ 48 := fun q => hz (by rw [q]; rfl)
        omega)
    show l = (Nat.toDigits 10 (NumText.digitsVal l)).map Char.toNat
    rw [e, List.map_map]
    refine (List.map_id l).symm.trans (List.map_congr_left fun c hc => ?_)
    have h1 := had c hc
    have : ∀ c, c < 58 → c = (Char.ofNat c).toNat := by decide +kernel
    exact this c (by omega)
  · rintro ⟨j, hj, rfl⟩
    have : ∀ j, j < 256 → numB (numL j) = true := by decide +kernel
    exact this j hj
end Kb
namespace Kb
open PySem PySem.Spec PyProof.Rows L2 TL PySem.StrLaws Builtin.Str
/-! ### texts that tell hosts -/
def stripDot (l : List Nat) : List Nat := if l.getLast? = some 46 then l.dropLast else l
def tellsL (l : List Nat) : Bool := hostB (stripDot l)
def beginsB (l : List Nat) : Bool := hostB l || (hostB (l ++ [97]) || hostB (l ++ [46, 97]))
def goodL (l : List Nat) : Bool := tellsL l || beginsB l
def PlaceIs (m : List Nat) (k : Nat) : Prop := (k = m.length + 1 ∧ ∀ j, j < m.length → goodL (m.take (j + 1)) = true) ∨ (1 ≤ k ∧ k ≤ m.length ∧ goodL (m.take k) = false ∧ ∀ j, j + 1 < k → goodL (m.take (j + 1)) = true)
theorem PlaceIs.uniq {m : List Nat} {k k' : Nat} (a : PlaceIs m k) (b : PlaceIs m k') : k = k' := by
  rcases a with ⟨a1, a2⟩ | ⟨a0, a1, a2, a3⟩ <;> rcases b with ⟨b1, b2⟩ | ⟨b0, b1, b2, b3⟩
  · omega
  · have := a2 (k' - 1) (by omega)
    rw [show k' - 1 + 1 = k' by omega, b2] at this
    cases this
  · have := b2 (k - 1) (by omega)
    rw [show k - 1 + 1 = k by omega, a2] at this
    cases this
  · rcases Nat.lt_trichotomy k k' with q | q | q
    · have := b3 (k - 1) (by omega)
      rw [show k - 1 + 1 = k by omega, a2] at this
      cases this
    · exact q
    · have := a3 (k' - 1) (by omega)
      rw [show k' - 1 + 1 = k' by omega, b2] at this
      cases this
theorem host_dot {l : List Nat} (h : l.getLast? = some 46) : hostB l = false := by
  have hne : l ≠ [] := fun e => by rw [e] at h; cases h
  obtain ⟨r, d, er⟩ := snoc_of_ne hne
  rw [er, List.getLast?_concat] at h
  have hd : d = 46 := Option.some.inj h
  subst hd
  have e : sp1 46 l = sp1 46 r ++ [[]] := by rw [er, sp1_app]; rfl
  unfold hostB hostL
  have : (sp1 46 l).all labB = false := by
    rw [e, List.all_append]
    have : [([] : List Nat)].all labB = false := by decide +kernel
    rw [this, Bool.and_false]
  rw [this, Bool.false_and, Bool.and_false, Bool.and_false]
theorem strip_other {l : List Nat} (h : l.getLast? ≠ some 46) : stripDot l = l := if_neg h
theorem strip_dot {l : List Nat} : stripDot (l ++ [46]) = l := by
  unfold stripDot
  rw [if_pos (by rw [List.getLast?_concat]), List.dropLast_concat]
theorem tellsL_or (l : List Nat) : tellsL l = (hostB l || (decide (l.getLast? = some 46) && hostB l.dropLast)) := by
  unfold tellsL stripDot
  by_cases h : l.getLast? = some 46
  · rw [if_pos h, host_dot h, decide_eq_true h]; rfl
  · rw [if_neg h, decide_eq_false h, Bool.false_and, Bool.or_false]
theorem law_begins (l : List Nat) : (tellsL l || (tellsL (l ++ [97]) || (tellsL (l ++ [46, 97]) || tellsL (l ++ [46])))) = goodL l := by
  have e1 : tellsL (l ++ [97]) = hostB (l ++ [97]) := by unfold tellsL; rw [strip_other (by rw [List.getLast?_concat]; decide)]
  have e2 : tellsL (l ++ [46, 97]) = hostB (l ++ [46, 97]) := by
    unfold tellsL
    rw [strip_other]
    rw [show l ++ [46, 97] = (l ++ [46]) ++ [97] by simp, List.getLast?_concat]; decide
  have e3 : tellsL (l ++ [46]) = hostB l := by unfold tellsL; rw [strip_dot]
  rw [e1, e2, e3]
  unfold goodL beginsB
  cases tellsL l <;> cases hostB l <;> cases hostB (l ++ [97]) <;> cases hostB (l ++ [46, 97]) <;> rfl
theorem removesuffix_dot (x : Str) : tl (Txt.removesuffix x ("." : Str)) = stripDot (tl x) := by
  unfold Txt.removesuffix
  have d1 : ("." : Str).length = 1 := by decide +kernel
  by_cases h : (tl x).getLast? = some 46
  · have hne : tl x ≠ [] := fun e => by rw [e] at h; cases h
    obtain ⟨r, d, er⟩ := snoc_of_ne hne
    rw [er, List.getLast?_concat] at h
    have hd : d = 46 := Option.some.inj h
    subst hd
    have hl : x.length = r.length + 1 := by rw [len_tl, er]; simp
    have hs : subAt x ("." : Str) (x.length - ("." : Str).length) = true := by
      rw [subAt_eq, d1, hl]
      show (List.take 1 (List.drop (r.length + 1 - 1) (tl x)) == tl ("." : Str)) = true
      rw [er, tl_dot, Nat.add_sub_cancel, List.drop_left]
      rfl
    rw [if_pos (by rw [hs, d1, hl]; simp), er, strip_dot]
    show tl (if x.length - ("." : Str).length - 0 == x.length then x else strSub x 0 (x.length - ("." : Str).length)) = r
    rw [if_neg (by rw [d1, hl]; simp), tl_strSub, er, d1, hl]
    simp
  · rw [strip_other h, if_neg]
    · rfl
    · intro g
      rw [Bool.and_eq_true] at g
      obtain ⟨g1, g2⟩ := g
      have g1 : ("." : Str).length ≤ x.length := of_decide_eq_true g1
      rw [d1] at g1
      rw [subAt_eq, d1] at g2
      have g2 : (List.take 1 (List.drop (x.length - 1) (tl x)) == tl ("." : Str)) = true := g2
      rw [tl_dot] at g2
      have hne : tl x ≠ [] := fun e => by rw [len_tl, e] at g1; simp at g1
      obtain ⟨r, d, er⟩ := snoc_of_ne hne
      have hl : x.length = r.length + 1 := by rw [len_tl, er]; simp
      rw [hl, Nat.add_sub_cancel, er, List.drop_left] at g2
      have : d = 46 := by simpa using g2
      rw [er, List.getLast?_concat, this] at h
      exact h rfl
theorem strip_low {l : List Nat} (h : ∀ s ∈ l, s < 128) : (stripDot l).map lo1 = stripDot (l.map lo1) := by
  by_cases hne : l = []
  · rw [hne]; rfl
  obtain ⟨r, d, rfl⟩ := snoc_of_ne hne
  have hd := h d (List.mem_append_right _ (List.mem_singleton.mpr rfl))
  have key : ∀ c, c < 128 → (lo1 c = 46 ↔ c = 46) := by decide +kernel
  rw [List.map_append, List.map_cons, List.map_nil]
  by_cases q : d = 46
  · subst q
    rw [strip_dot, show lo1 46 = 46 by decide, strip_dot]
  · rw [strip_other (by rw [List.getLast?_concat]; simpa using q), strip_other (by rw [List.getLast?_concat]; simpa using fun e => q ((key d hd).mp e)), List.map_append]
    rfl
def lowL (x : Str) : List Nat := (tl x).map lo1
theorem lowT_tl {x : Str} (h : ascii x) : tl (Txt.lower (Txt.removesuffix x ("." : Str))) = stripDot (lowL x) := by
  have e := removesuffix_dot x
  have a : ascii (Txt.removesuffix x ("." : Str)) := fun s hs => by
    rw [e] at hs
    unfold stripDot at hs
    split at hs
    · exact h s ((List.dropLast_sublist _).subset hs)
    · exact h s hs
  rw [lower_tl a, e]
  exact strip_low h
end Kb
namespace Kb
open PySem PySem.Spec PyProof.Rows L2 TL PySem.StrLaws Builtin.Str
theorem cutS_m1 (z : Str) : tl (cutS z none (some (-1))) = (tl z).dropLast := by
  show ((tl z).drop (HT.sIx z.length 0 none)).take (HT.sIx z.length z.length (some (-1)) - HT.sIx z.length 0 none) = _
  rw [HT.sIx_none, List.drop_zero, Nat.sub_zero, List.dropLast_eq_take, len_tl]
  have e : HT.sIx (tl z).length (tl z).length (some (-1)) = (tl z).length - 1 := by
    show (if (-1 : Int) < 0 then ((-1 : Int) + ((tl z).length : Int)).toNat else min (-1 : Int).toNat (tl z).length) = _
    rw [if_pos (by decide)]
    omega
  rw [e]
theorem cutS_l1 (z : Str) : tl (cutS z (some (-1)) none) = lastN 1 (tl z) := by
  show ((tl z).drop (HT.sIx z.length 0 (some (-1)))).take (HT.sIx z.length z.length none - HT.sIx z.length 0 (some (-1))) = _
  rw [HT.sIx_none, len_tl]
  have e : HT.sIx (tl z).length 0 (some (-1)) = (tl z).length - 1 := by
    show (if (-1 : Int) < 0 then ((-1 : Int) + ((tl z).length : Int)).toNat else min (-1 : Int).toNat (tl z).length) = _
    rw [if_pos (by decide)]
    omega
  rw [e]
  exact List.take_of_length_le (by rw [List.length_drop] <;> omega)
theorem last_dot (z : Str) : decide (V.str (cutS z (some (-1)) none) = V.str ("." : Str)) = decide ((tl z).getLast? = some 46) := by
  rw [Bool.eq_iff_iff, decide_eq_true_eq, decide_eq_true_eq, V.str.injEq, str_eq_iff, cutS_l1, tl_dot]
  by_cases h : tl z = []
  · rw [h]; simp [lastN]
  · obtain ⟨r, d, er⟩ := snoc_of_ne h
    rw [er, List.getLast?_concat]
    unfold lastN
    rw [List.length_append, List.length_singleton, Nat.add_sub_cancel, List.drop_left]
    simp
end Kb
namespace Kb
open PySem PySem.Spec PyProof.Rows L2 TL
def Ans03 (H' : Hp) (m : List Nat) (v : V) : Prop := (tellsL m = true ∧ ∃ (p : Addr) (y : Str), v = .ref p ∧ H' p = some (.lst [.str y]) ∧ tl y = stripDot m) ∨ (tellsL m = false ∧ ∃ k : Nat, v = .int (k : Nat) ∧ PlaceIs m k)
theorem strip_len {l : List Nat} : (stripDot l).length ≤ l.length := by
  unfold stripDot
  split
  · rw [List.length_dropLast]; omega
  · exact Nat.le_refl _
theorem rs_len (x : Str) : (Txt.removesuffix x ("." : Str)).length ≤ x.length := by
  rw [len_tl, removesuffix_dot, len_tl]; exact strip_len
end Kb
namespace Kb
open PySem PySem.Spec PyProof.Rows L2 TL
/-- the first place at which a text begins no host -/
def PlaceB (m : List Nat) (k : Nat) : Prop := (k = m.length + 1 ∧ ∀ j, j < m.length → beginsB (m.take (j + 1)) = true) ∨ (1 ≤ k ∧ k ≤ m.length ∧ beginsB (m.take k) = false ∧ ∀ j, j + 1 < k → beginsB (m.take (j + 1)) = true)
theorem PlaceB.uniq {m : List Nat} {k k' : Nat} (a : PlaceB m k) (b : PlaceB m k') : k = k' := by
  rcases a with ⟨a1, a2⟩ | ⟨a0, a1, a2, a3⟩ <;> rcases b with ⟨b1, b2⟩ | ⟨b0, b1, b2, b3⟩
  · omega
  · have := a2 (k' - 1) (by omega)
    rw [show k' - 1 + 1 = k' by omega, b2] at this
    cases this
  · have := b2 (k - 1) (by omega)
    rw [show k - 1 + 1 = k by omega, a2] at this
    cases this
  · rcases Nat.lt_trichotomy k k' with q | q | q
    · have := b3 (k - 1) (by omega)
      rw [show k - 1 + 1 = k by omega, a2] at this
      cases this
    · exact q
    · have := a3 (k' - 1) (by omega)
      rw [show k' - 1 + 1 = k' by omega, b2] at this
      cases this
end Kb
namespace Kb
open PySem PySem.Spec PyProof.Rows L2
theorem ty_same {K : PySem.W.Frag} {H H' : Hp} {v : V} {t : Value} (s : Same H H') (h : TyX K H v t) : TyX K H' v t := by
  cases h with
  | base h =>
    refine .base ?_
    cases h with
    | non => exact .non
    | bl x => exact .bl x
    | int i => exact .int i
    | str x => exact .str x
    | flt x => exact .flt x
    | lst e => exact .lst (s _ _ e)
    | frz e => exact .frz (s _ _ e)
    | tup e => exact .tup (s _ _ e)
    | dK e => exact .dK (s _ _ e)
    | dT e => exact .dT (s _ _ e)
    | ins e cl ha hn htk hm => exact .ins (s _ _ e) cl ha hn htk hm
  | byt b => exact .byt b
  | set e => exact .set (s _ _ e)
  | kList e c => exact .kList e c
  | kTuple e c => exact .kTuple e c
  | kDict e c => exact .kDict e c
  | fTuple e => exact .fTuple (s _ _ e)
  | fDict e => exact .fDict (s _ _ e)
end Kb

namespace Kb
open PySem PySem.Spec PyProof.Rows L2 TL
/-! ### texts of addresses -/
/-- the first beginning that is not good -/
def Bad1 (g : List Nat → Bool) (m : List Nat) (k : Nat) : Prop := (k = m.length + 1 ∧ ∀ j, j < m.length → g (m.take (j + 1)) = true) ∨ (1 ≤ k ∧ k ≤ m.length ∧ g (m.take k) = false ∧ ∀ j, j + 1 < k → g (m.take (j + 1)) = true)
theorem Bad1.uniq {g : List Nat → Bool} {m : List Nat} {k k' : Nat} (a : Bad1 g m k) (b : Bad1 g m k') : k = k' := by
  rcases a with ⟨a1, a2⟩ | ⟨a0, a1, a2, a3⟩ <;> rcases b with ⟨b1, b2⟩ | ⟨b0, b1, b2, b3⟩
  · omega
  · have := a2 (k' - 1) (by omega)
    rw [show k' - 1 + 1 = k' by omega, b2] at this
    cases this
  · have := b2 (k - 1) (by omega)
    rw [show k - 1 + 1 = k by omega, a2] at this
    cases this
  · rcases Nat.lt_trichotomy k k' with q | q | q
    · have := b3 (k - 1) (by omega)
      rw [show k - 1 + 1 = k by omega, a2] at this
      cases this
    · exact q
    · have := a3 (k' - 1) (by omega)
      rw [show k' - 1 + 1 = k' by omega, b2] at this
      cases this
theorem Bad1.le {g : List Nat → Bool} {m : List Nat} {k : Nat} (a : Bad1 g m k) : 1 ≤ k ∧ k ≤ m.length + 1 := by
  rcases a with ⟨a1, a2⟩ | ⟨a0, a1, a2, a3⟩ <;> omega
def hS : List Nat := [104, 116, 116, 112, 58, 47, 47]
def sS : List Nat := [104, 116, 116, 112, 115, 58, 47, 47]
def schB (m : List Nat) : Bool := m.isPrefixOf hS || m.isPrefixOf sS
def schN (m : List Nat) : Option (List Nat × Nat) := if hS.isPrefixOf m = true then some ([104, 116, 116, 112], 7) else if sS.isPrefixOf m = true then some ([104, 116, 116, 112, 115], 8) else none
def stop3 (c : Nat) : Bool := decide (c = 47) || (decide (c = 63) || decide (c = 35))
def stop2 (c : Nat) : Bool := decide (c = 63) || decide (c = 35)
def hEnd (l : List Nat) : Nat := (l.takeWhile fun c => !stop3 c).length
inductive PR where
  | ok (n : Nat)
  | bad (n : Nat)
def pathR (r : List Nat) : PR := if 200 < (r.takeWhile psign).length then .bad 200 else match r[(r.takeWhile psign).length]? with
  | none => .ok (r.takeWhile psign).length
  | some c => if stop2 c = true then .ok (r.takeWhile psign).length else .bad (r.takeWhile psign).length
theorem tw_at {p : Nat → Bool} : ∀ {l : List Nat} {i : Nat}, (l.take i).all p = true → i ≤ l.length → (∀ c, l[i]? = some c → p c = false) → (l.takeWhile p).length = i
  | [], i, _, h, _ => by have : i = 0 := by simpa using h
                         subst this; rfl
  | x :: l, 0, _, _, h => by rw [List.takeWhile_cons_of_neg (by rw [h x rfl]; exact Bool.false_ne_true)]; rfl
  | x :: l, i + 1, ha, hl, h => by
    rw [List.take_succ_cons, List.all_cons, Bool.and_eq_true] at ha
    rw [List.takeWhile_cons_of_pos ha.1, List.length_cons, tw_at ha.2 (by simpa using hl) fun c hc => h c (by simpa using hc)]
theorem tw_ge {p : Nat → Bool} : ∀ {l : List Nat} {i : Nat}, (l.take i).all p = true → i ≤ l.length → i ≤ (l.takeWhile p).length
  | _, 0, _, _ => Nat.zero_le _
  | [], i + 1, _, h => by simp at h
  | x :: l, i + 1, ha, hl => by
    rw [List.take_succ_cons, List.all_cons, Bool.and_eq_true] at ha
    rw [List.takeWhile_cons_of_pos ha.1, List.length_cons]
    have := tw_ge ha.2 (by simpa using hl)
    omega
theorem hEnd_at {l : List Nat} {i c : Nat} (h : (l.take i).all (fun c => !stop3 c) = true) (hc : l[i]? = some c) (hs : stop3 c = true) : hEnd l = i :=
  tw_at h (Nat.le_of_lt (List.getElem?_eq_some_iff.mp hc).1) fun d hd => by rw [hc] at hd; cases hd; rw [hs]; rfl
theorem hEnd_all {l : List Nat} (h : l.all (fun c => !stop3 c) = true) : hEnd l = l.length :=
  tw_at (by rw [List.take_length]; exact h) (Nat.le_refl _) fun c hc => by rw [List.getElem?_eq_none (Nat.le_refl _)] at hc; cases hc
theorem psign_stop {c : Nat} (h : stop2 c = true) : psign c = false := by
  unfold stop2 at h
  rw [Bool.or_eq_true, decide_eq_true_eq, decide_eq_true_eq] at h
  rcases h with rfl | rfl <;> decide
theorem pathR_stop {r : List Nat} {i c : Nat} (h : (r.take i).all psign = true) (hi : i ≤ 200) (hc : r[i]? = some c) (hs : stop2 c = true) : pathR r = .ok i := by
  have e := tw_at h (Nat.le_of_lt (List.getElem?_eq_some_iff.mp hc).1) fun d hd => by rw [hc] at hd; cases hd; exact psign_stop hs
  unfold pathR
  rw [e, if_neg (by omega), hc]
  exact if_pos hs
theorem pathR_sign {r : List Nat} {i c : Nat} (h : (r.take i).all psign = true) (hi : i ≤ 200) (hc : r[i]? = some c) (hs : stop2 c = false) (hp : psign c = false) : pathR r = .bad i := by
  have e := tw_at h (Nat.le_of_lt (List.getElem?_eq_some_iff.mp hc).1) fun d hd => by rw [hc] at hd; cases hd; exact hp
  unfold pathR
  rw [e, if_neg (by omega), hc]
  exact if_neg (by rw [hs]; exact Bool.false_ne_true)
theorem pathR_long {r : List Nat} {c : Nat} (h : (r.take 200).all psign = true) (hc : r[200]? = some c) (hp : psign c = true) : pathR r = .bad 200 := by
  have := tw_ge (p := psign) (l := r) (i := 201) (by rw [all_at hc, h, hp]; rfl) (List.getElem?_eq_some_iff.mp hc).1
  unfold pathR
  rw [if_pos (by omega)]
theorem pathR_end {r : List Nat} (h : r.all psign = true) (hl : r.length ≤ 200) : pathR r = .ok r.length := by
  have e := tw_at (p := psign) (l := r) (i := r.length) (by rw [List.take_length]; exact h) (Nat.le_refl _) fun c hc => by rw [List.getElem?_eq_none (Nat.le_refl _)] at hc; cases hc
  unfold pathR
  rw [e, if_neg (by omega), List.getElem?_eq_none (Nat.le_refl _)]
def lows (l : List Nat) : List Nat := l.map lo1
def AddrOk (L sc ho pa : List Nat) : Prop := ∃ n k, schN (lows L) = some (sc, n) ∧ tellsL (lows ((L.drop n).take (hEnd (L.drop n)))) = true ∧ ho = stripDot (lows ((L.drop n).take (hEnd (L.drop n)))) ∧
  pathR ((L.drop n).drop (hEnd (L.drop n))) = .ok k ∧ pa = if k = 0 then [47] else ((L.drop n).drop (hEnd (L.drop n))).take k
def AddrBad (L : List Nat) (m : Nat) : Prop := (schN (lows L) = none ∧ Bad1 schB (lows L) m) ∨ ∃ sc n, schN (lows L) = some (sc, n) ∧
  ((tellsL (lows ((L.drop n).take (hEnd (L.drop n)))) = false ∧ ∃ j, Bad1 goodL (lows ((L.drop n).take (hEnd (L.drop n)))) j ∧ m = n + j) ∨
   (tellsL (lows ((L.drop n).take (hEnd (L.drop n)))) = true ∧ ∃ j, pathR ((L.drop n).drop (hEnd (L.drop n))) = .bad j ∧ m = n + hEnd (L.drop n) + j + 1))
theorem AddrOk.uniq {L a b c a' b' c' : List Nat} (h : AddrOk L a b c) (h' : AddrOk L a' b' c') : a = a' ∧ b = b' ∧ c = c' := by
  obtain ⟨n, k, h1, h2, h3, h4, h5⟩ := h
  obtain ⟨n', k', g1, g2, g3, g4, g5⟩ := h'
  rw [h1] at g1
  cases g1
  rw [h4] at g4
  cases g4
  exact ⟨rfl, h3.trans g3.symm, h5.trans g5.symm⟩
theorem AddrBad.uniq {L : List Nat} {m m' : Nat} (h : AddrBad L m) (h' : AddrBad L m') : m = m' := by
  rcases h with ⟨h1, h2⟩ | ⟨sc, n, h1, h2⟩ <;> rcases h' with ⟨g1, g2⟩ | ⟨sc', n', g1, g2⟩
  · exact h2.uniq g2
  · rw [h1] at g1; cases g1
  · rw [h1] at g1; cases g1
  · rw [h1] at g1
    cases g1
    rcases h2 with ⟨h2, j, h3, rfl⟩ | ⟨h2, j, h3, rfl⟩ <;> rcases g2 with ⟨g2, j', g3, rfl⟩ | ⟨g2, j', g3, rfl⟩
    · rw [h3.uniq g3]
    · rw [h2] at g2; cases g2
    · rw [h2] at g2; cases g2
    · rw [h3] at g3; cases g3; rfl
theorem AddrOk.bad {L a b c : List Nat} {m : Nat} (h : AddrOk L a b c) (g : AddrBad L m) : False := by
  obtain ⟨n, k, h1, h2, h3, h4, h5⟩ := h
  rcases g with ⟨g1, g2⟩ | ⟨sc', n', g1, g2⟩
  · rw [h1] at g1; cases g1
  · rw [h1] at g1
    cases g1
    rcases g2 with ⟨g2, j, g3, rfl⟩ | ⟨g2, j, g3, rfl⟩
    · rw [h2] at g2; cases g2
    · rw [h4] at g3; cases g3
theorem schN_sc {m sc : List Nat} {n : Nat} (h : schN m = some (sc, n)) : (sc = [104, 116, 116, 112] ∧ n = 7 ∨ sc = [104, 116, 116, 112, 115] ∧ n = 8) ∧ n ≤ m.length ∧ n = sc.length + 3 ∧ (sc ++ [58, 47, 47]) <+: m := by
  unfold schN at h
  split at h
  · rename_i g
    cases h
    have p := List.isPrefixOf_iff_prefix.mp g
    exact ⟨.inl ⟨rfl, rfl⟩, p.length_le, rfl, p⟩
  · split at h
    · rename_i g
      cases h
      have p := List.isPrefixOf_iff_prefix.mp g
      exact ⟨.inr ⟨rfl, rfl⟩, p.length_le, rfl, p⟩
    · cases h
theorem AddrBad.le {L : List Nat} {m : Nat} (h : AddrBad L m) : 1 ≤ m ∧ m ≤ L.length + 1 := by
  have e : (lows L).length = L.length := by unfold lows; rw [List.length_map]
  have hE : ∀ l, hEnd l ≤ l.length := fun l => (List.takeWhile_prefix _).length_le
  rcases h with ⟨h1, h2⟩ | ⟨sc, n, h1, h2⟩
  · have := h2.le; omega
  · have hn := (schN_sc h1).2.1
    have h3 := hE (L.drop n)
    rw [List.length_drop] at h3
    rcases h2 with ⟨h2, j, h4, rfl⟩ | ⟨h2, j, h4, rfl⟩
    · have := h4.le
      unfold lows at this
      rw [List.length_map, List.length_take, List.length_drop] at this
      omega
    · have hj : j ≤ ((L.drop n).drop (hEnd (L.drop n))).length := by
        have t := (List.takeWhile_prefix psign (l := (L.drop n).drop (hEnd (L.drop n)))).length_le
        unfold pathR at h4
        split at h4
        · cases h4; omega
        · split at h4
          · cases h4
          · split at h4
            · cases h4
            · cases h4; exact t
      rw [List.length_drop, List.length_drop] at hj
      omega
end Kb
namespace Kb
open PySem PySem.Spec PyProof.Rows L2 TL
/-! ### beginnings of hosts -/
theorem sp1_glue (c : Nat) : ∀ (p s : List Nat) (C : List (List Nat)) (q h : List Nat) (T : List (List Nat)), sp1 c p = C ++ [q] → sp1 c s = h :: T → sp1 c (p ++ s) = C ++ (q ++ h) :: T
  | [], s, C, q, h, T, e1, e2 => by
    have e1 : [[]] = C ++ [q] := e1
    cases C with
    | nil =>
      simp only [List.nil_append, List.cons.injEq, and_true] at e1
      subst e1
      exact e2
    | cons a C =>
      simp at e1
  | x :: p, s, C, q, h, T, e1, e2 => by
    by_cases hx : x = c
    · subst hx
      rw [sp1_hit] at e1
      rw [List.cons_append, sp1_hit]
      cases C with
      | nil =>
        simp only [List.nil_append, List.cons.injEq] at e1
        exact absurd e1.2 (sp1_ne _ _)
      | cons a C =>
        rw [List.cons_append, List.cons.injEq] at e1
        rw [sp1_glue x p s C q h T e1.2 e2, ← e1.1]; rfl
    · obtain ⟨a, r, e⟩ := sp1_cons c p
      rw [sp1_miss hx e] at e1
      rw [List.cons_append]
      cases C with
      | nil =>
        simp only [List.nil_append, List.cons.injEq] at e1
        obtain ⟨rfl, rfl⟩ := e1
        rw [sp1_miss hx (sp1_glue c p s [] a h T e e2)]; rfl
      | cons b C =>
        rw [List.cons_append, List.cons.injEq] at e1
        obtain ⟨rfl, rfl⟩ := e1
        rw [sp1_miss hx (sp1_glue c p s (a :: C) q h T e e2)]; rfl
theorem hostB_of {l : List Nat} {L : List (List Nat)} (e : sp1 46 l = L) (h1 : l.length ≤ 100) (h2 : L.length ≤ 10) (h3 : ∀ p ∈ L, labB p = true) (h4 : digB (lastL L) = false) : hostB l = true := by
  unfold hostB hostL
  rw [e, h4, decide_eq_true h1, decide_eq_true h2, List.all_eq_true.mpr h3]; rfl
theorem labB_open {q h : List Nat} (hl : labB (q ++ h) = true) (hq : q ≠ []) (h19 : q.length ≤ 19) : labB (q ++ [97]) = true ∧ digB (q ++ [97]) = false := by
  unfold labB onlyB at hl
  simp only [Bool.and_eq_true, List.all_eq_true, decide_eq_true_eq] at hl
  obtain ⟨g1, ⟨g2, g3⟩, g4, g5⟩ := hl
  obtain ⟨a, r, rfl⟩ := List.exists_cons_of_ne_nil hq
  refine ⟨?_, ?_⟩
  · unfold labB onlyB
    simp only [Bool.and_eq_true, List.all_eq_true, decide_eq_true_eq]
    refine ⟨by simp at h19 ⊢; omega, ⟨fun c hc => ?_, by simp⟩, by simpa using g4, by rw [List.getLast?_concat]; decide⟩
    rcases List.mem_append.mp hc with m | m
    · exact g2 c (List.mem_append_left _ m)
    · rw [List.mem_singleton.mp m]; decide
  · unfold digB onlyB
    rw [List.all_append, show [97].all (fun c => decide (c ∈ digs)) = false by decide, Bool.and_false, Bool.false_and]
theorem labB_a : labB [97] = true ∧ digB [97] = false := by decide
theorem host_prefix {H : List Nat} (h : hostB H = true) {i : Nat} (hi : 1 ≤ i) (hl : i ≤ H.length) : goodL (H.take i) = true := by
  unfold goodL
  rcases Nat.lt_or_ge i H.length with hlt | hge
  · have hs : H.drop i ≠ [] := fun e => by rw [List.drop_eq_nil_iff] at e; omega
    obtain ⟨C, q, e1⟩ : ∃ C q, sp1 46 (H.take i) = C ++ [q] := ⟨_, _, (List.dropLast_concat_getLast (sp1_ne 46 (H.take i))).symm⟩
    obtain ⟨g, T, e2⟩ := sp1_cons 46 (H.drop i)
    have eH := sp1_glue 46 _ _ C q g T e1 e2
    rw [List.take_append_drop] at eH
    unfold hostB hostL at h
    rw [eH] at h
    simp only [Bool.and_eq_true, List.all_eq_true, decide_eq_true_eq] at h
    obtain ⟨h1, h2, h3, _⟩ := h
    rw [List.length_append, List.length_cons] at h2
    have hqg := h3 (q ++ g) (List.mem_append_right _ (List.mem_cons_self ..))
    have hC : ∀ p ∈ C, labB p = true := fun p hp => h3 p (List.mem_append_left _ hp)
    have lt : (H.take i).length = i := by rw [List.length_take]; omega
    suffices beginsB (H.take i) = true by rw [this, Bool.or_true]
    unfold beginsB
    by_cases hq : q = []
    · have : hostB (H.take i ++ [97]) = true := by
        refine hostB_of (L := C ++ [[97]]) (by rw [sp1_glue 46 _ [97] C q [97] [] e1 (by decide), hq]; rfl) (by rw [List.length_append, lt]; simp; omega) (by rw [List.length_append]; simp; omega) (fun p hp => ?_) (by rw [lastL_snoc]; exact labB_a.2)
        rcases List.mem_append.mp hp with m | m
        · exact hC p m
        · rw [List.mem_singleton.mp m]; exact labB_a.1
      rw [this]; simp
    · rcases Nat.lt_or_ge q.length 20 with h20 | h20
      · obtain ⟨o1, o2⟩ := labB_open hqg hq (by omega)
        have : hostB (H.take i ++ [97]) = true := by
          refine hostB_of (L := C ++ [q ++ [97]]) (sp1_glue 46 _ [97] C q [97] [] e1 (by decide)) (by rw [List.length_append, lt]; simp; omega) (by rw [List.length_append]; simp; omega) (fun p hp => ?_) (by rw [lastL_snoc]; exact o2)
          rcases List.mem_append.mp hp with m | m
          · exact hC p m
          · rw [List.mem_singleton.mp m]; exact o1
        rw [this]; simp
      · have hlab := lab_len hqg
        rw [List.length_append] at hlab
        have hg : g = [] := List.eq_nil_of_length_eq_zero (by omega)
        subst hg
        rw [List.append_nil] at hqg
        obtain ⟨x, s, es⟩ := List.exists_cons_of_ne_nil hs
        have hx : x = 46 := by
          by_cases hx : x = 46
          · exact hx
          · obtain ⟨a, r, e⟩ := sp1_cons 46 s
            rw [es, sp1_miss hx e] at e2
            simp at e2
        subst hx
        rw [es, sp1_hit, List.cons.injEq] at e2
        have hT : T ≠ [] := by rw [← e2.2]; exact sp1_ne _ _
        obtain ⟨t, T2, rfl⟩ := List.exists_cons_of_ne_nil hT
        have ht := lab_ne (h3 t (List.mem_append_right _ (List.mem_cons_of_mem _ (List.mem_cons_self ..))))
        have hsn : s ≠ [] := fun e => by
          have e3 := e2.2
          rw [e] at e3
          simp [sp1] at e3
          exact ht e3.1
        have hlen : 2 ≤ (H.drop i).length := by
          rw [es, List.length_cons]
          have := List.length_pos_iff.mpr hsn
          omega
        rw [List.length_drop] at hlen
        rw [List.length_cons] at h2
        have : hostB (H.take i ++ [46, 97]) = true := by
          refine hostB_of (L := (C ++ [q]) ++ [[97]]) (by rw [sp1_glue 46 _ [46, 97] C q [] [[97]] e1 (by decide), List.append_nil, List.append_assoc]; rfl) (by rw [List.length_append, lt]; simp; omega) (by rw [List.length_append, List.length_append]; simp; omega) (fun p hp => ?_) (by rw [lastL_snoc]; exact labB_a.2)
          rcases List.mem_append.mp hp with m | m
          · rcases List.mem_append.mp m with m | m
            · exact hC p m
            · rw [List.mem_singleton.mp m]; exact hqg
          · rw [List.mem_singleton.mp m]; exact labB_a.1
        rw [this]; simp
  · rw [List.take_of_length_le (by omega)]
    unfold beginsB
    rw [h]; simp
/-- the signs of a host -/
theorem host_sign {l : List Nat} (h : hostB l = true) : ∀ s ∈ l, s = 46 ∨ s ∈ lsig := fun s hs => by
  have hl : ∀ p ∈ sp1 46 l, labB p = true := by
    unfold hostB hostL at h
    simp only [Bool.and_eq_true, List.all_eq_true] at h
    exact h.2.2.1
  by_cases e : s = 46
  · exact .inl e
  · rw [← joinL_sp1 46 l] at hs
    have : ∀ L : List (List Nat), (∀ p ∈ L, labB p = true) → s ∈ joinL [46] L → s ∈ lsig := by
      intro L
      induction L with
      | nil => intro _ hs; cases hs
      | cons p L ih =>
        intro hL hs
        cases L with
        | nil => exact lab_sign (hL p (List.mem_cons_self ..)) hs
        | cons q r =>
          have hs : s ∈ p ++ (46 :: joinL [46] (q :: r)) := hs
          rcases List.mem_append.mp hs with a | a
          · exact lab_sign (hL p (List.mem_cons_self ..)) a
          · rcases List.mem_cons.mp a with a | a
            · exact absurd a e
            · exact ih (fun l hl => hL l (List.mem_cons_of_mem _ hl)) a
    exact .inr (this _ hl hs)
theorem hsign_ok {s : Nat} (h : s = 46 ∨ s ∈ lsig) : stop3 s = false ∧ lo1 s = s ∧ s < 128 := by
  rcases h with rfl | h
  · decide
  · simp only [lsig, List.mem_cons, List.not_mem_nil, or_false] at h
    have : ∀ s, s < 128 → (s = 45 ∨ (48 ≤ s ∧ s ≤ 57) ∨ (97 ≤ s ∧ s ≤ 122)) → stop3 s = false ∧ lo1 s = s ∧ s < 128 := by decide +kernel
    exact this s (by omega) (by omega)
theorem lows_host {l : List Nat} (h : ∀ s ∈ l, s = 46 ∨ s ∈ lsig) : lows l = l := by
  unfold lows
  exact (List.map_congr_left fun s hs => (hsign_ok (h s hs)).2.1).trans (List.map_id l)
theorem host_tells {l : List Nat} (h : hostB l = true) : tellsL l = true ∧ stripDot l = l ∧ tellsL (l ++ [46]) = true ∧ stripDot (l ++ [46]) = l := by
  have e : l.getLast? ≠ some 46 := fun e => by rw [host_dot e] at h; cases h
  have e2 := strip_other e
  refine ⟨by unfold tellsL; rw [e2]; exact h, e2, ?_, strip_dot⟩
  unfold tellsL
  rw [strip_dot]; exact h
end Kb
namespace Kb
open PySem PySem.Spec PyProof.Rows L2 TL
/-! ### texts that are put together -/
def Sch (sc : List Nat) (n : Nat) : Prop := (sc = [104, 116, 116, 112] ∧ n = 7) ∨ (sc = [104, 116, 116, 112, 115] ∧ n = 8)
theorem Sch.at {sc : List Nat} {n : Nat} (h : Sch sc n) (X : List Nat) : schN (sc ++ ([58, 47, 47] ++ X)) = some (sc, n) := by
  rcases h with ⟨rfl, rfl⟩ | ⟨rfl, rfl⟩ <;> rfl
theorem addr_built {sc A W R : List Nat} {n k : Nat} (hs : Sch sc n) (hA : lows A = sc ++ [58, 47, 47]) (hW : ∀ s ∈ W, stop3 s = false) (ht : tellsL (lows W) = true)
    (hR : ∀ c r, R = c :: r → stop3 c = true) (hk : pathR R = .ok k) : AddrOk (A ++ (W ++ R)) sc (stripDot (lows W)) (if k = 0 then [47] else R.take k) := by
  have hn : A.length = n := by
    have := congrArg List.length hA
    unfold lows at this
    rw [List.length_map] at this
    rw [this]
    rcases hs with ⟨rfl, rfl⟩ | ⟨rfl, rfl⟩ <;> rfl
  have hd : (A ++ (W ++ R)).drop n = W ++ R := by rw [← hn, List.drop_left]
  have hall : W.all (fun c => !stop3 c) = true := List.all_eq_true.mpr fun s h => by rw [hW s h]; rfl
  have he : hEnd (W ++ R) = W.length := by
    cases R with
    | nil => rw [List.append_nil]; exact hEnd_all hall
    | cons c r => exact hEnd_at (i := W.length) (by rw [List.take_left]; exact hall) (by rw [List.getElem?_append_right (Nat.le_refl _), Nat.sub_self]; rfl) (hR c r rfl)
  refine ⟨n, k, ?_, ?_, ?_, ?_, ?_⟩
  · unfold lows at *
    rw [List.map_append, hA, List.append_assoc]
    exact hs.at _
  · rw [hd, he, List.take_left]; exact ht
  · rw [hd, he, List.take_left]
  · rw [hd, he, List.drop_left]; exact hk
  · rw [hd, he, List.drop_left]
theorem path_tail {P t : List Nat} (h : P.all psign = true) (hl : P.length ≤ 200) (ht : ∀ c r, t = c :: r → stop2 c = true) : pathR (P ++ t) = .ok P.length := by
  cases t with
  | nil => rw [List.append_nil]; exact pathR_end h hl
  | cons c r => exact pathR_stop (i := P.length) (by rw [List.take_left]; exact h) hl (by rw [List.getElem?_append_right (Nat.le_refl _), Nat.sub_self]; rfl) (ht c r rfl)
theorem stop23 {c : Nat} (h : stop2 c = true) : stop3 c = true := by
  unfold stop3
  unfold stop2 at h
  rw [h, Bool.or_true]
theorem pathB_parts {P : List Nat} (h : pathB P = true) : P.all psign = true ∧ P.length ≤ 200 ∧ ∃ r, P = 47 :: r := by
  unfold pathB at h
  rw [Bool.and_eq_true, Bool.and_eq_true, decide_eq_true_eq, List.isPrefixOf_iff_prefix] at h
  obtain ⟨r, e⟩ := h.2.1
  exact ⟨h.2.2, h.1, r, e.symm⟩
/-- a beginning of an address's text -/
theorem addr_prefix {sc W P : List Nat} {n z : Nat} (hs : Sch sc n) (hW : hostB W = true) (hP : pathB P = true) (hz : z < (sc ++ ([58, 47, 47] ++ (W ++ P))).length) :
    AddrBad ((sc ++ ([58, 47, 47] ++ (W ++ P))).take z) (z + 1) ∨ ∃ ho pa, AddrOk ((sc ++ ([58, 47, 47] ++ (W ++ P))).take z) sc ho pa ∧ hostB ho = true ∧ pathB pa = true ∧
      ((sc ++ ([58, 47, 47] ++ (W ++ P))).take z = sc ++ ([58, 47, 47] ++ (ho ++ pa)) ∨ (sc ++ ([58, 47, 47] ++ (W ++ P))).take z = (sc ++ ([58, 47, 47] ++ (ho ++ pa))).dropLast ∨ ((sc ++ ([58, 47, 47] ++ (W ++ P))).take z).getLast? = some 46) := by
  obtain ⟨p1, p2, r, rfl⟩ := pathB_parts hP
  have hsg := host_sign hW
  have hn : (sc ++ [58, 47, 47]).length = n := by rcases hs with ⟨rfl, rfl⟩ | ⟨rfl, rfl⟩ <;> rfl
  have eA : sc ++ ([58, 47, 47] ++ (W ++ 47 :: r)) = (sc ++ [58, 47, 47]) ++ (W ++ 47 :: r) := by rw [List.append_assoc]
  have lA : lows (sc ++ [58, 47, 47]) = sc ++ [58, 47, 47] := by rcases hs with ⟨rfl, rfl⟩ | ⟨rfl, rfl⟩ <;> decide
  rcases Nat.lt_or_ge z n with h1 | h1
  · left
    have e : (sc ++ ([58, 47, 47] ++ (W ++ 47 :: r))).take z = (sc ++ [58, 47, 47]).take z := by rw [eA, List.take_append_of_le_length (by omega)]
    rw [e]
    left
    have k1 : ∀ z, z < 7 → schN (lows (([104, 116, 116, 112] ++ [58, 47, 47]).take z)) = none ∧ ∀ j, j < z → schB ((lows (([104, 116, 116, 112] ++ [58, 47, 47]).take z)).take (j + 1)) = true := by decide +kernel
    have k2 : ∀ z, z < 8 → schN (lows (([104, 116, 116, 112, 115] ++ [58, 47, 47]).take z)) = none ∧ ∀ j, j < z → schB ((lows (([104, 116, 116, 112, 115] ++ [58, 47, 47]).take z)).take (j + 1)) = true := by decide +kernel
    have lz : (lows ((sc ++ [58, 47, 47]).take z)).length = z := by
      unfold lows
      rw [List.length_map, List.length_take]; omega
    rcases hs with ⟨rfl, rfl⟩ | ⟨rfl, rfl⟩
    · exact ⟨(k1 z h1).1, .inl ⟨by rw [lz], fun j hj => (k1 z h1).2 j (by rw [lz] at hj; exact hj)⟩⟩
    · exact ⟨(k2 z h1).1, .inl ⟨by rw [lz], fun j hj => (k2 z h1).2 j (by rw [lz] at hj; exact hj)⟩⟩
  · have e : (sc ++ ([58, 47, 47] ++ (W ++ 47 :: r))).take z = (sc ++ [58, 47, 47]) ++ (W ++ 47 :: r).take (z - n) := by
      rw [eA, List.take_append, List.take_of_length_le (by omega), hn]
    have hz2 : z - n < (W ++ 47 :: r).length := by
      rw [eA, List.length_append] at hz; omega
    rw [e]
    rw [List.length_append] at hz2
    rcases Nat.lt_or_ge (z - n) (W.length + 1) with h2 | h2
    · -- within the host
      have e2 : (W ++ 47 :: r).take (z - n) = W.take (z - n) := List.take_append_of_le_length (by omega)
      rw [e2]
      have hsg2 : ∀ s ∈ W.take (z - n), s = 46 ∨ s ∈ lsig := fun s h => hsg s (List.mem_of_mem_take h)
      have lw : (W.take (z - n)).length = z - n := by rw [List.length_take]; omega
      generalize hQ : W.take (z - n) = U at hsg2 lw
      have lU := lows_host hsg2
      cases ht : tellsL U with
      | true =>
        right
        have b := addr_built (R := []) (k := 0) hs lA (fun s h => (hsign_ok (hsg2 s h)).1) (by rw [lU]; exact ht) (fun c r e => by cases e) rfl
        rw [List.append_nil, lU, if_pos rfl] at b
        refine ⟨_, _, b, ht, by decide, .inr ?_⟩
        by_cases hd : U.getLast? = some 46
        · right
          have hne : U ≠ [] := fun e => by rw [e] at hd; cases hd
          obtain ⟨u, d, rfl⟩ := snoc_of_ne hne
          rw [List.getLast?_concat] at hd
          rw [← List.append_assoc, List.getLast?_concat]
          exact hd
        · left
          rw [strip_other hd, show sc ++ ([58, 47, 47] ++ (U ++ [47])) = ((sc ++ [58, 47, 47]) ++ U) ++ [47] by simp, List.dropLast_concat]
      | false =>
        left; right
        have hn2 : ((sc ++ [58, 47, 47]) ++ U).drop n = U := by rw [← hn, List.drop_left]
        have he : hEnd U = U.length := hEnd_all (List.all_eq_true.mpr fun s h => by rw [(hsign_ok (hsg2 s h)).1]; rfl)
        refine ⟨sc, n, ?_, .inl ?_⟩
        · unfold lows at lA ⊢
          rw [List.map_append, lA, List.append_assoc]
          exact hs.at _
        · rw [hn2, he, List.take_length, lU]
          refine ⟨ht, U.length + 1, .inl ⟨rfl, fun j hj => ?_⟩, by omega⟩
          rw [← hQ, List.take_take, Nat.min_eq_left (by omega)]
          exact host_prefix hW (by omega) (by omega)
    · -- within the path
      obtain ⟨i, hi⟩ : ∃ i, z - n = W.length + (i + 1) := ⟨z - n - W.length - 1, by omega⟩
      have e2 : (W ++ 47 :: r).take (z - n) = W ++ 47 :: r.take i := by
        rw [hi, List.take_length_add_append, List.take_succ_cons]
      rw [e2]
      have hp : pathB (47 :: r.take i) = true := by
        unfold pathB
        rw [List.all_cons, Bool.and_eq_true] at p1
        rw [decide_eq_true (by rw [List.length_cons] at p2 ⊢; rw [List.length_take]; omega), Bool.true_and, List.all_cons, p1.1, Bool.true_and, Bool.and_eq_true]
        exact ⟨by simp [List.isPrefixOf], List.all_eq_true.mpr fun s h => List.all_eq_true.mp p1.2 s (List.mem_of_mem_take h)⟩
      obtain ⟨q1, q2, _⟩ := pathB_parts hp
      right
      have ht := host_tells hW
      have lU := lows_host hsg
      have b := addr_built (R := 47 :: r.take i) (k := (47 :: r.take i).length) hs lA (fun s h => (hsign_ok (hsg s h)).1) (by rw [lU]; exact ht.1) (fun c r e => by cases e; decide) (pathR_end q1 q2)
      rw [lU, ht.2.1, if_neg (by simp), List.take_length] at b
      exact ⟨_, _, b, hW, hp, .inl (by simp)⟩
end Kb
namespace Kb
open PySem PySem.Spec PyProof.Rows L2 TL
theorem cutS_two (z : Str) (n i : Nat) : tl (cutS z (some (n : Int)) (some ((n + i : Nat) : Int))) = ((tl z).drop n).take i := by
  show ((tl z).drop (HT.sIx z.length 0 (some (n : Int)))).take (HT.sIx z.length z.length (some ((n + i : Nat) : Int)) - HT.sIx z.length 0 (some (n : Int))) = _
  rw [HT.sIx_nat, HT.sIx_nat, len_tl]
  rcases Nat.le_total (tl z).length n with h | h
  · rw [Nat.min_eq_right h, List.drop_eq_nil_of_le h, List.drop_eq_nil_of_le (Nat.le_refl _), List.take_nil, List.take_nil]
  · rw [Nat.min_eq_left h]
    rcases Nat.le_total (tl z).length (n + i) with g | g
    · rw [Nat.min_eq_right g, List.take_of_length_le (by rw [List.length_drop]; omega), List.take_of_length_le (by rw [List.length_drop]; omega)]
    · rw [Nat.min_eq_left g, show n + i - n = i by omega]
end Kb
namespace Kb
theorem pathR_le {r : List Nat} {k : Nat} (h : pathR r = .ok k) : k ≤ r.length := by
  have t := (List.takeWhile_prefix psign (l := r)).length_le
  unfold pathR at h
  split at h
  · cases h
  · split at h
    · cases h; exact t
    · split at h
      · cases h; exact t
      · cases h
end Kb
namespace Kb
open PySem PySem.Spec PyProof.Rows L2 TL
def schemes2 : List Str := [("http" : Str), "https"]
theorem schemes_at {i : Nat} {e : Str} (h : schemes2[i]? = some e) : (i = 0 ∧ e = "http") ∨ (i = 1 ∧ e = "https") := by
  rcases i with _ | _ | i
  · cases h; exact .inl ⟨rfl, rfl⟩
  · cases h; exact .inr ⟨rfl, rfl⟩
  · cases h
theorem tl_mark0 : tl (("http" : Str) ++ ("://" : Str)) = hS := by decide +kernel
theorem tl_mark1 : tl (("https" : Str) ++ ("://" : Str)) = sS := by decide +kernel
theorem marks_len {e : Str} (h : e ∈ schemes2) : e.length + ("://" : Str).length ≤ 8 := by
  have : ∀ e ∈ schemes2, e.length + ("://" : Str).length ≤ 8 := by decide +kernel
  exact this e h
theorem tl_mark3 : tl ("://" : Str) = [58, 47, 47] := by decide +kernel
end Kb
namespace Kb
open PySem PySem.Spec PyProof.Rows L2 TL
theorem addr_mk {sc A W P t ho : List Nat} {n : Nat} (hs : Sch sc n) (hA : lows A = sc ++ [58, 47, 47]) (hW : ∀ s ∈ W, stop3 s = false) (ht : tellsL (lows W) = true) (hh : stripDot (lows W) = ho) (hP : pathB P = true)
    (hT : ∀ c r, t = c :: r → stop2 c = true) : AddrOk (A ++ (W ++ (P ++ t))) sc ho P := by
  obtain ⟨p1, p2, r, rfl⟩ := pathB_parts hP
  have := addr_built (R := (47 :: r) ++ t) (k := (47 :: r).length) hs hA hW ht (fun c r2 e => by cases e; decide) (path_tail p1 p2 hT)
  rw [hh, if_neg (by simp), List.take_left] at this
  exact this
theorem addr_mk0 {sc A W t ho : List Nat} {n : Nat} (hs : Sch sc n) (hA : lows A = sc ++ [58, 47, 47]) (hW : ∀ s ∈ W, stop3 s = false) (ht : tellsL (lows W) = true) (hh : stripDot (lows W) = ho)
    (hT : ∀ c r, t = c :: r → stop2 c = true) : AddrOk (A ++ (W ++ t)) sc ho [47] := by
  have := addr_built (R := t) (k := 0) hs hA hW ht (fun c r2 e => stop23 (hT c r2 e)) (path_tail (P := []) rfl (Nat.zero_le _) hT)
  rw [hh, if_pos rfl] at this
  exact this
theorem sch_of {x : Str} (h : x ∈ schemes2) : ∃ n, Sch (tl x) n ∧ lows (tl x ++ [58, 47, 47]) = tl x ++ [58, 47, 47] ∧ lows ((tl x).map up1 ++ [58, 47, 47]) = tl x ++ [58, 47, 47] ∧ ascii x ∧ x.length ≤ 5 := by
  have : x = "http" ∨ x = "https" := by
    unfold schemes2 at h
    simpa using h
  rcases this with rfl | rfl
  · exact ⟨7, .inl ⟨by decide +kernel, rfl⟩, by decide +kernel, by decide +kernel, ascii_lit (by decide +kernel), by decide +kernel⟩
  · exact ⟨8, .inr ⟨by decide +kernel, rfl⟩, by decide +kernel, by decide +kernel, ascii_lit (by decide +kernel), by decide +kernel⟩
theorem sch_in {x y : Str} (h : x ∈ schemes2) (e : tl y = tl x) : y ∈ schemes2 := by rw [ext_tl e]; exact h
theorem up_host {l : List Nat} (h : ∀ s ∈ l, s = 46 ∨ s ∈ lsig) : lows (l.map up1) = l ∧ ∀ s ∈ l.map up1, stop3 s = false := by
  have key : ∀ s, s < 128 → (s = 46 ∨ s = 45 ∨ (48 ≤ s ∧ s ≤ 57) ∨ (97 ≤ s ∧ s ≤ 122)) → lo1 (up1 s) = s ∧ stop3 (up1 s) = false := by decide +kernel
  have k2 : ∀ s ∈ l, lo1 (up1 s) = s ∧ stop3 (up1 s) = false := fun s hs => by
    rcases h s hs with rfl | q
    · decide
    · simp only [lsig, List.mem_cons, List.not_mem_nil, or_false] at q
      exact key s (by omega) (by omega)
  refine ⟨?_, fun s hs => ?_⟩
  · unfold lows
    rw [List.map_map]
    exact (List.map_congr_left fun s hs => (k2 s hs).1).trans (List.map_id l)
  · obtain ⟨c, hc, rfl⟩ := List.mem_map.mp hs
    exact (k2 c hc).2
def big : List Nat := joinL [46] (List.replicate 5 (List.replicate 20 97))
theorem bad108 : AddrBad (hS ++ (big ++ [47])) 108 := by
  have h1 : schN (lows (hS ++ (big ++ [47]))) = some ([104, 116, 116, 112], 7) := by decide +kernel
  have h2 : (hS ++ (big ++ [47])).drop 7 = big ++ [47] := by decide +kernel
  have h3 : hEnd (big ++ [47]) = 104 := by decide +kernel
  have h4 : lows ((big ++ [47]).take 104) = big := by decide +kernel
  have h5 : hostB (big.take 100) = true := by decide +kernel
  refine .inr ⟨_, 7, h1, .inl ?_⟩
  rw [h2, h3, h4]
  refine ⟨by decide +kernel, 101, .inr ⟨by decide, by decide +kernel, by decide +kernel, fun j hj => ?_⟩, rfl⟩
  have := host_prefix h5 (i := j + 1) (by omega) (by rw [show (big.take 100).length = 100 by decide +kernel]; omega)
  rw [List.take_take, Nat.min_eq_left (by omega)] at this
  exact this
theorem lay_strsT {W : List Str} (h : ∀ w ∈ W, ascii w) : SeqAt.shaped (.tuple (W.map PyData.str)) = true := by
  unfold SeqAt.shaped
  rw [PyData.canLay0, canLay_strs W fun w hw => lay_str (h w hw), PyData.depth, depth_strs]; rfl
theorem eqv_strsT (W Z : List Str) : PyData.eqv (.tuple (W.map PyData.str)) (.tuple (Z.map PyData.str)) = decide (W = Z) := by rw [PyData.eqv, eqvAll_strs]
theorem ascii_host {y : Str} (h : hostB (tl y) = true) : ascii y := fun s hs => (hsign_ok (host_sign h s hs)).2.2
theorem ascii_path {y : Str} (h : pathB (tl y) = true) : ascii y := fun s hs => by
  have := List.all_eq_true.mp (pathB_parts h).1 s hs
  unfold psign at this
  simp only [Bool.and_eq_true, decide_eq_true_eq] at this
  omega
end Kb

namespace Kb
open PySem PySem.Spec PyProof.Rows L2
/-! ### a named except clause whose suite raises -/
/-- where the suite runs: what it lets out meets xe -/
abbrev sx (X : Cx) (a : Addr) (pn : List (Addr × Obj)) (xe : Value → Shared → Prop) : Cx := { X with A := X.A.mark (some (.ref a)), calm := false, pn := pn, xe := xe }
section
variable {X : Cx} {pins : List (Addr × Obj)} {i : Nat} {n : Str} {pos : Pos} {Wout : WX}
/-- the name goes, and the suite's own error goes on -/
theorem as_out {a0 : Addr} {oe0 : Obj} {xe' : Value → Shared → Prop} {Ea : Value → Shared → Prop} {Eb : Value → Value → Shared → Prop} (hs : X.stack = X.env :: X.outer) (hf : X.env.frame = some X.env.locals) (hex : X.ex = []) (hN : X.N.Nodup) (hi : X.N[i]? = some n)
    (hln : X.env.kindOf n = some .local) (ok : X.Ok) (tk : Takes X Wout) {EN : Value → Shared → Prop} (hpa : ∀ e s, X.xe e s → EN e s) {u : Value} {s' : Shared}
    (xx : XE (sx X a0 ((a0, oe0) :: (X.pn ++ pins)) xe') (fun cls d σ H => Wout cls d (σ.set i none) H) u s') :
    wpAny (model X.prog X.w) (X.A.mark (some (.ref a0))) (noteFrame u X.env) (fun _ t1 => wpAny (model X.prog X.w) (X.A.mark (some (.ref a0))) (do bindName X.env n .none; unbindBehindTheSuite X.env n pos)
      (fun _ t2 => wpAny (model X.prog X.w) (X.A.mark (some (.ref a0))) (passOn "try.except-as" u X.env : Sem Flow) (fun _ _ => False) EN t2) (Eb u) t1) Ea s' := by
  obtain ⟨a, B, sI, p2, σ2, H2, cls, d, rfl, I2, nb, up, sky, na, os, ag, w⟩ := xx
  have I0 : Inv X pins σ2 H2 sI := Inv.unsuite (X := X) (a := a0) (q := (a0, oe0)) (pn' := p2) (I2.wish fun _ _ => False) ok
  have hfr : (X.A.mark (some (.ref a0))).frames = some (X.env :: X.outer) := by rw [← hs]; exact ok.frames
  have sk : Sky B (X.env :: X.outer) a (Zc cls d) X.env.locals s'.heap := by rw [← hs]; exact sky
  have key : ∀ g, HandSPX.HeldZ B (X.env :: X.outer) a (Zc cls d) X.env.locals g → s'.heap.UpToSlots g →
      wpAny (model X.prog X.w) (X.A.mark (some (.ref a0))) (do bindName X.env n .none; unbindBehindTheSuite X.env n pos)
        (fun _ t2 => wpAny (model X.prog X.w) (X.A.mark (some (.ref a0))) (passOn "try.except-as" (.ref a) X.env : Sem Flow) (fun _ _ => False) EN t2) (Eb (.ref a)) { s' with heap := g } := by
    intro g held upg
    have J : Inv X pins σ2 H2 { s' with heap := g } := I0.landed nb held.1 (up.trans upg) os ag
    obtain ⟨q1, q2, q3, ox, vx, T, oT, vT, ex, zx, dx, v1, bT, Tx, eT, dT, t3⟩ := id held
    have off : ∀ {b : Addr} {o : Obj} {f : Array Value}, g.get? b = some o → o.data = .fields f → b ∉ frs (X.env :: X.outer) := by
      intro b o f e dd m
      obtain ⟨_, o2, e2, no⟩ := q3.mem m
      cases e.symm.trans e2
      exact no _ dd
    have inL : X.env.locals ∈ frs (X.env :: X.outer) := List.mem_filterMap.mpr ⟨X.env, List.mem_cons_self, hf⟩
    have inF : ∀ b, b ∈ X.fs → b ∈ frs (X.env :: X.outer) := fun b m => by
      obtain ⟨v, hv, q⟩ := List.mem_filterMap.mp m
      exact List.mem_filterMap.mpr ⟨v, List.mem_cons_of_mem _ hv, q⟩
    have oa := off ex dx
    have oTT := off eT dT
    have HT : H2 T = none := (I0.inGround nb).gone bT
    have pinOf : ∀ {b : Addr} {o : Obj} {f : Array Value}, g.get? b = some o → o.data = .fields f → H2 b = none → b ∉ frs (X.env :: X.outer) → b ≠ X.env.locals ∧ b ∉ X.fs ∧ ∀ v, o.data ≠ .cell v := fun {b o f} e dd hb nf =>
      ⟨fun z => nf (z ▸ inL), fun z => nf (inF b z), fun v z => by rw [dd] at z; cases z⟩
    have JY : Inv (X.tr ((a, ox) :: (T, oT) :: (X.pn ++ pins)) X.xe) [] σ2 H2 { s' with heap := g } := by
      refine ⟨ok.toTry _ _, J.os, J.bare, J.base, J.loc, J.cell, J.free, J.freeC, fun p hp => ?_, J.hok, J.len⟩
      rw [List.append_nil] at hp
      rcases List.mem_cons.mp hp with rfl | hp
      · obtain ⟨y1, y2, y3⟩ := pinOf ex dx na oa
        exact ⟨ex, na, y1, y2, y3⟩
      rcases List.mem_cons.mp hp with rfl | hp
      · obtain ⟨y1, y2, y3⟩ := pinOf eT dT HT oTT
        exact ⟨eT, HT, y1, y2, y3⟩
      · exact J.pin p hp
    refine gone_ok (X := X.tr ((a, ox) :: (T, oT) :: (X.pn ++ pins)) X.xe) JY hN hi hln fun s4 J4 => ?_
    have pa := J4.pin (a, ox) (List.mem_append_left _ List.mem_cons_self)
    have pT := J4.pin (T, oT) (List.mem_append_left _ (List.mem_cons_of_mem _ List.mem_cons_self))
    have ga : s4.heap.get? a = some ox := pa.1
    have gT : s4.heap.get? T = some oT := pT.1
    have J6 : Inv X pins (σ2.set i none) H2 s4 := ⟨ok, J4.os, J4.bare, J4.base, J4.loc, J4.cell, J4.free, J4.freeC, fun p hp => J4.pin p (List.mem_append_left _ (List.mem_cons_of_mem _ (List.mem_cons_of_mem _ hp))), J4.hok, J4.len⟩
    have apart : ∀ b o, sI.heap.get? b = some o → b ≠ a ∧ b ≠ T := fun b o e => by
      by_cases m : b ∈ frs X.stack
      · rw [hs] at m
        exact ⟨fun z => oa (z ▸ m), fun z => oTT (z ▸ m)⟩
      · have y := nb b o e m
        exact ⟨fun z => (by rw [z, q2] at y; cases y), fun z => (by rw [z, bT] at y; cases y)⟩
    have apart0 : ∀ b o, X.s_0.heap.get? b = some o → b ≠ a ∧ b ≠ T := fun b o e => by
      obtain ⟨o2, y⟩ := I0.base.there b o e (by rw [hex]; exact List.not_mem_nil)
      exact apart b o2 y
    obtain ⟨G, in1, out1⟩ := restrict s4.heap fun b => decide (b ≠ a ∧ b ≠ T)
    have fromG : ∀ b o, G.get? b = some o → s4.heap.get? b = some o ∧ (b ≠ a ∧ b ≠ T) := fun b o e => by
      by_cases m : b ≠ a ∧ b ≠ T
      · rw [in1 b (decide_eq_true m)] at e; exact ⟨e, m⟩
      · rw [out1 b (decide_eq_false m)] at e; cases e
    have toG : ∀ b o, b ≠ a → b ≠ T → s4.heap.get? b = some o → G.get? b = some o := fun b o m1 m2 e => (in1 b (decide_eq_true ⟨m1, m2⟩)).trans e
    have I6 : Inv X pins (σ2.set i none) H2 { s4 with heap := G } := J6.less (fun b o e => (fromG b o e).1) toG ⟨ox, vx, ga, dx⟩ ⟨oT, vT, gT, dT⟩ na HT apart0 fun p hp => apart p.1 p.2 (I0.pin p hp).1
    have noB : ∀ b, ¬ (b ≠ a ∧ b ≠ T) → (PySem.W.hideAll G (frs X.stack)).get? b = none := fun b m => by
      cases y : (PySem.W.hideAll G (frs X.stack)).get? b with
      | none => rfl
      | some o => exact absurd (fromG b o (PySem.W.of_hideAll _ y)).2 m
    have held6 : HandSPX.HeldZ (PySem.W.hideAll G (frs X.stack)) (X.env :: X.outer) a (Zc cls d) X.env.locals s4.heap :=
      ⟨fun b o e => (fromG b o (PySem.W.of_hideAll _ e)).1, noB a (fun z => z.1 rfl), by rw [← hs]; exact funFrames_none J6.stack fun b hb => PySem.W.hideAll_none _ hb,
        ox, vx, T, oT, vT, ga, zx, dx, v1, noB T (fun z => z.2 rfl), Tx, gT, dT, t3⟩
    unfold PySem.passOn
    refine wpAny_bind (wpAny_field ga dx v1 ?_)
    rw [if_neg (by simp : ¬ ((Value.ref T == Value.none) = true))]
    have on : wpAny (model X.prog X.w) (X.A.mark (some (.ref a0))) (setFlight (.ref a) X.env.frame) (fun _ t => wpAny (model X.prog X.w) (X.A.mark (some (.ref a0))) (throw (.ref a) : Sem Flow) (fun _ _ => False) EN t) EN s4 := by
      rw [hf]
      refine HandSPX.setFlight_onZ held6 fun g7 h7 u7 => wpAny_throw (hpa _ _ (tk _ _ ?_))
      exact ⟨a, _, { s4 with heap := G }, pins, _, H2, cls, d, rfl, I6, fun b o e hb => PySem.W.hideAll_get _ e hb, (Heap.UpToSlots.of_keeps fun b o e => (fromG b o e).1).trans u7, .inr (.inr (by rw [hs] at *; exact h7)), na, rfl, J6.bare, w⟩
    first
      | exact wpAny_bind (wpAny_pure (wpAny_bind on))
      | exact wpAny_bind on
  rcases sk with ⟨y1, y2, y3, ox, vx, y4, y5, y6, y7⟩ | fl | hh
  · exact HandSPX.look_newZ Zc.steady hfr y3 hf y4 y1 y2 y6 y7 y5 key
  · exact HandSPX.looks_onZ Zc.steady hfr hf fl key
  · exact HandSPX.againZ hf hh.2.2.2 (key _ hh (Heap.UpToSlots.refl _))
end
end Kb
namespace Kb
open PySem PySem.Spec PyProof.Rows L2
/-- the clause names what is raised, and its suite never ends but by an error -/
def wAsX (K : PySem.W.Frag) (c : Value) (i : Nat) (ts : Addr → Value → Option Addr → TS) : WX := fun cls d σ H =>
  PySem.W.exmOne K cls c = some true ∧ ∀ a, H a = none → ts a cls d { nx := fun _ _ => False, rt := fun _ _ => False } (σ.set i (some (.ref a))) H
section
variable {X : Cx} {x n : Str} {c : Value} {i : Nat} {body suite : List Stmt} {b₀ : Stmt} {np pos pos' : Pos} {tb : WX → TS} {ts : Addr → Value → Option Addr → TS} {Wout : WX}
theorem ps_try_asX (hs : X.stack = X.env :: X.outer) (hf : X.env.frame = some X.env.locals) (hex : X.ex = []) (hN : X.N.Nodup) (hi : X.N[i]? = some n) (hln : X.env.kindOf n = some .local) (hc : Names X x c)
    (hpa : ∀ hd : Option Value, PassesOwnAt (model X.prog X.w) (X.A.mark hd) X.A X.env X.xe) (tk : Takes X Wout)
    (hb : ∀ (W : WX) (pn : List (Addr × Obj)) (xe : Value → Shared → Prop), L2N.Takes (X.tr pn xe) W → PassesOwn (model X.prog X.w) X.A X.env xe → PSs (X.tr pn xe) body (tb W))
    (hsu : ∀ (a : Addr) (oe : Obj) (cls : Value) (d : Option Addr) (pn : List (Addr × Obj)) (xe : Value → Shared → Prop), L2N.Zn cls d oe → (∃ vs, oe.data = .fields vs) →
      Takes (sx X a ((a, oe) :: pn) xe) (fun cls d σ H => Wout cls d (σ.set i none) H) → L2H.HotC (sx X a ((a, oe) :: pn) xe) → PSs (sx X a ((a, oe) :: pn) xe) (b₀ :: suite) (ts a cls d)) :
    PS X (.Try body [.ExceptHandler (some (.Name x np)) (some n) (b₀ :: suite) pos'] [] [] pos) (fun D σ H => tb (wAsX X.K c i ts) D σ H) := by
  refine ⟨fun pins s σ H D I h => ?_⟩
  have ok := I.ok
  have hfr : X.A.frames = some (X.env :: X.outer) := by rw [← hs]; exact ok.frames
  refine wpAny_Try_except (wpAny_mono ((hb (wAsX X.K c i ts) (X.pn ++ pins) (fun e t1 => wpAny (model X.prog X.w) X.A (noteFrame e X.env) (fun _ t2 => wpAny (model X.prog X.w) X.A (setFlight e none) (fun _ t3 =>
    wpAny (model X.prog X.w) X.A (handleBy e X.env [.ExceptHandler (some (.Name x np)) (some n) (b₀ :: suite) pos']) (SP X pins D) X.xe t3) X.xe t2) X.xe t1) (fun u s' xx => ?_) PassesOwn.looking).run [] s σ H D (I.toTry _) h) (fun f s1 done => ?_) (fun e t q => q))
  · obtain ⟨a, B, sI, p2, σ2, H2, cls, d, rfl, I2, nb, up, sky, na, os, ag, hm, go⟩ := xx
    have J : Inv X pins σ2 H2 sI := I2.ofTry ok
    have sk : L2.Sky B (X.env :: X.outer) a (L2N.Zn cls d) X.env.locals s'.heap := by rw [← hs]; exact sky
    show wpAny (model X.prog X.w) X.A (noteFrame (.ref a) X.env) _ _ _
    refine L2N.Sky.land L2N.Zn.steady hfr hf sk fun g fl upg => ?_
    have Jg : Inv X pins σ2 H2 { s' with heap := g } := J.landed nb fl.1 (up.trans upg) os ag
    obtain ⟨oe, vs, eo, zo, dz⟩ := fl.there
    have off : ∀ {h : Heap} {o : Obj} {f : Array Value}, h.FunFrames B (X.env :: X.outer) → h.get? a = some o → o.data = .fields f → a ∉ frs (X.env :: X.outer) := by
      intro h o f ff e dd m
      obtain ⟨_, o2, e2, no⟩ := ff.mem m
      cases e.symm.trans e2
      exact no _ dd
    have oa := off fl.2.2.1 eo dz
    have nL : a ≠ X.env.locals := fun z => oa (List.mem_filterMap.mpr ⟨X.env, List.mem_cons_self, by rw [hf, z]⟩)
    have nF : a ∉ X.fs := fun m => by
      obtain ⟨v, hv, q⟩ := List.mem_filterMap.mp m
      exact oa (List.mem_filterMap.mpr ⟨v, List.mem_cons_of_mem _ hv, q⟩)
    have S := Jg.suite eo dz na nL nF
    refine wpAny_handleBy_cons (codeAny_handlers_test ?_) (by intro q; cases q)
    have isA : PySem.W.Looks (model X.prog X.w) g (typeOf (.ref a)) cls := fun A Q E t k q => wpAny_typeOf_ref (k _ _ eo) (by rw [zo.1]; exact q)
    have its := PySem.W.exm_one (M := model X.prog X.w) Jg.kIn isA hm
    have named : ∀ {Q : Value → Shared → Prop} {E : Value → Shared → Prop}, Q c { s' with heap := g } → wpAny (model X.prog X.w) (X.A.mark (some (.ref a))) (eval (.Name x np) X.env) Q E { s' with heap := g } := by
      intro Q E q
      obtain ⟨hg, hdbg, hmg | ⟨hmg, hv, hnn⟩⟩ := hc
      · exact ld_glob (X := X.suite a ((a, oe) :: (X.pn ++ pins))) S hg hmg q hdbg
      · exact ld_blt (X := X.suite a ((a, oe) :: (X.pn ++ pins))) S hg hmg hv q hnn hdbg
    refine named (its.here (codeAny_handlers_suite_as (HandSPX.lands_againZ fl fun g4 fl4 up4 => ?_)))
    have J4 : Inv X pins σ2 H2 { s' with heap := g4 } := J.landed nb fl4.1 ((up.trans upg).trans up4) os ag
    obtain ⟨oe4, vs4, eo4, zo4, do4⟩ := fl4.there
    have S4 := J4.suite eo4 do4 na nL nF
    refine store_ok (X := X.suite a ((a, oe4) :: (X.pn ++ pins))) (v := .ref a) S4 hN hi (.inl hln) rfl (fun s5 S5 => ?_) (.inr hln)
    have hot : ∀ xe, L2H.HotC (sx X a ((a, oe4) :: (X.pn ++ pins)) xe) := fun xe => ⟨(a, oe4), ⟨rfl, vs4, do4, zo4.2.2 vs4 do4⟩, List.mem_cons_self⟩
    refine wpAny_mono ((hsu a oe4 cls d (X.pn ++ pins) (fun z t3 => wpAny (model X.prog X.w) (X.A.mark (some (.ref a))) (noteFrame z X.env) (fun _ t4 => wpAny (model X.prog X.w) (X.A.mark (some (.ref a))) (do bindName X.env n .none; unbindBehindTheSuite X.env n pos')
      (fun _ t5 => wpAny (model X.prog X.w) (X.A.mark (some (.ref a))) (passOn "try.except-as" z X.env : Sem Flow) (fun _ _ => False) (notedBy (model X.prog X.w) (X.A.mark (some (.ref a))) X.env (cameBackBy (model X.prog X.w) X.A X.env X.xe)) t5)
      (fun y t5 => wpAny (model X.prog X.w) (X.A.mark (some (.ref a))) (setFlight z none) (fun _ t6 => (notedBy (model X.prog X.w) (X.A.mark (some (.ref a))) X.env (cameBackBy (model X.prog X.w) X.A X.env X.xe)) y t6) (notedBy (model X.prog X.w) (X.A.mark (some (.ref a))) X.env (cameBackBy (model X.prog X.w) X.A X.env X.xe)) t5) t4)
      (notedBy (model X.prog X.w) (X.A.mark (some (.ref a))) X.env (cameBackBy (model X.prog X.w) X.A X.env X.xe)) t3) zo4 ⟨_, do4⟩ (fun u t xx => ?_) (hot _)).run [] s5 _ H2 _ (Inv.unwish (X := sx X a ((a, oe4) :: (X.pn ++ pins)) _) (E := fun _ _ => False) S5) (go a na)) (fun f s6 q => ?_) (fun e t q => q)
    · exact as_out (Eb := fun z y t5 => wpAny (model X.prog X.w) (X.A.mark (some (.ref a))) (setFlight z none) (fun _ t6 => (notedBy (model X.prog X.w) (X.A.mark (some (.ref a))) X.env (cameBackBy (model X.prog X.w) X.A X.env X.xe)) y t6) (notedBy (model X.prog X.w) (X.A.mark (some (.ref a))) X.env (cameBackBy (model X.prog X.w) X.A X.env X.xe)) t5)
        hs hf hex hN hi hln ok tk (hpa _) xx
    · cases f with
      | next => obtain ⟨_, _, _, q⟩ := q; exact q.elim
      | brk => obtain ⟨_, _, _, q⟩ := q; exact q.elim
      | cont => obtain ⟨_, _, _, q⟩ := q; exact q.elim
      | ret u => obtain ⟨_, _, _, _, _, q⟩ := q; exact q.elim
  · cases f with
    | next => obtain ⟨_, _, J, q⟩ := done; exact wpAny_execs_nil ⟨_, _, J.ofTry ok, q⟩
    | brk => obtain ⟨_, _, J, q⟩ := done; exact ⟨_, _, J.ofTry ok, q⟩
    | cont => obtain ⟨_, _, J, q⟩ := done; exact ⟨_, _, J.ofTry ok, q⟩
    | ret u => obtain ⟨_, _, _, J, r, q⟩ := done; exact ⟨_, _, _, J.ofTry ok, r, q⟩
end
end Kb
namespace Kb
open PySem PySem.Spec PyProof.Rows L2
/-! ### an own error without a context, made where nothing is handled -/
section
variable {X : Cx} {e : Expr} {es : List Expr} {ta : TA} {p pos : Pos}
theorem pmk_oexN {CX : CXT} {x : Str} {C fI : Addr} {k : Nat} {fd : FuncData} {ps : List Str} {sp : Sp} (T : OexC X.K C) (iC : PySem.W.findIn X.K (.ref C) "__init__" = some (some (.ref fI))) (tI : PySem.W.typeIn X.K (.ref fI) = some (.type "function"))
    (F1 : FnOk X.prog X.w X.K X.mg X.base CX k fI fd ps sp) (hr : Room (k + 1) X.A) (hb : Binds X.K fd ps []) (hx : Passes CX X (fun _ _ _ => False)) (hg : Gl X x) (hm : X.mg x = some (.ref C)) (ha : PA X (e :: es) ta)
    (hdb : (x == ("__debug__" : Str)) = false := by decide) (he : starEach (e :: es) X.env = (false, eval e X.env) :: starEach es X.env := by rfl) (hpl : (backTo pos (starEach es X.env)).any (·.1) = false := by rfl) :
    L2N.PMk X (.Call (.Name x p) (e :: es) [] pos) (tMkO C sp [] ta) := by
  intro pins s σ H Q I h
  obtain ⟨_, _, _, _, bm, _, _, _, _, _, _, _, _, _, _, cC, hbm⟩ := T.cls
  refine wpAny_Call_Name_kw (ld_glob I hg hm (PySem.W.callWith_K (h₀ := X.base) I.ok.mod.kin T.kC (thn (ha.run pos pins s σ H _ I h) fun us t1 ⟨vs, H1, J1, rv, few, more⟩ => ⟨J1.kIn, ?_⟩) he hpl) hdb)
  show wpAny _ _ (call (.ref C) us) _ _ _
  obtain ⟨g0, gn, dn, tn, on⟩ := t1
  have top : g0.objs.size ≤ g0.objs.size + 1 := Nat.le_succ _
  have want := more (g0.objs.size + 1) (J1.hok.fresh top)
  have stays : ∀ b o, g0.get? b = some o → ((g0.push (PySem.W.kdv_tup us)).push (PySem.HandSPX.excO C g0.objs.size)).get? b = some o := fun b o y => Heap.get?_push_of_some _ (Heap.get?_push_of_some _ y)
  have made : ((g0.push (PySem.W.kdv_tup us)).push (PySem.HandSPX.excO C g0.objs.size)).get? (g0.objs.size + 1) = some (PySem.HandSPX.excO C g0.objs.size) := by heap_get
  have J2 := J1.laid (t' := tn) (a := g0.objs.size + 1) (o := exo (g0.objs.size + 1) C none) stays top (exo_ok made)
  rw [List.append_nil] at want
  have rvs : Vals (V.ref (g0.objs.size + 1) :: vs) (Value.ref (g0.objs.size + 1) :: us) := .cons rfl rv
  have many : (Value.ref (g0.objs.size + 1) :: us ++ []).length = ps.length := by
    rw [List.append_nil, ← rvs.length, F1.len _ _ _ _ want]
  have bnd := hb _ (Value.ref (g0.objs.size + 1) :: us) J2.kIn many
  rw [List.append_nil] at bnd
  have room := F1.run _ X.stack _ _ ⟨Value.ref (g0.objs.size + 1) :: us, []⟩ (Value.ref (g0.objs.size + 1) :: us) _ _ (fun _ _ _ => False) (hr.make C us []) (J2.env0.make C us []) bnd rvs want
  refine wpAny_call (PySem.HandSPX.call_own F.excBase_ValueError (fun Y => PySem.HandSPX.refsVE_contains Y bm hbm) (J1.kIn _ _ cC) (PySem.W.looks_findIn J1.kIn iC) (fun self => PySem.W.bind_fn J1.kIn self tI) (by rw [← Paired.length rv, sizeLine_eq]; omega) (codeAny_mono room fun r t back => ?_))
  cases r with
  | error er => exact hx pins σ _ _ er t J2 back
  | ok fl =>
    cases fl with
    | next => exact back.elim
    | brk => exact back.elim
    | cont => exact back.elim
    | ret u =>
      obtain ⟨v, H2, o2, b2, un2, ok2, r2, rfl, d, fs, ea, ed, fresh, q2⟩ := back
      obtain ⟨g2, gn2, dn2, tn2, on2⟩ := t
      obtain ⟨t0, G, J, sub, gone, there, clear⟩ := mk_end0 (d2 := dn2) (t2 := tn2) J1 top stays un2 ok2 o2 b2 ea ed fresh
      exact ⟨r2, g0.objs.size + 1, _, _, ⟨G, gn2, dn2, tn2, on2⟩, _, .ref C, some d, rfl, J, sub, gone, there, ⟨rfl, rfl, fun w hw => by cases hw; rfl⟩, rfl, rfl, clear, rfl, b2, raises_own T.exC T.tyC, q2⟩
theorem pmk_errN {cn f : Str} {C : Addr} {e : Expr} {ta : TA} {p pos : Pos} {k : Nat} (T : Err X.K X.mg cn f C) (hr : Room k X.A) (hk : 2 ≤ k) (hx : Passes CX0 X (fun _ _ _ => False)) (ha : PA X [e] ta) (hg : Gl X cn)
    (hdb : (cn == ("__debug__" : Str)) = false := by decide) (he : starEach (e :: []) X.env = (false, eval e X.env) :: starEach [] X.env := by rfl) (hpl : (backTo pos (starEach [] X.env)).any (·.1) = false := by rfl) :
    L2N.PMk X (.Call (.Name cn p) [e] [] pos) (tErr C f ta) := by
  intro pins s σ H Q I h
  obtain ⟨fI, fd, iC, tI, hb, F⟩ := T.ini
  refine pmk_oexN T.T iC tI (F X.prog X.w X.base) (hr.mono hk) hb hx hg T.g (pa_mono ha) hdb he hpl pins s σ H Q I ⟨_, h, ?_⟩
  rintro vs H1 ⟨v, rfl, hq⟩
  refine ⟨by show 1 ≤ 1000; decide, fun a hn => ⟨a, v, rfl, upd_same, T.T, T.no, fun dx hdx hne => ⟨rfl, dx, [(f, v)], upd_same, ?_, ?_, ?_⟩⟩⟩
  · rw [upd_ne hne, upd_same]
  · rw [upd_ne hne] at hdx; exact hdx
  · rw [upd_ne hne] at hdx
    rw [upd_del hn hne]
    exact hq dx hdx
theorem ps_raiseEN {cn f : Str} {C : Addr} {e : Expr} {ta : TA} {W : WX} {p pos pos2 : Pos} {k : Nat} (hc : X.calm = true) (T : Err X.K X.mg cn f C) (hr : Room k X.A) (hk : 2 ≤ k) (hx : Passes CX0 X (fun _ _ _ => False)) (tk : L2N.Takes X W) (ha : PA X [e] ta) (hg : Gl X cn)
    (hdb : (cn == ("__debug__" : Str)) = false := by decide) (he : starEach (e :: []) X.env = (false, eval e X.env) :: starEach [] X.env := by rfl) (hpl : (backTo pos (starEach [] X.env)).any (·.1) = false := by rfl) :
    PS X (.Raise (some (.Call (.Name cn p) [e] [] pos)) none pos2) (tRaise C f W ta) := L2N.ps_raise hc tk (pmk_errN T hr hk hx ha hg hdb he hpl)
theorem pe_cXN {W : WX} {j k : Nat} {x : Str} {ps : List Str} {sp : Sp} {p pos : Pos} {e : Expr} {es : List Expr} {t : TA} (c : Cal X.prog X.w X.K X.mg X.base (L2N.CX X.prog X.w) j x ps sp) (hr : Room k X.A) (hjk : j ≤ k) (hg : Gl X x) (tk : L2N.Takes X W)
    (ha : PA X (e :: es) t) (hdb : (x == ("__debug__" : Str)) = false := by decide) (he : starEach (e :: es) X.env = (false, eval e X.env) :: starEach es X.env := by rfl) (hpl : (backTo pos (starEach es X.env)).any (·.1) = false := by rfl) :
    PE X (.Call (.Name x p) (e :: es) [] pos) (tCallS sp (WE W) t) := by
  obtain ⟨f, fd, F, m, kp, b⟩ := c
  exact pe_callS F (hr.mono hjk) hg m kp b (fun σ => L2N.passAt tk σ) ha hdb he hpl
/-- an own error, with __init__ also where an error is handled -/
structure ErrH (K : PySem.W.Frag) (mg : Str → Option Value) (cn f : Str) (C : Addr) : Prop extends Err K mg cn f C where
  iniH : ∃ (fI : Addr) (fd : FuncData), PySem.W.findIn K (.ref C) "__init__" = some (some (.ref fI)) ∧ PySem.W.typeIn K (.ref fI) = some (.type "function") ∧ Binds K fd ["self", f] [] ∧
    ∀ (P : Program) (w : World) (base : Heap), L2H.FnH P w K mg base CX0 1 fI fd ["self", f] (spInit K C f)
theorem pmk_errH {cn f : Str} {C : Addr} {e : Expr} {ta : TA} {p pos : Pos} {k : Nat} (T : ErrH X.K X.mg cn f C) (hr : L2H.RoomH k X.A) (hk : 2 ≤ k) (hc : L2H.HotC X) (hx : Passes CX0 X (fun _ _ _ => False)) (ha : PA X [e] ta) (hg : Gl X cn)
    (hdb : (cn == ("__debug__" : Str)) = false := by decide) (he : starEach (e :: []) X.env = (false, eval e X.env) :: starEach [] X.env := by rfl) (hpl : (backTo pos (starEach [] X.env)).any (·.1) = false := by rfl) :
    L2H.PMk5 X (.Call (.Name cn p) [e] [] pos) (tErr C f ta) := by
  intro pins s σ H Q I h
  obtain ⟨fI, fd, iC, tI, hb, F⟩ := T.iniH
  refine L2H.pmk5_oexH T.T iC tI (F X.prog X.w X.base) (hr.mono hk) hc hb hx hg T.g (pa_mono ha) hdb he hpl pins s σ H Q I ⟨_, h, ?_⟩
  rintro vs H1 ⟨v, rfl, hq⟩
  refine ⟨by show 1 ≤ 1000; decide, fun a hn => ⟨a, v, rfl, upd_same, T.T, T.no, fun dx hdx hne => ⟨rfl, dx, [(f, v)], upd_same, ?_, ?_, ?_⟩⟩⟩
  · rw [upd_ne hne, upd_same]
  · rw [upd_ne hne] at hdx; exact hdx
  · rw [upd_ne hne] at hdx
    rw [upd_del hn hne]
    exact hq dx hdx
/-- raise C(e) from None, in a suite -/
theorem ps_raiseEH {cn f : Str} {C : Addr} {e : Expr} {ta : TA} {W : WX} {p pos pos2 cpos : Pos} {j k : Nat} (T : ErrH X.K X.mg cn f C) (hr : L2H.RoomH k X.A) (hk : 2 ≤ k) (hc : L2H.HotC X) (hx : Passes CX0 X (fun _ _ _ => False)) (tk : Takes X W) (ha : PA X [e] ta) (hg : Gl X cn)
    (hdb : (cn == ("__debug__" : Str)) = false := by decide) (he : starEach (e :: []) X.env = (false, eval e X.env) :: starEach [] X.env := by rfl) (hpl : (backTo pos (starEach [] X.env)).any (·.1) = false := by rfl) :
    PS X (.Raise (some (.Call (.Name cn p) [e] [] pos)) (some (.Constant .none j cpos)) pos2) (tRaise C f W ta) := L2H.ps_raiseHN hc tk (pmk_errH T hr hk hc hx ha hg hdb he hpl)
end
section
variable {P : Program} {w : World} {K : PySem.W.Frag} {mg : Str → Option Value} {base : Heap}
theorem Df.okXN {x : Str} {st : Stmt} {N ps : List Str} {k : Nat} {sp : Sp} (D : Df K mg x st ps) (S : FnScope N ps (defScope st)) (len : ∀ vs H Q E, sp vs H Q E → vs.length = ps.length)
    (hbody : ∀ (f : Addr) (cdv : Value) (A : Around) (outer : List Env) (s : Shared) (H : Hp) (vs : List V) (Q : VK) (E : XK), Room k (A.deeper (envOfC x (defScope st) s.heap.objs.size f cdv)) → sp vs H Q E →
      ∃ t, PSs (cxOf (L2N.CX P w) P w K mg base N x (defScope st) f cdv A outer s H E) (defBody st) t ∧ t { nx := fun _ H' => Q .non H', rt := Q } (start N vs) H) : Cal P w K mg base (L2N.CX P w) (k + 1) x ps sp := by
  obtain ⟨f, fd, F, m, b⟩ := D
  obtain ⟨_, _, _, _, _, _, _, _, _, rfl, lk, hcd⟩ := F.ex
  exact ⟨f, _, fn_of lk hcd S len fun A outer s H vs Q E hr hsp => hbody f _ A outer s H vs Q E hr hsp, m, F.kp, .all b⟩
theorem Fun.okH {x qual : Str} {st : Stmt} {f : Addr} {fd : FuncData} {N ps : List Str} {k : Nat} {sp : Sp} (F : Fun K x qual st f fd) (S : FnScope N ps (defScope st)) (len : ∀ vs H Q E, sp vs H Q E → vs.length = ps.length)
    (hbody : ∀ (cdv : Value) (A : Around) (outer : List Env) (s : Shared) (H : Hp) (vs : List V) (Q : VK) (E : XK) (p : Addr × Obj), sp vs H Q E →
      ∃ t, PSs (L2H.cxH CX0 P w K mg base N qual (defScope st) f cdv A outer s H E p) (defBody st) t ∧ t { nx := fun _ H' => Q .non H', rt := Q } (start N vs) H) : L2H.FnH P w K mg base CX0 (k + 1) f fd ps sp := by
  obtain ⟨_, _, _, _, _, _, _, _, _, rfl, lk, hcd⟩ := F.ex
  exact L2H.fn_ofH lk hcd S len fun A outer s H vs Q E p _ _ hsp => hbody _ A outer s H vs Q E p hsp
theorem Err.toH {cn f q0 : Str} {C fI : Addr} {fd : FuncData} {st : Stmt} (E : Err K mg cn f C) (a1 : PySem.W.findIn K (.ref C) "__init__" = some (some (.ref fI))) (t1 : PySem.W.typeIn K (.ref fI) = some (.type "function"))
    (b : Binds K fd ["self", f] []) (F : Fun K "__init__" q0 st fI fd) (ok : ∀ (P : Program) (w : World) (base : Heap), Fun K "__init__" q0 st fI fd → L2H.FnH P w K mg base CX0 1 fI fd ["self", f] (spInit K C f)) : ErrH K mg cn f C :=
  ⟨E, fI, fd, a1, t1, b, fun P w base => ok P w base F⟩
/-- nothing is let out by a callee that lets nothing out -/
theorem passFN {X : Cx} : Passes (L2N.CX P w) X (fun _ _ _ => False) := fun _ _ _ _ _ _ _ h => by
  obtain ⟨_, _, _, _, _, _, _, _, _, _, _, _, q⟩ := h
  exact q.elim
end
end Kb
namespace Kb
open PySem PySem.Spec PyProof.Rows L2
/-- the field of the caught error, in a suite that raises -/
theorem pe_xfS {X : Cx} {a C : Addr} {oe : Obj} {cls : Value} {d : Option Addr} {pn : List (Addr × Obj)} {xe : Value → Shared → Prop} {e : Expr} {te : TE} {pos : Pos} {n : Str} (T : XfC X.K C) (hno : PySem.W.findIn X.K (.ref C) n = some none)
    (hz : L2N.Zn cls d oe) (hf : ∃ vs, oe.data = .fields vs) (he : PE (X.suite a ((a, oe) :: pn)) e te) (hb : attributeBase e n X.env (eval e X.env) = eval e X.env := by rfl) :
    PE (sx X a ((a, oe) :: pn) xe) (.Attribute e n pos) (tXf a cls d C n te) := PE.nox (X := sx X a ((a, oe) :: pn) xe) (pe_xf T hno hz.zc hf he hb)
end Kb

namespace Kb
open PySem PySem.Spec PyProof.Rows L2 TL
/-! ### short plain texts -/
structure Pl (m c : Nat) (l : List Nat) : Prop where
  len : l.length ≤ m
  lt : ∀ s ∈ l, s < 128 ∧ s ≠ 37
  dots : l.count 46 ≤ c
def plB (m c : Nat) (l : List Nat) : Bool := decide (l.length ≤ m) && (l.all (fun s => decide (s < 128) && decide (s ≠ 37)) && decide (l.count 46 ≤ c))
theorem Pl.of {m c : Nat} {l : List Nat} (h : plB m c l = true) : Pl m c l := by
  unfold plB at h
  simp only [Bool.and_eq_true, decide_eq_true_eq, List.all_eq_true] at h
  exact ⟨h.1, h.2.1, h.2.2⟩
theorem Pl.app {m c m' c' : Nat} {l l' : List Nat} (h : Pl m c l) (k : Pl m' c' l') : Pl (m + m') (c + c') (l ++ l') :=
  ⟨by rw [List.length_append]; exact Nat.add_le_add h.len k.len, fun s hs => (List.mem_append.mp hs).elim (h.lt s) (k.lt s), by rw [List.count_append]; exact Nat.add_le_add h.dots k.dots⟩
theorem Pl.sub {m c : Nat} {l l' : List Nat} (h : Pl m c l) (k : l'.Sublist l) : Pl m c l' :=
  ⟨Nat.le_trans k.length_le h.len, fun s hs => h.lt s (k.subset hs), Nat.le_trans (k.count_le 46) h.dots⟩
theorem Pl.more {m c m' c' : Nat} {l : List Nat} (h : Pl m c l) (e1 : m ≤ m') (e2 : c ≤ c') : Pl m' c' l := ⟨Nat.le_trans h.len e1, h.lt, Nat.le_trans h.dots e2⟩
theorem Pl.ascii {m c : Nat} {x : Str} (h : Pl m c (tl x)) : ascii x := fun s hs => (h.lt s hs).1
theorem Pl.small {m c : Nat} {x : Str} (h : Pl m c (tl x)) (e : m ≤ 1000) : smallS x := ⟨by rw [len_tl]; exact Nat.le_trans h.len e, h.ascii⟩
theorem sp1_count (c : Nat) : ∀ l : List Nat, (sp1 c l).length = l.count c + 1
  | [] => by simp [sp1]
  | x :: l => by
    obtain ⟨q, r, e⟩ := sp1_cons c l
    have ih := sp1_count c l
    by_cases hx : x = c
    · subst hx; rw [sp1_hit, List.length_cons, ih, List.count_cons_self]
    · rw [sp1_miss hx e, List.count_cons_of_ne hx, ← ih, e]; rfl
def lawHostB (l : List Nat) : Bool := (sp1 46 l).all labB && (!digB (lastL (sp1 46 l)) || ((sp1 46 l).all numB && decide ((sp1 46 l).length = 4)))
theorem Pl.host {m c : Nat} {l : List Nat} (h : Pl m c l) (e1 : m ≤ 100) (e2 : c ≤ 9) : lawHostB l = hostB l := by
  have h1 := h.len
  have h2 := h.dots
  unfold hostB hostL lawHostB
  rw [decide_eq_true (show l.length ≤ 100 by omega), decide_eq_true (show (sp1 46 l).length ≤ 10 by rw [sp1_count]; omega), Bool.true_and, Bool.true_and]
theorem low46 : ∀ c, c < 128 → (lo1 c = 46 ↔ c = 46) := by decide +kernel
theorem low_lt : ∀ c, c < 128 → lo1 c < 128 := by decide +kernel
theorem low37 : ∀ c, c < 128 → c ≠ 37 → lo1 c ≠ 37 := by decide +kernel
theorem count_lows : ∀ {l : List Nat}, (∀ s ∈ l, s < 128) → (lows l).count 46 = l.count 46
  | [], _ => rfl
  | x :: l, h => by
    have ih := count_lows (l := l) fun s hs => h s (List.mem_cons_of_mem _ hs)
    unfold lows at ih ⊢
    rw [List.map_cons]
    by_cases hx : x = 46
    · subst hx
      rw [show lo1 46 = 46 by decide, List.count_cons_self, List.count_cons_self, ih]
    · rw [List.count_cons_of_ne hx, List.count_cons_of_ne (fun e => hx ((low46 x (h x (List.mem_cons_self ..))).mp e)), ih]
theorem Pl.lows {m c : Nat} {l : List Nat} (h : Pl m c l) : Pl m c (lows l) := by
  refine ⟨by unfold Kb.lows; rw [List.length_map]; exact h.len, fun s hs => ?_, by rw [count_lows fun s hs => (h.lt s hs).1]; exact h.dots⟩
  obtain ⟨x, hx, rfl⟩ := List.mem_map.mp hs
  exact ⟨low_lt x (h.lt x hx).1, low37 x (h.lt x hx).1 (h.lt x hx).2⟩
/-! ### the part in front of a query or a mark -/
theorem sp1_head (c : Nat) : ∀ l : List Nat, ∃ r, sp1 c l = l.takeWhile (fun s => !decide (s = c)) :: r
  | [] => ⟨[], rfl⟩
  | x :: l => by
    obtain ⟨r, e⟩ := sp1_head c l
    by_cases hx : x = c
    · subst hx
      exact ⟨_, by rw [sp1_hit, List.takeWhile_cons_of_neg (by simp)]⟩
    · exact ⟨r, by rw [sp1_miss hx e, List.takeWhile_cons_of_pos (by simp [hx])]⟩
theorem tw_tw {p q : Nat → Bool} : ∀ l : List Nat, (l.takeWhile p).takeWhile q = l.takeWhile fun s => p s && q s
  | [] => rfl
  | x :: l => by
    cases hp : p x with
    | false => rw [List.takeWhile_cons_of_neg (by rw [hp]; exact Bool.false_ne_true), List.takeWhile_cons_of_neg (by rw [hp]; exact Bool.false_ne_true)]; rfl
    | true =>
      cases hq : q x with
      | false => rw [List.takeWhile_cons_of_pos hp, List.takeWhile_cons_of_neg (by rw [hq]; exact Bool.false_ne_true), List.takeWhile_cons_of_neg (by rw [hp, hq]; exact Bool.false_ne_true)]
      | true => rw [List.takeWhile_cons_of_pos hp, List.takeWhile_cons_of_pos hq, List.takeWhile_cons_of_pos (by rw [hp, hq]; rfl), tw_tw l]
def cutQ (l : List Nat) : List Nat := l.takeWhile fun c => !stop2 c
theorem cutQ_two (l : List Nat) : (l.takeWhile fun s => !decide (s = 63)).takeWhile (fun s => !decide (s = 35)) = cutQ l := by
  rw [tw_tw]
  unfold cutQ stop2
  congr 1
  funext s
  rw [Bool.not_or]
theorem cutQ_rest : ∀ l : List Nat, ∃ t, l = cutQ l ++ t ∧ (∀ c r, t = c :: r → stop2 c = true) ∧ ∀ s ∈ cutQ l, stop2 s = false := by
  intro l
  induction l with
  | nil => exact ⟨[], rfl, fun c r e => (by cases e), fun s hs => by cases hs⟩
  | cons x l ih =>
    obtain ⟨t, e, h1, h2⟩ := ih
    cases hx : stop2 x with
    | true =>
      have : cutQ (x :: l) = [] := List.takeWhile_cons_of_neg (by rw [hx]; exact Bool.false_ne_true)
      rw [this]
      exact ⟨x :: l, rfl, fun c r e => by cases e; exact hx, fun s hs => by cases hs⟩
    | false =>
      have : cutQ (x :: l) = x :: cutQ l := List.takeWhile_cons_of_pos (by rw [hx]; rfl)
      rw [this]
      refine ⟨t, by rw [List.cons_append, ← e], h1, fun s hs => ?_⟩
      rcases List.mem_cons.mp hs with rfl | q
      · exact hx
      · exact h2 s q
theorem pre_app {g a b : List Nat} (h : g.isPrefixOf a = true) : g.isPrefixOf (a ++ b) = true :=
  List.isPrefixOf_iff_prefix.mpr ((List.isPrefixOf_iff_prefix.mp h).trans (List.prefix_append a b))
/-- a beginning without the sign stands in front of it -/
theorem pre_cut {g a t : List Nat} (ht : ∀ c r, t = c :: r → c ∉ g) (h : g.isPrefixOf (a ++ t) = true) : g.isPrefixOf a = true := by
  have p := List.isPrefixOf_iff_prefix.mp h
  rcases Nat.lt_or_ge a.length g.length with q | q
  · exfalso
    cases t with
    | nil =>
      rw [List.append_nil] at p
      have := p.length_le
      omega
    | cons c r =>
      obtain ⟨u, e⟩ := p
      have : (a ++ c :: r)[a.length]? = some c := by rw [List.getElem?_append_right (Nat.le_refl _), Nat.sub_self]; rfl
      rw [← e, List.getElem?_append_left q] at this
      exact ht c r rfl (List.mem_of_getElem? this)
  · exact List.isPrefixOf_iff_prefix.mpr (List.prefix_of_prefix_length_le p (List.prefix_append a t) q)
theorem stop_not {c : Nat} (h : stop2 c = true) : c ∉ hS ∧ c ∉ sS ∧ lo1 c = c := by
  unfold stop2 at h
  rw [Bool.or_eq_true, decide_eq_true_eq, decide_eq_true_eq] at h
  rcases h with rfl | rfl <;> decide
theorem lows_app (a b : List Nat) : lows (a ++ b) = lows a ++ lows b := List.map_append
theorem lows_stop {t : List Nat} (h : ∀ c r, t = c :: r → stop2 c = true) : ∀ c r, lows t = c :: r → stop2 c = true := fun c r e => by
  cases t with
  | nil => cases e
  | cons x t =>
    have hx := h x t rfl
    unfold lows at e
    rw [List.map_cons, List.cons.injEq] at e
    rw [← e.1, (stop_not hx).2.2]; exact hx
theorem schN_cut {a t : List Nat} (h : ∀ c r, t = c :: r → stop2 c = true) : schN (lows (a ++ t)) = schN (lows a) := by
  have ht := lows_stop h
  rw [lows_app]
  have e : ∀ g : List Nat, (∀ c, stop2 c = true → c ∉ g) → g.isPrefixOf (lows a ++ lows t) = g.isPrefixOf (lows a) := fun g hg => by
    rw [Bool.eq_iff_iff]
    exact ⟨fun p => pre_cut (fun c r e => hg c (ht c r e)) p, pre_app⟩
  unfold schN
  rw [e hS fun c hc => (stop_not hc).1, e sS fun c hc => (stop_not hc).2.1]
theorem schBad_cut {a t : List Nat} {k : Nat} (h : ∀ c r, t = c :: r → stop2 c = true) (b : Bad1 schB (lows a) k) : Bad1 schB (lows (a ++ t)) k := by
  have ht := lows_stop h
  rw [lows_app]
  rcases b with ⟨rfl, b2⟩ | ⟨b0, b1, b2, b3⟩
  · cases e : lows t with
    | nil => rw [List.append_nil]; exact .inl ⟨rfl, b2⟩
    | cons c r =>
      refine .inr ⟨by omega, by rw [List.length_append, List.length_cons]; omega, ?_, fun j hj => by rw [List.take_append_of_le_length (by omega)]; exact b2 j (by omega)⟩
      have hc := ht c r e
      have mem : c ∈ (lows a ++ c :: r).take ((lows a).length + 1) := by
        rw [List.take_length_add_append, List.take_succ_cons]
        exact List.mem_append_right _ (List.mem_cons_self ..)
      unfold schB
      rw [Bool.or_eq_false_iff]
      constructor
      · rw [Bool.eq_false_iff]
        exact fun p => (stop_not hc).1 ((List.isPrefixOf_iff_prefix.mp p).subset mem)
      · rw [Bool.eq_false_iff]
        exact fun p => (stop_not hc).2.1 ((List.isPrefixOf_iff_prefix.mp p).subset mem)
  · refine .inr ⟨b0, by rw [List.length_append]; omega, by rw [List.take_append_of_le_length b1]; exact b2, fun j hj => by rw [List.take_append_of_le_length (by omega)]; exact b3 j hj⟩
def beforeS (l : List Nat) : List Nat := l.takeWhile fun s => !decide (s = 47)
theorem hEnd_cut : ∀ {m t : List Nat}, (∀ s ∈ m, stop2 s = false) → (∀ c r, t = c :: r → stop2 c = true) → hEnd (m ++ t) = (beforeS m).length
  | [], t, _, h => by
    cases t with
    | nil => rfl
    | cons c r =>
      unfold hEnd
      rw [List.nil_append, List.takeWhile_cons_of_neg (by rw [stop23 (h c r rfl)]; exact Bool.false_ne_true)]; rfl
  | x :: m, t, hm, h => by
    have ih := hEnd_cut (m := m) (t := t) (fun s hs => hm s (List.mem_cons_of_mem _ hs)) h
    have hx := hm x (List.mem_cons_self ..)
    unfold hEnd beforeS at ih ⊢
    by_cases h47 : x = 47
    · subst h47
      rw [List.cons_append, List.takeWhile_cons_of_neg (by decide), List.takeWhile_cons_of_neg (by decide)]
    · have : stop3 x = false := by
        unfold stop3
        unfold stop2 at hx
        rw [hx, decide_eq_false h47]; rfl
      rw [List.cons_append, List.takeWhile_cons_of_pos (by rw [this]; rfl), List.takeWhile_cons_of_pos (by rw [decide_eq_false h47]; rfl), List.length_cons, List.length_cons, ih]
theorem beforeS_take (l : List Nat) : l.take (beforeS l).length = beforeS l := by
  have := List.takeWhile_prefix (fun s => !decide (s = 47)) (l := l)
  exact (List.prefix_iff_eq_take.mp this).symm
theorem beforeS_lows : ∀ {l : List Nat}, (∀ s ∈ l, s < 128) → beforeS (lows l) = lows (beforeS l)
  | [], _ => rfl
  | x :: l, h => by
    have ih := beforeS_lows (l := l) fun s hs => h s (List.mem_cons_of_mem _ hs)
    have key : ∀ c, c < 128 → (lo1 c = 47 ↔ c = 47) := by decide +kernel
    unfold lows beforeS at ih ⊢
    rw [List.map_cons]
    by_cases hx : x = 47
    · subst hx; rw [List.takeWhile_cons_of_neg (by decide), List.takeWhile_cons_of_neg (by decide)]; rfl
    · rw [List.takeWhile_cons_of_pos (by rw [decide_eq_false (fun e => hx ((key x (h x (List.mem_cons_self ..))).mp e))]; rfl), List.takeWhile_cons_of_pos (by rw [decide_eq_false hx]; rfl), List.map_cons, ih]
end Kb
namespace Kb
open PySem PySem.Spec PyProof.Rows L2 TL
theorem due_parts {L sc : List Nat} {n : Nat} (h : schN (lows (cutQ L)) = some (sc, n)) : ∃ t, (∀ c r, t = c :: r → stop2 c = true) ∧ schN (lows L) = some (sc, n) ∧ n ≤ (cutQ L).length ∧ n = sc.length + 3 ∧
    (L.drop n).take (hEnd (L.drop n)) = beforeS ((cutQ L).drop n) ∧ hEnd (L.drop n) = (beforeS ((cutQ L).drop n)).length ∧
    (L.drop n).drop (hEnd (L.drop n)) = ((cutQ L).drop n).drop (beforeS ((cutQ L).drop n)).length ++ t ∧ ∀ s ∈ cutQ L, stop2 s = false := by
  obtain ⟨t, e, h1, h2⟩ := cutQ_rest L
  obtain ⟨_, hn, hn3, _⟩ := schN_sc h
  have hn : n ≤ (cutQ L).length := by unfold lows at hn; rw [List.length_map] at hn; exact hn
  have ed : L.drop n = (cutQ L).drop n ++ t := by
    conv => lhs; rw [e]
    rw [List.drop_append_of_le_length hn]
  have eh : hEnd (L.drop n) = (beforeS ((cutQ L).drop n)).length := by
    rw [ed]
    exact hEnd_cut (fun s hs => h2 s (List.mem_of_mem_drop hs)) h1
  have lb : (beforeS ((cutQ L).drop n)).length ≤ ((cutQ L).drop n).length := (List.takeWhile_prefix _).length_le
  refine ⟨t, h1, ?_, hn, hn3, ?_, eh, ?_, h2⟩
  · conv => lhs; rw [e]
    rw [schN_cut h1]; exact h
  · rw [eh, ed, List.take_append_of_le_length lb, beforeS_take]
  · rw [eh, ed, List.drop_append_of_le_length lb]
theorem due_bad0 {L : List Nat} {k : Nat} (h : schN (lows (cutQ L)) = none) (b : Bad1 schB (lows (cutQ L)) k) : AddrBad L k := by
  obtain ⟨t, e, h1, h2⟩ := cutQ_rest L
  left
  constructor
  · conv => lhs; rw [e]
    rw [schN_cut h1]; exact h
  · rw [e]
    exact schBad_cut h1 b
theorem due_bad1 {L sc : List Nat} {n j : Nat} (h : schN (lows (cutQ L)) = some (sc, n)) (ht : tellsL (lows (beforeS ((cutQ L).drop n))) = false) (b : Bad1 goodL (lows (beforeS ((cutQ L).drop n))) j) : AddrBad L (n + j) := by
  obtain ⟨t, h1, h2, h3, h4, h5, h6, h7, h8⟩ := due_parts h
  exact .inr ⟨sc, n, h2, .inl ⟨by rw [h5]; exact ht, j, by rw [h5]; exact b, rfl⟩⟩
theorem due_bad2 {L sc : List Nat} {n i c : Nat} (h : schN (lows (cutQ L)) = some (sc, n)) (ht : tellsL (lows (beforeS ((cutQ L).drop n))) = true)
    (ha : ((((cutQ L).drop n).drop (beforeS ((cutQ L).drop n)).length).take i).all psign = true) (hi : i ≤ 200) (hc : (((cutQ L).drop n).drop (beforeS ((cutQ L).drop n)).length)[i]? = some c) (hp : psign c = false) :
    AddrBad L (n + (beforeS ((cutQ L).drop n)).length + i + 1) := by
  obtain ⟨t, h1, h2, h3, h4, h5, h6, h7, h8⟩ := due_parts h
  have hl := (List.getElem?_eq_some_iff.mp hc).1
  refine .inr ⟨sc, n, h2, .inr ⟨by rw [h5]; exact ht, i, ?_, by rw [h6]⟩⟩
  rw [h7]
  exact pathR_sign (c := c) (by rw [List.take_append_of_le_length (by omega)]; exact ha) hi (by rw [List.getElem?_append_left hl]; exact hc) (h8 c (List.mem_of_mem_drop (List.mem_of_mem_drop (List.mem_of_getElem? hc)))) hp
theorem due_ok {L sc : List Nat} {n : Nat} (h : schN (lows (cutQ L)) = some (sc, n)) (ht : tellsL (lows (beforeS ((cutQ L).drop n))) = true)
    (ha : (((cutQ L).drop n).drop (beforeS ((cutQ L).drop n)).length).all psign = true) (hl : (((cutQ L).drop n).drop (beforeS ((cutQ L).drop n)).length).length ≤ 200) :
    AddrOk L sc (stripDot (lows (beforeS ((cutQ L).drop n)))) (if ((cutQ L).drop n).drop (beforeS ((cutQ L).drop n)).length = [] then [47] else ((cutQ L).drop n).drop (beforeS ((cutQ L).drop n)).length) := by
  obtain ⟨t, h1, h2, h3, h4, h5, h6, h7, h8⟩ := due_parts h
  refine ⟨n, _, h2, by rw [h5]; exact ht, by rw [h5], by rw [h7]; exact path_tail ha hl h1, ?_⟩
  rw [h7]
  generalize ((cutQ L).drop n).drop (beforeS ((cutQ L).drop n)).length = S
  by_cases e : S = []
  · subst e; rfl
  · rw [if_neg e, if_neg (fun z => e (List.eq_nil_of_length_eq_zero z)), List.take_left]
theorem psign_law {c : Nat} (h1 : c ≠ 37) (h2 : stop2 c = false) : psign c = (decide (33 ≤ c) && decide (c ≤ 126) && decide (c ≠ 59)) := by
  unfold stop2 at h2
  rw [Bool.or_eq_false_iff, decide_eq_false_iff_not, decide_eq_false_iff_not] at h2
  unfold psign
  rw [decide_eq_true h1, decide_eq_true h2.1, decide_eq_true h2.2]
  simp
end Kb
namespace Kb
open PySem PySem.Spec PyProof.Rows L2 TL
def rInQ (K : PySem.W.Frag) (neg : Bool) : R2 := rIn K neg
end Kb
namespace Kb
open PySem PySem.Spec PyProof.Rows L2 TL
theorem split_head (x : Str) {c : Nat} (hc : c < 256) : ∃ y ys, Txt.split x ⟨#[c]⟩ = y :: ys ∧ tl y = (tl x).takeWhile fun s => !decide (s = c) := by
  have e := split_sp1 x hc
  obtain ⟨r, er⟩ := sp1_head c (tl x)
  rw [er] at e
  cases h : Txt.split x ⟨#[c]⟩ with
  | nil => rw [h] at e; cases e
  | cons y ys =>
    rw [h, List.map_cons, List.cons.injEq] at e
    exact ⟨y, ys, rfl, e.1⟩
/-- an address in a list, or the place -/
def D09 (H : Hp) (L : List Nat) (v : V) : Prop := (∃ (a b c : List Nat) (p q : Addr) (x y z : Str), AddrOk L a b c ∧ v = .ref p ∧ H p = some (.lst [.ref q]) ∧ H q = some (.tup [.str x, .str y, .str z]) ∧ tl x = a ∧ tl y = b ∧ tl z = c ∧ x.length ≤ 1000 ∧ y.length ≤ 1000 ∧ z.length ≤ 1000) ∨
  ∃ k : Nat, v = .int (k : Nat) ∧ AddrBad L k
theorem mark_sq : ("?" : Str) = ⟨#[63]⟩ := ext_tl (by decide +kernel)
theorem mark_sh : ("#" : Str) = ⟨#[35]⟩ := ext_tl (by decide +kernel)
end Kb
namespace Kb
open PySem PySem.Spec PyProof.Rows L2 TL
theorem at0 (v : V) (vs : List V) : atI (v :: vs) 0 = some v := by
  show atI (v :: vs) ((0 : Nat) : Int) = _
  exact atI_nat rfl
end Kb
namespace Kb
open PySem PySem.Spec PyProof.Rows L2 TL
theorem addr_ascii {L a b c : List Nat} (h : AddrOk L a b c) (hl : ∀ s ∈ L, s < 128) : (∀ s ∈ a, s < 128) ∧ (∀ s ∈ b, s < 128) ∧ ∀ s ∈ c, s < 128 := by
  obtain ⟨n, k, h1, h2, rfl, h4, rfl⟩ := h
  refine ⟨?_, ?_, ?_⟩
  · rcases (schN_sc h1).1 with ⟨rfl, _⟩ | ⟨rfl, _⟩ <;> decide
  · intro s hs
    have : s ∈ lows ((L.drop n).take (hEnd (L.drop n))) := by
      unfold stripDot at hs
      split at hs
      · exact (List.dropLast_sublist _).subset hs
      · exact hs
    obtain ⟨x, hx, rfl⟩ := List.mem_map.mp this
    exact low_lt x (hl x (List.mem_of_mem_drop (List.mem_of_mem_take hx)))
  · intro s hs
    split at hs
    · rw [List.mem_singleton.mp hs]; decide
    · exact hl s (List.mem_of_mem_drop (List.mem_of_mem_drop (List.mem_of_mem_take hs)))
def IsD9 (L : List Nat) (d : PyData) : Prop := (∃ (a b c : List Nat) (x y z : Str), AddrOk L a b c ∧ d = .list [.tuple [.str x, .str y, .str z]] ∧ tl x = a ∧ tl y = b ∧ tl z = c) ∨ ∃ k : Nat, d = .int (k : Nat) ∧ AddrBad L k
theorem IsD9.uniq {L : List Nat} {d e : PyData} (h : IsD9 L d) (g : IsD9 L e) : d = e := by
  rcases h with ⟨a, b, c, x, y, z, ok, rfl, ex, ey, ez⟩ | ⟨k, rfl, hk⟩ <;> rcases g with ⟨a', b', c', x', y', z', ok', rfl, ex', ey', ez'⟩ | ⟨k', rfl, hk'⟩
  · obtain ⟨rfl, rfl, rfl⟩ := ok.uniq ok'
    rw [ext_tl (ex.trans ex'.symm), ext_tl (ey.trans ey'.symm), ext_tl (ez.trans ez'.symm)]
  · exact (ok.bad hk').elim
  · exact (ok'.bad hk).elim
  · rw [hk.uniq hk']
theorem repr9 {K : PySem.W.Frag} {H : Hp} {L : List Nat} {v : V} (h : D09 H L v) (hl : ∀ s ∈ L, s < 128) (hn : L.length ≤ 900) : ∃ d, Dp K H v d ∧ d.showable = true ∧ d.hasDict = false ∧ d.shown.length ≤ sizeLine ∧ d.depth ≤ 64 ∧ IsD9 L d := by
  rcases h with ⟨a, b, c, p, q, x, y, z, ok, rfl, hp, hq, ex, ey, ez, lx, ly, lz⟩ | ⟨k, rfl, hk⟩
  · obtain ⟨aa, ab, ac⟩ := addr_ascii ok hl
    refine ⟨.list [.tuple [.str x, .str y, .str z]], .lst (SqL.of hp) (.cons (.tup (SqT.of hq) (dpAll_strs [x, y, z])) .nil), by simp [PyData.showable, PyData.showableAll], by simp [PyData.hasDict, PyData.hasDictAll], ?_, by simp [PyData.depth, PyData.depthAll], .inl ⟨a, b, c, x, y, z, ok, rfl, ex, ey, ez⟩⟩
    have big : ∀ u : Str, (∀ s ∈ tl u, s < 128) → PyData.leavesShort 8 (.str u) = true := fun u hu => by
      rw [PyData.leavesShort, List.all_eq_true]
      exact fun s hs => decide_eq_true (by have := hu s hs; omega)
    have := PySem.PyData.shown_le_bulk 8 (by decide) (.list [.tuple [.str x, .str y, .str z]]) (by
      simp only [PyData.leavesShort, PyData.leavesShortAll, Bool.and_true, Bool.and_eq_true]
      have h1 := big x (by rw [ex]; exact aa)
      have h2 := big y (by rw [ey]; exact ab)
      have h3 := big z (by rw [ez]; exact ac)
      simp only [PyData.leavesShort] at h1 h2 h3
      exact ⟨h1, h2, h3⟩)
    refine Nat.le_trans this (Nat.le_trans (m := 40000) ?_ (by decide))
    have e1 : x.cps.size = x.length := rfl
    have e2 : y.cps.size = y.length := rfl
    have e3 : z.cps.size = z.length := rfl
    simp only [PyData.bulk, PyData.bulkAll]
    omega
  · have := hk.le
    refine ⟨.int (k : Nat), .int _, ?_, rfl, ?_, by simp [PyData.depth], .inr ⟨k, rfl, hk⟩⟩
    · have h3 := Nat.log2_le_self k
      simp only [PyData.showable, Int.natAbs_natCast]
      exact decide_eq_true (by omega)
    · have := PyProof.Rows.toString_length_le (v := ((k : Nat) : Int)) (by omega) (k := 4) (by decide) (by
        have : ((10 : Int) ^ 4) = 10000 := by decide
        omega)
      exact Nat.le_trans this (by decide)
end Kb

namespace Kb
open PySem PySem.Spec PyProof.Rows L2 TL
/-! ### dates as texts -/
def lettL : List Nat := tl ("abcdefghijklmnopqrstuvwxyzABCDEFGHIJKLMNOPQRSTUVWXYZ" : Str)
def letB (c : Nat) : Bool := decide (c ∈ lettL)
def tokB (c : Nat) : Bool := decide (c ∈ lettL) || (decide (c ∈ digs) || decide (c = 58))
def toks : List Nat → List Nat → List (List Nat)
  | acc, [] => if acc = [] then [] else [acc]
  | acc, c :: l => if tokB c = true then toks (acc ++ [c]) l else if acc = [] then toks [] l else acc :: toks [] l
def fitT (l : List Nat) : Bool := (sp1 58 l).all (fun p => digB p && decide (p.length ≤ 2)) && decide ((sp1 58 l).length = 3)
def monN : List Str := ["Jan", "Feb", "Mar", "Apr", "May", "Jun", "Jul", "Aug", "Sep", "Oct", "Nov", "Dec"]
def monAt (l : List Nat) (i : Nat) : Bool := decide (lows (l.take 3) = lows ((monN.map tl).getD i []))
/-- the number of the month that a token tells, 0 for none -/
def monI (l : List Nat) : Nat := match (List.range 12).find? (monAt l) with
  | some i => i + 1
  | none => 0
def fitM (l : List Nat) : Bool := onlyB lettL l && decide (monI l ≠ 0)
def fitD (l : List Nat) : Bool := digB l && decide (l.length ≤ 2)
def fitY (l : List Nat) : Bool := digB l && (decide (l.length = 2) || decide (l.length = 4))
def fits (p : Nat) (l : List Nat) : Bool := match p with
  | 0 => fitT l
  | 1 => fitD l
  | 2 => fitM l
  | _ => fitY l
abbrev Fnd := List (Nat × Str)
def hasP (f : Fnd) (p : Nat) : Bool := f.any fun q => q.1 == p
def partI (f : Fnd) (l : List Nat) : Option Nat := (List.range 4).find? fun p => !hasP f p && fits p l
def stepD (f : Fnd) (t : Str) : Fnd := match partI f (tl t) with
  | some p => f ++ [(p, t)]
  | none => f
def leapB (y : Int) : Bool := decide (y % 4 = 0) && (decide (y % 100 ≠ 0) || decide (y % 400 = 0))
def monD : List Int := [31, 28, 31, 30, 31, 30, 31, 31, 30, 31, 30, 31]
def domI (y : Int) (m : Nat) : Int := if m = 2 ∧ leapB y = true then 29 else monD.getD (m - 1) 0
def dbmI (y : Int) (m : Nat) : Int := ((List.range (m - 1)).map fun i => domI y (i + 1)).sum
def dtoI (y : Int) : Int := (y - 1) * 365 + (y - 1) / 4 - (y - 1) / 100 + (y - 1) / 400
def dbfI (y : Int) : Int := dtoI y - dtoI 1970
def valL (l : List Nat) : Int := (NumText.digitsVal l : Nat)
def yearI (l : List Nat) : Int := if 2 < l.length then valL l else if valL l ≤ 69 then 2000 + valL l else 1900 + valL l
/-- the tick of four parts -/
def tickI (t d m y : List Nat) : Option Int :=
  let P := sp1 58 t
  let h := valL (P.getD 0 [])
  let mi := valL (P.getD 1 [])
  let s := valL (P.getD 2 [])
  if 23 < h ∨ 59 < mi ∨ 59 < s ∨ yearI y < 1601 then none else
  if ¬ (1 ≤ valL d ∧ valL d ≤ domI (yearI y) (monI m)) then none else
  if yearI y < 1970 then some 0 else
  some ((dbfI (yearI y) + dbmI (yearI y) (monI m) + valL d - 1) * 86400 + h * 3600 + mi * 60 + s)
def getP (f : Fnd) (p : Nat) : List Nat := match f.find? fun q => q.1 == p with
  | some q => tl q.2
  | none => []
/-- what a text tells -/
def dateF (ts : List Str) : Option Int :=
  let f := ts.foldl stepD []
  if f.length < 4 then none else tickI (getP f 0) (getP f 1) (getP f 2) (getP f 3)
end Kb
namespace Kb
def partN : List PySem.Str := ["time", "day", "month", "year"]
end Kb
namespace Kb
open PySem PySem.Spec PyProof.Rows L2 TL
def keyP (p : Nat) : Key := Sum.inr (partN.getD p "")
def fkv (f : Fnd) : List (Key × V) := f.map fun q => (keyP q.1, V.str q.2)
def FndAt (H : Hp) (a : Addr) (f : Fnd) : Prop := H a = some (.dK (fkv f)) ∧ ∀ q ∈ f, q.1 < 4
theorem keyP_inj : ∀ p q, p < 4 → q < 4 → keyP p = keyP q → p = q := by
  have h : ∀ p, p < 4 → ∀ q, q < 4 → (partN.getD p "" : Str) = partN.getD q "" → p = q := by decide +kernel
  exact fun p q hp hq e => h p hp q hq (Sum.inr.inj e)
theorem valP : ∀ {f : Fnd} {p : Nat}, (∀ q ∈ f, q.1 < 4) → p < 4 → valV (fkv f) (keyP p) = (f.find? fun q => q.1 == p).map fun q => V.str q.2
  | [], _, _, _ => rfl
  | q :: f, p, h, hp => by
    have ih := valP (f := f) (p := p) (fun r hr => h r (List.mem_cons_of_mem _ hr)) hp
    unfold valV fkv at ih ⊢
    rw [List.map_cons]
    by_cases e : q.1 = p
    · rw [List.find?_cons_of_pos (by simp [e]), List.find?_cons_of_pos (by simp [e])]; rfl
    · have : ¬ keyP q.1 = keyP p := fun z => e (keyP_inj _ _ (h q (List.mem_cons_self ..)) hp z)
      rw [List.find?_cons_of_neg (by simp [this]), List.find?_cons_of_neg (by simp [e])]
      exact ih
theorem hasP_find (f : Fnd) (p : Nat) : hasP f p = (f.find? fun q => q.1 == p).isSome := by
  unfold hasP
  rw [Bool.eq_iff_iff, List.find?_isSome, List.any_eq_true]
theorem putP {f : Fnd} {p : Nat} {t : Str} (h : ∀ q ∈ f, q.1 < 4) (hp : p < 4) (hn : hasP f p = false) : putK (fkv f) (keyP p) (.str t) = fkv (f ++ [(p, t)]) := by
  unfold putK
  rw [if_neg]
  · unfold fkv; rw [List.map_append]; rfl
  · intro z
    rw [List.any_eq_true] at z
    obtain ⟨kv, hk, e⟩ := z
    obtain ⟨q, hq, rfl⟩ := List.mem_map.mp hk
    have e := keyP_inj _ _ (h q hq) hp (of_decide_eq_true e)
    unfold hasP at hn
    rw [List.any_eq_false] at hn
    exact hn q hq (by simp [e])
end Kb
namespace Kb
open PySem PySem.Spec PyProof.Rows L2 TL
/-- the parts that were found -/
structure FndOk (f : Fnd) : Prop where
  lt : ∀ q ∈ f, q.1 < 4
  fit : ∀ q ∈ f, fits q.1 (tl q.2) = true ∧ ascii q.2 ∧ q.2.length ≤ 100000
  nd : (f.map (·.1)).Nodup
theorem FndOk.all {f : Fnd} (h : FndOk f) (h4 : 4 ≤ f.length) {p : Nat} (hp : p < 4) : ∃ t : Str, f.find? (fun q => q.1 == p) = some (p, t) ∧ getP f p = tl t ∧ fits p (tl t) = true ∧ ascii t ∧ t.length ≤ 100000 := by
  have hm : p ∈ f.map (·.1) := by
    match f, h4, h.lt, h.nd with
    | a :: b :: c :: d :: r, _, lt, nd =>
      simp only [List.map_cons, List.nodup_cons, List.mem_cons, not_or] at nd
      have l1 := lt a (by simp)
      have l2 := lt b (by simp)
      have l3 := lt c (by simp)
      have l4 := lt d (by simp)
      simp only [List.map_cons, List.mem_cons]
      have : p = a.1 ∨ p = b.1 ∨ p = c.1 ∨ p = d.1 := by
        have n1 := nd.1.1
        have n2 := nd.1.2.1
        have n3 := nd.1.2.2.1
        have n4 := nd.2.1.1
        have n5 := nd.2.1.2.1
        have n6 := nd.2.2.1.1
        omega
      rcases this with e | e | e | e
      · exact .inl e
      · exact .inr (.inl e)
      · exact .inr (.inr (.inl e))
      · exact .inr (.inr (.inr (.inl e)))
  obtain ⟨q, hq, e⟩ := List.mem_map.mp hm
  cases hf : f.find? fun q => q.1 == p with
  | none =>
    have := List.find?_eq_none.mp hf q hq
    simp [e] at this
  | some z =>
    have h1 : z.1 = p := by have := List.find?_some hf; simpa using this
    have h2 := List.mem_of_find?_eq_some hf
    obtain ⟨z1, z2⟩ := z
    have h1 : z1 = p := h1
    subst h1
    obtain ⟨f1, f2, f3⟩ := h.fit _ h2
    exact ⟨z2, rfl, by unfold getP; rw [hf], f1, f2, f3⟩
theorem FndOk.step {f : Fnd} (h : FndOk f) {t : Str} (ht : ascii t) (hl : t.length ≤ 100000) : FndOk (stepD f t) := by
  unfold stepD
  cases e : partI f (tl t) with
  | none => exact h
  | some p =>
    unfold partI at e
    obtain ⟨h1, h2, _⟩ := List.find?_range_eq_some.mp e
    have hp := List.mem_range.mp h2
    rw [Bool.and_eq_true, Bool.not_eq_true'] at h1
    refine ⟨fun q hq => ?_, fun q hq => ?_, ?_⟩
    · rcases List.mem_append.mp hq with m | m
      · exact h.lt q m
      · rw [List.mem_singleton.mp m]; exact hp
    · rcases List.mem_append.mp hq with m | m
      · exact h.fit q m
      · rw [List.mem_singleton.mp m]; exact ⟨h1.2, ht, hl⟩
    · rw [List.map_append, List.nodup_append]
      refine ⟨h.nd, by simp, fun a ha b hb => ?_⟩
      rw [List.map_singleton, List.mem_singleton] at hb
      obtain ⟨q, hq, rfl⟩ := List.mem_map.mp ha
      intro z
      have := h1.1
      unfold hasP at this
      rw [List.any_eq_false] at this
      exact this q hq (by simp [z, hb])
end Kb
namespace Kb
open PySem PySem.Spec PyProof.Rows L2 TL
theorem valL_nn (l : List Nat) : 0 ≤ valL l := Int.natCast_nonneg _
end Kb
namespace Kb
open PySem PySem.Spec PyProof.Rows L2 TL
theorem val_small (l : List Nat) (h : digB l = true) (hl : l.length ≤ 4) : 0 ≤ valL l ∧ valL l ≤ 9999 := by
  have ad := (digB_iff.mp h).1
  have key : ∀ c ∈ l, 48 ≤ c ∧ c ≤ 57 := fun c hc => ad c hc
  unfold valL
  match l, hl, key with
  | [], _, _ => simp [NumText.digitsVal]
  | [a], _, k => have := k a (by simp); simp only [NumText.digitsVal, List.foldl]; omega
  | [a, b], _, k => have := k a (by simp); have := k b (by simp); simp only [NumText.digitsVal, List.foldl]; omega
  | [a, b, c], _, k => have := k a (by simp); have := k b (by simp); have := k c (by simp); simp only [NumText.digitsVal, List.foldl]; omega
  | [a, b, c, d], _, k => have := k a (by simp); have := k b (by simp); have := k c (by simp); have := k d (by simp); simp only [NumText.digitsVal, List.foldl]; omega
  | a :: b :: c :: d :: e :: r, hl, _ => simp at hl
end Kb
namespace Kb
open PySem PySem.Spec PyProof.Rows L2 TL
def mkS (l : List Nat) : Str := ⟨l.toArray⟩
theorem mkS_tl (x : Str) : mkS (tl x) = x := ext_tl rfl
theorem ts_mk {ts : List Str} {L : List (List Nat)} (h : ts.map tl = L) : ts = L.map mkS := by
  rw [← h, List.map_map]
  exact (List.map_id ts).symm.trans (List.map_congr_left fun x _ => (mkS_tl x).symm)
def dateR (l : List Nat) : Option Int := dateF ((toks [] l).map mkS)
theorem toks_mem : ∀ (l acc t : List Nat), t ∈ toks acc l → (∀ s ∈ t, s ∈ acc ∨ s ∈ l) ∧ t.length ≤ acc.length + l.length
  | [], acc, t, h => by
    unfold toks at h
    split at h
    · cases h
    · rw [List.mem_singleton.mp h]; exact ⟨fun s hs => .inl hs, by simp⟩
  | c :: l, acc, t, h => by
    unfold toks at h
    split at h
    · obtain ⟨h1, h2⟩ := toks_mem l _ t h
      refine ⟨fun s hs => ?_, by rw [List.length_append] at h2; simp at h2 ⊢; omega⟩
      rcases h1 s hs with m | m
      · rcases List.mem_append.mp m with m | m
        · exact .inl m
        · exact .inr (by rw [List.mem_singleton.mp m]; exact List.mem_cons_self ..)
      · exact .inr (List.mem_cons_of_mem _ m)
    · split at h
      · obtain ⟨h1, h2⟩ := toks_mem l _ t h
        refine ⟨fun s hs => ?_, by simp at h2 ⊢; omega⟩
        rcases h1 s hs with m | m
        · cases m
        · exact .inr (List.mem_cons_of_mem _ m)
      · rcases List.mem_cons.mp h with rfl | h
        · exact ⟨fun s hs => .inl hs, by simp⟩
        · obtain ⟨h1, h2⟩ := toks_mem l _ t h
          refine ⟨fun s hs => ?_, by simp at h2 ⊢; omega⟩
          rcases h1 s hs with m | m
          · cases m
          · exact .inr (List.mem_cons_of_mem _ m)
theorem stepD_len (f : Fnd) (t : Str) : f.length ≤ (stepD f t).length ∧ (stepD f t).length ≤ f.length + 1 := by
  unfold stepD
  split
  · rw [List.length_append]; exact ⟨by omega, Nat.le_refl _⟩
  · exact ⟨Nat.le_refl _, by omega⟩
end Kb
namespace Kb
theorem toks_len : ∀ (l acc : List Nat), (toks acc l).length ≤ l.length + 1
  | [], acc => by unfold toks; split <;> simp
  | c :: l, acc => by
    have h1 := toks_len l (acc ++ [c])
    have h2 := toks_len l []
    unfold toks
    split
    · simp; omega
    · split
      · simp; omega
      · simp; omega
end Kb

namespace Kb
open PySem PySem.Spec PyProof.Rows L2 TL
/-! ### joined tokens -/
def tokOk (t : List Nat) : Prop := t ≠ [] ∧ ∀ s ∈ t, tokB s = true
theorem toks_run : ∀ (t acc l : List Nat), (∀ s ∈ t, tokB s = true) → toks acc (t ++ l) = toks (acc ++ t) l
  | [], acc, l, _ => by rw [List.append_nil]; rfl
  | c :: t, acc, l, h => by
    rw [List.cons_append, toks, if_pos (h c (List.mem_cons_self ..)), toks_run t _ l fun s hs => h s (List.mem_cons_of_mem _ hs), List.append_assoc]; rfl
theorem toks_skip : ∀ (s l : List Nat), (∀ c ∈ s, tokB c = false) → toks [] (s ++ l) = toks [] l
  | [], l, _ => rfl
  | c :: s, l, h => by
    rw [List.cons_append, toks, if_neg (by rw [h c (List.mem_cons_self ..)]; exact Bool.false_ne_true), if_pos rfl, toks_skip s l fun x hx => h x (List.mem_cons_of_mem _ hx)]
theorem toks_sep {acc s l : List Nat} (ha : acc ≠ []) (hs : s ≠ []) (h : ∀ c ∈ s, tokB c = false) : toks acc (s ++ l) = acc :: toks [] l := by
  obtain ⟨c, r, rfl⟩ := List.exists_cons_of_ne_nil hs
  rw [List.cons_append, toks, if_neg (by rw [h c (List.mem_cons_self ..)]; exact Bool.false_ne_true), if_neg ha, toks_skip r l fun x hx => h x (List.mem_cons_of_mem _ hx)]
theorem toks_join {s : List Nat} (hs : s ≠ []) (h : ∀ c ∈ s, tokB c = false) : ∀ T : List (List Nat), (∀ t ∈ T, tokOk t) → toks [] (joinL s T) = T
  | [], _ => rfl
  | [t], hT => by
    obtain ⟨h1, h2⟩ := hT t (List.mem_singleton.mpr rfl)
    show toks [] t = _
    have := toks_run t [] [] h2
    rw [List.append_nil, List.nil_append] at this
    rw [this, toks, if_neg h1]
  | t :: u :: r, hT => by
    obtain ⟨h1, h2⟩ := hT t (List.mem_cons_self ..)
    show toks [] (t ++ (s ++ joinL s (u :: r))) = _
    rw [toks_run t [] _ h2, List.nil_append, toks_sep h1 hs h, toks_join hs h (u :: r) fun x hx => hT x (List.mem_cons_of_mem _ hx)]
theorem date_join {s : Str} {T : List Str} (hs : tl s ≠ []) (h : ∀ c ∈ tl s, tokB c = false) (hT : ∀ t ∈ T, tokOk (tl t)) : dateR (tl (Txt.join s T)) = dateF T := by
  unfold dateR
  rw [join_tl, toks_join hs h _ fun l hl => by obtain ⟨t, ht, rfl⟩ := List.mem_map.mp hl; exact hT t ht, ← ts_mk rfl]
/-! ### four tokens, each for its part -/
theorem partI_eq (f : Fnd) (l : List Nat) : partI f l = if (!hasP f 0 && fits 0 l) = true then some 0 else if (!hasP f 1 && fits 1 l) = true then some 1 else if (!hasP f 2 && fits 2 l) = true then some 2 else if (!hasP f 3 && fits 3 l) = true then some 3 else none := by
  unfold partI
  rw [show List.range 4 = [0, 1, 2, 3] by decide]
  simp only [List.find?_cons, List.find?_nil]
  cases (!hasP f 0 && fits 0 l) <;> cases (!hasP f 1 && fits 1 l) <;> cases (!hasP f 2 && fits 2 l) <;> cases (!hasP f 3 && fits 3 l) <;> rfl
structure KT (l : List Nat) : Prop where
  a : fits 0 l = true
  b : fits 1 l = false
  c : fits 2 l = false
  d : fits 3 l = false
structure KD (l : List Nat) : Prop where
  a : fits 0 l = false
  b : fits 1 l = true
  c : fits 2 l = false
structure KM (l : List Nat) : Prop where
  a : fits 0 l = false
  b : fits 1 l = false
  c : fits 2 l = true
  d : fits 3 l = false
structure KY (l : List Nat) : Prop where
  a : fits 0 l = false
  b : fits 1 l = false
  c : fits 2 l = false
  d : fits 3 l = true
theorem few_none {T : List Str} (h : T.length < 4) : dateF T = none := by
  have : ∀ (T : List Str) (f : Fnd), (T.foldl stepD f).length ≤ f.length + T.length := by
    intro T
    induction T with
    | nil => intro f; exact Nat.le_refl _
    | cons t T ih =>
      intro f
      have h1 := ih (stepD f t)
      have h2 := (stepD_len f t).2
      rw [List.foldl_cons, List.length_cons]
      omega
  have h1 := this T []
  unfold dateF
  rw [if_pos (by simp at h1; omega)]
section
variable {a b c d e x : Str}
theorem run4 (ha : KT (tl a)) (hb : KD (tl b)) (hc : KM (tl c)) (hd : KY (tl d)) : dateF [a, b, c, d] = tickI (tl a) (tl b) (tl c) (tl d) ∧ dateF [a, b, c, d, e] = tickI (tl a) (tl b) (tl c) (tl d) := by
  obtain ⟨a0, a1, a2, a3⟩ := ha
  obtain ⟨b0, b1, b2⟩ := hb
  obtain ⟨c0, c1, c2, c3⟩ := hc
  obtain ⟨d0, d1, d2, d3⟩ := hd
  constructor <;> (simp [dateF, stepD, partI_eq, hasP, getP, *])
theorem run5_0 (ha : KT (tl a)) (hb : KD (tl b)) (hc : KM (tl c)) (hd : KY (tl d)) (x0 : fits 0 (tl x) = false) (x1 : fits 1 (tl x) = false) (x2 : fits 2 (tl x) = false) (x3 : fits 3 (tl x) = false) :
    dateF [x, b, c, d] = none ∧ dateF [x, b, c, d, a] = tickI (tl a) (tl b) (tl c) (tl d) := by
  obtain ⟨a0, a1, a2, a3⟩ := ha
  obtain ⟨b0, b1, b2⟩ := hb
  obtain ⟨c0, c1, c2, c3⟩ := hc
  obtain ⟨d0, d1, d2, d3⟩ := hd
  constructor <;> (simp [dateF, stepD, partI_eq, hasP, getP, *])
theorem run5_1 (ha : KT (tl a)) (hb : KD (tl b)) (hc : KM (tl c)) (hd : KY (tl d)) (x0 : fits 0 (tl x) = false) (x1 : fits 1 (tl x) = false) (x2 : fits 2 (tl x) = false) (x3 : fits 3 (tl x) = false) :
    dateF [a, x, c, d] = none ∧ dateF [a, x, c, d, b] = tickI (tl a) (tl b) (tl c) (tl d) := by
  obtain ⟨a0, a1, a2, a3⟩ := ha
  obtain ⟨b0, b1, b2⟩ := hb
  obtain ⟨c0, c1, c2, c3⟩ := hc
  obtain ⟨d0, d1, d2, d3⟩ := hd
  constructor <;> (simp [dateF, stepD, partI_eq, hasP, getP, *])
theorem run5_2 (ha : KT (tl a)) (hb : KD (tl b)) (hc : KM (tl c)) (hd : KY (tl d)) (x0 : fits 0 (tl x) = false) (x1 : fits 1 (tl x) = false) (x2 : fits 2 (tl x) = false) (x3 : fits 3 (tl x) = false) :
    dateF [a, b, x, d] = none ∧ dateF [a, b, x, d, c] = tickI (tl a) (tl b) (tl c) (tl d) := by
  obtain ⟨a0, a1, a2, a3⟩ := ha
  obtain ⟨b0, b1, b2⟩ := hb
  obtain ⟨c0, c1, c2, c3⟩ := hc
  obtain ⟨d0, d1, d2, d3⟩ := hd
  constructor <;> (simp [dateF, stepD, partI_eq, hasP, getP, *])
theorem run5_3 (ha : KT (tl a)) (hb : KD (tl b)) (hc : KM (tl c)) (hd : KY (tl d)) (x0 : fits 0 (tl x) = false) (x2 : fits 2 (tl x) = false) (x3 : fits 3 (tl x) = false) :
    dateF [a, b, c, x] = none ∧ dateF [a, b, c, x, d] = tickI (tl a) (tl b) (tl c) (tl d) := by
  obtain ⟨a0, a1, a2, a3⟩ := ha
  obtain ⟨b0, b1, b2⟩ := hb
  obtain ⟨c0, c1, c2, c3⟩ := hc
  obtain ⟨d0, d1, d2, d3⟩ := hd
  constructor <;> (simp [dateF, stepD, partI_eq, hasP, getP, *])
end
end Kb
namespace Kb
open PySem PySem.Spec PyProof.Rows L2 TL
/-! ### drawn tokens -/
def num2B (n : Nat) : Bool := digB (numL n) && (decide ((numL n).length ≤ 2) && decide (NumText.digitsVal (numL n) = n))
theorem num2_ok : ∀ n, n < 100 → num2B n = true := by decide +kernel
theorem num2 {n : Nat} (h : n < 100) : digB (numL n) = true ∧ (numL n).length ≤ 2 ∧ valL (numL n) = n := by
  have := num2_ok n h
  unfold num2B at this
  simp only [Bool.and_eq_true, decide_eq_true_eq] at this
  exact ⟨this.1, this.2.1, by unfold valL; rw [this.2.2]⟩
theorem num_dig (n : Nat) : digB (numL n) = true := by
  rw [digB_iff]
  refine ⟨fun c hc => ?_, ?_⟩
  · obtain ⟨ch, hch, e⟩ := List.mem_map.mp (show c ∈ (Nat.toDigits 10 n).map Char.toNat from hc)
    have r := PyProof.Rows.digit_range (Nat.isDigit_of_mem_toDigits (by decide) (by decide) hch)
    rw [← e]
    exact r
  · intro e
    have h1 := tDigits_len_ge 10 n
    have h2 : ((Nat.toDigits 10 n).map Char.toNat).length = 0 := by
      have e : (Nat.toDigits 10 n).map Char.toNat = [] := e
      rw [e]; rfl
    rw [List.length_map] at h2
    omega
theorem num4 {n : Nat} (h : 1000 ≤ n) (h2 : n < 10000) : digB (numL n) = true ∧ (numL n).length = 4 ∧ valL (numL n) = n := by
  refine ⟨num_dig n, ?_, ?_⟩
  · have a := digits10_le (k := 4) (by decide) (show n < 10 ^ 4 by omega)
    have b := digits10_ge (k := 3) (show 10 ^ 3 ≤ n by omega)
    show ((Nat.toDigits 10 n).map Char.toNat).length = 4
    rw [List.length_map]
    omega
  · unfold valL
    have := PySem.W.KIN.val_back n
    show ((NumText.digitsVal ((Nat.toDigits 10 n).map Char.toNat) : Nat) : Int) = n
    rw [this]
theorem dig_no58 {l : List Nat} (h : digB l = true) : 58 ∉ l := fun m => by
  have := (digB_iff.mp h).1 58 m
  omega
theorem dig_nolet {l : List Nat} (h : digB l = true) : onlyB lettL l = false := by
  obtain ⟨h1, h2⟩ := digB_iff.mp h
  obtain ⟨c, r, rfl⟩ := List.exists_cons_of_ne_nil h2
  have hc := h1 c (List.mem_cons_self ..)
  have key : ∀ c, c < 58 → decide (c ∈ lettL) = false := by decide +kernel
  unfold onlyB
  rw [List.all_cons, key c (by omega), Bool.false_and, Bool.false_and]
theorem dig_tok {l : List Nat} (h : digB l = true) : tokOk l := by
  obtain ⟨h1, h2⟩ := digB_iff.mp h
  refine ⟨h2, fun s hs => ?_⟩
  unfold tokB
  rw [decide_eq_true (digs_iff.mpr (h1 s hs))]
  simp
theorem KD_of {l : List Nat} (h : digB l = true) (h2 : l.length ≤ 2) : KD l := by
  refine ⟨?_, ?_, ?_⟩
  · show fitT l = false
    unfold fitT
    rw [sp1_of_free (dig_no58 h)]
    simp
  · show fitD l = true
    unfold fitD
    rw [h, decide_eq_true h2]; rfl
  · show fitM l = false
    unfold fitM
    rw [dig_nolet h, Bool.false_and]
theorem KY_of {l : List Nat} (h : digB l = true) (h2 : l.length = 4) : KY l := by
  refine ⟨?_, ?_, ?_, ?_⟩
  · show fitT l = false
    unfold fitT
    rw [sp1_of_free (dig_no58 h)]
    simp
  · show fitD l = false
    unfold fitD
    rw [h, h2]; rfl
  · show fitM l = false
    unfold fitM
    rw [dig_nolet h, Bool.false_and]
  · show fitY l = true
    unfold fitY
    rw [h, h2]; rfl
def timeL (p q r : List Nat) : List Nat := joinL [58] [p, q, r]
theorem time_sp {p q r : List Nat} (hp : digB p = true) (hq : digB q = true) (hr : digB r = true) : sp1 58 (timeL p q r) = [p, q, r] :=
  sp1_joinL (by simp) fun l hl => by
    simp only [List.mem_cons, List.not_mem_nil, or_false] at hl
    rcases hl with rfl | rfl | rfl
    · exact dig_no58 hp
    · exact dig_no58 hq
    · exact dig_no58 hr
theorem time_mem (p q r : List Nat) : 58 ∈ timeL p q r := by
  show 58 ∈ p ++ ([58] ++ joinL [58] [q, r])
  simp
theorem KT_of {p q r : List Nat} (hp : digB p = true) (hq : digB q = true) (hr : digB r = true) (lp : p.length ≤ 2) (lq : q.length ≤ 2) (lr : r.length ≤ 2) : KT (timeL p q r) ∧ tokOk (timeL p q r) := by
  have nd : digB (timeL p q r) = false := by
    rw [Bool.eq_false_iff]
    exact fun h => dig_no58 h (time_mem p q r)
  refine ⟨⟨?_, ?_, ?_, ?_⟩, ⟨fun e => (by have := time_mem p q r; rw [e] at this; cases this), fun s hs => ?_⟩⟩
  · show fitT _ = true
    unfold fitT
    rw [time_sp hp hq hr]
    simp [hp, hq, hr, lp, lq, lr]
  · show fitD _ = false
    unfold fitD
    rw [nd, Bool.false_and]
  · show fitM _ = false
    unfold fitM onlyB
    have : (timeL p q r).all (fun c => decide (c ∈ lettL)) = false := by
      rw [List.all_eq_false]
      exact ⟨58, time_mem p q r, by decide +kernel⟩
    rw [this, Bool.false_and, Bool.false_and]
  · show fitY _ = false
    unfold fitY
    rw [nd, Bool.false_and]
  · have hs : s ∈ p ++ ([58] ++ (q ++ ([58] ++ r))) := hs
    simp only [List.mem_append, List.mem_singleton] at hs
    rcases hs with h | rfl | h | rfl | h
    · exact (dig_tok hp).2 s h
    · decide
    · exact (dig_tok hq).2 s h
    · decide
    · exact (dig_tok hr).2 s h
theorem tick_of {p q r d m y : List Nat} (hp : digB p = true) (hq : digB q = true) (hr : digB r = true) : tickI (timeL p q r) d m y =
    if 23 < valL p ∨ 59 < valL q ∨ 59 < valL r ∨ yearI y < 1601 then none else if ¬ (1 ≤ valL d ∧ valL d ≤ domI (yearI y) (monI m)) then none else if yearI y < 1970 then some 0 else
      some ((dbfI (yearI y) + dbmI (yearI y) (monI m) + valL d - 1) * 86400 + valL p * 3600 + valL q * 60 + valL r) := by
  unfold tickI
  rw [time_sp hp hq hr]
  rfl
def mon15 : List Str := ["jan", "Feb", "MAR", "april", "May", "jun", "JULY", "aug", "Sep", "oct", "Nov", "decem"]
def monB (i : Nat) (c : Str) : Bool := !fits 0 (tl c) && (!fits 1 (tl c) && (fits 2 (tl c) && (!fits 3 (tl c) && (decide (monI (tl c) = i + 1) && ((tl c).all tokB && (decide (tl c ≠ []) && ((tl c).all (· < 128) && decide (c.length ≤ 10))))))))
theorem mon15_ok : ∀ i, i < 12 → monB i (mon15.getD i "") = true := by decide +kernel
theorem mon15_at {c : Str} (h : c ∈ mon15) : ∃ i, i < 12 ∧ c = mon15.getD i "" ∧ KM (tl c) ∧ monI (tl c) = i + 1 ∧ tokOk (tl c) ∧ ascii c ∧ c.length ≤ 10 := by
  obtain ⟨i, hi⟩ := List.mem_iff_getElem?.mp h
  have hi2 : i < 12 := (List.getElem?_eq_some_iff.mp hi).1
  have e : mon15.getD i "" = c := by rw [List.getD_eq_getElem?_getD, hi]; rfl
  have := mon15_ok i hi2
  rw [e] at this
  unfold monB at this
  simp only [Bool.and_eq_true, Bool.not_eq_true', decide_eq_true_eq] at this
  obtain ⟨h0, h1, h2, h3, h4, h5, h6, h7, h8⟩ := this
  exact ⟨i, hi2, e.symm, ⟨h0, h1, h2, h3⟩, h4, ⟨h6, fun s hs => List.all_eq_true.mp h5 s hs⟩, ascii_lit h7, h8⟩
/-- drawn right tokens -/
structure G15 (a b c d : Str) (hh mm ss dd yy : Nat) : Prop where
  ea : tl a = timeL (numL hh) (numL mm) (48 :: numL ss)
  h1 : hh < 24
  h2 : mm < 60
  h3 : ss < 10
  eb : tl b = numL dd
  h4 : 1 ≤ dd ∧ dd ≤ 28
  ec : c ∈ mon15
  ed : tl d = numL yy
  h5 : 1601 ≤ yy ∧ yy ≤ 9999
theorem sec_ok : ∀ n, n < 10 → digB (48 :: numL n) = true ∧ (48 :: numL n).length ≤ 2 ∧ valL (48 :: numL n) = n := by
  have : ∀ n, n < 10 → (digB (48 :: numL n) && (decide ((48 :: numL n).length ≤ 2) && decide (NumText.digitsVal (48 :: numL n) = n))) = true := by decide +kernel
  intro n hn
  have := this n hn
  simp only [Bool.and_eq_true, decide_eq_true_eq] at this
  exact ⟨this.1, this.2.1, by unfold valL; rw [this.2.2]⟩
theorem dom_ge (y : Int) {m : Nat} (h1 : 1 ≤ m) (h2 : m ≤ 12) : 28 ≤ domI y m := by
  have key : ∀ i, i < 12 → (28 : Int) ≤ monD.getD i 0 := by decide
  unfold domI
  split
  · omega
  · exact key (m - 1) (by omega)
theorem year4 {l : List Nat} (h : l.length = 4) : yearI l = valL l := by unfold yearI; rw [if_pos (by omega)]
theorem G15.facts {a b c d : Str} {hh mm ss dd yy : Nat} (g : G15 a b c d hh mm ss dd yy) : KT (tl a) ∧ KD (tl b) ∧ KM (tl c) ∧ KY (tl d) ∧ (tokOk (tl a) ∧ tokOk (tl b) ∧ tokOk (tl c) ∧ tokOk (tl d)) ∧ yearI (tl d) = yy ∧ ∃ n, tickI (tl a) (tl b) (tl c) (tl d) = some n := by
  obtain ⟨a1, a2, a3⟩ := num2 (n := hh) (by have := g.h1; omega)
  obtain ⟨b1, b2, b3⟩ := num2 (n := mm) (by have := g.h2; omega)
  obtain ⟨c1, c2, c3⟩ := sec_ok ss g.h3
  obtain ⟨d1, d2, d3⟩ := num2 (n := dd) (by have := g.h4; omega)
  obtain ⟨e1, e2, e3⟩ := num4 (n := yy) (by have := g.h5; omega) (by have := g.h5; omega)
  obtain ⟨i, hi, _, km, em, tm, _⟩ := mon15_at g.ec
  obtain ⟨kt, tt⟩ := KT_of a1 b1 c1 a2 b2 c2
  have yv : yearI (tl d) = yy := by rw [g.ed, year4 e2, e3]
  refine ⟨by rw [g.ea]; exact kt, by rw [g.eb]; exact KD_of d1 d2, km, by rw [g.ed]; exact KY_of e1 e2, ⟨by rw [g.ea]; exact tt, by rw [g.eb]; exact dig_tok d1, tm, by rw [g.ed]; exact dig_tok e1⟩, yv, ?_⟩
  rw [g.ea, tick_of a1 b1 c1, yv, g.eb, d3, a3, b3, c3]
  have h1 := g.h1
  have h2 := g.h2
  have h3 := g.h3
  have h4 := g.h4
  have h5 := g.h5
  have hd := dom_ge (yy : Int) (m := monI (tl c)) (by omega) (by omega)
  rw [if_neg (by omega), if_neg (by omega)]
  split
  · exact ⟨_, rfl⟩
  · exact ⟨_, rfl⟩
end Kb
namespace Kb
open PySem PySem.Spec PyProof.Rows L2 TL
/-- a tuple as the target of a comprehension: the kit's frame is named -/
theorem pg_tupB {X : Cx} {pos : Pos} {es : List Expr} {k : Nat} {t : TGs} {n : Nat} (K' : PySem.W.Frag) (hK : X.K = K') (hc : X.calm = true) (h : PGs X es t)
    (hn : (assignEach es X.env).length = n := by rfl) (hst : (assignEach es X.env).findIdx? (·.1) = none := by rfl) : PG X (.Tuple es k pos) (gTup K' n t) := by
  subst hK
  exact pg_tup hc h hn hst
end Kb
namespace Kb
open PySem PySem.Spec PyProof.Rows L2 TL
section
variable {K : PySem.W.Frag} {a : Addr} {xs : List V}
/-- a comprehension over enumerate(list) -/
theorem lc_enum {g : TG} {tt : TT} {te : TE} {vs : List Nat} {σ : L2.St} {H1 : Hp} {D : Addr} {Qd : Hp → Prop} (Pv : Nat → Hp → Prop) (h0 : Pv 0 (upd H1 D (.lst []))) (hG : ∀ i H, i ≤ xs.length → Pv i H → SqL K H a xs)
    (hs : ∀ i x T H, xs[i]? = some x → Pv i H → H T = none → g (.ref T) (wipe σ vs) (upd H T (.tup [.int (i : Nat), x])) fun σ2 H2 => wipe σ2 vs = wipe σ vs ∧ tt σ2 H2 fun b H3 =>
      if b = true then te σ2 H3 fun y H4 => ∃ acc, H4 D = some (.lst acc) ∧ acc.length < sizeLine ∧ Pv (i + 1) (upd H4 D (.lst (acc ++ [y]))) else Pv (i + 1) H3) (hd : ∀ H, Pv xs.length H → Qd H) :
    ∃ W : Nat → Nat → Hp → Prop, (∃ m, W 0 m (upd H1 D (.lst []))) ∧ ∀ i m H, W i m H →
      ((Ite K a).stop i H ∧ Qd H) ∨ ((Ite K a).go i H ∧ ∃ Nx : Hp → Prop, (∀ H', Nx H' → ∃ m', m' < m ∧ W (i + 1) m' H') ∧ ∀ x H', (Ite K a).yld i H x H' → g x (wipe σ vs) H' fun σ2 H2 => wipe σ2 vs = wipe σ vs ∧ tt σ2 H2 fun b H3 =>
        if b = true then te σ2 H3 fun y H4 => ∃ acc, H4 D = some (.lst acc) ∧ acc.length < sizeLine ∧ Nx (upd H4 D (.lst (acc ++ [y]))) else Nx H3) := by
  refine lc_it walk_enum Pv h0 hG (fun i x H H' hi p y => ?_) hd
  obtain ⟨T, x, y, rfl, hT, rfl, h1, h2⟩ := y
  cases h1
  exact hs i y T H h2 p hT
end
end Kb
namespace Kb
open PySem PySem.Spec PyProof.Rows L2 TL
/-! ### tokens out of their range -/
def low3 (c : Str) : Str := cutS (Txt.lower c) none (some 3)
def mon30 : List Str := ["apr", "jun", "sep", "nov"]
def lowB (i : Nat) : Bool := (decide (low3 (mon15.getD i "") ∈ mon30) == decide (i ∈ [3, 5, 8, 10])) && ((decide (low3 (mon15.getD i "") = ("feb" : Str)) == decide (i = 1)) && decide ((mon15.getD i "").length ≤ 100))
theorem low_ok : ∀ i, i < 12 → lowB i = true := by decide +kernel
theorem most_dom (y : Int) : ∀ i, i < 12 → (if i = 1 then 28 + (if leapB y = true then 1 else 0) else if i ∈ [3, 5, 8, 10] then 30 else 31 : Int) = domI y (i + 1) := by
  intro i hi
  by_cases h1 : i = 1
  · subst h1
    unfold domI
    cases leapB y <;> decide
  · have key : ∀ i, i < 12 → i ≠ 1 → (if i ∈ [3, 5, 8, 10] then 30 else 31 : Int) = monD.getD i 0 := by decide
    rw [if_neg h1, key i hi h1]
    unfold domI
    rw [if_neg (by omega)]; rfl
theorem most_ok {c : Str} (h : c ∈ mon15) : (Txt.lower c).length ≤ 1000 ∧ ∃ q f : Bool, decide (low3 c ∈ mon30) = q ∧ decide (V.str (low3 c) = V.str "feb") = f ∧ ∀ y, (if f = true then 28 + (if leapB y = true then 1 else 0) else if q = true then 30 else 31 : Int) = domI y (monI (tl c)) := by
  obtain ⟨i, hi, e, _, em, _, ac, lc⟩ := mon15_at h
  have := low_ok i hi
  unfold lowB at this
  rw [← e] at this
  simp only [Bool.and_eq_true, beq_iff_eq, decide_eq_true_eq] at this
  obtain ⟨h1, h2, _⟩ := this
  refine ⟨by rw [len_tl, lower_tl ac, List.length_map, ← len_tl]; omega, _, decide (i = 1), h1, ?_, fun y => ?_⟩
  · rw [← h2, Bool.eq_iff_iff, decide_eq_true_eq, decide_eq_true_eq, V.str.injEq]
  · rw [em, ← most_dom y i hi]
    simp only [decide_eq_true_eq]
def Bey (a b c e : Str) (i : Nat) (x : Str) : Prop := tokOk (tl x) ∧ x.length ≤ 10 ∧ ascii x ∧
  ((i = 0 ∧ KT (tl x) ∧ tickI (tl x) (tl b) (tl c) (tl e) = none) ∨ (i = 1 ∧ KD (tl x) ∧ tickI (tl a) (tl x) (tl c) (tl e) = none) ∨ (i = 3 ∧ KY (tl x) ∧ tickI (tl a) (tl b) (tl c) (tl x) = none))
theorem low3_len (c : Str) : (low3 c).length ≤ 3 := by
  have := cut_len (x := Txt.lower c) (lo := none) (hi := some 3)
  rw [len_tl]
  unfold low3
  rw [cutS_to _ (by decide)]
  show ((tl (Txt.lower c)).take 3).length ≤ 3
  rw [List.length_take]; omega
theorem dig_ascii {l : List Nat} (h : digB l = true) : ∀ s ∈ l, s < 128 := fun s hs => by have := (digB_iff.mp h).1 s hs; omega
theorem time_ascii {p q r : List Nat} (hp : digB p = true) (hq : digB q = true) (hr : digB r = true) : ∀ s ∈ timeL p q r, s < 128 := fun s hs => by
  have hs : s ∈ p ++ ([58] ++ (q ++ ([58] ++ r))) := hs
  simp only [List.mem_append, List.mem_singleton] at hs
  rcases hs with h | rfl | h | rfl | h
  · exact dig_ascii hp s h
  · decide
  · exact dig_ascii hq s h
  · decide
  · exact dig_ascii hr s h
theorem bey_time {a b c e x : Str} {p q r : List Nat} (hp : digB p = true) (hq : digB q = true) (hr : digB r = true) (lp : p.length ≤ 2) (lq : q.length ≤ 2) (lr : r.length ≤ 2) (bad : 23 < valL p ∨ 59 < valL q ∨ 59 < valL r) (et : tl x = timeL p q r) : Bey a b c e 0 x := by
  obtain ⟨kt, tt⟩ := KT_of hp hq hr lp lq lr
  refine ⟨by rw [et]; exact tt, ?_, fun s hs => time_ascii hp hq hr s (by rw [← et]; exact hs), .inl ⟨rfl, by rw [et]; exact kt, ?_⟩⟩
  · rw [len_tl, et]
    show (p ++ ([58] ++ (q ++ ([58] ++ r)))).length ≤ 10
    simp only [List.length_append, List.length_singleton]
    omega
  · rw [et, tick_of hp hq hr, if_pos (by omega)]
theorem bey_day {a b c e x : Str} {hh mm ss dd yy : Nat} (g : G15 a b c e hh mm ss dd yy) (hx : digB (tl x) = true) (lx : (tl x).length ≤ 2) (bad : valL (tl x) < 1 ∨ domI (yy : Int) (monI (tl c)) < valL (tl x)) : Bey a b c e 1 x := by
  obtain ⟨a1, _⟩ := num2 (n := hh) (by have := g.h1; omega)
  obtain ⟨b1, _⟩ := num2 (n := mm) (by have := g.h2; omega)
  obtain ⟨c1, _⟩ := sec_ok ss g.h3
  obtain ⟨_, _, _, _, _, yv, _⟩ := g.facts
  refine ⟨dig_tok hx, by rw [len_tl]; omega, fun s hs => dig_ascii hx s hs, .inr (.inl ⟨rfl, KD_of hx lx, ?_⟩)⟩
  rw [g.ea, tick_of a1 b1 c1, yv]
  split
  · rfl
  · rw [if_pos (by omega)]
theorem bey_year {a b c e x : Str} {hh mm ss dd yy : Nat} (g : G15 a b c e hh mm ss dd yy) (hx : digB (tl x) = true) (lx : (tl x).length = 4) (bad : valL (tl x) < 1601) : Bey a b c e 3 x := by
  obtain ⟨a1, _⟩ := num2 (n := hh) (by have := g.h1; omega)
  obtain ⟨b1, _⟩ := num2 (n := mm) (by have := g.h2; omega)
  obtain ⟨c1, _⟩ := sec_ok ss g.h3
  refine ⟨dig_tok hx, by rw [len_tl]; omega, fun s hs => dig_ascii hx s hs, .inr (.inr ⟨rfl, KY_of hx lx, ?_⟩)⟩
  rw [g.ea, tick_of a1 b1 c1, year4 lx, if_pos (by omega)]
end Kb
namespace Kb
open PySem PySem.Spec PyProof.Rows L2 TL
theorem dom_le (y : Int) {m : Nat} (h1 : 1 ≤ m) (h2 : m ≤ 12) : domI y m ≤ 31 := by
  have key : ∀ i, i < 12 → monD.getD i 0 ≤ (31 : Int) := by decide
  unfold domI
  split
  · omega
  · exact key (m - 1) (by omega)
theorem nlog (m : Nat) (h : m < 20000) : ((m : Nat) : Int).natAbs.log2 < 1920 := by
  have : ((m : Nat) : Int).natAbs < 2 ^ 15 := by rw [Int.natAbs_natCast]; omega
  exact Nat.lt_of_lt_of_le (PySem.Flt.log2_lt_of (by decide) this) (by decide)
end Kb
namespace Kb
open PySem PySem.Spec PyProof.Rows L2 TL
/-! ### tokens of another form -/
def othL : List (List Str) := [["8:49", "1:2:3:4", "108:49:37", "8::37", ":1:1", "8:49:", "8:049:7", "8:49:37a", "8:49:37:", ":8:49:37", "a8:49:37", "8:4:9pm"], ["6th", "x6", "123", "1a", "006", "1st"],
  ["no", "nv", "nov1", "jannn0", "j", "xyz", "ma", "1ov", "sunday"], ["199", "19945", "1", "1994a", "x1994", "199400"]]
def othB (i : Nat) (x : Str) : Bool := (tl x).all tokB && (decide (tl x ≠ []) && (decide (x.length ≤ 10) && ((tl x).all (· < 128) && (!fits 0 (tl x) && (!fits 2 (tl x) && (!fits 3 (tl x) && (decide (i = 3) || !fits 1 (tl x))))))))
theorem oth_ok : ∀ i, i < 4 → ∀ x ∈ othL.getD i [], othB i x = true := by decide +kernel
structure Oth (i : Nat) (x : Str) : Prop where
  tok : tokOk (tl x)
  len : x.length ≤ 10
  asc : ascii x
  x0 : fits 0 (tl x) = false
  x2 : fits 2 (tl x) = false
  x3 : fits 3 (tl x) = false
  x1 : i = 3 ∨ fits 1 (tl x) = false
theorem oth_of {i : Nat} (hi : i < 4) {x : Str} (hx : x ∈ othL.getD i []) : Oth i x := by
  have := oth_ok i hi x hx
  unfold othB at this
  simp only [Bool.and_eq_true, Bool.or_eq_true, Bool.not_eq_true', decide_eq_true_eq] at this
  obtain ⟨h1, h2, h3, h4, h5, h6, h7, h8⟩ := this
  exact ⟨⟨h2, fun s hs => List.all_eq_true.mp h1 s hs⟩, h3, ascii_lit h4, h5, h6, h7, h8⟩
end Kb
namespace Kb
open PySem PySem.Spec PyProof.Rows L2 TL
/-- a token of a short joined text -/
structure Tk (t : Str) : Prop where
  tok : tokOk (tl t)
  asc : ascii t
  len : t.length ≤ 40
theorem Bey.tk {a b c e x : Str} {i : Nat} (h : Bey a b c e i x) : Tk x := ⟨h.1, h.2.2.1, by have := h.2.1; omega⟩
theorem Oth.tk {i : Nat} {x : Str} (h : Oth i x) : Tk x := ⟨h.tok, h.asc, by have := h.len; omega⟩
theorem G15.tks {a b c d : Str} {hh mm ss dd yy : Nat} (g : G15 a b c d hh mm ss dd yy) : ∀ t ∈ [a, b, c, d], Tk t ∧ t.length ≤ 10 := by
  obtain ⟨a1, a2, _⟩ := num2 (n := hh) (by have := g.h1; omega)
  obtain ⟨b1, b2, _⟩ := num2 (n := mm) (by have := g.h2; omega)
  obtain ⟨c1, c2, _⟩ := sec_ok ss g.h3
  obtain ⟨d1, d2, _⟩ := num2 (n := dd) (by have := g.h4; omega)
  obtain ⟨e1, e2, _⟩ := num4 (n := yy) (by have := g.h5; omega) (by have := g.h5; omega)
  obtain ⟨i, hi, _, km, em, tm, ac, lc⟩ := mon15_at g.ec
  obtain ⟨kt, tt⟩ := KT_of a1 b1 c1 a2 b2 c2
  intro t ht
  simp only [List.mem_cons, List.not_mem_nil, or_false] at ht
  rcases ht with rfl | rfl | rfl | rfl
  · have l : t.length ≤ 8 := by
      rw [len_tl, g.ea]
      show (numL hh ++ ([58] ++ (numL mm ++ ([58] ++ (48 :: numL ss))))).length ≤ 8
      simp only [List.length_append, List.length_singleton, List.length_cons, List.length_nil] at c2 ⊢
      omega
    exact ⟨⟨by rw [g.ea]; exact tt, fun s hs => time_ascii a1 b1 c1 s (by rw [← g.ea]; exact hs), by omega⟩, by omega⟩
  · have l : t.length ≤ 2 := by rw [len_tl, g.eb]; exact d2
    exact ⟨⟨by rw [g.eb]; exact dig_tok d1, fun s hs => dig_ascii d1 s (by rw [← g.eb]; exact hs), by omega⟩, by omega⟩
  · exact ⟨⟨tm, ac, by omega⟩, lc⟩
  · have l : t.length = 4 := by rw [len_tl, g.ed]; exact e2
    exact ⟨⟨by rw [g.ed]; exact dig_tok e1, fun s hs => dig_ascii e1 s (by rw [← g.ed]; exact hs), by omega⟩, by omega⟩
def sig15 : List Str := [" ", "-", ", ", "/"]
def sigB (s : Str) : Bool := decide (tl s ≠ []) && ((tl s).all (fun c => !tokB c && decide (c < 128)) && decide (s.length ≤ 2))
structure Sg (s : Str) : Prop where
  ne : tl s ≠ []
  no : ∀ c ∈ tl s, tokB c = false
  asc : ascii s
  len : s.length ≤ 2
theorem sg_of : ∀ {s : Str}, s ∈ sig15 → Sg s := by
  have key : ∀ s ∈ sig15, sigB s = true := by decide +kernel
  intro s hs
  have := key s hs
  unfold sigB at this
  simp only [Bool.and_eq_true, decide_eq_true_eq, List.all_eq_true, Bool.not_eq_true'] at this
  exact ⟨this.1, fun c hc => (this.2.1 c hc).1, fun c hc => (this.2.1 c hc).2, this.2.2⟩
theorem join_ascii {s : Str} {T : List Str} (hs : ascii s) (hT : ∀ t ∈ T, ascii t) : ascii (Txt.join s T) := by
  have : ∀ T : List Str, (∀ t ∈ T, ascii t) → ∀ c ∈ joinL (tl s) (T.map tl), c < 128 := by
    intro T
    induction T with
    | nil => intro _ c hc; cases hc
    | cons t r ih =>
      intro h c hc
      cases r with
      | nil => exact h t (List.mem_cons_self ..) c hc
      | cons u r =>
        have hc : c ∈ tl t ++ (tl s ++ joinL (tl s) ((u :: r).map tl)) := hc
        rcases List.mem_append.mp hc with q | q
        · exact h t (List.mem_cons_self ..) c q
        · rcases List.mem_append.mp q with q | q
          · exact hs c q
          · exact ih (fun x hx => h x (List.mem_cons_of_mem _ hx)) c q
  intro c hc
  rw [join_tl] at hc
  exact this T hT c hc
/-- what is joined is short -/
theorem join_len {s : Str} {T : List Str} (hs : s.length ≤ 2) (hT : ∀ t ∈ T, t.length ≤ 40) (n : T.length ≤ 20) : (T.map (·.length)).sum + T.length * s.length ≤ 1000 ∧ (Txt.join s T).length ≤ 1000 := by
  have h1 : (T.map (·.length)).sum ≤ T.length * 40 := PySem.StrLaws.sumLen_le (B := 40) T hT
  have h2 : T.length * s.length ≤ T.length * 2 := Nat.mul_le_mul_left _ hs
  have h3 : ∀ T : List Str, (joinL (tl s) (T.map tl)).length ≤ (T.map (·.length)).sum + T.length * s.length := by
    intro T
    induction T with
    | nil => exact Nat.zero_le _
    | cons t r ih =>
      cases r with
      | nil =>
        show (tl t).length ≤ (t.length + 0) + 1 * s.length
        rw [← len_tl]; omega
      | cons u r =>
        show (tl t ++ (tl s ++ joinL (tl s) ((u :: r).map tl))).length ≤ _
        rw [List.length_append, List.length_append, ← len_tl, ← len_tl, List.map_cons (l := u :: r), List.sum_cons, List.length_cons, Nat.succ_mul]
        omega
  have h4 := h3 T
  have h5 : (Txt.join s T).length = (joinL (tl s) (T.map tl)).length := by rw [len_tl, join_tl]
  omega
end Kb
namespace Kb
open PySem PySem.Spec PyProof.Rows L2 TL
def some15 : List Str := ["", " ", "GMT", "1", "31 feb 2000 1:1:1", "29 feb 1900 1:1:1", "29 feb 2100 1:1:1", "30 feb 2024 0:0:0", "6 nov 94 8:49:37:", "6th nov 1994 8:49:37"]
theorem some15_ok : ∀ s ∈ some15, s.length ≤ 100 ∧ (tl s).all (· < 128) = true ∧ dateR (tl s) = none := by decide +kernel
theorem leap15 : dateR (tl ("29 feb 2000 0:0:0" : Str)) = some 951782400 := by decide +kernel
end Kb

namespace Kb
open PySem PySem.Spec PyProof.Rows L2 TL
/-! ### the calendar -/
def ydI (y : Int) : Int := if leapB y = true then 366 else 365
theorem leap_iff (y : Int) : leapB y = true ↔ y % 4 = 0 ∧ (y % 100 ≠ 0 ∨ y % 400 = 0) := by
  unfold leapB
  simp only [Bool.and_eq_true, Bool.or_eq_true, decide_eq_true_eq]
theorem dto_succ (y : Int) : dtoI (y + 1) = dtoI y + ydI y := by
  unfold dtoI ydI
  by_cases h : leapB y = true
  · rw [if_pos h]
    rw [leap_iff] at h
    omega
  · rw [if_neg h]
    rw [leap_iff] at h
    omega
theorem dto_400 (y r : Int) : dtoI (y + 400 * r) = dtoI y + 146097 * r := by
  unfold dtoI
  omega
theorem dto_years (a : Int) : ∀ n : Nat, ((List.range n).map fun i => ydI (a + (i : Nat))).sum = dtoI (a + (n : Nat)) - dtoI a
  | 0 => by simp
  | n + 1 => by
    rw [List.range_succ, List.map_append, List.sum_append, dto_years a n]
    have := dto_succ (a + (n : Nat))
    simp only [List.map_cons, List.map_nil, List.sum_cons, List.sum_nil]
    rw [show a + ((n + 1 : Nat) : Int) = a + (n : Nat) + 1 by omega, this]
    omega
theorem dto_base : dtoI 1970 - dtoI 1601 = 134774 := by decide
/-- the law's count of the days before a year -/
theorem dto_walk {y : Int} (h : 1601 ≤ y) : 146097 * ((y - 1601) / 400) + ((List.range (y - (1601 + 400 * ((y - 1601) / 400))).toNat).map fun i => ydI (1601 + 400 * ((y - 1601) / 400) + (i : Nat))).sum - 134774 = dbfI y := by
  rw [dto_years, dto_400]
  have h2 : 1601 + 400 * ((y - 1601) / 400) + ((y - (1601 + 400 * ((y - 1601) / 400))).toNat : Int) = y := by omega
  rw [h2]
  unfold dbfI
  have := dto_base
  omega
def monsI (y : Int) : List Int := [31, 28 + (if leapB y = true then 1 else 0), 31, 30, 31, 30, 31, 31, 30, 31, 30, 31]
theorem mons_at (y : Int) : ∀ i, i < 12 → (monsI y)[i]? = some (domI y (i + 1)) := by
  intro i hi
  unfold monsI domI
  by_cases h1 : i = 1
  · subst h1
    cases leapB y <;> rfl
  · have hd : (if i + 1 = 2 ∧ leapB y = true then 29 else monD.getD (i + 1 - 1) 0 : Int) = monD.getD i 0 := if_neg fun h => h1 (by omega)
    rw [hd]
    have key : ∀ i, i < 12 → i ≠ 1 → ∀ x : Int, ([31, x, 31, 30, 31, 30, 31, 31, 30, 31, 30, 31] : List Int)[i]? = some (monD.getD i 0) := by
      intro i hi h1 x
      match i, hi, h1 with
      | 0, _, _ => rfl
      | 2, _, _ => rfl
      | 3, _, _ => rfl
      | 4, _, _ => rfl
      | 5, _, _ => rfl
      | 6, _, _ => rfl
      | 7, _, _ => rfl
      | 8, _, _ => rfl
      | 9, _, _ => rfl
      | 10, _, _ => rfl
      | 11, _, _ => rfl
    exact key i hi h1 _
theorem mons_take (y : Int) : ∀ k, k ≤ 12 → ((monsI y).take k).sum = ((List.range k).map fun i => domI y (i + 1)).sum
  | 0, _ => rfl
  | k + 1, hk => by
    rw [List.take_succ, mons_at y k (by omega), List.range_succ, List.map_append, List.sum_append, List.sum_append, mons_take y k (by omega)]
    rfl
theorem mons_dbm (y : Int) {m : Nat} (h : m ≤ 13) : ((monsI y).take (m - 1)).sum = dbmI y m := mons_take y (m - 1) (by omega)
end Kb
namespace Kb
open PySem PySem.Spec PyProof.Rows L2 TL
theorem dpAll_nats {K : PySem.W.Frag} {H : Hp} : ∀ ns : List Nat, DpAll K H (ns.map fun n : Nat => V.int (n : Int)) (ns.map fun n : Nat => PyData.int (n : Int))
  | [] => .nil
  | n :: ns => .cons (.int _) (dpAll_nats ns)
theorem nats_eqv : ∀ ns : List Nat, PyData.eqv (.list (ns.map fun n : Nat => PyData.int (n : Int))) (.list []) = decide (ns = [])
  | [] => by simp [PyData.eqv, PyData.eqvAll]
  | n :: ns => by simp [PyData.eqv, PyData.eqvAll]
theorem lay_nats : ∀ ns : List Nat, PyData.canLayAll0 (ns.map fun n : Nat => PyData.int (n : Int)) = true ∧ PyData.depthAll (ns.map fun n : Nat => PyData.int (n : Int)) = 0
  | [] => by simp [PyData.canLayAll0, PyData.depthAll]
  | n :: ns => by
    obtain ⟨h1, h2⟩ := lay_nats ns
    rw [List.map_cons, PyData.canLayAll0, PyData.depthAll, h1, h2]
    simp [PyData.canLay0, PyData.depth]
theorem shaped_nats (ns : List Nat) : SeqAt.shaped (.list (ns.map fun n : Nat => PyData.int (n : Int))) = true := by
  obtain ⟨h1, h2⟩ := lay_nats ns
  unfold SeqAt.shaped
  rw [PyData.canLay0, h1, PyData.depth, h2]; rfl
end Kb
namespace Kb
open PySem PySem.Spec PyProof.Rows L2 TL
theorem perm_erase {α : Type} : ∀ (l : List α) (i : Nat) (h : i < l.length), (l[i] :: l.eraseIdx i).Perm l
  | x :: l, 0, _ => List.Perm.refl _
  | x :: l, i + 1, h => by
    have h : i < l.length := by simpa using h
    have ih := perm_erase l i h
    show (l[i] :: x :: l.eraseIdx i).Perm (x :: l)
    exact (List.Perm.swap x l[i] _).trans (List.Perm.cons x ih)
theorem ixN_nat {n i : Nat} (h : i < n) : ixN n (i : Int) = some i := by
  unfold ixN
  rw [if_pos (by omega), if_pos (by omega), Int.toNat_natCast]
end Kb
namespace Kb
open PySem PySem.Spec PyProof.Rows L2 TL
theorem erase_map {α β : Type} (f : α → β) : ∀ (l : List α) (i : Nat), (l.map f).eraseIdx i = (l.eraseIdx i).map f
  | [], _ => rfl
  | _ :: _, 0 => rfl
  | x :: l, i + 1 => by
    show f x :: (l.map f).eraseIdx i = f x :: (l.eraseIdx i).map f
    rw [erase_map f l i]
theorem first_at {a : Nat} : ∀ {l : List Nat}, a ∈ l → ∃ j : Nat, l[j]? = some a ∧ ∀ (m z : Nat), m < j → l[m]? = some z → z ≠ a
  | [], h => by cases h
  | x :: l, h => by
    by_cases e : x = a
    · exact ⟨0, by rw [e]; rfl, fun m z hm _ => absurd hm (Nat.not_lt_zero m)⟩
    · obtain ⟨j, h1, h2⟩ := first_at (a := a) (l := l) ((List.mem_cons.mp h).resolve_left fun z => e z.symm)
      refine ⟨j + 1, h1, fun m z hm hz => ?_⟩
      cases m with
      | zero =>
        cases (show some x = some z from hz)
        exact e
      | succ m => exact h2 m z (by omega) hz
end Kb
namespace Kb
open PySem PySem.Spec PyProof.Rows L2 TL
theorem perm_set0 {α : Type} {a b : α} : ∀ {l : List α} {j : Nat}, l[j]? = some b → (b :: l.set j a).Perm (a :: l)
  | [], j, h => by cases h
  | x :: l, 0, h => by
    cases (show some x = some b from h)
    exact List.Perm.swap ..
  | x :: l, j + 1, h => by
    have ih := perm_set0 (a := a) (b := b) (l := l) (j := j) h
    show (b :: x :: l.set j a).Perm (a :: x :: l)
    exact ((List.Perm.swap ..).trans (List.Perm.cons x ih)).trans (List.Perm.swap ..)
theorem perm_swap {α : Type} {a b : α} : ∀ {l : List α} {i j : Nat}, i < j → l[i]? = some a → l[j]? = some b → ((l.set j a).set i b).Perm l
  | [], i, j, _, h, _ => by cases h
  | x :: l, 0, j + 1, _, h1, h2 => by
    have e : x = a := Option.some.inj h1
    rw [e]
    show (b :: l.set j a).Perm (a :: l)
    exact perm_set0 h2
  | x :: l, i + 1, j + 1, hij, h1, h2 => by
    show (x :: ((l.set j a).set i b)).Perm (x :: l)
    exact List.Perm.cons x (perm_swap (by omega) h1 h2)
end Kb
namespace Kb
open PySem PySem.Spec PyProof.Rows L2 TL
theorem monB_facts {i : Nat} {c : Str} (h : monB i c = true) : KM (tl c) ∧ monI (tl c) = i + 1 ∧ tokOk (tl c) ∧ ascii c ∧ c.length ≤ 10 := by
  unfold monB at h
  simp only [Bool.and_eq_true, Bool.not_eq_true', decide_eq_true_eq] at h
  obtain ⟨h0, h1, h2, h3, h4, h5, h6, h7, h8⟩ := h
  exact ⟨⟨h0, h1, h2, h3⟩, h4, ⟨h6, fun s hs => List.all_eq_true.mp h5 s hs⟩, ascii_lit h7, h8⟩
def mon12 : List Str := ["january", "february", "march", "april", "may", "june", "july", "august", "september", "october", "november", "december"]
def vars1 (w : Str) : List Str := [w, cutS w none (some 3), cutS w none (some 3), cutS w none (some 4), cutS w none (some 3) ++ ("xyz" : Str)]
def vars2 (w : Str) : List Str := [w, Txt.upper w, cutS (Txt.upper w) none (some 1) ++ cutS w (some 1) none, cutS (Txt.upper w) none (some 1) ++ cutS w (some 1) (some 2) ++ cutS (Txt.upper w) (some 2) none]
def vars3 (w : Str) : Str := cutS w none (some 2) ++ Txt.upper (cutS w (some 2) none)
theorem vars_ok : ∀ i, i < 12 → ∀ w ∈ vars1 (mon12.getD i ""), w.length ≤ 10 ∧ (Txt.upper w).length ≤ 10 ∧ (Txt.upper (cutS w (some 2) none)).length ≤ 10 ∧ monB i (vars3 w) = true ∧ ∀ x ∈ vars2 w, monB i x = true := by decide +kernel
end Kb
namespace Kb
open PySem PySem.Spec PyProof.Rows L2 TL
def yrB (n : Nat) : Bool := digB ((numL (1970 + n)).drop 2) && (decide (((numL (1970 + n)).drop 2).length = 2) && decide (yearI ((numL (1970 + n)).drop 2) = (1970 + n : Nat)))
theorem yr_ok : ∀ n, n < 100 → yrB n = true := by decide +kernel
theorem yr2 {y : Nat} (h1 : 1970 ≤ y) (h2 : y ≤ 2069) : digB ((numL y).drop 2) = true ∧ ((numL y).drop 2).length = 2 ∧ yearI ((numL y).drop 2) = (y : Nat) := by
  have := yr_ok (y - 1970) (by omega)
  unfold yrB at this
  rw [show 1970 + (y - 1970) = y by omega] at this
  simp only [Bool.and_eq_true, decide_eq_true_eq] at this
  exact ⟨this.1, this.2.1, this.2.2⟩
end Kb
namespace Kb
open PySem PySem.Spec PyProof.Rows L2 TL
/-! ### texts with tokens between other signs -/
/-- L ends no token: its tokens are T whatever stands behind -/
def Clo (L : List Nat) (T : List (List Nat)) : Prop := ∀ R, toks [] (L ++ R) = T ++ toks [] R
theorem Clo.nil : Clo [] [] := fun R => rfl
theorem Clo.app {L M : List Nat} {T U : List (List Nat)} (a : Clo L T) (b : Clo M U) : Clo (L ++ M) (T ++ U) := fun R => by
  rw [List.append_assoc, a, b, List.append_assoc]
theorem Clo.tok {t s : List Nat} (ht : tokOk t) (hs : s ≠ []) (h : ∀ c ∈ s, tokB c = false) : Clo (t ++ s) [t] := fun R => by
  rw [List.append_assoc, toks_run t [] _ ht.2, List.nil_append, toks_sep ht.1 hs h]; rfl
theorem Clo.sep {s : List Nat} (h : ∀ c ∈ s, tokB c = false) : Clo s [] := fun R => by rw [toks_skip s R h]; rfl
theorem Clo.sp {t : List Nat} (ht : tokOk t) : Clo (t ++ [32]) [t] := Clo.tok ht (by simp) (by decide +kernel)
def idleB (l : List Nat) : Bool := !fits 0 l && (!fits 1 l && (!fits 2 l && !fits 3 l))
def sign14 : List Str := [" ", "-", ", ", "/", "  ", "\t", " (", ")", "_", ".", "+", "=", ";", "\n", " '", "\"", "[", "]", "#", "&", "@", "~", "\\", "|", "<", "?!", "$", "{}", "`^", "*"]
def pre14 : List Str := ["", " ", "Sun, ", "(", "xyz "]
def idle14 : List Str := ["", "", "", "GMT ", "123 ", "12:30 ", "no ", "a1 ", "1:2:3:4 ", ": ", "Mon "]
def end14 : List Str := ["", "GMT", "GMT", "8:8:8 7 May 1999", "5", "99 99", "utc 25:61:61"]
def sg14B (s : Str) : Bool := decide (tl s ≠ []) && ((tl s).all (fun c => !tokB c && decide (c < 128)) && decide (s.length ≤ 3))
theorem sg14_ok : ∀ s ∈ sign14, sg14B s = true := by decide +kernel
theorem sg14 {s : Str} (h : s ∈ sign14) : tl s ≠ [] ∧ (∀ c ∈ tl s, tokB c = false) ∧ ascii s ∧ s.length ≤ 3 := by
  have := sg14_ok s h
  unfold sg14B at this
  simp only [Bool.and_eq_true, decide_eq_true_eq, List.all_eq_true, Bool.not_eq_true'] at this
  exact ⟨this.1, fun c hc => (this.2.1 c hc).1, fun c hc => (this.2.1 c hc).2, this.2.2⟩
def shB (s : Str) : Bool := (tl s).all (· < 128) && decide (s.length ≤ 20)
def idlB (s : Str) : Bool := let t := (tl s).takeWhile tokB; let r := (tl s).dropWhile tokB
  (decide (t = []) && r.all (fun c => !tokB c)) || (idleB t && (!r.isEmpty && r.all (fun c => !tokB c)))
theorem idl_ok : (∀ s ∈ pre14, idlB s = true ∧ shB s = true) ∧ (∀ s ∈ idle14, idlB s = true ∧ shB s = true) ∧ (∀ s ∈ end14, shB s = true) := by decide +kernel
theorem idl {s : Str} (h : idlB s = true) : ∃ T, Clo (tl s) T ∧ ∀ t ∈ T, idleB t = true := by
  unfold idlB at h
  have e : (tl s).takeWhile tokB ++ (tl s).dropWhile tokB = tl s := List.takeWhile_append_dropWhile
  have ht : ∀ c ∈ (tl s).takeWhile tokB, tokB c = true := fun c hc => by
    have := List.all_takeWhile (p := tokB) (l := tl s)
    exact List.all_eq_true.mp this c hc
  generalize (tl s).takeWhile tokB = t at h e ht
  generalize (tl s).dropWhile tokB = r at h e
  simp only [Bool.or_eq_true, Bool.and_eq_true, decide_eq_true_eq, List.all_eq_true, Bool.not_eq_true', List.isEmpty_eq_false_iff] at h
  rw [← e]
  rcases h with ⟨rfl, h⟩ | ⟨h1, h2, h3⟩
  · exact ⟨[], Clo.sep h, fun t ht => by cases ht⟩
  · by_cases hn : t = []
    · subst hn
      exact ⟨[], Clo.sep h3, fun t ht => by cases ht⟩
    · exact ⟨[t], Clo.tok ⟨hn, ht⟩ h2 h3, fun x hx => by rw [List.mem_singleton.mp hx]; exact h1⟩
end Kb

namespace Kb
open PySem PySem.Spec PyProof.Rows L2 TL
/-! ### defs whose body begins with a token out: str.replace of written texts -/
section
variable {X : Cx} {st : List Stmt} {t : TS}
theorem psst_nox (h : PSsT X.nox st t) : PSsT X st t := fun pins s σ H D h0 I hw =>
  wpAny_mono (h pins s σ H D h0 (I.wish _) hw) (fun _ _ q => q.unwish) fun _ _ z => False.elim z
theorem pst_set {i : Nat} {x : Str} {e : Expr} {te : TE} {pos' pos : Pos} (hN : X.N.Nodup) (hi : X.N[i]? = some x) (hx : Loc X.env.scope x) (he : PET X e te) (hs : swapsWith e (some (.Name x pos')) pos.line X.env = pure false := by rfl)
    (hf : X.fn x = true ∨ X.env.scope.names.lookup x = some .local := by first | exact .inl rfl | exact .inr rfl | assumption) :
    PST X (.Assign [.Name x pos'] e pos) (tAsg te (gName i)) := by
  intro pins s σ H D h0 I h
  refine wpAny_Assign_Name (thn (he pins s σ H _ h0 I h) fun v s1 ⟨y, H1, I1, r1, q1⟩ => ?_) hs
  exact store_ok I1 hN hi hx r1 (fun s2 I2 => ⟨_, H1, I2, q1⟩) hf
theorem pet_split {o e : Expr} {to te : TE} {apos pos : Pos} (ho : PET X o to) (he : PE X e te) (hs : starEach [e] X.env = [(false, eval e X.env)] := by rfl) (hbase : attributeBase o "split" X.env (eval o X.env) = eval o X.env := by rfl) (hline : (apos.endLine == pos.line) = true := by rfl) :
    PET X (.Call (.Attribute o "split" apos) [e] [] pos) (tM1 (fun x xs H Q => ∃ a b, x = .str a ∧ xs = [.str b] ∧ (b.length == 0) = false ∧ a.length + 2 ≤ sizeLine ∧ rNewStrs (Txt.split a b) H Q) to te) := by
  intro pins s σ H Q h0 I h
  refine PySem.Call_method1 hbase hs hline (thn (ho pins s σ H _ h0 I h) fun v s1 ⟨x, H1, I1, r1, q1⟩ => ?_)
  obtain ⟨⟨a, rfl⟩, q1⟩ := q1
  obtain ⟨ta, rfl⟩ := r1
  refine ⟨"str", _, F.plainAttrs_str, F.slot_str_split, F.type_str_split, typeIs_str _ _ _, (fun _ e => nomatch e), Calls.callWith_builtin rfl (Calls.evalArgs_plain (Calls.spliced_cons ?_))⟩
  exact thn (he.run pins s1 σ H1 _ I1 q1) fun u s2 ⟨y, H2, I2, r2, q2⟩ => Calls.spliced_nil (mt_split pins s2 σ H2 (.str a) [y] (.str a ta) [u] Q I2 ⟨ta, rfl⟩ (.cons r2 .nil) q2)
end
section
variable {M : Model} {A : Around} {E : Value → Shared → Prop} {s : Shared}
theorem wpAny_newEnvT {scope : Scope} {globals : Addr} {binds : List (Str × Value)} {n : Str} {v : Value} {r : List (Str × Value)} {qual : Str} {func : Option Addr} {code : Value} {builtins : Addr} {Q : Env → Shared → Prop}
    (hk : scope.kind = .function) (hb : binds = (n, v) :: r) (hn : scope.names.lookup n = some .local)
    (hkind : ∀ x ∈ binds, scope.names.lookup x.1 = some .local ∨ (scope.names.lookup x.1 = some .cell ∧ ((cellsFrom (s.heap.objs.size + 1) scope.names []).lookup x.1).isSome = true))
    (hQ : ∀ env, env = newEnv scope s.heap.objs.size globals (cellsFrom (s.heap.objs.size + 1) scope.names []) qual func code none builtins →
      ∀ s', InCallC s env.locals (bindL env.kindOf binds fun _ => none) env.cells (bindC env.kindOf binds fun _ => none) s' → 1 ≤ s'.toks → Q env s') :
    wpAny M A (newFunctionEnv scope globals [] binds qual func code none builtins) Q E s := by
  simp only [newFunctionEnv, Option.isSome_none, Bool.false_eq_true, if_false]
  refine wpAny_bind (wpAny_alloc ?_)
  refine wpAny_bind (wpAny_layCells _ (fun name kind cells => by cases hkc : kind == NameKind.cell <;> simp [hkc]) _ _ _ _ ?_)
  have ok := cellsFrom_ok scope.names (s.heap.push { cls := .type "frame", data := .dict #[] }) (s.heap.objs.size + 1) [] ⟨fun _ _ hm => (nomatch hm), List.Pairwise.nil⟩ (by rw [Heap.size_push]; exact Nat.le_refl _)
  rw [Heap.size_push] at ok
  rw [show ({ s with heap := s.heap.push { cls := .type "frame", data := .dict #[] } } : Shared).heap.objs.size = s.heap.objs.size + 1 from Heap.size_push ..]
  subst hb
  have x0 : InCallC s (newEnv scope s.heap.objs.size globals (cellsFrom (s.heap.objs.size + 1) scope.names []) qual func code none builtins).locals (fun _ => none) (newEnv scope s.heap.objs.size globals (cellsFrom (s.heap.objs.size + 1) scope.names []) qual func code none builtins).cells (fun _ => none) { s with heap := pushCells (s.heap.push { cls := .type "frame", data := .dict #[] }) scope.names } :=
    ⟨⟨⟨_, _, rfl⟩, (Heap.Ns.new s.heap (.type "frame")).keeps (pushCells_keeps _ _), fun b o e => pushCells_keeps _ _ b o (Heap.get?_push_of_some _ e), Nat.le_refl _⟩,
      fun n c hc => (ok.empty n c (mem_of_lookup hc)).1, ok.apart, fun n c hm => (ok.empty n c hm).2⟩
  have hl : (newEnv scope s.heap.objs.size globals (cellsFrom (s.heap.objs.size + 1) scope.names []) qual func code none builtins).kindOf n = some .local := hn
  refine wpAny_bind ?_
  rw [List.forIn_cons]
  refine wpAny_bind (wpAny_bind ?_)
  refine wpAny_storeName_local hl x0.toInCall.ns (fun h' hn' hs' => ?_) (by show (scope.kind == .class || (scope.kind == .module && _)) = false; rw [hk]; rfl)
  refine wpAny_pure ?_
  have x1 : InCallC s (newEnv scope s.heap.objs.size globals (cellsFrom (s.heap.objs.size + 1) scope.names []) qual func code none builtins).locals (fun y => if y = n then some v else none) (newEnv scope s.heap.objs.size globals (cellsFrom (s.heap.objs.size + 1) scope.names []) qual func code none builtins).cells (fun _ => none) { s with heap := h', toks := s.toks + 1 } :=
    ⟨⟨⟨h', _, rfl⟩, hn', fun b o e => hs'.extBut b o (Nat.ne_of_lt (Heap.lt_size e)) (x0.toInCall.keep b o e), x0.toInCall.fresh⟩, fun k c hc => (x0.cell k c hc).sameBut hs' (Nat.ne_of_gt (x0.above k c (mem_of_lookup hc))), x0.apart, x0.above⟩
  refine wpAny_mono (wpAny_toks (wpAny_bindParams (s₀ := s) (env := newEnv scope s.heap.objs.size globals (cellsFrom (s.heap.objs.size + 1) scope.names []) qual func code none builtins) _ (fun _ _ _ => rfl) hk r _ _ _
    (fun _ s' => InCallC s s.heap.objs.size (bindL (newEnv scope s.heap.objs.size globals (cellsFrom (s.heap.objs.size + 1) scope.names []) qual func code none builtins).kindOf ((n, v) :: r) fun _ => none) (cellsFrom (s.heap.objs.size + 1) scope.names []) (bindC (newEnv scope s.heap.objs.size globals (cellsFrom (s.heap.objs.size + 1) scope.names []) qual func code none builtins).kindOf ((n, v) :: r) fun _ => none) s') x1
    (fun y hy => hkind y (List.mem_cons_of_mem _ hy)) fun s'' x'' => ?_)) (fun _ s' ⟨ht, x⟩ => wpAny_pure (hQ _ rfl s' x ?_)) fun _ _ z => z.2
  · unfold bindL bindC; rw [if_pos hl, if_pos hl]; exact x''
  · exact Nat.le_trans (Nat.le_add_left _ _) ht
end
section
variable {P : Program} {w : World} {K : PySem.W.Frag} {mg : Str → Option Value} {base : Heap}
theorem fn_ofTC {CX : CXT} {k : Nat} {f : Addr} {name qual : Str} {params : Arguments} {body : List Stmt} {scope : Scope} {dV kV doc pm cdv ct oc : Value} {an od : Option Addr}
    {osl : Array (Option Value)} {N ps : List Str} {sp : Sp} {p0 : Str} {pr : List Str} (lk : K.lookup f = some ⟨oc, od, .func (PySem.W.fnOf name qual params body scope dV kV doc pm an cdv ct), osl⟩) (hcd : PySem.W.codeIn K cdv qual = true) (S : FnScope N ps scope)
    (hps : ps = p0 :: pr) (hp0 : scope.names.lookup p0 = some .local) (len : ∀ vs H Q E, sp vs H Q E → vs.length = ps.length)
    (hbody : ∀ (A : Around) (outer : List Env) (s : Shared) (H : Hp) (vs : List V) (Q : VK) (E : XK), Room k (A.deeper (envOfC qual scope s.heap.objs.size f cdv)) → sp vs H Q E →
      ∃ t, PSsT (cxOf CX P w K mg base N qual scope f cdv A outer s H E) body t ∧ t { nx := fun _ H' => Q .non H', rt := Q } (L2.start N vs) H) :
    FnOk P w K mg base CX (k + 1) f (PySem.W.fnOf name qual params body scope dV kV doc pm an cdv ct) ps sp := by
  refine ⟨len, fun A outer s H args us vs Q E hr e0 hb r hsp => ?_⟩
  have hl := len _ _ _ _ hsp
  have KX : K.In s.heap := e0.mod.kin.keeps fun b o e => (e0.bs b o e).1
  have lim : s.heap.NoLimit := e0.mod.nolimit.keeps fun b o e => (e0.bs b o e).1
  have hkind : ∀ y ∈ ps.zip us, scope.names.lookup y.1 = some .local ∨ (scope.names.lookup y.1 = some .cell ∧ ((cellsFrom (s.heap.objs.size + 1) scope.names []).lookup y.1).isSome = true) := fun ⟨n, v⟩ hy => by
    rcases S.par n (List.of_mem_zip hy).1 with q | q
    · exact .inl q
    · exact .inr ⟨q, PySem.W.cellsFrom_some _ _ _ (.inl q)⟩
  refine codeAny_call_function hr.depth (KX _ _ lk) rfl S.co S.gen rfl (PySem.W.codeRec_of KX hcd) (hb _ _ _ _ ?_)
  obtain ⟨u0, ur, rfl⟩ : ∃ u0 ur, us = u0 :: ur := by
    have : us.length = ps.length := by rw [← r.length, hl]
    rw [hps] at this
    exact List.exists_cons_of_length_eq_add_one this
  refine wpAny_newEnvT (n := p0) (v := u0) (r := pr.zip ur) S.kind (by rw [hps]; rfl) hp0 hkind fun env he s1 x hto => ?_
  subst he
  refine ⟨lim.keeps x.toInCall.keep, codeAny_func ?_⟩
  obtain ⟨t, ht, hq⟩ := hbody A outer s H vs Q E (hr.deeper _) hsp
  have I : Inv (cxOf CX P w K mg base N qual scope f cdv A outer s H E) [] (L2.start N vs) H s1 := inv_start S hr.hd e0 hl r x
  refine wpAny_mono (ht [] s1 (L2.start N vs) H _ hto I hq) (fun fl s' hs => ?_) fun e s' hs => hs
  have fin : ∀ {σ' : L2.St} {H' : Hp} {v : V} {u : Value}, Inv (cxOf CX P w K mg base N qual scope f cdv A outer s H E) [] σ' H' s' → RelV v u → Q v H' → CE outer P w H s Q u s' :=
    fun {σ' H' v u} J rv q => ⟨v, H', J.os, J.bare, J.base, J.hok, rv, q⟩
  cases fl with
  | ret u =>
    obtain ⟨v, σ', H', J, rv, q⟩ := hs
    exact fin J rv q
  | next =>
    obtain ⟨σ', H', J, q⟩ := hs
    exact fin (v := V.non) (u := Value.none) J rfl q
  | brk =>
    obtain ⟨_, _, _, q⟩ := hs
    exact False.elim q
  | cont =>
    obtain ⟨_, _, _, q⟩ := hs
    exact False.elim q
theorem Df.okT {x p0 : Str} {pr : List Str} {st : Stmt} {N ps : List Str} {k : Nat} {sp : Sp} (D : Df K mg x st ps) (S : FnScope N ps (defScope st)) (hps : ps = p0 :: pr) (hp0 : (defScope st).names.lookup p0 = some .local) (len : ∀ vs H Q E, sp vs H Q E → vs.length = ps.length)
    (hbody : ∀ (f : Addr) (cdv : Value) (A : Around) (outer : List Env) (s : Shared) (H : Hp) (vs : List V) (Q : VK) (E : XK), Room k (A.deeper (envOfC x (defScope st) s.heap.objs.size f cdv)) → sp vs H Q E →
      ∃ t, PSsT (cxOf CX0 P w K mg base N x (defScope st) f cdv A outer s H E).nox (defBody st) t ∧ t { nx := fun _ H' => Q .non H', rt := Q } (L2.start N vs) H) : Cal P w K mg base CX0 (k + 1) x ps sp := by
  obtain ⟨f, fd, F, m, b⟩ := D
  obtain ⟨oc, od, kV, doc, pm, an, cdv, ct, osl, rfl, lk, hcd⟩ := F.ex
  refine ⟨f, _, ?_, m, F.kp, .all b⟩
  refine fn_ofTC lk hcd S hps hp0 len fun A outer s H vs Q E hr hsp => ?_
  obtain ⟨t, h, q⟩ := hbody f cdv A outer s H vs Q E hr hsp
  exact ⟨t, psst_nox h, q⟩
end
end Kb

namespace Kb
open PySem PySem.Spec PyProof.Rows L2 TL
/-! ### a drawn rule without its mark -/
theorem replace_excl (x : Str) : tl (Txt.replace x ("!" : Str) ("" : Str)) = (tl x).filter (· != 33) := by
  have e1 : ("!" : Str) = ⟨#[33]⟩ := ext_tl (by decide +kernel)
  have e2 : ("" : Str) = ⟨#[]⟩ := ext_tl (by decide +kernel)
  rw [e1, e2]
  exact replace_strikes x 33
theorem abc_no33 {L : List (List Nat)} (h : ∀ l ∈ L, abc l) : ∀ c ∈ joinL [46] L, c ≠ 33 := by
  intro c hc
  have : ∀ L : List (List Nat), (∀ l ∈ L, abc l) → ∀ c ∈ joinL [46] L, c = 46 ∨ c = 97 ∨ c = 98 ∨ c = 99 := by
    intro L
    induction L with
    | nil => intro _ c hc; simp [joinL] at hc
    | cons p L ih =>
      intro h c hc
      have hp : ∀ c ∈ p, c = 97 ∨ c = 98 ∨ c = 99 := fun c hc => by
        rcases h p (List.mem_cons_self ..) with rfl | rfl | rfl <;> simp at hc <;> omega
      cases L with
      | nil => have : c ∈ p := by simpa [joinL] using hc
               have := hp c this; omega
      | cons q r =>
        have hc : c ∈ p ++ ([46] ++ joinL [46] (q :: r)) := hc
        rcases List.mem_append.mp hc with g | g
        · have := hp c g; omega
        · rcases List.mem_append.mp g with g | g
          · simp at g; omega
          · exact ih (fun l hl => h l (List.mem_cons_of_mem _ hl)) c g
  have := this L h c hc
  omega
theorem filter_excl {t : List Nat} (h : GenR t) : sp1 46 (t.filter (· != 33)) = patL t := by
  obtain ⟨L, h1, h2, h3, h4⟩ := h.cases
  have hf : (joinL [46] L).filter (· != 33) = joinL [46] L := by
    rw [List.filter_eq_self]
    intro c hc
    exact bne_iff_ne.mpr (abc_no33 h3 c hc)
  rcases h4 with ⟨hx, e, hp⟩ | ⟨hx, e, hp⟩ | ⟨hx, h5, e, hp⟩
  · rw [hp, e, hf, abc_sp1 h1 h3]
  · rw [hp, e]
    show sp1 46 ((42 :: 46 :: joinL [46] L).filter (· != 33)) = _
    rw [List.filter_cons_of_pos (by decide), List.filter_cons_of_pos (by decide), hf]
    show sp1 46 ([42] ++ 46 :: joinL [46] L) = _
    rw [sp1_app, abc_sp1 h1 h3]; rfl
  · rw [hp, e, List.filter_cons_of_neg (by decide), hf, abc_sp1 h1 h3]
/-- place by place -/
def okAt (P Z : List (List Nat)) (j : Nat) : Bool := decide (P[j]? = some [42]) || decide (P[j]? = Z[j]?)
def allAt (P Z : List (List Nat)) (n : Nat) : Bool := (List.range n).all (okAt P Z)
theorem allAt_succ (P Z : List (List Nat)) (n : Nat) : allAt P Z (n + 1) = (allAt P Z n && okAt P Z n) := by
  unfold allAt
  rw [List.range_succ, List.all_append]; simp
theorem allAt_iff (P Z : List (List Nat)) (n : Nat) : allAt P Z n = true ↔ ∀ j, j < n → P[j]? = some [42] ∨ P[j]? = Z[j]? := by
  unfold allAt okAt
  rw [List.all_eq_true]
  simp only [List.mem_range, Bool.or_eq_true, decide_eq_true_eq]
theorem mtL_allAt {t : List Nat} {W : List (List Nat)} (h : GenR t) (hW : ∀ w ∈ W, abc w) (hl : (patL t).length ≤ W.length) : mtL (patL t) W = allAt (patL t) (lastN (patL t).length W) (patL t).length := by
  obtain ⟨L, h1, h2, h3, h4⟩ := h.cases
  have n42 : ∀ {l : List Nat}, abc l → l ≠ [42] := fun h => by rcases h with rfl | rfl | rfl <;> decide
  unfold mtL
  rw [decide_eq_true hl, Bool.true_and]
  have hlen : (lastN (patL t).length W).length = (patL t).length := by rw [lastN_len, Nat.min_eq_left hl]
  have hZ : ∀ w ∈ lastN (patL t).length W, abc w := fun w hw => hW w (lastN_mem hw)
  generalize lastN (patL t).length W = Z at *
  have eq_of : ∀ (P Q : List (List Nat)), P.length = Q.length → (∀ l ∈ P, l ≠ [42]) → ((∀ j, j < P.length → P[j]? = some [42] ∨ P[j]? = Q[j]?) ↔ Q = P) := fun P Q hpq hP => by
    constructor
    · intro g
      apply List.ext_getElem? fun j => ?_
      by_cases hj : j < P.length
      · rcases g j hj with e | e
        · exact absurd rfl (hP _ (List.mem_of_getElem? e))
        · exact e.symm
      · rw [List.getElem?_eq_none (by omega), List.getElem?_eq_none (by omega)]
    · intro g j _; right; rw [g]
  have case1 : patL t = L → (if (patL t).head? = some [42] then decide (Z.tail = (patL t).tail) else decide (Z = patL t)) = allAt (patL t) Z (patL t).length := fun hp => by
    have hn : (patL t).head? ≠ some [42] := fun q => by
      rw [hp] at q
      exact n42 (h3 _ (List.mem_of_mem_head? q)) rfl
    rw [if_neg hn, Bool.eq_iff_iff, decide_eq_true_eq, allAt_iff]
    exact (eq_of (patL t) Z hlen.symm fun l hl => by rw [hp] at hl; exact n42 (h3 l hl)).symm
  rcases h4 with ⟨hx, e, hp⟩ | ⟨hx, e, hp⟩ | ⟨hx, h5, e, hp⟩
  · exact case1 hp
  · rw [hp] at hlen ⊢
    rw [if_pos (show ([42] :: L).head? = some [42] from rfl), Bool.eq_iff_iff, decide_eq_true_eq, allAt_iff]
    obtain ⟨z, Z', rfl⟩ : ∃ z Z', Z = z :: Z' := List.exists_cons_of_ne_nil fun q => by rw [q] at hlen; simp at hlen
    rw [List.tail_cons, List.tail_cons]
    rw [← eq_of L Z' (by simpa using hlen.symm) fun l hl => n42 (h3 l hl)]
    constructor
    · intro g j hj
      cases j with
      | zero => left; rfl
      | succ j => exact g j (by simpa using hj)
    · intro g j hj
      exact g (j + 1) (by simpa using hj)
  · exact case1 hp
end Kb
namespace Kb
open PySem PySem.Spec PyProof.Rows L2 TL
theorem takeF {α : Type} {q : α → Bool} {xs : List α} {i : Nat} {x : α} (h : xs[i]? = some x) : (xs.take (i + 1)).filter q = (xs.take i).filter q ++ (if q x = true then [x] else []) := by
  rw [List.take_add_one, h, List.filter_append]
  congr 1
  by_cases hq : q x = true
  · rw [if_pos hq]; simp [hq]
  · rw [if_neg hq]; simp [hq]
theorem takeF_t {α : Type} {q : α → Bool} {xs : List α} {i : Nat} {x : α} (h : xs[i]? = some x) (hq : q x = true) : (xs.take (i + 1)).filter q = (xs.take i).filter q ++ [x] := by rw [takeF h, if_pos hq]
theorem takeF_f {α : Type} {q : α → Bool} {xs : List α} {i : Nat} {x : α} (h : xs[i]? = some x) (hq : q x = false) : (xs.take (i + 1)).filter q = (xs.take i).filter q := by rw [takeF h, if_neg (by rw [hq]; exact Bool.false_ne_true), List.append_nil]
theorem sp1_len_cons {c x : Nat} (h : x ≠ c) (l : List Nat) : (sp1 c (x :: l)).length = (sp1 c l).length := by
  obtain ⟨p, r, e⟩ := sp1_cons c l
  rw [sp1_miss h e, e]; rfl
theorem GenR.size {t : List Nat} (h : GenR t) : (sp1 46 t).length = (patL t).length := by
  obtain ⟨L, h1, h2, h3, h4⟩ := h.cases
  rcases h4 with ⟨hx, e, hp⟩ | ⟨hx, e, hp⟩ | ⟨hx, h5, e, hp⟩
  · rw [hp, e, abc_sp1 h1 h3]
  · rw [hp, e]
    show (sp1 46 ([42] ++ 46 :: joinL [46] L)).length = _
    rw [sp1_app, abc_sp1 h1 h3]; rfl
  · rw [hp, e, sp1_len_cons (by decide), abc_sp1 h1 h3]
theorem GenR.ne {t : List Nat} (h : GenR t) : ∃ a r, t = a :: r ∧ excT t = decide (a = 33) := by
  obtain ⟨L, h1, h2, h3, h4⟩ := h.cases
  rcases h4 with ⟨hx, e, hp⟩ | ⟨hx, e, hp⟩ | ⟨hx, h5, e, hp⟩
  · obtain ⟨a, r, ea, h33, _⟩ := abc_head h1 h3
    exact ⟨a, r, e.trans ea, by rw [hx, decide_eq_false h33]⟩
  · exact ⟨42, _, e, by rw [hx]; rfl⟩
  · exact ⟨33, _, e, by rw [hx]; rfl⟩
theorem one_excl (c : Nat) : decide (V.str ⟨#[c]⟩ = V.str ("!" : Str)) = decide (c = 33) := by
  rw [show ("!" : Str) = ⟨#[33]⟩ from ext_tl (by decide +kernel), dec_str, Bool.eq_iff_iff, beq_iff_eq, decide_eq_true_eq, str_eq_iff]
  show [c] = [33] ↔ _
  simp
/-- the greatest of sizes, as the law finds it -/
theorem big_max {q : List Nat → Bool} {rs : List (List Nat)} {m : Nat} (h1 : m ∈ (rs.filter q).map (fun t => (patL t).length) ++ [0]) (h2 : ∀ y ∈ (rs.filter q).map (fun t => (patL t).length) ++ [0], y ≤ m) : m = bigN 0 q rs := by
  refine Nat.le_antisymm ?_ ?_
  · rcases List.mem_append.mp h1 with g | g
    · obtain ⟨t, ht, rfl⟩ := List.mem_map.mp g
      obtain ⟨ht, hq⟩ := List.mem_filter.mp ht
      exact bigN_mem q rs 0 t ht hq
    · rw [List.mem_singleton.mp g]; exact Nat.zero_le _
  · rcases bigN_cases q rs 0 with e | ⟨t, ht, hq, e⟩
    · omega
    · rw [e]
      exact h2 _ (List.mem_append_left _ (List.mem_map.mpr ⟨t, List.mem_filter.mpr ⟨ht, hq⟩, rfl⟩))
theorem big_pred {q : List Nat → Bool} {rs : List (List Nat)} {m : Nat} (h0 : rs.filter q ≠ []) (h1 : m ∈ (rs.filter q).map (fun t => (patL t).length - 1) ++ [0]) (h2 : ∀ y ∈ (rs.filter q).map (fun t => (patL t).length - 1) ++ [0], y ≤ m) : m = bigN 0 q rs - 1 := by
  refine Nat.le_antisymm ?_ ?_
  · rcases List.mem_append.mp h1 with g | g
    · obtain ⟨t, ht, rfl⟩ := List.mem_map.mp g
      obtain ⟨ht, hq⟩ := List.mem_filter.mp ht
      have := bigN_mem q rs 0 t ht hq
      show (patL t).length - 1 ≤ _
      omega
    · rw [List.mem_singleton.mp g]; exact Nat.zero_le _
  · rcases bigN_cases q rs 0 with e | ⟨t, ht, hq, e⟩
    · omega
    · rw [e]
      exact h2 _ (List.mem_append_left _ (List.mem_map.mpr ⟨t, List.mem_filter.mpr ⟨ht, hq⟩, rfl⟩))
theorem big_one (q : List Nat → Bool) : ∀ (rs : List (List Nat)) (b : Nat), bigN (max 1 b) q rs = max 1 (bigN b q rs)
  | [], b => rfl
  | t :: rs, b => by
    show bigN (if q t then max (max 1 b) (patL t).length else max 1 b) q rs = max 1 (bigN (if q t then max b (patL t).length else b) q rs)
    by_cases hq : q t = true
    · rw [if_pos hq, if_pos hq, ← big_one q rs]; congr 1; omega
    · rw [if_neg hq, if_neg hq, big_one q rs]
theorem lonN_big (rs w : List (List Nat)) : lonN rs w = max 1 (bigN 0 (fun t => !excT t && mtL (patL t) w) rs) := by
  unfold lonN
  exact big_one _ rs 0
theorem bigN_none {q : List Nat → Bool} {rs : List (List Nat)} (h : rs.filter q = []) : bigN 0 q rs = 0 := by
  rcases bigN_cases q rs 0 with e | ⟨t, ht, hq, e⟩
  · exact e
  · have : t ∈ rs.filter q := List.mem_filter.mpr ⟨ht, hq⟩
    rw [h] at this; cases this
end Kb

namespace Kb
open PySem PySem.Spec PyProof.Rows L2 TL
theorem bigN_same {q : List Nat → Bool} {rs zs : List (List Nat)} {b : Nat} (h : ∀ t, t ∈ rs ↔ t ∈ zs) : bigN b q rs = bigN b q zs := by
  have le : ∀ (rs zs : List (List Nat)), (∀ t, t ∈ rs → t ∈ zs) → bigN b q rs ≤ bigN b q zs := fun rs zs h => by
    rcases bigN_cases q rs b with e | ⟨t, ht, hq, e⟩
    · rw [e]; exact bigN_ge _ _ _
    · rw [e]; exact bigN_mem q zs b t (h t ht) hq
  exact Nat.le_antisymm (le _ _ fun t => (h t).mp) (le _ _ fun t => (h t).mpr)
theorem sufN_same {rs zs w : List (List Nat)} (h : ∀ t, t ∈ rs ↔ t ∈ zs) : sufN rs w = sufN zs w := by
  unfold sufN excN lonN
  rw [bigN_same h, bigN_same h]
theorem famL_same {rs zs w : List (List Nat)} (h : ∀ t, t ∈ rs ↔ t ∈ zs) : famL rs w = famL zs w := by
  unfold famL
  rw [sufN_same h]
theorem RulesOK.rev {rs : List Str} (h : RulesOK rs) : RulesOK rs.reverse := ⟨(List.reverse_perm rs).symm.nodup h.1, fun r hr => h.2 r (List.mem_reverse.mp hr)⟩
end Kb

namespace Kb
open PySem PySem.Spec PyProof.Rows L2 TL
theorem abc_lt {L : List (List Nat)} (h : ∀ l ∈ L, abc l) : ∀ c ∈ joinL [46] L, c < 128 := by
  induction L with
  | nil => intro c hc; simp [joinL] at hc
  | cons p L ih =>
    intro c hc
    have hp : ∀ c ∈ p, c < 128 := fun c hc => by
      rcases h p (List.mem_cons_self ..) with rfl | rfl | rfl <;> simp at hc <;> omega
    cases L with
    | nil => exact hp c (by simpa [joinL] using hc)
    | cons q r =>
      have hc : c ∈ p ++ ([46] ++ joinL [46] (q :: r)) := hc
      rcases List.mem_append.mp hc with g | g
      · exact hp c g
      · rcases List.mem_append.mp g with g | g
        · simp at g; omega
        · exact ih (fun l hl => h l (List.mem_cons_of_mem _ hl)) c g
end Kb

namespace Kb
open PySem PySem.Spec PyProof.Rows L2 TL
theorem addr_joinW {W : List Str} (h1 : W.length = 4) (h2 : ∀ w ∈ W, ∃ n : Nat, n < 256 ∧ tl w = numL n) : AddrW (Txt.join ("." : Str) W) :=
  ⟨W.map tl, by rw [List.length_map]; exact h1, fun l hl => by obtain ⟨w, hw, rfl⟩ := List.mem_map.mp hl; exact h2 w hw, by rw [join_tl, tl_dot]⟩
end Kb

namespace Kb
open PySem PySem.Spec PyProof.Rows L2 TL
/-- two rules of numbers behind drawn ones -/
theorem num_rules {rs : List Str} {x y : Str} {a b c : List Nat} (h : RulesOK rs) (hg : ∀ r ∈ rs, GenR (tl r)) (hx : tl x = a) (hy : tl y = 42 :: 46 :: joinL [46] [b, c])
    (ha : labB a = true ∧ digB a = true) (hb : labB b = true ∧ digB b = true) (hc : labB c = true) (lx : x.length ≤ 100) (ly : y.length ≤ 100) : RulesOK (rs ++ [x, y]) := by
  have dg : ∀ l : List Nat, digB l = true → ∃ d r, l = d :: r ∧ 48 ≤ d ∧ d ≤ 57 := fun l hl => by
    obtain ⟨h1, h2⟩ := digB_iff.mp hl
    obtain ⟨d, r, rfl⟩ := List.exists_cons_of_ne_nil h2
    have := h1 d (List.mem_cons_self ..)
    exact ⟨d, r, rfl, this.1, this.2⟩
  obtain ⟨d, r, ea, d1, d2⟩ := dg a ha.2
  obtain ⟨d', r', eb, d1', d2'⟩ := dg b hb.2
  have hfa : 46 ∉ a := dot_free ha.1
  have rx : ruleB (tl x) = true := by
    have e1 : excT (tl x) = false := by unfold excT; rw [hx, ea]; exact decide_eq_false (by simp; omega)
    unfold ruleB
    rw [e1, hx]
    have : [42, 46].isPrefixOf a = false := by
      rw [ea]
      show ((42 == d) && _) = false
      rw [beq_eq_false_iff_ne.mpr (by omega), Bool.false_and]
    rw [this]
    simp only [Bool.false_eq_true, if_false]
    rw [sp1_of_free hfa]
    show (labB a && true) = true
    rw [ha.1]; rfl
  have ry : ruleB (tl y) = true := by
    have e1 : excT (tl y) = false := by unfold excT; rw [hy]; rfl
    unfold ruleB
    rw [e1, hy]
    have : [42, 46].isPrefixOf (42 :: 46 :: joinL [46] [b, c]) = true := by simp [List.isPrefixOf]
    rw [this]
    simp only [Bool.false_eq_true, if_false, if_true, List.drop_succ_cons, List.drop_zero]
    rw [sp1_joinL (by simp) fun p hp => by
      rcases List.mem_cons.mp hp with rfl | hp
      · exact dot_free hb.1
      · rw [List.mem_singleton.mp hp]; exact dot_free hc]
    show (labB b && (labB c && true)) = true
    rw [hb.1, hc]; rfl
  have hd : ∀ r ∈ rs, ∀ u v, tl r = u :: v → u = 33 ∨ (u = 42 ∧ ∃ q w, v = 46 :: q :: w ∧ 97 ≤ q) ∨ 97 ≤ u := fun r hr u v e => by
    obtain ⟨L, h1, h2, h3, h4⟩ := (hg r hr).cases
    have big : ∀ q w, joinL [46] L = q :: w → 97 ≤ q := fun q w e => by
      obtain ⟨l, R, rfl⟩ := List.exists_cons_of_ne_nil h1
      have hl := h3 l (List.mem_cons_self ..)
      have : ∀ z, (joinL [46] ([z] :: R)).head? = some z := fun z => by cases R <;> rfl
      rcases hl with rfl | rfl | rfl
      · have t := this 97; rw [e] at t; simp at t; omega
      · have t := this 98; rw [e] at t; simp at t; omega
      · have t := this 99; rw [e] at t; simp at t; omega
    rcases h4 with ⟨_, e', _⟩ | ⟨_, e', _⟩ | ⟨_, _, e', _⟩
    · rw [e] at e'; exact .inr (.inr (big _ _ e'.symm))
    · rw [e] at e'
      simp only [List.cons.injEq] at e'
      obtain ⟨q, w, ej, _⟩ := abc_head h1 h3
      exact .inr (.inl ⟨e'.1, q, w, by rw [e'.2, ej], big _ _ ej⟩)
    · rw [e] at e'; simp only [List.cons.injEq] at e'; exact .inl e'.1
  refine ⟨?_, fun r hr => ?_⟩
  · rw [List.nodup_append]
    refine ⟨h.1, ?_, fun u hu v hv e => ?_⟩
    · rw [List.nodup_cons]
      refine ⟨fun q => ?_, by simp⟩
      have e := congrArg tl (List.mem_singleton.mp q)
      rw [hx, hy, ea] at e
      simp only [List.cons.injEq] at e
      omega
    · subst e
      rcases List.mem_cons.mp hv with q | q
      · rcases hd u hu d r (by rw [q, hx, ea]) with g | ⟨g, _⟩ | g <;> omega
      · rw [List.mem_singleton] at q
        rcases hd u hu 42 (46 :: joinL [46] [b, c]) (by rw [q, hy]) with g | ⟨g, q2, w, e2, g2⟩ | g
        · omega
        · rw [eb] at e2
          have e2 : 46 :: d' :: (r' ++ ([46] ++ c)) = 46 :: q2 :: w := e2
          simp only [List.cons.injEq] at e2
          omega
        · omega
  · rcases List.mem_append.mp hr with q | q
    · exact h.2 r q
    · rcases List.mem_cons.mp q with q | q
      · rw [q]; exact ⟨rx, by omega⟩
      · rw [List.mem_singleton.mp q]; exact ⟨ry, by omega⟩
end Kb

namespace Kb
open PySem PySem.Spec PyProof.Rows L2
/-! ### t[::-1] of a tuple -/
section
variable {prog : Program} {w : World} {A : Around} {E : Value → Shared → Prop} {s : Shared}
theorem sliceApplied_rev {sl : Addr} {vs : Value} {n : Nat} {Q : Int × Int × Nat → Shared → Prop} (hs : s.heap.IsSliceOf sl .none .none vs) (ps : IsPart vs (some (-1)))
    (h : Q ((n : Int) - 1, -1, n) s) : wpAny (model prog w) A (Builtin.Slice.sliceApplied (.ref sl) (pure (n : Int))) Q E s := by
  obtain ⟨os, hos, hcs, hds⟩ := id hs
  unfold Builtin.Slice.sliceApplied Builtin.Slice.sliceFields
  refine wpAny_bind (wpAny_bind (wpAny_field hos hds (x := .none) rfl (wpAny_bind (wpAny_field hos hds (x := .none) rfl (wpAny_bind (wpAny_field hos hds (x := vs) rfl (wpAny_pure ?_)))))))
  refine wpAny_bind (HT.slicePart_ ps ?_)
  show wpAny _ _ (if ((-1 : Int) == 0) = true then _ else _) _ _ s
  rw [if_neg (by decide)]
  refine wpAny_bind (HT.slicePart_ .none (wpAny_bind (HT.slicePart_ .none (wpAny_bind (wpAny_pure ?_)))))
  have e : Builtin.Slice.slicePlaces ((n : Int) - 1) (-1) (-1) = n := by
    unfold Builtin.Slice.slicePlaces
    rw [if_neg (by decide)]
    split
    · rw [show (-(-1 : Int)) = 1 by decide, Int.ediv_one]; omega
    · omega
  show wpAny _ _ (pure ((n : Int) - 1, (-1 : Int), Builtin.Slice.slicePlaces ((n : Int) - 1) (-1) (-1))) _ _ s
  rw [e]
  exact wpAny_pure h
theorem rev_pick (xs : Array Value) : ((List.range xs.size).filterMap fun (m : Nat) => xs[(((xs.size : Int) - 1) + (m : Int) * (-1)).toNat]?).toArray = xs.toList.reverse.toArray := by
  congr 1
  have : ∀ n, n ≤ xs.size → (List.range n).filterMap (fun (m : Nat) => xs[(((xs.size : Int) - 1) + (m : Int) * (-1)).toNat]?) = (xs.toList.reverse.take n) := by
    intro n
    induction n with
    | zero => intro _; simp
    | succ n ih =>
      intro h
      rw [List.range_succ, List.filterMap_append, ih (by omega), List.take_add_one]
      congr 1
      have e : (((xs.size : Int) - 1) + (n : Int) * (-1)).toNat = xs.size - 1 - n := by omega
      have h2 : xs.toList.reverse[n]? = xs[xs.size - 1 - n]? := by
        rw [List.getElem?_reverse (by rw [Array.length_toList]; omega), Array.length_toList, Array.getElem?_toList]
      rw [h2]
      simp only [List.filterMap_cons, List.filterMap_nil, e]
      cases xs[xs.size - 1 - n]? <;> rfl
  rw [this _ (Nat.le_refl _), List.take_of_length_le (by simp)]
theorem getItem_tuple_rev {t sl : Addr} {items : Array Value} {vs : Value} {Q : Value → Shared → Prop} (ht : IsTup s.heap t items) (hs : s.heap.IsSliceOf sl .none .none vs) (ps : IsPart vs (some (-1)))
    (h : Q (.ref s.heap.objs.size) { s with heap := s.heap.push { cls := .type "tuple", data := .seq items.toList.reverse.toArray } })
    (hsz : items.size ≤ sizeLine) : wpAny (model prog w) A (getItem (.ref t) (.ref sl)) Q E s := by
  have htake : sizeOk (.seq items.toList.reverse.toArray) := by
    show items.toList.reverse.toArray.size ≤ sizeLine
    simpa using hsz
  obtain ⟨os, hos, hcs, hds⟩ := id hs
  have hTs : s.TypeIs (.ref sl) "slice" := ⟨os, hos, hcs⟩
  unfold getItem
  try with_reducible refine wpAny_holding ?_
  first | refine wpAny_bind (wpAny_pure ?_) | skip
  refine wpAny_bind (wpAny_sequenceKey ht.typeIs (by decide) ?_)
  refine wpAny_bind (wpAny_callSpecial?_slot (name := Str.ofString "__getitem__") ht.typeIs PyProof.Rows.slot_tuple_getitem
    (wpAny_call_entry PyProof.Rows.slot_tuple_getitem ht.typeIs entry_tuple_getitem ?_ (args_tuple_getitem _ _)))
  show wpAny _ _ (Builtin.Tuple.tupleItemsOf (.ref t) >>= _) _ _ s
  refine wpAny_bind (tupleItemsOf_ ht ?_)
  refine wpAny_bind (wpAny_typeOf hTs ?_)
  rw [if_pos (by decide)]
  refine wpAny_bind (sliceApplied_rev hs ps ?_)
  show wpAny _ _ (if (((items.size : Int) - 1) == 0 && (-1 : Int) == 1 && items.size == items.size) = true then _ else _) _ _ s
  rw [if_neg (by simp), rev_pick]
  first
    | exact wpAny_bind (m := Builtin.Tuple.tupleExact _) (wpAny_newObj_type (wpAny_pure ⟨_, rfl, wpAny_pure h⟩) htake)
    | exact wpAny_bind (m := Builtin.Tuple.tupleExact _) (wpAny_newObj_type (wpAny_bind (wpAny_pure (wpAny_pure ⟨_, rfl, wpAny_pure h⟩))) htake)
    | exact wpAny_bind (wpAny_bind (m := Builtin.Tuple.tupleExact _) (wpAny_newObj_type (wpAny_pure (wpAny_pure ⟨_, rfl, wpAny_pure h⟩)) htake))
    | exact wpAny_bind (wpAny_bind (m := Builtin.Tuple.tupleExact _) (wpAny_newObj_type (wpAny_pure ⟨_, rfl, wpAny_pure h⟩) htake))
end
def tRevT (K : PySem.W.Frag) (te : TE) : TE := fun σ H Q => te σ H fun x H1 => ∃ a xs, x = .ref a ∧ SqT K H1 a xs ∧ ∀ p, H1 p = none → Q (.ref p) (upd H1 p (.tup xs.reverse))
theorem pe_revT {X : Cx} {e : Expr} {te : TE} {k : Nat} {p1 p2 p3 pos : Pos} (he : PE X e te) : PE X (.Subscript e (.Slice none none (some (.UnaryOp .USub (.Constant (.int 1) k p1) p2)) p3) pos) (tRevT X.K te) := by
  refine ⟨fun pins s σ H Q I h => ?_⟩
  refine Subscript_ (thn (he.run pins s σ H _ I h) fun v s1 ⟨x, H1, I1, r1, q1⟩ => ?_)
  obtain ⟨a, xs, ex, hx, q⟩ := q1
  subst ex
  cases r1
  have hst : PO X (some (.UnaryOp .USub (.Constant (.int 1) k p1) p2)) (tPart (tUn (rU fun i => .int (-i)) (tC (.int 1)))) := po_some (pe_un un_neg pe_int)
  refine wpAny_Slice (thn (po_none.run pins s1 σ H1 (fun o H2 => o = none ∧ H2 = H1) I1 ⟨rfl, rfl⟩) fun vl s2 ⟨l, H2, I2, pl, el, e2⟩ => ?_)
  subst el e2
  refine thn (po_none.run pins s2 σ H2 (fun o H3 => o = none ∧ H3 = H2) I2 ⟨rfl, rfl⟩) fun vu s3 ⟨u, H3, I3, pu, eu, e3⟩ => ?_
  subst eu e3
  refine thn (hst.run pins s3 σ H3 (fun o H4 => o = some (-1) ∧ H4 = H3) I3 ⟨1, rfl, -1, rfl, rfl, rfl⟩) fun vs s4 ⟨o, H4, I4, ps, eo, e4⟩ => ?_
  subst eo e4
  cases pl
  cases pu
  have I5 : Inv X pins σ H4 { s4 with heap := s4.heap.push { cls := .type "slice", data := .fields #[.none, .none, vs] } } := I4.kept (t' := s4.toks) fun b ob q => Heap.get?_push_of_some _ q
  obtain ⟨its, r, ht, hz⟩ := I5.tuple hx
  have hlen := r.length
  show wpAny (model X.prog X.w) X.A (subscriptTail e (.Slice none none (some (.UnaryOp .USub (.Constant (.int 1) k p1) p2)) p3) (.ref a) (.ref s4.heap.objs.size)) (EP X pins σ Q) X.xe { s4 with heap := s4.heap.push { cls := .type "slice", data := .fields #[.none, .none, vs] } }
  refine tail_any (ops := [.ref a, .ref s4.heap.objs.size]) ht.typeIs (PyProof.Rows.slot_tuple_getitem.lookup) ?_ (by with_unfolding_all rfl)
  refine getItem_tuple_rev ht (Heap.IsSliceOf.new _ .none .none vs) ps ?_ (by rw [List.size_toArray]; omega)
  refine ⟨.ref _, _, I5.laid (t' := s4.toks) (o := .tup xs.reverse) (fun b ob q => Heap.get?_push_of_some _ q) (Nat.le_refl _) ?_, rfl, q _ (I5.hok.fresh (Nat.le_refl _))⟩
  exact ⟨by rw [List.length_reverse]; exact hz, _, r.reverse, ⟨_, Heap.get?_push_size _ rfl, rfl, _, rfl⟩⟩
end Kb

namespace Pf
open PySem PySem.Spec PyProof.Rows L2 TL Kb
def top (i : Nat) : Stmt := PySem.Challenge.pw_crumbjar_k06_suffixes_and_families.main.body.getD i (.Pass ⟨0, 0, 0, 0⟩)
abbrev s_has_only : Stmt := top 7
theorem sc_has_only : FnScope ["text", "signs"] ["text", "signs"] (defScope s_has_only) := ⟨rfl, rfl, rfl, by decide +kernel, rfl, by decide +kernel, by decide +kernel⟩
abbrev s_is_digits : Stmt := top 8
theorem sc_is_digits : FnScope ["text"] ["text"] (defScope s_is_digits) := ⟨rfl, rfl, rfl, by decide +kernel, rfl, by decide +kernel, by decide +kernel⟩
abbrev s__is_label : Stmt := top 20
theorem sc__is_label : FnScope ["text"] ["text"] (defScope s__is_label) := ⟨rfl, rfl, rfl, by decide +kernel, rfl, by decide +kernel, by decide +kernel⟩
abbrev s_are_labels : Stmt := top 19
theorem sc_are_labels : FnScope ["texts", "text"] ["texts"] (defScope s_are_labels) := ⟨rfl, rfl, rfl, by decide +kernel, rfl, by decide +kernel, by decide +kernel⟩
abbrev s__is_number : Stmt := top 22
theorem sc__is_number : FnScope ["label"] ["label"] (defScope s__is_number) := ⟨rfl, rfl, rfl, by decide +kernel, rfl, by decide +kernel, by decide +kernel⟩
abbrev s__are_four_numbers : Stmt := top 21
theorem sc__are_four_numbers : FnScope ["labels", "label"] ["labels"] (defScope s__are_four_numbers) := ⟨rfl, rfl, rfl, by decide +kernel, rfl, by decide +kernel, by decide +kernel⟩
abbrev s_is_host : Stmt := top 16
theorem sc_is_host : FnScope ["value", "labels"] ["value"] (defScope s_is_host) := ⟨rfl, rfl, rfl, by decide +kernel, rfl, by decide +kernel, by decide +kernel⟩
abbrev s_need_host : Stmt := top 18
theorem sc_need_host : FnScope ["host"] ["host"] (defScope s_need_host) := ⟨rfl, rfl, rfl, by decide +kernel, rfl, by decide +kernel, by decide +kernel⟩
abbrev s__is_rule : Stmt := top 40
theorem sc__is_rule : FnScope ["value", "labels"] ["value"] (defScope s__is_rule) := ⟨rfl, rfl, rfl, by decide +kernel, rfl, by decide +kernel, by decide +kernel⟩
abbrev s_need_rules : Stmt := top 33
theorem sc_need_rules : FnScope ["rules", "index", "rule"] ["rules"] (defScope s_need_rules) := ⟨rfl, rfl, rfl, by decide +kernel, rfl, by decide +kernel, by decide +kernel⟩
abbrev s_is_address_host : Stmt := top 17
theorem sc_is_address_host : FnScope ["value"] ["value"] (defScope s_is_address_host) := ⟨rfl, rfl, rfl, by decide +kernel, rfl, by decide +kernel, by decide +kernel⟩
abbrev s__last_labels : Stmt := top 42
theorem sc__last_labels : FnScope ["host", "many"] ["host", "many"] (defScope s__last_labels) := ⟨rfl, rfl, rfl, by decide +kernel, rfl, by decide +kernel, by decide +kernel⟩
abbrev s__size : Stmt := top 41
theorem sc__size : FnScope ["text"] ["text"] (defScope s__size) := ⟨rfl, rfl, rfl, by decide +kernel, rfl, by decide +kernel, by decide +kernel⟩
abbrev s__matches : Stmt := top 44
theorem sc__matches : FnScope ["pattern", "host", "ending"] ["pattern", "host"] (defScope s__matches) := ⟨rfl, rfl, rfl, by decide +kernel, rfl, by decide +kernel, by decide +kernel⟩
abbrev s__suffix_size : Stmt := top 43
theorem sc__suffix_size : FnScope ["rules", "host", "longest", "exception", "rule"] ["rules", "host"] (defScope s__suffix_size) := ⟨rfl, rfl, rfl, by decide +kernel, rfl, by decide +kernel, by decide +kernel⟩
abbrev s_known_suffix : Stmt := top 37
theorem sc_known_suffix : FnScope ["rules", "host"] ["rules", "host"] (defScope s_known_suffix) := ⟨rfl, rfl, rfl, by decide +kernel, rfl, by decide +kernel, by decide +kernel⟩
abbrev s_suffix_of : Stmt := top 34
theorem sc_suffix_of : FnScope ["rules", "host"] ["rules", "host"] (defScope s_suffix_of) := ⟨rfl, rfl, rfl, by decide +kernel, rfl, by decide +kernel, by decide +kernel⟩
abbrev s_known_family : Stmt := top 38
theorem sc_known_family : FnScope ["rules", "host", "suffix"] ["rules", "host"] (defScope s_known_family) := ⟨rfl, rfl, rfl, by decide +kernel, rfl, by decide +kernel, by decide +kernel⟩
abbrev s_family_of : Stmt := top 35
theorem sc_family_of : FnScope ["rules", "host"] ["rules", "host"] (defScope s_family_of) := ⟨rfl, rfl, rfl, by decide +kernel, rfl, by decide +kernel, by decide +kernel⟩
abbrev s_is_suffix : Stmt := top 36
theorem sc_is_suffix : FnScope ["rules", "host"] ["rules", "host"] (defScope s_is_suffix) := ⟨rfl, rfl, rfl, by decide +kernel, rfl, by decide +kernel, by decide +kernel⟩
abbrev s__is_scheme : Stmt := top 28
theorem sc__is_scheme : FnScope ["value"] ["value"] (defScope s__is_scheme) := ⟨rfl, rfl, rfl, by decide +kernel, rfl, by decide +kernel, by decide +kernel⟩
abbrev s_is_origin : Stmt := top 27
theorem sc_is_origin : FnScope ["value"] ["value"] (defScope s_is_origin) := ⟨rfl, rfl, rfl, by decide +kernel, rfl, by decide +kernel, by decide +kernel⟩
abbrev s_site_of : Stmt := top 39
theorem sc_site_of : FnScope ["rules", "origin", "scheme", "host"] ["rules", "origin"] (defScope s_site_of) := ⟨rfl, rfl, rfl, by decide +kernel, rfl, by decide +kernel, by decide +kernel⟩
abbrev s__law_draw : Stmt := top 47
theorem sc__law_draw : FnScope ["cell", "k"] ["cell", "k"] (defScope s__law_draw) := ⟨rfl, rfl, rfl, by decide +kernel, rfl, by decide +kernel, by decide +kernel⟩
abbrev s__law_mixed : Stmt := top 46
theorem sc__law_mixed : FnScope ["cell", "k", "one"] ["cell", "k"] (defScope s__law_mixed) := ⟨rfl, rfl, rfl, by decide +kernel, rfl, by decide +kernel, by decide +kernel⟩
abbrev s__law_digit : Stmt := top 48
theorem sc__law_digit : FnScope ["draw", "span", "j", "found"] ["draw", "span"] (defScope s__law_digit) := ⟨rfl, rfl, rfl, by decide +kernel, rfl, by decide +kernel, by decide +kernel⟩
abbrev s__law_rules : Stmt := top 49
theorem sc__law_rules : FnScope ["draw", "found", "j", "words", "way", "rule", "i"] ["draw"] (defScope s__law_rules) := ⟨rfl, rfl, rfl, by decide +kernel, rfl, by decide +kernel, by decide +kernel⟩
abbrev s__law_matches : Stmt := top 50
theorem sc__law_matches : FnScope ["rule", "words", "own", "last", "j"] ["rule", "words"] (defScope s__law_matches) := ⟨rfl, rfl, rfl, by decide +kernel, rfl, by decide +kernel, by decide +kernel⟩
abbrev s__law_suffix : Stmt := top 51
theorem sc__law_suffix : FnScope ["rules", "words", "sizes", "rule"] ["rules", "words"] (defScope s__law_suffix) := ⟨rfl, rfl, rfl, by decide +kernel, rfl, by decide +kernel, by decide +kernel⟩
abbrev s__law_family : Stmt := top 52
theorem sc__law_family : FnScope ["rules", "words"] ["rules", "words"] (defScope s__law_family) := ⟨rfl, rfl, rfl, by decide +kernel, rfl, by decide +kernel, by decide +kernel⟩
abbrev s__law_labels : Stmt := top 53
theorem sc__law_labels : FnScope ["draw", "j"] ["draw"] (defScope s__law_labels) := ⟨rfl, rfl, rfl, by decide +kernel, rfl, by decide +kernel, by decide +kernel⟩
abbrev s_law : Stmt := top 54
theorem sc_law : FnScope ["script", "k", "amount", "draw", "turn", "rules", "words", "host", "scheme", "suffix", "family", "some", "number", "j"] ["script"] (defScope s_law) := ⟨rfl, rfl, rfl, by decide +kernel, rfl, by decide +kernel, by decide +kernel⟩
/-- what the top has written -/
structure Txt (K : PySem.W.Frag) (mg : Str → Option Value) : Prop where
  b_enumerate : mg "enumerate" = none
  b_int : mg "int" = none
  b_isinstance : mg "isinstance" = none
  b_len : mg "len" = none
  b_max : mg "max" = none
  b_range : mg "range" = none
  b_str : mg "str" = none
  b_sum : mg "sum" = none
  b_tuple : mg "tuple" = none
  c_DIGITS : ∃ u, mg "DIGITS" = some u ∧ RelV (.str "0123456789") u
  c_MOST_OF_LABEL : ∃ u, mg "MOST_OF_LABEL" = some u ∧ RelV (.int 20) u
  c_MOST_LABELS : ∃ u, mg "MOST_LABELS" = some u ∧ RelV (.int 10) u
  c_MOST_OF_HOST : ∃ u, mg "MOST_OF_HOST" = some u ∧ RelV (.int 100) u
  c_MOST_OF_NUMBER : ∃ u, mg "MOST_OF_NUMBER" = some u ∧ RelV (.int 255) u
  c_LABEL_SIGNS : ∃ u, mg "LABEL_SIGNS" = some u ∧ RelV (.str "abcdefghijklmnopqrstuvwxyz0123456789-") u
  c_SCHEMES : ∃ a, mg "SCHEMES" = some (.ref a) ∧ ∀ H, SqT K H a [(.str "http"), (.str "https")]
  c_MOST_RULES : ∃ u, mg "MOST_RULES" = some u ∧ RelV (.int 30) u
  c_ANY : ∃ u, mg "ANY" = some u ∧ RelV (.str "*") u
  c_EXCEPTION : ∃ u, mg "EXCEPTION" = some u ∧ RelV (.str "!") u
  d_has_only : Df K mg "has_only" s_has_only ["text", "signs"]
  d_is_digits : Df K mg "is_digits" s_is_digits ["text"]
  d__is_label : Df K mg "_is_label" s__is_label ["text"]
  d_are_labels : Df K mg "are_labels" s_are_labels ["texts"]
  d__is_number : Df K mg "_is_number" s__is_number ["label"]
  d__are_four_numbers : Df K mg "_are_four_numbers" s__are_four_numbers ["labels"]
  d_is_host : Df K mg "is_host" s_is_host ["value"]
  d_need_host : Df K mg "need_host" s_need_host ["host"]
  d__is_rule : Df K mg "_is_rule" s__is_rule ["value"]
  d_need_rules : Df K mg "need_rules" s_need_rules ["rules"]
  d_is_address_host : Df K mg "is_address_host" s_is_address_host ["value"]
  d__last_labels : Df K mg "_last_labels" s__last_labels ["host", "many"]
  d__size : Df K mg "_size" s__size ["text"]
  d__matches : Df K mg "_matches" s__matches ["pattern", "host"]
  d__suffix_size : Df K mg "_suffix_size" s__suffix_size ["rules", "host"]
  d_known_suffix : Df K mg "known_suffix" s_known_suffix ["rules", "host"]
  d_suffix_of : Df K mg "suffix_of" s_suffix_of ["rules", "host"]
  d_known_family : Df K mg "known_family" s_known_family ["rules", "host"]
  d_family_of : Df K mg "family_of" s_family_of ["rules", "host"]
  d_is_suffix : Df K mg "is_suffix" s_is_suffix ["rules", "host"]
  d__is_scheme : Df K mg "_is_scheme" s__is_scheme ["value"]
  d_is_origin : Df K mg "is_origin" s_is_origin ["value"]
  d_site_of : Df K mg "site_of" s_site_of ["rules", "origin"]
  d__law_draw : Df K mg "_law_draw" s__law_draw ["cell", "k"]
  d__law_mixed : Df K mg "_law_mixed" s__law_mixed ["cell", "k"]
  d__law_digit : Df K mg "_law_digit" s__law_digit ["draw", "span"]
  d__law_rules : Df K mg "_law_rules" s__law_rules ["draw"]
  d__law_matches : Df K mg "_law_matches" s__law_matches ["rule", "words"]
  d__law_suffix : Df K mg "_law_suffix" s__law_suffix ["rules", "words"]
  d__law_family : Df K mg "_law_family" s__law_family ["rules", "words"]
  d__law_labels : Df K mg "_law_labels" s__law_labels ["draw"]
def sp_has_only : Sp := fun vs H Q _ => ∃ x g : Str, vs = [.str x, .str g] ∧ x.length ≤ 1000000 ∧ Q (.bl (onlyB (tl g) (tl x))) H
def sp_is_digits : Sp := fun vs H Q _ => ∃ x : Str, vs = [.str x] ∧ x.length ≤ 1000000 ∧ Q (.bl (digB (tl x))) H
def sp__is_label : Sp := fun vs H Q _ => ∃ x : Str, vs = [.str x] ∧ x.length ≤ 1000000 ∧ Q (.bl (labB (tl x))) H
theorem one_dash (c : Nat) : decide (V.str ⟨#[c]⟩ = V.str ("-" : Str)) = decide (c = 45) := by
  rw [show ("-" : Str) = ⟨#[45]⟩ from ext_tl (by decide +kernel), dec_str, Bool.eq_iff_iff, beq_iff_eq, decide_eq_true_eq, str_eq_iff]
  show [c] = [45] ↔ _
  simp
def sp_are_labels (K : PySem.W.Frag) : Sp := fun vs H Q _ => ∃ (p : Addr) (xs : List Str), vs = [.ref p] ∧ SqL K H p (xs.map V.str) ∧ (∀ x ∈ xs, x.length ≤ 1000000) ∧ Q (.bl ((xs.map tl).all labB)) H
def sp__is_number : Sp := fun vs H Q _ => ∃ x : Str, vs = [.str x] ∧ x.length ≤ 640 ∧ Q (.bl (numB (tl x))) H
theorem one_zero (c : Nat) : decide (V.str ⟨#[c]⟩ = V.str ("0" : Str)) = decide (c = 48) := by
  rw [show ("0" : Str) = ⟨#[48]⟩ from ext_tl (by decide +kernel), dec_str, Bool.eq_iff_iff, beq_iff_eq, decide_eq_true_eq, str_eq_iff]
  show [c] = [48] ↔ _
  simp
theorem str_zero (x : Str) : decide (V.str x = V.str ("0" : Str)) = decide (tl x = [48]) := by
  rw [Bool.eq_iff_iff, decide_eq_true_eq, decide_eq_true_eq]
  exact ⟨fun e => by rw [V.str.inj e]; decide +kernel, fun e => by rw [show x = ("0" : Str) from ext_tl (by rw [e]; decide +kernel)]⟩
def sp__are_four_numbers (K : PySem.W.Frag) : Sp := fun vs H Q _ => ∃ (p : Addr) (xs : List Str), vs = [.ref p] ∧ SqL K H p (xs.map V.str) ∧ (∀ x ∈ xs, x.length ≤ 640) ∧ Q (.bl ((xs.map tl).all numB && decide (xs.length = 4))) H
def sp_is_host (K : PySem.W.Frag) : Sp := fun vs H Q _ => ∃ (v : V) (b : Bool), vs = [v] ∧ TxV hostB K H v b ∧ ∀ H', Same H H' → Q (.bl b) H'
theorem lastL_map {P : List Str} {z : Str} {P0 : List Str} (e : P = P0 ++ [z]) : lastL (P.map tl) = tl z := by
  rw [e, List.map_append]; exact lastL_snoc _ _
def sp_need_host : Sp := fun vs H Q _ => ∃ x : Str, vs = [.str x] ∧ hostB (tl x) = true ∧ ∀ H', Same H H' → Q .non H'
def sp__is_rule : Sp := fun vs H Q _ => ∃ x : Str, vs = [.str x] ∧ x.length ≤ 1000 ∧ ∀ H' : Hp, Same H H' → Q (.bl (ruleB (tl x))) H'
theorem tl_bang2 : tl ("!" : Str) = [33] := by decide +kernel
theorem bang_exc2 (x : Str) : Txt.startswith x ("!" : Str) = excT (tl x) := by
  rw [startswith_tl, tl_bang2]
  unfold excT
  cases h : tl x with
  | nil => rfl
  | cons a r =>
    show ((33 == a) && List.isPrefixOf [] r) = _
    rw [Bool.eq_iff_iff, decide_eq_true_eq, List.isPrefixOf, Bool.and_true, beq_iff_eq, List.head?_cons, Option.some.injEq]
    exact ⟨Eq.symm, Eq.symm⟩
theorem tl_stardot : tl (("*" : Str) ++ ("." : Str)) = [42, 46] := by decide +kernel
def sp_need_rules (K : PySem.W.Frag) : Sp := fun vs H Q _ => ∃ (p : Addr) (rs : List Str), vs = [.ref p] ∧ SqT K H p (rs.map V.str) ∧ rs.length ≤ 30 ∧ RulesOK rs ∧ ∀ H' : Hp, Same H H' → Q .non H'
theorem tyx_tup {K : PySem.W.Frag} {H : Hp} {a : Addr} {xs : List V} (h : SqT K H a xs) : TyX K H (.ref a) (.type "tuple") := by
  rcases h with (h | ⟨o, h⟩) | ⟨o, its, n, h, c, _⟩
  · exact .base (.tup h)
  · exact .fTuple h
  · exact .kTuple h c
def sp_is_address_host (K : PySem.W.Frag) : Sp := fun vs H Q _ => ∃ (v : V) (b : Bool), vs = [v] ∧ TxV addrB K H v b ∧ ∀ H', Same H H' → Q (.bl b) H'
def sp__last_labels : Sp := fun vs H Q _ => ∃ (x : Str) (n : Nat), vs = [.str x, .int n] ∧ x.length ≤ 1000 ∧ 1 ≤ n ∧ n ≤ 100000 ∧
  ∀ (e : Str) (H' : Hp), Same H H' → tl e = joinL [46] (lastN n (sp1 46 (tl x))) → e.length ≤ x.length → Q (.str e) H'
theorem sum_map_le {B : Nat} : ∀ L : List Str, (∀ x ∈ L, x.length ≤ B) → (L.map (·.length)).sum ≤ L.length * B
  | [], _ => by simp
  | x :: L, h => by
    have h1 := h x (List.mem_cons_self ..)
    have h2 := sum_map_le L fun y hy => h y (List.mem_cons_of_mem _ hy)
    rw [List.map_cons, List.sum_cons, List.length_cons, Nat.succ_mul]
    omega
theorem join_fits {a b : Nat} (h1 : a ≤ b * 1000) (h2 : b ≤ 1001) : a + b * 1 ≤ 16777216 := by omega
theorem joinL_drop1 {c : Nat} : ∀ L : List (List Nat), (joinL [c] (L.drop 1)).length ≤ (joinL [c] L).length
  | [] => Nat.le_refl _
  | [p] => Nat.zero_le _
  | p :: q :: r => by
    show _ ≤ (p ++ (c :: joinL [c] (q :: r))).length
    rw [List.length_append, List.length_cons, List.drop_succ_cons, List.drop_zero]
    omega
theorem joinL_drop {c : Nat} (L : List (List Nat)) : ∀ k, (joinL [c] (L.drop k)).length ≤ (joinL [c] L).length
  | 0 => Nat.le_refl _
  | k + 1 => by
    rw [← List.drop_drop]
    exact Nat.le_trans (joinL_drop1 _) (joinL_drop L k)
def sp__size : Sp := fun vs H Q _ => ∃ x : Str, vs = [.str x] ∧ Q (.int ((sp1 46 (tl x)).length : Nat)) H
def sp__matches : Sp := fun vs H Q _ => ∃ x y : Str, vs = [.str x, .str y] ∧ x.length ≤ 10000 ∧ y.length ≤ 1000 ∧ ((tl x).head? = some 42 → ∃ u, tl x = 42 :: 46 :: u) ∧
  ∀ H' : Hp, Same H H' → Q (.bl (mtL (sp1 46 (tl x)) (sp1 46 (tl y)))) H'
theorem tl_star : tl ("*" : Str) = [42] := by decide +kernel
def sp__suffix_size (K : PySem.W.Frag) : Sp := fun vs H Q _ => ∃ (p : Addr) (rs : List Str) (y : Str), vs = [.ref p, .str y] ∧ SqT K H p (rs.map V.str) ∧ (∀ r ∈ rs, ruleB (tl r) = true ∧ r.length ≤ 1000) ∧ y.length ≤ 1000 ∧
  ∀ H' : Hp, Same H H' → Q (.int (sufN (rs.map tl) (sp1 46 (tl y)) : Nat)) H'
theorem tl_bang : tl ("!" : Str) = [33] := by decide +kernel
theorem bang_exc (x : Str) : Txt.startswith x ("!" : Str) = excT (tl x) := by
  rw [startswith_tl, tl_bang]
  unfold excT
  cases h : tl x with
  | nil => rfl
  | cons a r =>
    show ((33 == a) && List.isPrefixOf [] r) = _
    rw [Bool.eq_iff_iff, decide_eq_true_eq, List.isPrefixOf, Bool.and_true, beq_iff_eq, List.head?_cons, Option.some.injEq]
    exact ⟨Eq.symm, Eq.symm⟩
theorem patL_len (t : List Nat) : (sp1 46 t).length = (patL t).length := by
  unfold patL patT
  split
  · next h =>
    unfold excT at h
    cases t with
    | nil => rfl
    | cons a r =>
      simp at h
      subst h
      obtain ⟨p, q, e⟩ := sp1_cons 46 r
      rw [sp1_miss (by decide) e, List.tail_cons, e]
      rfl
  · rfl
theorem rule_star {t : List Nat} (h : ruleB t = true) (hx : excT t = false) (hs : t.head? = some 42) : ∃ u, t = 42 :: 46 :: u := by
  unfold ruleB at h
  rw [hx] at h
  simp only [Bool.false_eq_true, if_false] at h
  by_cases g : [42, 46].isPrefixOf t = true
  · obtain ⟨u, e⟩ := List.isPrefixOf_iff_prefix.mp g
    exact ⟨u, e.symm⟩
  · rw [if_neg g] at h
    obtain ⟨p, q, e⟩ := sp1_cons 46 t
    rw [e, List.all_cons, Bool.and_eq_true] at h
    cases t with
    | nil => simp at hs
    | cons a r =>
      simp at hs
      subst hs
      obtain ⟨p2, q2, e2⟩ := sp1_cons 46 r
      rw [sp1_miss (by decide) e2] at e
      have e3 := (List.cons.inj e).1
      have := lab_sign h.1 (c := 42) (by rw [← e3]; exact List.mem_cons_self ..)
      exact absurd this (by decide)
theorem rule_star2 {t : List Nat} (h : ruleB t = true) (hx : excT t = true) : (patT t).head? ≠ some 42 := fun hs => by
  unfold ruleB at h
  unfold patT at hs
  rw [if_pos hx] at h hs
  rw [Bool.and_eq_true] at h
  obtain ⟨p, q, e⟩ := sp1_cons 46 t.tail
  rw [e, List.all_cons, Bool.and_eq_true] at h
  cases ht : t.tail with
  | nil => rw [ht] at hs; simp at hs
  | cons a r =>
    rw [ht] at hs e
    simp at hs
    subst hs
    obtain ⟨p2, q2, e2⟩ := sp1_cons 46 r
    rw [sp1_miss (by decide) e2] at e
    have e3 := (List.cons.inj e).1
    have := lab_sign h.2.1 (c := 42) (by rw [← e3]; exact List.mem_cons_self ..)
    exact absurd this (by decide)
theorem max_nat (a b : Nat) : (if (b : Int) > (a : Int) then (b : Int) else (a : Int)) = ((max a b : Nat) : Int) := by
  split <;> omega
theorem big_take {q : List Nat → Bool} {rs : List Str} {b i : Nat} {r : Str} (h : rs[i]? = some r) : bigN b q ((rs.take (i + 1)).map tl) = if q (tl r) then max (bigN b q ((rs.take i).map tl)) (patL (tl r)).length else bigN b q ((rs.take i).map tl) := by
  rw [List.take_succ, h]
  show bigN b q (((rs.take i) ++ [r]).map tl) = _
  rw [List.map_append]
  exact bigN_snoc _ _ _ _
def sp_known_suffix (K : PySem.W.Frag) : Sp := fun vs H Q _ => ∃ (p : Addr) (rs : List Str) (y : Str), vs = [.ref p, .str y] ∧ SqT K H p (rs.map V.str) ∧ rs.length ≤ 30 ∧ RulesOK rs ∧ hostB (tl y) = true ∧
  (∀ H' : Hp, Same H H' → addrB (tl y) = true → Q .non H') ∧
  ∀ (e : Str) (H' : Hp), Same H H' → addrB (tl y) = false → tl e = joinL [46] (lastN (sufN (rs.map tl) (sp1 46 (tl y))) (sp1 46 (tl y))) → Q (.str e) H'
def sp_suffix_of (K : PySem.W.Frag) : Sp := fun vs H Q _ => ∃ (p : Addr) (rs : List Str) (y : Str), vs = [.ref p, .str y] ∧ SqT K H p (rs.map V.str) ∧ rs.length ≤ 30 ∧ RulesOK rs ∧ hostB (tl y) = true ∧
  (∀ H' : Hp, Same H H' → addrB (tl y) = true → Q .non H') ∧
  ∀ (e : Str) (H' : Hp), Same H H' → addrB (tl y) = false → tl e = joinL [46] (lastN (sufN (rs.map tl) (sp1 46 (tl y))) (sp1 46 (tl y))) → Q (.str e) H'
def famT (rs : List (List Nat)) (t : List Nat) : List Nat := if addrB t then t else joinL [46] (famL rs (sp1 46 t))
def sp_known_family (K : PySem.W.Frag) : Sp := fun vs H Q _ => ∃ (p : Addr) (rs : List Str) (y : Str), vs = [.ref p, .str y] ∧ SqT K H p (rs.map V.str) ∧ rs.length ≤ 30 ∧ RulesOK rs ∧ hostB (tl y) = true ∧
  ∀ (e : Str) (H' : Hp), Same H H' → tl e = famT (rs.map tl) (tl y) → Q (.str e) H'
def sp_family_of (K : PySem.W.Frag) : Sp := fun vs H Q _ => ∃ (p : Addr) (rs : List Str) (y : Str), vs = [.ref p, .str y] ∧ SqT K H p (rs.map V.str) ∧ rs.length ≤ 30 ∧ RulesOK rs ∧ hostB (tl y) = true ∧
  ∀ (e : Str) (H' : Hp), Same H H' → tl e = famT (rs.map tl) (tl y) → Q (.str e) H'
def ownT (rs : List (List Nat)) (t : List Nat) : Bool := !addrB t && decide (sufN rs (sp1 46 t) = (sp1 46 t).length)
def sp_is_suffix (K : PySem.W.Frag) : Sp := fun vs H Q _ => ∃ (p : Addr) (rs : List Str) (y : Str), vs = [.ref p, .str y] ∧ SqT K H p (rs.map V.str) ∧ rs.length ≤ 30 ∧ RulesOK rs ∧ hostB (tl y) = true ∧
  ∀ (H' : Hp), Same H H' → Q (.bl (ownT (rs.map tl) (tl y))) H'
def sp__is_scheme : Sp := fun vs H Q _ => ∃ x : Str, vs = [.str x] ∧ x ∈ schemes2 ∧ Q (.bl true) H
def sp_is_origin (K : PySem.W.Frag) : Sp := fun vs H Q _ => ∃ (p : Addr) (x y : Str), vs = [.ref p] ∧ H p = some (.tup [.str x, .str y]) ∧ x ∈ schemes2 ∧ hostB (tl y) = true ∧ ∀ H', Same H H' → Q (.bl true) H'
def sp_site_of (K : PySem.W.Frag) : Sp := fun vs H Q _ => ∃ (p o : Addr) (rs : List Str) (x y : Str), vs = [.ref p, .ref o] ∧ SqT K H p (rs.map V.str) ∧ rs.length ≤ 30 ∧ RulesOK rs ∧ H o = some (.tup [.str x, .str y]) ∧ x ∈ schemes2 ∧ hostB (tl y) = true ∧
  ∀ (e : Addr) (z : Str) (H' : Hp), Same H H' → tl z = famT (rs.map tl) (tl y) → H' e = some (.tup [.str x, .str z]) → Q (.ref e) H'
/-- a new draw -/
def sp__law_draw : Sp := fun vs H Q _ => ∃ c k : Int, vs = [.int c, .int k] ∧ 0 ≤ k ∧ k ≤ 1000 ∧ ∀ (d : Addr) (H' : Hp), Same H H' → H d = none → DrawAt H' d 200000000 → Q (.ref d) H'
theorem dkv_merge (l c t : Int) : mergeK [] (dkv l c t) = dkv l c t := by
  simp [mergeK, dkv, putK, kne1, kne2, kne3]
/-- some number below 2147483647 -/
def sp__law_mixed : Sp := fun vs H Q _ => ∃ c k : Int, vs = [.int c, .int k] ∧ 0 ≤ k ∧ k ≤ 1000000000 ∧ ∀ (r : Int) (H' : Hp), Same H H' → 0 ≤ r → r < 2147483647 → Q (.int r) H'
/-- some number below the span -/
def sp__law_digit : Sp := fun vs H Q _ => ∃ (d : Addr) (sp : Int) (n : Nat), vs = [.ref d, .int sp] ∧ 0 < sp ∧ sp < 4000000000 ∧ DrawAt H d (n + 1) ∧
  ∀ (r : Int) (H' : Hp), 0 ≤ r → r < sp → Keep d H H' → DrawAt H' d n → Q (.int r) H'
theorem small15 {n : Nat} (h : n ≤ 15) : n < sizeLine := Nat.lt_of_le_of_lt h (by decide)
def sp__law_rules : Sp := fun vs H Q _ => ∃ (d : Addr) (n : Nat), vs = [.ref d] ∧ DrawAt H d (n + 40) ∧
  ∀ (p : Addr) (rs : List Str) (H' : Hp), rs.length ≤ 6 → rs.Nodup → (∀ r ∈ rs, GenR (tl r)) → Keep d H H' → H' p = some (.tup (rs.map V.str)) → H p = none → DrawAt H' d n → Q (.ref p) H'
def sp__law_matches (K : PySem.W.Frag) : Sp := fun vs H Q _ => ∃ (x : Str) (p : Addr) (W : List Str), vs = [.str x, .ref p] ∧ SqL K H p (W.map V.str) ∧ GenR (tl x) ∧ W.length ≤ 6 ∧ (∀ w ∈ W, abc (tl w)) ∧
  ∀ H', Same H H' → Q (.bl (mtL (patL (tl x)) (W.map tl))) H'
def sp__law_suffix (K : PySem.W.Frag) : Sp := fun vs H Q _ => ∃ (r p : Addr) (rs W : List Str), vs = [.ref r, .ref p] ∧ SqT K H r (rs.map V.str) ∧ SqL K H p (W.map V.str) ∧ rs.length ≤ 30 ∧ (∀ t ∈ rs, GenR (tl t)) ∧ W ≠ [] ∧ W.length ≤ 6 ∧ (∀ w ∈ W, abc (tl w)) ∧
  ∀ (e : Addr) (H' : Hp), Same H H' → H e = none → H' e = some (.lst ((lastN (sufN (rs.map tl) (W.map tl)) W).map V.str)) → Q (.ref e) H'
def sp__law_family (K : PySem.W.Frag) : Sp := fun vs H Q _ => ∃ (r p : Addr) (rs W : List Str), vs = [.ref r, .ref p] ∧ SqT K H r (rs.map V.str) ∧ SqL K H p (W.map V.str) ∧ rs.length ≤ 30 ∧ (∀ t ∈ rs, GenR (tl t)) ∧ W ≠ [] ∧ W.length ≤ 6 ∧ (∀ w ∈ W, abc (tl w)) ∧
  ∀ (e : Addr) (F : List Str) (H' : Hp), Same H H' → F.map tl = famL (rs.map tl) (W.map tl) → SqL K H' e (F.map V.str) → Q (.ref e) H'
theorem ascii_abc {x : Str} (h : abc (tl x)) : ascii x := fun s hs => by rcases h with e | e | e <;> rw [e] at hs <;> simp at hs <;> omega
theorem eqv_strsL (W Z : List Str) : PyData.eqv (.list (W.map PyData.str)) (.list (Z.map PyData.str)) = decide (W = Z) := by rw [PyData.eqv, eqvAll_strs]
def sp__law_labels : Sp := fun vs H Q _ => ∃ (d : Addr) (n : Nat), vs = [.ref d] ∧ DrawAt H d (n + 10) ∧
  ∀ (p : Addr) (W : List Str) (H' : Hp), W ≠ [] → W.length ≤ 6 → (∀ x ∈ W, abc (tl x)) → Keep d H H' → H' p = some (.lst (W.map V.str)) → H p = none → DrawAt H' d n → Q (.ref p) H'
def sp_law (K : PySem.W.Frag) : Sp := fun vs H Q _ => ∃ (a : Addr) (ns : List Int), vs = [.ref a] ∧ SqL K H a (ns.map V.int) ∧ ns.length ≤ 63 ∧ ∀ H', Q (.bl true) H'
section
variable {P : Program} {w : World} {K : PySem.W.Frag} {mg : Str → Option Value} {base : Heap}
theorem ok_has_only (T : Txt K mg) : Cal P w K mg base CX0 1 "has_only" ["text", "signs"] sp_has_only := by
  refine T.d_has_only.ok0 sc_has_only (fun vs H Q E h => ?_) (fun f cdv A outer s H vs Q E hr h => ?_)
  · first | (obtain ⟨_, rfl, _⟩ := h; rfl) | (obtain ⟨_, _, rfl, _⟩ := h; rfl) | (obtain ⟨_, _, _, rfl, _⟩ := h; rfl) | (obtain ⟨_, _, _, _, rfl, _⟩ := h; rfl) | (obtain ⟨_, _, _, _, _, rfl, _⟩ := h; rfl)
  · refine ⟨_, (pss_one (ps_ret (pe_and (pe_cmpR (op_ne) (pv 0) pe_str (nomark _)) (pe_one (pe_cmpR (op_eq) (pe_m1 PySem.F.slot_str_strip PySem.F.type_str_strip mt_stripChars (pv 0) (pv 1)) pe_str (nomark _)))))), ?_⟩
    obtain ⟨x, g, rfl, hx, hQ⟩ := h
    rw [← strip_only] at hQ
    refine ⟨_, rfl, rfl, _, rfl, ?_⟩
    cases hz : (!decide (V.str x = V.str ("" : Str))) with
    | false => rw [hz, Bool.false_and] at hQ; exact iteF hQ
    | true =>
      rw [hz, Bool.true_and] at hQ
      exact iteT ⟨_, rfl, ⟨_, rfl⟩, _, rfl, _, _, rfl, rfl, Nat.le_trans hx (by decide), rfl, hQ⟩
theorem ok_is_digits (T : Txt K mg) : Cal P w K mg base CX0 2 "is_digits" ["text"] sp_is_digits := by
  refine T.d_is_digits.ok0 sc_is_digits (fun vs H Q E h => ?_) (fun f cdv A outer s H vs Q E hr h => ?_)
  · first | (obtain ⟨_, rfl, _⟩ := h; rfl) | (obtain ⟨_, _, rfl, _⟩ := h; rfl) | (obtain ⟨_, _, _, rfl, _⟩ := h; rfl) | (obtain ⟨_, _, _, _, rfl, _⟩ := h; rfl) | (obtain ⟨_, _, _, _, _, rfl, _⟩ := h; rfl)
  · refine ⟨_, (pss_one (ps_ret (pe_c (ok_has_only T) hr (by decide) (by rfl) pass0 (pa_cons (pv 0) (pa_cons (pe_gc (by rfl) T.c_DIGITS) pa_nil))))), ?_⟩
    obtain ⟨x, rfl, hx, hQ⟩ := h
    exact ⟨_, rfl, x, _, rfl, hx, by rw [tl_digs]; exact hQ⟩
theorem ok__is_label (T : Txt K mg) : Cal P w K mg base CX0 2 "_is_label" ["text"] sp__is_label := by
  refine T.d__is_label.ok0 sc__is_label (fun vs H Q E h => ?_) (fun f cdv A outer s H vs Q E hr h => ?_)
  · first | (obtain ⟨_, rfl, _⟩ := h; rfl) | (obtain ⟨_, _, rfl, _⟩ := h; rfl) | (obtain ⟨_, _, _, rfl, _⟩ := h; rfl) | (obtain ⟨_, _, _, _, rfl, _⟩ := h; rfl) | (obtain ⟨_, _, _, _, _, rfl, _⟩ := h; rfl)
  · refine ⟨_, (pss_cons (ps_if (PW.pt (pw_or (pt_cmpR (op_gt) (pe_callB call_len_str (by rfl) T.b_len (by decide +kernel) (pa_cons (pv 0) pa_nil)) (pe_gc (by rfl) T.c_MOST_OF_LABEL) (nomark _)) (pw_or1 (pt_not (pt_val (pe_c (ok_has_only T) hr (by decide) (by rfl) pass0 (pa_cons (pv 0) (pa_cons (pe_gc (by rfl) T.c_LABEL_SIGNS) pa_nil))))))))
      (pss_one (ps_ret pe_bl))
      pss_nil)
      (pss_one (ps_ret (pe_and (pe_cmpR (op_ne) (pe_ix ix_str (pv 0) pe_int (fun _ _ => rfl)) pe_str (nomark _)) (pe_one (pe_cmpR (op_ne) (pe_ix ix_str (pv 0) (pe_un un_neg pe_int) (fun _ _ => rfl)) pe_str (nomark _))))))), ?_⟩
    obtain ⟨x, rfl, hx, hQ⟩ := h
    refine ⟨_, rfl, x, rfl, Nat.le_trans hx (by decide), _, _, rfl, rfl, _, rfl, iteB (fun h1 => ?_) (fun h1 => ?_)⟩
    · have h1 : (20 : Int) < (x.length : Int) := of_decide_eq_true h1
      have e : labB (tl x) = false := by
        unfold labB
        rw [decide_eq_false (by rw [len_tl] at h1; omega), Bool.false_and]
      rw [e] at hQ
      exact hQ
    have h1 : ¬ (20 : Int) < (x.length : Int) := of_decide_eq_false h1
    have hl : (tl x).length ≤ 20 := by rw [len_tl] at h1; omega
    unfold labB at hQ
    rw [decide_eq_true hl, Bool.true_and] at hQ
    refine ⟨_, rfl, x, _, rfl, hx, ?_⟩
    rw [tl_lsig]
    refine ⟨_, rfl, ?_⟩
    cases h2 : onlyB lsig (tl x) with
    | false =>
      rw [h2, Bool.false_and] at hQ
      exact iteT hQ
    | true =>
      rw [h2, Bool.true_and] at hQ
      refine iteF ?_
      have hne : tl x ≠ [] := by
        unfold onlyB at h2
        rw [Bool.and_eq_true, decide_eq_true_eq] at h2
        exact h2.2
      obtain ⟨r, d, er⟩ := snoc_of_ne hne
      obtain ⟨a, r2, ea⟩ : ∃ a r2, tl x = a :: r2 := List.exists_cons_of_ne_nil hne
      have h0 : atI x.cps.toList 0 = some a := by show atI (tl x) ((0 : Nat) : Int) = _; rw [ea]; exact atI_nat rfl
      have hz : atI x.cps.toList (-1) = some d := by show atI (tl x) (-1) = _; rw [er]; exact atI_last r d
      have e1 : (tl x).head? = some a := by rw [ea]; rfl
      have e2 : (tl x).getLast? = some d := by rw [er, List.getLast?_concat]
      rw [e1, e2] at hQ
      refine ⟨_, rfl, x, _, a, rfl, rfl, Nat.le_trans hx (by decide), h0, rfl, _, rfl, ?_⟩
      rw [one_dash]
      have e3 : decide (some a ≠ some 45) = !decide (a = 45) := by rw [Bool.eq_iff_iff]; simp
      have e4 : decide (some d ≠ some 45) = !decide (d = 45) := by rw [Bool.eq_iff_iff]; simp
      rw [e3, e4] at hQ
      cases h3 : decide (a = 45) with
      | true =>
        rw [h3] at hQ
        exact iteF hQ
      | false =>
        rw [h3] at hQ
        refine iteT ⟨_, rfl, _, rfl, x, _, d, rfl, rfl, Nat.le_trans hx (by decide), hz, rfl, ?_⟩
        rw [one_dash]
        exact hQ
theorem ok_are_labels (T : Txt K mg) : Cal P w K mg base CX0 3 "are_labels" ["texts"] (sp_are_labels K) := by
  refine T.d_are_labels.ok0 sc_are_labels (fun vs H Q E h => ?_) (fun f cdv A outer s H vs Q E hr h => ?_)
  · first | (obtain ⟨_, rfl, _⟩ := h; rfl) | (obtain ⟨_, _, rfl, _⟩ := h; rfl) | (obtain ⟨_, _, _, rfl, _⟩ := h; rfl) | (obtain ⟨_, _, _, _, rfl, _⟩ := h; rfl) | (obtain ⟨_, _, _, _, _, rfl, _⟩ := h; rfl)
  · refine ⟨_, (pss_cons (ps_for PassesOwn.never rfl (pi_list (pv 0)) (pg_name (i := 1) sc_are_labels.nd rfl (by first | exact Or.inl rfl | exact Or.inr rfl))
      (pss_one (ps_if (pt_not (pt_val (pe_c (ok__is_label T) hr (by decide) (by rfl) pass0 (pa_cons (pv 1) pa_nil))))
      (pss_one (ps_ret pe_bl))
      pss_nil)))
      (pss_one (ps_ret pe_bl))), ?_⟩
    obtain ⟨p, xs, rfl, hp, hx, hQ⟩ := h
    refine ⟨_, rfl, p, rfl, ⟨_, hp⟩, for_list (K := K) (a := p) (xs := xs.map V.str) (fun i σ H1 => ∃ sv, σ = [some (.ref p), sv] ∧ H1 = H ∧ ((xs.take i).map tl).all labB = true) ⟨none, rfl, rfl, by simp⟩ (fun i σ H1 _ ⟨_, _, e, _⟩ => by rw [e]; exact hp) ?_ ?_⟩
    · rintro i v σ H1 hi ⟨sv, rfl, rfl, ha⟩
      obtain ⟨x, hxi, rfl⟩ := strAt hi
      refine ⟨_, rfl, x, rfl, hx x (List.mem_of_getElem? hxi), _, rfl, ?_⟩
      cases hl : labB (tl x) with
      | true => exact iteF ⟨_, rfl, rfl, by rw [allS_at hxi, ha, hl]; rfl⟩
      | false =>
        have e : (xs.map tl).all labB = false := by
          rw [List.all_eq_false]
          exact ⟨tl x, List.mem_map.mpr ⟨x, List.mem_of_getElem? hxi, rfl⟩, by rw [hl]; exact Bool.false_ne_true⟩
        rw [e] at hQ
        exact iteT hQ
    · rintro σ H1 ⟨sv, rfl, rfl, ha⟩
      rw [List.length_map, List.take_length] at ha
      rw [ha] at hQ
      exact hQ
theorem ok__is_number (T : Txt K mg) : Cal P w K mg base CX0 3 "_is_number" ["label"] sp__is_number := by
  refine T.d__is_number.ok0 sc__is_number (fun vs H Q E h => ?_) (fun f cdv A outer s H vs Q E hr h => ?_)
  · first | (obtain ⟨_, rfl, _⟩ := h; rfl) | (obtain ⟨_, _, rfl, _⟩ := h; rfl) | (obtain ⟨_, _, _, rfl, _⟩ := h; rfl) | (obtain ⟨_, _, _, _, rfl, _⟩ := h; rfl) | (obtain ⟨_, _, _, _, _, rfl, _⟩ := h; rfl)
  · refine ⟨_, (pss_cons (ps_if (PW.pt (pw_or (pt_not (pt_val (pe_c (ok_is_digits T) hr (by decide) (by rfl) pass0 (pa_cons (pv 0) pa_nil)))) (pw_or1 (pt_cmpR (op_gt) (pe_callTy call_int_str (by rfl) T.b_int (by decide +kernel) (pa_cons (pv 0) pa_nil)) (pe_gc (by rfl) T.c_MOST_OF_NUMBER) (nomark _)))))
      (pss_one (ps_ret pe_bl))
      pss_nil)
      (pss_one (ps_ret (pe_or (pe_cmpR (op_eq) (pv 0) pe_str (nomark _)) (pe_one (pe_cmpR (op_ne) (pe_ix ix_str (pv 0) pe_int (fun _ _ => rfl)) pe_str (nomark _))))))), ?_⟩
    obtain ⟨x, rfl, hx, hQ⟩ := h
    unfold numB at hQ
    refine ⟨_, rfl, x, rfl, Nat.le_trans hx (by decide), _, rfl, ?_⟩
    cases h1 : digB (tl x) with
    | false =>
      rw [h1, Bool.false_and] at hQ
      exact iteT hQ
    | true =>
      rw [h1, Bool.true_and] at hQ
      refine iteF ⟨_, rfl, x, _, rfl, int_dig h1 hx, hx, _, _, rfl, rfl, _, rfl, ?_⟩
      refine iteB (fun h2 => ?_) (fun h2 => ?_)
      · have h2 : (255 : Int) < ((NumText.digitsVal (tl x) : Nat) : Int) := of_decide_eq_true h2
        rw [decide_eq_false (by omega), Bool.false_and] at hQ
        exact hQ
      · have h2 : ¬ (255 : Int) < ((NumText.digitsVal (tl x) : Nat) : Int) := of_decide_eq_false h2
        rw [decide_eq_true (by omega), Bool.true_and] at hQ
        refine ⟨_, rfl, rfl, _, rfl, ?_⟩
        rw [str_zero]
        cases h3 : decide (tl x = [48]) with
        | true =>
          rw [h3, Bool.true_or] at hQ
          exact iteT hQ
        | false =>
          rw [h3, Bool.false_or] at hQ
          obtain ⟨a, r2, ea⟩ : ∃ a r2, tl x = a :: r2 := List.exists_cons_of_ne_nil (digB_iff.mp h1).2
          have h0 : atI x.cps.toList 0 = some a := by show atI (tl x) ((0 : Nat) : Int) = _; rw [ea]; exact atI_nat rfl
          refine iteF ⟨_, rfl, x, _, a, rfl, rfl, Nat.le_trans hx (by decide), h0, rfl, ?_⟩
          rw [one_zero]
          have e3 : decide ((tl x).head? ≠ some 48) = !decide (a = 48) := by rw [ea, Bool.eq_iff_iff]; simp
          rw [e3] at hQ
          exact hQ
theorem ok__are_four_numbers (T : Txt K mg) : Cal P w K mg base CX0 4 "_are_four_numbers" ["labels"] (sp__are_four_numbers K) := by
  refine T.d__are_four_numbers.ok0 sc__are_four_numbers (fun vs H Q E h => ?_) (fun f cdv A outer s H vs Q E hr h => ?_)
  · first | (obtain ⟨_, rfl, _⟩ := h; rfl) | (obtain ⟨_, _, rfl, _⟩ := h; rfl) | (obtain ⟨_, _, _, rfl, _⟩ := h; rfl) | (obtain ⟨_, _, _, _, rfl, _⟩ := h; rfl) | (obtain ⟨_, _, _, _, _, rfl, _⟩ := h; rfl)
  · refine ⟨_, (pss_cons (ps_for PassesOwn.never rfl (pi_list (pv 0)) (pg_name (i := 1) sc__are_four_numbers.nd rfl (by first | exact Or.inl rfl | exact Or.inr rfl))
      (pss_one (ps_if (pt_not (pt_val (pe_c (ok__is_number T) hr (by decide) (by rfl) pass0 (pa_cons (pv 1) pa_nil))))
      (pss_one (ps_ret pe_bl))
      pss_nil)))
      (pss_one (ps_ret (pe_cmpR (op_eq) (pe_callB call_len_seq (by rfl) T.b_len (by decide +kernel) (pa_cons (pv 0) pa_nil)) pe_int (nomark _))))), ?_⟩
    obtain ⟨p, xs, rfl, hp, hx, hQ⟩ := h
    refine ⟨_, rfl, p, rfl, ⟨_, hp⟩, for_list (K := K) (a := p) (xs := xs.map V.str) (fun i σ H1 => ∃ sv, σ = [some (.ref p), sv] ∧ H1 = H ∧ ((xs.take i).map tl).all numB = true) ⟨none, rfl, rfl, by simp⟩ (fun i σ H1 _ ⟨_, _, e, _⟩ => by rw [e]; exact hp) ?_ ?_⟩
    · rintro i v σ H1 hi ⟨sv, rfl, rfl, ha⟩
      obtain ⟨x, hxi, rfl⟩ := strAt hi
      refine ⟨_, rfl, x, rfl, hx x (List.mem_of_getElem? hxi), _, rfl, ?_⟩
      cases hl : numB (tl x) with
      | true => exact iteF ⟨_, rfl, rfl, by rw [allS_at hxi, ha, hl]; rfl⟩
      | false =>
        have e : (xs.map tl).all numB = false := by
          rw [List.all_eq_false]
          exact ⟨tl x, List.mem_map.mpr ⟨x, List.mem_of_getElem? hxi, rfl⟩, by rw [hl]; exact Bool.false_ne_true⟩
        rw [e, Bool.false_and] at hQ
        exact iteT hQ
    · rintro σ H1 ⟨sv, rfl, rfl, ha⟩
      rw [List.length_map, List.take_length] at ha
      rw [ha, Bool.true_and] at hQ
      refine ⟨_, rfl, p, _, rfl, .inl hp, rfl, ?_⟩
      have e : decide (V.int ((xs.map V.str).length : Nat) = V.int 4) = decide (xs.length = 4) := by
        rw [dec_int, Bool.eq_iff_iff, beq_iff_eq, decide_eq_true_eq, List.length_map]; omega
      rw [e]
      exact hQ
theorem ok_is_host (T : Txt K mg) : Cal P w K mg base CX0 5 "is_host" ["value"] (sp_is_host K) := by
  refine T.d_is_host.ok0 sc_is_host (fun vs H Q E h => ?_) (fun f cdv A outer s H vs Q E hr h => ?_)
  · first | (obtain ⟨_, rfl, _⟩ := h; rfl) | (obtain ⟨_, _, rfl, _⟩ := h; rfl) | (obtain ⟨_, _, _, rfl, _⟩ := h; rfl) | (obtain ⟨_, _, _, _, rfl, _⟩ := h; rfl) | (obtain ⟨_, _, _, _, _, rfl, _⟩ := h; rfl)
  · refine ⟨_, (pss_cons (ps_if (PW.pt (pw_or (pt_not (pt_val (pe_callB call_isi (by rfl) T.b_isinstance (by decide +kernel) (pa_cons (pv 0) (pa_cons (pe_bltn (v := .ty "str") (by rfl) T.b_str (by decide +kernel) rfl) pa_nil))))) (pw_or1 (pt_cmpR (op_gt) (pe_callB call_len_str (by rfl) T.b_len (by decide +kernel) (pa_cons (pv 0) pa_nil)) (pe_gc (by rfl) T.c_MOST_OF_HOST) (nomark _)))))
      (pss_one (ps_ret pe_bl))
      pss_nil)
      (pss_cons (ps_set (i := 1) sc_is_host.nd rfl (by first | exact Or.inl rfl | exact Or.inr rfl) (pe_split (pv 0) pe_str))
      (pss_cons (ps_if (PW.pt (pw_or (pt_cmpR (op_gt) (pe_callB call_len_seq (by rfl) T.b_len (by decide +kernel) (pa_cons (pv 1) pa_nil)) (pe_gc (by rfl) T.c_MOST_LABELS) (nomark _)) (pw_or1 (pt_not (pt_val (pe_c (ok_are_labels T) hr (by decide) (by rfl) pass0 (pa_cons (pv 1) pa_nil)))))))
      (pss_one (ps_ret pe_bl))
      pss_nil)
      (pss_one (ps_ret (pe_or (pe_not (pe_c (ok_is_digits T) hr (by decide) (by rfl) pass0 (pa_cons (pe_ix ix_list (pv 1) (pe_un un_neg pe_int) (fun _ _ => rfl)) pa_nil))) (pe_one (pe_c (ok__are_four_numbers T) hr (by decide) (by rfl) pass0 (pa_cons (pv 1) pa_nil))))))))), ?_⟩
    obtain ⟨v, b, rfl, hv, hQ⟩ := h
    rcases hv with ⟨x, rfl, hx, rfl⟩ | ⟨t, ht, hk, rfl⟩
    · refine ⟨_, rfl, _, _, _, _, true, rfl, .ty _, .base (.str x), kit_str K, _, rfl, iteF ?_⟩
      refine ⟨_, rfl, x, rfl, Nat.le_trans hx (by decide), _, _, rfl, rfl, _, rfl, iteB (fun h1 => ?_) (fun h1 => ?_)⟩
      · have h1 : (100 : Int) < (x.length : Int) := of_decide_eq_true h1
        have e : hostB (tl x) = false := by
          unfold hostB
          rw [decide_eq_false (by rw [len_tl] at h1; omega), Bool.false_and]
        rw [e] at hQ
        exact hQ _ (Same.refl _)
      have h1 : ¬ (100 : Int) < (x.length : Int) := of_decide_eq_false h1
      have hl : (tl x).length ≤ 100 := by rw [len_tl] at h1; omega
      have hl2 : x.length ≤ 100 := by rw [len_tl]; exact hl
      unfold hostB at hQ
      rw [decide_eq_true hl, Bool.true_and] at hQ
      refine ⟨_, rfl, ⟨_, rfl⟩, _, _, rfl, rfl, by decide +kernel, Nat.le_trans (by omega : _ ≤ 10000) (by decide), fun p hp => ?_⟩
      have e1 := split_sp1 x (c := 46) (by decide)
      have ml : ∀ p ∈ Txt.split x ⟨#[46]⟩, p.length ≤ x.length := fun p hp => split_mem_len (c := 46) (by decide) hp
      rw [← dot_eq] at e1 ml
      rw [← e1] at hQ
      have hne : Txt.split x ("." : Str) ≠ [] := fun e => by rw [e] at e1; exact sp1_ne _ _ e1.symm
      generalize Txt.split x ("." : Str) = P at *
      obtain ⟨P0, z, eP⟩ : ∃ P0 z, P = P0 ++ [z] := ⟨P.dropLast, P.getLast hne, (List.dropLast_concat_getLast hne).symm⟩
      have s1 := Same.new (o := HO.lst (P.map V.str)) hp
      have m1 : (upd H p (.lst (P.map V.str))) p = some (.lst (P.map V.str)) := upd_same
      generalize upd H p (.lst (P.map V.str)) = H1 at s1 m1 ⊢
      unfold hostL at hQ
      refine ⟨_, rfl, p, _, rfl, .inl (SqL.of m1), _, _, rfl, rfl, _, rfl, iteB (fun h2 => ?_) (fun h2 => ?_)⟩
      · have h2 : (10 : Int) < ((P.map V.str).length : Int) := of_decide_eq_true h2
        rw [List.length_map] at h2
        rw [decide_eq_false (by rw [List.length_map]; omega), Bool.false_and] at hQ
        exact hQ _ s1
      have h2 : ¬ (10 : Int) < ((P.map V.str).length : Int) := of_decide_eq_false h2
      rw [List.length_map] at h2
      rw [decide_eq_true (by rw [List.length_map]; omega), Bool.true_and] at hQ
      refine ⟨_, rfl, p, P, rfl, SqL.of m1, fun y hy => Nat.le_trans (ml y hy) (by omega), _, rfl, ?_⟩
      cases h3 : (P.map tl).all labB with
      | false =>
        rw [h3, Bool.false_and] at hQ
        exact iteT (hQ _ s1)
      | true =>
        rw [h3, Bool.true_and, lastL_map eP] at hQ
        refine iteF ?_
        have ha : atI (P.map V.str) (-1) = some (.str z) := by rw [eP, List.map_append]; exact atI_last _ _
        refine ⟨_, rfl, _, rfl, p, _, _, _, rfl, rfl, SqL.of m1, ha, z, rfl, Nat.le_trans (ml z (by rw [eP]; simp)) (by omega), _, rfl, _, rfl, ?_⟩
        cases h4 : digB (tl z) with
        | false =>
          rw [h4] at hQ
          exact iteT (hQ _ s1)
        | true =>
          rw [h4] at hQ
          refine iteF ⟨_, rfl, p, P, rfl, SqL.of m1, fun y hy => Nat.le_trans (ml y hy) (by omega), ?_⟩
          rw [List.length_map] at hQ
          exact hQ _ s1
    · refine ⟨_, rfl, _, _, _, _, false, rfl, .ty _, ht, hk, _, rfl, iteT ?_⟩
      exact hQ _ (Same.refl _)
theorem ok_need_host (T : Txt K mg) : Cal P w K mg base CX0 6 "need_host" ["host"] sp_need_host := by
  refine T.d_need_host.ok0 sc_need_host (fun vs H Q E h => ?_) (fun f cdv A outer s H vs Q E hr h => ?_)
  · first | (obtain ⟨_, rfl, _⟩ := h; rfl) | (obtain ⟨_, _, rfl, _⟩ := h; rfl) | (obtain ⟨_, _, _, rfl, _⟩ := h; rfl) | (obtain ⟨_, _, _, _, rfl, _⟩ := h; rfl) | (obtain ⟨_, _, _, _, _, rfl, _⟩ := h; rfl)
  · refine ⟨_, (pss_cons (ps_if (pt_not (pt_val (pe_callB call_isi (by rfl) T.b_isinstance (by decide +kernel) (pa_cons (pv 0) (pa_cons (pe_bltn (v := .ty "str") (by rfl) T.b_str (by decide +kernel) rfl) pa_nil)))))
      (pss_one ps_never)
      pss_nil)
      (pss_one (ps_if (pt_not (pt_val (pe_c (ok_is_host T) hr (by decide) (by rfl) pass0 (pa_cons (pv 0) pa_nil))))
      (pss_one ps_never)
      pss_nil))), ?_⟩
    obtain ⟨x, rfl, hx, hQ⟩ := h
    have hl := hostB_len hx
    refine ⟨_, rfl, _, _, _, _, true, rfl, .ty _, .base (.str x), kit_str K, _, rfl, iteF ?_⟩
    refine ⟨_, rfl, .str x, true, rfl, .inl ⟨x, rfl, by omega, hx.symm⟩, fun H1 s1 => ⟨_, rfl, iteF ?_⟩⟩
    exact hQ _ s1
theorem ok__is_rule (T : Txt K mg) : Cal P w K mg base CX0 4 "_is_rule" ["value"] sp__is_rule := by
  refine T.d__is_rule.ok0 sc__is_rule (fun vs H Q E h => ?_) (fun f cdv A outer s H vs Q E hr h => ?_)
  · first | (obtain ⟨_, rfl, _⟩ := h; rfl) | (obtain ⟨_, _, rfl, _⟩ := h; rfl) | (obtain ⟨_, _, _, rfl, _⟩ := h; rfl) | (obtain ⟨_, _, _, _, rfl, _⟩ := h; rfl) | (obtain ⟨_, _, _, _, _, rfl, _⟩ := h; rfl)
  · refine ⟨_, (pss_cons (ps_if (pt_not (pt_val (pe_callB call_isi (by rfl) T.b_isinstance (by decide +kernel) (pa_cons (pv 0) (pa_cons (pe_bltn (v := .ty "str") (by rfl) T.b_str (by decide +kernel) rfl) pa_nil)))))
      (pss_one (ps_ret pe_bl))
      pss_nil)
      (pss_cons (ps_if (pt_val (pe_m1 PySem.F.slot_str_startswith PySem.F.type_str_startswith mt_startswith (pv 0) (pe_gc (by rfl) T.c_EXCEPTION)))
      (pss_cons (ps_set (i := 1) sc__is_rule.nd rfl (by first | exact Or.inl rfl | exact Or.inr rfl) (pe_split (pe_slice sl_str (pv 0) (po_some pe_int) po_none) pe_str))
      (pss_one (ps_ret (pe_and (pe_cmpR (op_gt) (pe_callB call_len_seq (by rfl) T.b_len (by decide +kernel) (pa_cons (pv 1) pa_nil)) pe_int (nomark _)) (pe_one (pe_c (ok_are_labels T) hr (by decide) (by rfl) pass0 (pa_cons (pv 1) pa_nil)))))))
      pss_nil)
      (pss_one (ps_ret (pe_c (ok_are_labels T) hr (by decide) (by rfl) pass0 (pa_cons (pe_split (pe_m1 PySem.F.slot_str_removeprefix PySem.F.type_str_removeprefix mt_removeprefix (pv 0) (pe_op op_add_str (pe_gc (by rfl) T.c_ANY) pe_str)) pe_str) pa_nil)))))), ?_⟩
    obtain ⟨x, rfl, hx, hQ⟩ := h
    refine ⟨_, rfl, _, _, _, _, true, rfl, .ty _, .base (.str x), kit_str K, _, rfl, iteF ?_⟩
    refine ⟨_, rfl, ⟨_, rfl⟩, _, _, rfl, rfl, _, rfl, ?_⟩
    rw [bang_exc2]
    unfold ruleB at hQ
    cases hx1 : excT (tl x) with
    | true =>
      rw [hx1, if_pos rfl] at hQ
      have el : (cutS x (some 1) none).length ≤ 1000 := by
        rw [len_tl, cutS_from x (by decide), List.length_drop, ← len_tl]
        omega
      have ep : tl (cutS x (some 1) none) = (tl x).tail := by rw [cutS_from x (by decide), ← List.drop_one]; rfl
      refine iteT ⟨_, rfl, _, rfl, x, rfl, Nat.le_trans hx (by decide), ⟨_, rfl⟩, _, _, rfl, rfl, by decide +kernel, Nat.le_trans (by omega : _ ≤ 100000) (by decide), fun p hp => ?_⟩
      have e1 := split_sp1 (cutS x (some 1) none) (c := 46) (by decide)
      have ml : ∀ p ∈ Txt.split (cutS x (some 1) none) ⟨#[46]⟩, p.length ≤ 1000 := fun p hp => Nat.le_trans (split_mem_len (c := 46) (by decide) hp) el
      rw [← dot_eq] at e1 ml
      rw [ep] at e1
      rw [← e1] at hQ
      generalize Txt.split (cutS x (some 1) none) ("." : Str) = P at *
      have s1 := Same.new (o := HO.lst (P.map V.str)) hp
      have m1 : (upd H p (.lst (P.map V.str))) p = some (.lst (P.map V.str)) := upd_same
      generalize upd H p (.lst (P.map V.str)) = H1 at s1 m1 ⊢
      refine ⟨_, rfl, p, _, rfl, .inl (SqL.of m1), _, _, rfl, rfl, ?_⟩
      refine ⟨_, rfl, iteB (fun h2 => ?_) (fun h2 => ?_)⟩
      · have h2 : (1 : Int) < ((P.map V.str).length : Int) := of_decide_eq_true h2
        rw [List.length_map] at h2
        rw [decide_eq_true (by rw [List.length_map]; omega), Bool.true_and] at hQ
        exact ⟨_, rfl, p, P, rfl, SqL.of m1, fun y hy => Nat.le_trans (ml y hy) (by decide), hQ _ s1⟩
      · have h2 : ¬ (1 : Int) < ((P.map V.str).length : Int) := of_decide_eq_false h2
        rw [List.length_map] at h2
        rw [decide_eq_false (by rw [List.length_map]; omega), Bool.false_and] at hQ
        exact hQ _ s1
    | false =>
      rw [hx1, if_neg Bool.false_ne_true] at hQ
      refine iteF ?_
      obtain ⟨y, ey, hy, eq⟩ : ∃ y : Str, Txt.removeprefix x (("*" : Str) ++ ("." : Str)) = y ∧ y.length ≤ 1000 ∧ tl y = (if [42, 46].isPrefixOf (tl x) = true then (tl x).drop 2 else tl x) := by
        refine ⟨_, rfl, ?_⟩
        by_cases g : [42, 46].isPrefixOf (tl x) = true
        · obtain ⟨u, eu⟩ := List.isPrefixOf_iff_prefix.mp g
          have h1 := removeprefix_hit (x := x) (y := ("*" : Str) ++ ("." : Str)) (b := u) (by rw [tl_stardot, eu])
          rw [if_pos g, len_tl, h1, ← eu]
          rw [len_tl, ← eu] at hx
          exact ⟨by rw [List.length_append] at hx; omega, rfl⟩
        · rw [if_neg g, removeprefix_miss (by rw [tl_stardot]; exact fun q => g (List.isPrefixOf_iff_prefix.mpr q))]
          exact ⟨hx, rfl⟩
      rw [← eq] at hQ
      refine ⟨_, rfl, ⟨_, rfl⟩, _, _, rfl, rfl, by decide +kernel, _, _, rfl, rfl, Nat.le_trans hx (by decide), ?_⟩
      rw [ey]
      have e1 := split_sp1 y (c := 46) (by decide)
      have ml : ∀ p ∈ Txt.split y ⟨#[46]⟩, p.length ≤ 1000 := fun p hp => Nat.le_trans (split_mem_len (c := 46) (by decide) hp) hy
      rw [← dot_eq] at e1 ml
      rw [← e1] at hQ
      refine ⟨⟨_, rfl⟩, _, _, rfl, rfl, by decide +kernel, Nat.le_trans (by omega : _ ≤ 100000) (by decide), fun p hp => ?_⟩
      exact ⟨p, _, rfl, SqL.of upd_same, fun z hz => Nat.le_trans (ml z hz) (by decide), hQ _ (Same.new hp)⟩
theorem ok_need_rules (T : Txt K mg) : Cal P w K mg base CX0 5 "need_rules" ["rules"] (sp_need_rules K) := by
  refine T.d_need_rules.ok0 sc_need_rules (fun vs H Q E h => ?_) (fun f cdv A outer s H vs Q E hr h => ?_)
  · first | (obtain ⟨_, rfl, _⟩ := h; rfl) | (obtain ⟨_, _, rfl, _⟩ := h; rfl) | (obtain ⟨_, _, _, rfl, _⟩ := h; rfl) | (obtain ⟨_, _, _, _, rfl, _⟩ := h; rfl) | (obtain ⟨_, _, _, _, _, rfl, _⟩ := h; rfl)
  · refine ⟨_, (pss_cons (ps_if (pt_not (pt_val (pe_callB call_isi (by rfl) T.b_isinstance (by decide +kernel) (pa_cons (pv 0) (pa_cons (pe_bltn (v := .ty "tuple") (by rfl) T.b_tuple (by decide +kernel) rfl) pa_nil)))))
      (pss_one ps_never)
      pss_nil)
      (pss_one (ps_for PassesOwn.never rfl (pi_enumT (by rfl) T.b_enumerate (pa_cons (pv 0) pa_nil)) (pg_tup rfl (pgs_cons (pg_name (i := 1) sc_need_rules.nd rfl (by first | exact Or.inl rfl | exact Or.inr rfl)) (pgs_cons (pg_name (i := 2) sc_need_rules.nd rfl (by first | exact Or.inl rfl | exact Or.inr rfl)) pgs_nil)))
      (pss_one (ps_if (PW.pt (pw_or (pt_cmpR (op_eq) (pv 1) (pe_gc (by rfl) T.c_MOST_RULES) (nomark _)) (pw_or (pt_not (pt_val (pe_c (ok__is_rule T) hr (by decide) (by rfl) pass0 (pa_cons (pv 2) pa_nil)))) (pw_or1 (pt_cmpR (op_in_seq) (pv 2) (pe_slice sl_tupA (pv 0) po_none (po_some (pv 1))) (by with_unfolding_all rfl))))))
      (pss_one ps_never)
      pss_nil))))), ?_⟩
    obtain ⟨p, rs, rfl, hp, hl, ⟨hn, hr⟩, hQ⟩ := h
    refine ⟨_, rfl, _, _, _, _, true, rfl, .ty _, tyx_tup hp, kit_ty (by decide +kernel), _, rfl, iteF ?_⟩
    refine ⟨_, rfl, p, _, rfl, hp, for_enumT (K := K) (a := p) (xs := rs.map V.str) (fun i σ H1 => ∃ v1 v2, σ = [some (.ref p), v1, v2] ∧ Same H H1) ⟨none, none, rfl, Same.refl _⟩ (fun i σ H1 _ ⟨_, _, _, s⟩ => Same.seqT s hp) ?_ ?_⟩
    · rintro i v T σ H1 hi ⟨v1, v2, rfl, s1⟩ hT
      obtain ⟨r, hri, rfl⟩ := strAt hi
      obtain ⟨hr1, hr2⟩ := hr r (List.mem_of_getElem? hri)
      have hi30 : i < 30 := by have := (List.getElem?_eq_some_iff.mp hri).1; omega
      have s2 := s1.trans (Same.new (o := HO.tup [V.int (i : Nat), V.str r]) hT)
      refine ⟨T, _, rfl, SqT.of upd_same, rfl, _, _, rfl, _, _, rfl, rfl, ?_⟩
      generalize upd H1 T (.tup [V.int (i : Nat), V.str r]) = H2 at s2 ⊢
      refine ⟨_, rfl, rfl, _, rfl, ?_⟩
      rw [show decide (V.int (i : Nat) = V.int 30) = false by rw [dec_int]; exact beq_eq_false_iff_ne.mpr (by omega)]
      refine iteF ⟨_, rfl, r, rfl, hr2, fun H3 s3 => ⟨_, rfl, ?_⟩⟩
      rw [hr1]
      refine iteF ?_
      have s4 := s2.trans s3
      have hq := Same.seqT s4 hp
      have hii : i < rs.length := (List.getElem?_eq_some_iff.mp hri).1
      refine ⟨_, rfl, _, rfl, _, rfl, _, rfl, p, _, rfl, hq, fun hw => ?_, fun _ p2 hp2 => ?_⟩
      · exfalso
        have := hw.2
        rw [List.length_map] at this
        rw [show HT.sIx rs.length rs.length (some ((i : Nat) : Int)) = min i rs.length from HT.sIx_nat _ _ _] at this
        omega
      · rw [cutV_to _ (by omega : (0 : Int) ≤ (i : Nat)), Int.toNat_natCast, ← List.map_take]
        have hnot : r ∉ rs.take i := fun q => by
          obtain ⟨j, hj⟩ := List.mem_iff_getElem?.mp q
          have hj1 := (List.getElem?_eq_some_iff.mp hj).1
          rw [List.length_take] at hj1
          rw [List.getElem?_take, if_pos (by omega)] at hj
          have := (List.getElem?_inj (by omega : j < rs.length) hn).mp (hj.trans hri.symm)
          omega
        refine ⟨p2, _, rfl, .inr (SqT.of upd_same), rfl, ?_, ?_⟩
        · exact flat_strs _
        · rw [in_strs, decide_eq_false hnot]
          exact ⟨_, rfl, iteF ⟨_, _, rfl, s4.trans (Same.new hp2)⟩⟩
    · rintro σ H1 ⟨v1, v2, rfl, s1⟩
      exact hQ _ s1
theorem ok_is_address_host (T : Txt K mg) : Cal P w K mg base CX0 6 "is_address_host" ["value"] (sp_is_address_host K) := by
  refine T.d_is_address_host.ok0 sc_is_address_host (fun vs H Q E h => ?_) (fun f cdv A outer s H vs Q E hr h => ?_)
  · first | (obtain ⟨_, rfl, _⟩ := h; rfl) | (obtain ⟨_, _, rfl, _⟩ := h; rfl) | (obtain ⟨_, _, _, rfl, _⟩ := h; rfl) | (obtain ⟨_, _, _, _, rfl, _⟩ := h; rfl) | (obtain ⟨_, _, _, _, _, rfl, _⟩ := h; rfl)
  · refine ⟨_, (pss_one (ps_ret (pe_and (pe_c (ok_is_host T) hr (by decide) (by rfl) pass0 (pa_cons (pv 0) pa_nil)) (pe_one (pe_c (ok_is_digits T) hr (by decide) (by rfl) pass0 (pa_cons (pe_ix ix_list (pe_split (pv 0) pe_str) (pe_un un_neg pe_int) (fun _ _ => rfl)) pa_nil)))))), ?_⟩
    obtain ⟨v, b, rfl, hv, hQ⟩ := h
    rcases hv with ⟨x, rfl, hx, rfl⟩ | ⟨t, ht, hk, rfl⟩
    · refine ⟨_, rfl, .str x, _, rfl, .inl ⟨x, rfl, hx, rfl⟩, fun H1 s1 => ⟨_, rfl, ?_⟩⟩
      unfold addrB at hQ
      cases h1 : hostB (tl x) with
      | false =>
        rw [h1, Bool.false_and] at hQ
        exact iteF (hQ _ s1)
      | true =>
        rw [h1, Bool.true_and] at hQ
        have hl := hostB_len h1
        refine iteT ⟨_, rfl, ⟨_, rfl⟩, _, _, rfl, rfl, by decide +kernel, Nat.le_trans (by omega : _ ≤ 10000) (by decide), fun p hp => ?_⟩
        have e1 := split_sp1 x (c := 46) (by decide)
        rw [← dot_eq] at e1
        rw [← e1] at hQ
        have hne : Txt.split x ("." : Str) ≠ [] := fun e => by rw [e] at e1; exact sp1_ne _ _ e1.symm
        generalize ePx : Txt.split x ("." : Str) = P at *
        obtain ⟨P0, z, eP⟩ : ∃ P0 z, P = P0 ++ [z] := ⟨P.dropLast, P.getLast hne, (List.dropLast_concat_getLast hne).symm⟩
        rw [eP] at ePx
        have s2 := Same.new (o := HO.lst (P.map V.str)) hp
        rw [lastL_map eP] at hQ
        have hz : z.length ≤ 1000000 := Nat.le_trans (split_mem_len (x := x) (c := 46) (by decide) (by rw [← dot_eq, ePx]; simp)) hx
        have ha : atI (P.map V.str) (-1) = some (.str z) := by rw [eP, List.map_append]; exact atI_last _ _
        exact ⟨_, rfl, p, _, _, _, rfl, rfl, SqL.of upd_same, ha, z, rfl, hz, hQ _ (s1.trans s2)⟩
    · refine ⟨_, rfl, v, false, rfl, .inr ⟨t, ht, hk, rfl⟩, fun H1 s1 => ⟨_, rfl, iteF ?_⟩⟩
      exact hQ _ s1
theorem ok__last_labels (T : Txt K mg) : Cal P w K mg base CX0 1 "_last_labels" ["host", "many"] sp__last_labels := by
  refine T.d__last_labels.ok0 sc__last_labels (fun vs H Q E h => ?_) (fun f cdv A outer s H vs Q E hr h => ?_)
  · first | (obtain ⟨_, rfl, _⟩ := h; rfl) | (obtain ⟨_, _, rfl, _⟩ := h; rfl) | (obtain ⟨_, _, _, rfl, _⟩ := h; rfl) | (obtain ⟨_, _, _, _, rfl, _⟩ := h; rfl) | (obtain ⟨_, _, _, _, _, rfl, _⟩ := h; rfl)
  · refine ⟨_, (pss_one (ps_ret (pe_join pe_str (pe_slice sl_list (pe_split (pv 0) pe_str) (po_some (pe_un un_neg (pv 1))) po_none)))), ?_⟩
    obtain ⟨x, n, rfl, hx, hn, hn2, hQ⟩ := h
    refine ⟨⟨_, rfl⟩, _, rfl, ⟨_, rfl⟩, _, _, rfl, rfl, by decide +kernel, Nat.le_trans (by omega : _ ≤ 100000) (by decide), fun p hp => ?_⟩
    have s1 := Same.new (o := HO.lst ((Txt.split x ("." : Str)).map V.str)) hp
    have hm : upd H p (.lst ((Txt.split x ("." : Str)).map V.str)) p = some (.lst ((Txt.split x ("." : Str)).map V.str)) := upd_same
    generalize upd H p (.lst ((Txt.split x ("." : Str)).map V.str)) = H1 at s1 hm ⊢
    refine ⟨_, rfl, _, rfl, _, rfl, p, _, rfl, SqL.of hm, fun p2 hp2 => ?_⟩
    rw [cutV_last _ hn, show lastN n ((Txt.split x ("." : Str)).map V.str) = (lastN n (Txt.split x ("." : Str))).map V.str by unfold lastN; rw [List.length_map, List.map_drop]]
    have es := split_sp1 x (c := 46) (by decide)
    rw [← dot_eq] at es
    have hb : ∀ z ∈ lastN n (Txt.split x ("." : Str)), z.length ≤ 1000 := fun z hz => by
      have := lastN_mem hz
      rw [dot_eq] at this
      exact Nat.le_trans (split_mem_len (by decide) this) hx
    have hl : (lastN n (Txt.split x ("." : Str))).length ≤ 1001 := by
      have h1 := split_length x (c := 46) (by decide)
      rw [← dot_eq] at h1
      rw [lastN_len]
      omega
    have hs := sum_map_le _ hb
    have hd : ("." : Str).length = 1 := by decide +kernel
    refine ⟨_, p2, _, rfl, rfl, .inl (SqL.of upd_same), by rw [hd]; exact join_fits hs hl, ?_⟩
    have et : tl (Txt.join ("." : Str) (lastN n (Txt.split x ("." : Str)))) = joinL [46] (lastN n (sp1 46 (tl x))) := by
      rw [join_tl, tl_dot, ← es]
      unfold lastN
      rw [List.length_map, List.map_drop]
    refine hQ _ _ (s1.trans (Same.new hp2)) et ?_
    rw [len_tl, et, len_tl]
    have := joinL_drop (c := 46) (sp1 46 (tl x)) ((sp1 46 (tl x)).length - n)
    rw [joinL_sp1] at this
    exact this
theorem ok__size (T : Txt K mg) : Cal P w K mg base CX0 1 "_size" ["text"] sp__size := by
  refine T.d__size.ok0 sc__size (fun vs H Q E h => ?_) (fun f cdv A outer s H vs Q E hr h => ?_)
  · first | (obtain ⟨_, rfl, _⟩ := h; rfl) | (obtain ⟨_, _, rfl, _⟩ := h; rfl) | (obtain ⟨_, _, _, rfl, _⟩ := h; rfl) | (obtain ⟨_, _, _, _, rfl, _⟩ := h; rfl) | (obtain ⟨_, _, _, _, _, rfl, _⟩ := h; rfl)
  · refine ⟨_, (pss_one (ps_ret (pe_op op_add (pe_m1 PySem.F.slot_str_count PySem.F.type_str_count mt_count (pv 0) pe_str) pe_int))), ?_⟩
    obtain ⟨x, rfl, hQ⟩ := h
    refine ⟨_, rfl, ⟨_, rfl⟩, _, _, rfl, rfl, ?_⟩
    rw [← count_sp1, ← dot_eq] at hQ
    exact ⟨_, _, rfl, rfl, hQ⟩
theorem ok__matches (T : Txt K mg) : Cal P w K mg base CX0 2 "_matches" ["pattern", "host"] sp__matches := by
  refine T.d__matches.ok0 sc__matches (fun vs H Q E h => ?_) (fun f cdv A outer s H vs Q E hr h => ?_)
  · first | (obtain ⟨_, rfl, _⟩ := h; rfl) | (obtain ⟨_, _, rfl, _⟩ := h; rfl) | (obtain ⟨_, _, _, rfl, _⟩ := h; rfl) | (obtain ⟨_, _, _, _, rfl, _⟩ := h; rfl) | (obtain ⟨_, _, _, _, _, rfl, _⟩ := h; rfl)
  · refine ⟨_, (pss_cons (ps_if (pt_cmpR (op_gt) (pe_c (ok__size T) hr (by decide) (by rfl) pass0 (pa_cons (pv 0) pa_nil)) (pe_c (ok__size T) hr (by decide) (by rfl) pass0 (pa_cons (pv 1) pa_nil)) (nomark _))
      (pss_one (ps_ret pe_bl))
      pss_nil)
      (pss_cons (ps_set (i := 2) sc__matches.nd rfl (by first | exact Or.inl rfl | exact Or.inr rfl) (pe_c (ok__last_labels T) hr (by decide) (by rfl) pass0 (pa_cons (pv 1) (pa_cons (pe_c (ok__size T) hr (by decide) (by rfl) pass0 (pa_cons (pv 0) pa_nil)) pa_nil))))
      (pss_cons (ps_if (pt_val (pe_m1 PySem.F.slot_str_startswith PySem.F.type_str_startswith mt_startswith (pv 0) (pe_gc (by rfl) T.c_ANY)))
      (pss_one (ps_ret (pe_cmpR (op_eq) (pe_ix ix_tup (pe_partition (pv 2) pe_str) pe_int (fun _ _ => rfl)) (pe_ix ix_tup (pe_partition (pv 0) pe_str) pe_int (fun _ _ => rfl)) (nomark _))))
      pss_nil)
      (pss_one (ps_ret (pe_cmpR (op_eq) (pv 2) (pv 0) (nomark _))))))), ?_⟩
    obtain ⟨x, y, rfl, hx, hy, hs, hQ⟩ := h
    unfold mtL at hQ
    refine ⟨_, rfl, x, rfl, _, rfl, y, rfl, _, _, rfl, rfl, _, rfl, iteB (fun h1 => ?_) (fun h1 => ?_)⟩
    · have h1 : ((sp1 46 (tl y)).length : Int) < ((sp1 46 (tl x)).length : Int) := of_decide_eq_true h1
      rw [decide_eq_false (by omega : ¬ (sp1 46 (tl x)).length ≤ (sp1 46 (tl y)).length)] at hQ
      exact hQ _ (Same.refl _)
    have h1 : ¬ ((sp1 46 (tl y)).length : Int) < ((sp1 46 (tl x)).length : Int) := of_decide_eq_false h1
    rw [decide_eq_true (by omega : (sp1 46 (tl x)).length ≤ (sp1 46 (tl y)).length), Bool.true_and] at hQ
    have lx := sp1_length (c := 46) (tl x)
    have px : 1 ≤ (sp1 46 (tl x)).length := List.length_pos_iff.mpr (sp1_ne _ _)
    rw [← len_tl] at lx
    refine ⟨_, rfl, _, rfl, x, rfl, y, _, rfl, hy, px, by omega, fun e H1 s1 ee le => ?_⟩
    refine ⟨_, rfl, ⟨_, rfl⟩, _, _, rfl, rfl, _, rfl, ?_⟩
    rw [startswith_tl, tl_star]
    have hmem : ∀ l ∈ sp1 46 (tl y), 46 ∉ l := sp1_free 46 (tl y)
    by_cases g : (tl x).head? = some 42
    · obtain ⟨u, eu⟩ := hs g
      have e1 : [42].isPrefixOf (tl x) = true := by rw [eu]; simp [List.isPrefixOf]
      have eP : sp1 46 (tl x) = [42] :: sp1 46 u := by
        rw [eu]
        show sp1 46 ([42] ++ 46 :: u) = _
        rw [sp1_app]
        rfl
      rw [if_pos (by rw [eP]; rfl)] at hQ
      rw [e1]
      refine iteT ?_
      have hn : 2 ≤ (sp1 46 (tl x)).length := by
        rw [eP, List.length_cons]
        have := List.length_pos_iff.mpr (sp1_ne 46 u)
        omega
      obtain ⟨a, M, eM⟩ : ∃ a M, lastN (sp1 46 (tl x)).length (sp1 46 (tl y)) = a :: M := List.exists_cons_of_ne_nil fun q => by
        have := lastN_len (sp1 46 (tl x)).length (sp1 46 (tl y))
        rw [q, List.length_nil] at this
        omega
      have hM : M ≠ [] := fun q => by
        have := lastN_len (sp1 46 (tl x)).length (sp1 46 (tl y))
        rw [eM, q, List.length_cons, List.length_nil] at this
        omega
      have ha : 46 ∉ a := hmem a (lastN_mem (n := (sp1 46 (tl x)).length) (by rw [eM]; exact List.mem_cons_self ..))
      have hMf : ∀ l ∈ M, 46 ∉ l := fun l hl => hmem l (lastN_mem (n := (sp1 46 (tl x)).length) (by rw [eM]; exact List.mem_cons_of_mem _ hl))
      have e2 : tl e = a ++ 46 :: joinL [46] M := by rw [ee, eM]; exact joinL_app (L := [a]) (by simp) hM
      have b1 := partition_behind e2 ha
      have b2 : tl (Txt.partition x ⟨#[46]⟩).2.2 = u := partition_behind (a := [42]) (by rw [eu]; rfl) (by decide)
      refine ⟨_, rfl, ⟨_, rfl⟩, _, _, rfl, rfl, by decide +kernel, Nat.le_trans (by omega : _ ≤ 100000) (by decide), fun p hp => ?_⟩
      refine ⟨p, _, _, _, rfl, rfl, SqT.of upd_same, (rfl : atI _ ((2 : Nat) : Int) = _), ?_⟩
      refine ⟨_, rfl, ⟨_, rfl⟩, _, _, rfl, rfl, by decide +kernel, Nat.le_trans (by omega : _ ≤ 100000) (by decide), fun p2 hp2 => ?_⟩
      refine ⟨p2, _, _, _, rfl, rfl, SqT.of upd_same, (rfl : atI _ ((2 : Nat) : Int) = _), rfl, ?_⟩
      have fin := hQ _ ((s1.trans (Same.new (o := HO.tup [V.str (Txt.partition e ("." : Str)).1, V.str (Txt.partition e ("." : Str)).2.1, V.str (Txt.partition e ("." : Str)).2.2]) hp)).trans (Same.new (o := HO.tup [V.str (Txt.partition x ("." : Str)).1, V.str (Txt.partition x ("." : Str)).2.1, V.str (Txt.partition x ("." : Str)).2.2]) hp2))
      have ed : decide (V.str (Txt.partition e ("." : Str)).2.2 = V.str (Txt.partition x ("." : Str)).2.2) = decide ((lastN (sp1 46 (tl x)).length (sp1 46 (tl y))).tail = (sp1 46 (tl x)).tail) := by
        rw [dot_eq, eM, eP, Bool.eq_iff_iff, decide_eq_true_eq, decide_eq_true_eq, V.str.injEq, str_eq_iff, b1, b2]
        show joinL [46] M = u ↔ M = sp1 46 u
        constructor
        · intro q; rw [← q, sp1_joinL hM hMf]
        · intro q; rw [q, joinL_sp1]
      rw [← ed] at fin
      exact fin
    · have e1 : [42].isPrefixOf (tl x) = false := by
        cases hc : tl x with
        | nil => rfl
        | cons a r =>
          rw [hc] at g
          simp only [List.head?_cons, Option.some.injEq] at g
          simp [List.isPrefixOf, Ne.symm g]
      have e2 : ¬ (sp1 46 (tl x)).head? = some [42] := fun e => by
        have := joinL_sp1 46 (tl x)
        obtain ⟨p, r, ep⟩ := sp1_cons 46 (tl x)
        rw [ep] at e this
        simp only [List.head?_cons, Option.some.injEq] at e
        subst e
        cases r with
        | nil => rw [← this] at g; exact g rfl
        | cons q r => rw [← this] at g; exact g rfl
      rw [if_neg e2] at hQ
      rw [e1]
      refine iteF ?_
      refine ⟨_, rfl, _, rfl, rfl, ?_⟩
      have ed : decide (V.str e = V.str x) = decide (lastN (sp1 46 (tl x)).length (sp1 46 (tl y)) = sp1 46 (tl x)) := by
        have hne : lastN (sp1 46 (tl x)).length (sp1 46 (tl y)) ≠ [] := fun q => by
          have := lastN_len (sp1 46 (tl x)).length (sp1 46 (tl y))
          rw [q, List.length_nil] at this
          omega
        rw [Bool.eq_iff_iff, decide_eq_true_eq, decide_eq_true_eq, V.str.injEq, str_eq_iff, ee]
        constructor
        · intro q; have h := sp1_joinL (c := 46) hne fun l hl => hmem l (lastN_mem hl); rw [q] at h; exact h.symm
        · intro q; rw [q, joinL_sp1]
      rw [← ed] at hQ
      exact hQ _ s1
theorem ok__suffix_size (T : Txt K mg) : Cal P w K mg base CX0 3 "_suffix_size" ["rules", "host"] (sp__suffix_size K) := by
  refine T.d__suffix_size.ok0 sc__suffix_size (fun vs H Q E h => ?_) (fun f cdv A outer s H vs Q E hr h => ?_)
  · first | (obtain ⟨_, rfl, _⟩ := h; rfl) | (obtain ⟨_, _, rfl, _⟩ := h; rfl) | (obtain ⟨_, _, _, rfl, _⟩ := h; rfl) | (obtain ⟨_, _, _, _, rfl, _⟩ := h; rfl) | (obtain ⟨_, _, _, _, _, rfl, _⟩ := h; rfl)
  · refine ⟨_, (pss_cons (ps_set (i := 2) sc__suffix_size.nd rfl (by first | exact Or.inl rfl | exact Or.inr rfl) pe_int)
      (pss_cons (ps_set (i := 3) sc__suffix_size.nd rfl (by first | exact Or.inl rfl | exact Or.inr rfl) pe_int)
      (pss_cons (ps_for PassesOwn.never rfl (pi_tup (pv 0)) (pg_name (i := 4) sc__suffix_size.nd rfl (by first | exact Or.inl rfl | exact Or.inr rfl))
      (pss_one (ps_if (pt_val (pe_m1 PySem.F.slot_str_startswith PySem.F.type_str_startswith mt_startswith (pv 4) (pe_gc (by rfl) T.c_EXCEPTION)))
      (pss_one (ps_if (pt_val (pe_c (ok__matches T) hr (by decide) (by rfl) pass0 (pa_cons (pe_slice sl_str (pv 4) (po_some pe_int) po_none) (pa_cons (pv 1) pa_nil))))
      (pss_one (ps_set (i := 3) sc__suffix_size.nd rfl (by first | exact Or.inl rfl | exact Or.inr rfl) (pe_callB (call_max2 rfl) (by rfl) T.b_max (by decide +kernel) (pa_cons (pv 3) (pa_cons (pe_c (ok__size T) hr (by decide) (by rfl) pass0 (pa_cons (pv 4) pa_nil)) pa_nil)))))
      pss_nil))
      (pss_one (ps_if (pt_val (pe_c (ok__matches T) hr (by decide) (by rfl) pass0 (pa_cons (pv 4) (pa_cons (pv 1) pa_nil))))
      (pss_one (ps_set (i := 2) sc__suffix_size.nd rfl (by first | exact Or.inl rfl | exact Or.inr rfl) (pe_callB (call_max2 rfl) (by rfl) T.b_max (by decide +kernel) (pa_cons (pv 2) (pa_cons (pe_c (ok__size T) hr (by decide) (by rfl) pass0 (pa_cons (pv 4) pa_nil)) pa_nil)))))
      pss_nil)))))
      (pss_cons (ps_if (pt_cmpR (op_gt) (pv 3) pe_int (nomark _))
      (pss_one (ps_ret (pe_op op_sub (pv 3) pe_int)))
      pss_nil)
      (pss_one (ps_ret (pv 2))))))), ?_⟩
    obtain ⟨p, rs, y, rfl, hp, hr, hy, hQ⟩ := h
    let w := sp1 46 (tl y)
    refine ⟨_, rfl, _, rfl, ⟨_, hp⟩, for_tup (K := K) (a := p) (xs := rs.map V.str) (fun i σ H1 => ∃ sv, σ = [some (.ref p), some (.str y), some (.int (bigN 1 (fun t => !excT t && mtL (patL t) w) ((rs.take i).map tl) : Nat)), some (.int (bigN 0 (fun t => excT t && mtL (patL t) w) ((rs.take i).map tl) : Nat)), sv] ∧ Same H H1) ⟨none, rfl, Same.refl _⟩ (fun i σ H1 _ ⟨_, _, s⟩ => Same.seqT s hp) ?_ ?_⟩
    · rintro i v σ H1 hi ⟨sv, rfl, s1⟩
      obtain ⟨r, hri, rfl⟩ := strAt hi
      obtain ⟨hr1, hr2⟩ := hr r (List.mem_of_getElem? hri)
      rw [big_take hri, big_take hri]
      refine ⟨_, rfl, ⟨_, rfl⟩, _, _, rfl, rfl, _, rfl, ?_⟩
      rw [bang_exc]
      cases hx : excT (tl r) with
      | true =>
        refine iteT ⟨_, rfl, _, rfl, _, rfl, ?_⟩
        have ep : tl (cutS r (some 1) none) = patT (tl r) := by
          rw [cutS_from r (by decide)]
          unfold patT
          rw [if_pos hx, ← List.drop_one]
          rfl
        have el : (cutS r (some 1) none).length ≤ 1000 := by
          rw [len_tl, cutS_from r (by decide), List.length_drop, ← len_tl]
          omega
        refine ⟨Nat.le_trans hr2 (by decide), _, rfl, _, y, rfl, Nat.le_trans el (by decide), hy, fun hs => absurd hs (by rw [ep]; exact rule_star2 hr1 hx), fun H2 s2 => ⟨_, rfl, ?_⟩⟩
        rw [ep]
        simp only [Bool.not_true, Bool.true_and, Bool.false_and, Bool.false_eq_true, if_false]
        have e0 : mtL (sp1 46 (patT (tl r))) (sp1 46 (tl y)) = mtL (patL (tl r)) w := rfl
        rw [e0]
        cases hm : mtL (patL (tl r)) w with
        | true =>
          refine iteT ⟨_, rfl, _, rfl, r, rfl, _, _, rfl, ?_⟩
          rw [patL_len, max_nat]
          exact ⟨_, rfl, s1.trans s2⟩
        | false => exact iteF ⟨_, rfl, s1.trans s2⟩
      | false =>
        refine iteF ⟨_, rfl, _, rfl, r, y, rfl, by omega, hy, fun hs => rule_star hr1 hx hs, fun H2 s2 => ⟨_, rfl, ?_⟩⟩
        have e1 : sp1 46 (tl r) = patL (tl r) := by unfold patL patT; rw [hx]; rfl
        rw [e1]
        simp only [Bool.not_false, Bool.true_and, Bool.false_and, Bool.false_eq_true, if_false]
        cases hm : mtL (patL (tl r)) w with
        | true =>
          refine iteT ⟨_, rfl, _, rfl, r, rfl, _, _, rfl, ?_⟩
          rw [e1, max_nat]
          exact ⟨_, rfl, s1.trans s2⟩
        | false => exact iteF ⟨_, rfl, s1.trans s2⟩
    · rintro σ H1 ⟨sv, rfl, s1⟩
      rw [List.length_map, List.take_length]
      refine ⟨_, rfl, _, _, rfl, rfl, _, rfl, iteB (fun h0 => ?_) (fun h0 => ?_)⟩
      · have h0 : (0 : Int) < ((excN (rs.map tl) w : Nat) : Int) := of_decide_eq_true h0
        refine ⟨_, rfl, _, _, rfl, rfl, ?_⟩
        have := hQ _ s1
        unfold sufN at this
        rw [if_pos (by show 0 < excN (rs.map tl) w; omega)] at this
        rw [show ((excN (rs.map tl) (sp1 46 (tl y)) - 1 : Nat) : Int) = ((excN (rs.map tl) w : Nat) : Int) - 1 by show ((excN (rs.map tl) w - 1 : Nat) : Int) = _; omega] at this
        exact this
      · have h0 : ¬ (0 : Int) < ((excN (rs.map tl) w : Nat) : Int) := of_decide_eq_false h0
        have := hQ _ s1
        unfold sufN at this
        rw [if_neg (by show ¬ 0 < excN (rs.map tl) w; omega)] at this
        exact ⟨_, rfl, this⟩
theorem ok_known_suffix (T : Txt K mg) : Cal P w K mg base CX0 7 "known_suffix" ["rules", "host"] (sp_known_suffix K) := by
  refine T.d_known_suffix.ok0 sc_known_suffix (fun vs H Q E h => ?_) (fun f cdv A outer s H vs Q E hr h => ?_)
  · first | (obtain ⟨_, rfl, _⟩ := h; rfl) | (obtain ⟨_, _, rfl, _⟩ := h; rfl) | (obtain ⟨_, _, _, rfl, _⟩ := h; rfl) | (obtain ⟨_, _, _, _, rfl, _⟩ := h; rfl) | (obtain ⟨_, _, _, _, _, rfl, _⟩ := h; rfl)
  · refine ⟨_, (pss_cons (ps_if (pt_val (pe_c (ok_is_address_host T) hr (by decide) (by rfl) pass0 (pa_cons (pv 1) pa_nil)))
      (pss_one (ps_ret pe_non))
      pss_nil)
      (pss_one (ps_ret (pe_c (ok__last_labels T) hr (by decide) (by rfl) pass0 (pa_cons (pv 1) (pa_cons (pe_c (ok__suffix_size T) hr (by decide) (by rfl) pass0 (pa_cons (pv 0) (pa_cons (pv 1) pa_nil))) pa_nil)))))), ?_⟩
    obtain ⟨p, rs, y, rfl, hp, hl, hr, hh, q1, q2⟩ := h
    have hy := hostB_len hh
    refine ⟨_, rfl, .str y, _, rfl, TxV.of (by omega), fun H3 s3 => ⟨_, rfl, ?_⟩⟩
    have s4 := s3
    cases ha : addrB (tl y) with
    | true => exact iteT (q1 _ s4 ha)
    | false =>
      refine iteF ?_
      have hg := sufN_ge (rs := rs.map tl) (w := sp1 46 (tl y)) (fun t ht => by obtain ⟨r, hr2, rfl⟩ := List.mem_map.mp ht; exact (hr.2 r hr2).1) (sp1_ne _ _)
      have hl2 := sp1_length (c := 46) (tl y)
      rw [← len_tl] at hl2
      refine ⟨_, rfl, _, rfl, _, rfl, p, rs, y, rfl, Same.seqT s4 hp, hr.2, by omega, fun H5 s5 => ?_⟩
      exact ⟨y, _, rfl, by omega, hg.1, by omega, fun e H6 s6 ee _ => q2 e _ ((s4.trans s5).trans s6) ha ee⟩
theorem ok_suffix_of (T : Txt K mg) : Cal P w K mg base CX0 8 "suffix_of" ["rules", "host"] (sp_suffix_of K) := by
  refine T.d_suffix_of.ok0 sc_suffix_of (fun vs H Q E h => ?_) (fun f cdv A outer s H vs Q E hr h => ?_)
  · first | (obtain ⟨_, rfl, _⟩ := h; rfl) | (obtain ⟨_, _, rfl, _⟩ := h; rfl) | (obtain ⟨_, _, _, rfl, _⟩ := h; rfl) | (obtain ⟨_, _, _, _, rfl, _⟩ := h; rfl) | (obtain ⟨_, _, _, _, _, rfl, _⟩ := h; rfl)
  · refine ⟨_, (pss_cons (ps_expr (pe_c (ok_need_rules T) hr (by decide) (by rfl) pass0 (pa_cons (pv 0) pa_nil)))
      (pss_cons (ps_expr (pe_c (ok_need_host T) hr (by decide) (by rfl) pass0 (pa_cons (pv 1) pa_nil)))
      (pss_one (ps_ret (pe_c (ok_known_suffix T) hr (by decide) (by rfl) pass0 (pa_cons (pv 0) (pa_cons (pv 1) pa_nil))))))), ?_⟩
    obtain ⟨p, rs, y, rfl, hp, hl, hr, hh, q1, q2⟩ := h
    have hy := hostB_len hh
    refine ⟨_, rfl, p, rs, rfl, hp, hl, hr, fun H1 s1 => ?_⟩
    refine ⟨_, rfl, y, rfl, hh, fun H2 s2 => ?_⟩
    exact ⟨_, rfl, _, rfl, p, rs, y, rfl, Same.seqT (s1.trans s2) hp, hl, hr, hh, fun H3 s3 ha => q1 _ ((s1.trans s2).trans s3) ha, fun e H3 s3 ha ee => q2 e _ ((s1.trans s2).trans s3) ha ee⟩
theorem ok_known_family (T : Txt K mg) : Cal P w K mg base CX0 8 "known_family" ["rules", "host"] (sp_known_family K) := by
  refine T.d_known_family.ok0 sc_known_family (fun vs H Q E h => ?_) (fun f cdv A outer s H vs Q E hr h => ?_)
  · first | (obtain ⟨_, rfl, _⟩ := h; rfl) | (obtain ⟨_, _, rfl, _⟩ := h; rfl) | (obtain ⟨_, _, _, rfl, _⟩ := h; rfl) | (obtain ⟨_, _, _, _, rfl, _⟩ := h; rfl) | (obtain ⟨_, _, _, _, _, rfl, _⟩ := h; rfl)
  · refine ⟨_, (pss_cons (ps_set (i := 2) sc_known_family.nd rfl (by first | exact Or.inl rfl | exact Or.inr rfl) (pe_c (ok_known_suffix T) hr (by decide) (by rfl) pass0 (pa_cons (pv 0) (pa_cons (pv 1) pa_nil))))
      (pss_cons (ps_if (pt_cmpR (op_isN) (pv 2) pe_non (nomark _))
      (pss_one (ps_ret (pv 1)))
      pss_nil)
      (pss_one (ps_ret (pe_c (ok__last_labels T) hr (by decide) (by rfl) pass0 (pa_cons (pv 1) (pa_cons (pe_op op_add (pe_c (ok__size T) hr (by decide) (by rfl) pass0 (pa_cons (pv 2) pa_nil)) pe_int) pa_nil))))))), ?_⟩
    obtain ⟨p, rs, y, rfl, hp, hl, hr, hh, hQ⟩ := h
    have hy := hostB_len hh
    refine ⟨_, rfl, _, rfl, p, rs, y, rfl, hp, hl, hr, hh, fun H1 s1 ha => ?_, fun e H1 s1 ha ee => ?_⟩
    · refine ⟨_, rfl, rfl, _, rfl, iteT ⟨_, rfl, hQ y _ s1 ?_⟩⟩
      unfold famT
      rw [if_pos ha]
    · have hrs : ∀ t ∈ rs.map tl, ruleB t = true := fun t ht => by obtain ⟨r, hr2, rfl⟩ := List.mem_map.mp ht; exact (hr.2 r hr2).1
      have hg := sufN_ge (rs := rs.map tl) (w := sp1 46 (tl y)) hrs (sp1_ne _ _)
      have hl2 := sp1_length (c := 46) (tl y)
      rw [← len_tl] at hl2
      have hn : lastN (sufN (rs.map tl) (sp1 46 (tl y))) (sp1 46 (tl y)) ≠ [] := fun q => by
        have := lastN_len (sufN (rs.map tl) (sp1 46 (tl y))) (sp1 46 (tl y))
        rw [q, List.length_nil] at this
        omega
      have e2 : sp1 46 (tl e) = lastN (sufN (rs.map tl) (sp1 46 (tl y))) (sp1 46 (tl y)) := by
        rw [ee]
        exact sp1_joinL hn fun l hl => sp1_free 46 (tl y) l (lastN_mem hl)
      have hlen : (sp1 46 (tl e)).length ≤ 101 := by rw [e2, lastN_len]; omega
      refine ⟨_, rfl, rfl, _, rfl, iteF ?_⟩
      refine ⟨_, rfl, _, rfl, e, rfl, _, _, rfl, rfl, y, (sp1 46 (tl e)).length + 1, rfl, by omega, by omega, by omega, fun e3 H3 s3 e4 _ => hQ e3 _ (s1.trans s3) ?_⟩
      unfold famT famL
      rw [ha, e4, e2]
      rfl
theorem ok_family_of (T : Txt K mg) : Cal P w K mg base CX0 9 "family_of" ["rules", "host"] (sp_family_of K) := by
  refine T.d_family_of.ok0 sc_family_of (fun vs H Q E h => ?_) (fun f cdv A outer s H vs Q E hr h => ?_)
  · first | (obtain ⟨_, rfl, _⟩ := h; rfl) | (obtain ⟨_, _, rfl, _⟩ := h; rfl) | (obtain ⟨_, _, _, rfl, _⟩ := h; rfl) | (obtain ⟨_, _, _, _, rfl, _⟩ := h; rfl) | (obtain ⟨_, _, _, _, _, rfl, _⟩ := h; rfl)
  · refine ⟨_, (pss_cons (ps_expr (pe_c (ok_need_rules T) hr (by decide) (by rfl) pass0 (pa_cons (pv 0) pa_nil)))
      (pss_cons (ps_expr (pe_c (ok_need_host T) hr (by decide) (by rfl) pass0 (pa_cons (pv 1) pa_nil)))
      (pss_one (ps_ret (pe_c (ok_known_family T) hr (by decide) (by rfl) pass0 (pa_cons (pv 0) (pa_cons (pv 1) pa_nil))))))), ?_⟩
    obtain ⟨p, rs, y, rfl, hp, hl, hr, hh, hQ⟩ := h
    refine ⟨_, rfl, p, rs, rfl, hp, hl, hr, fun H1 s1 => ?_⟩
    refine ⟨_, rfl, y, rfl, hh, fun H2 s2 => ?_⟩
    exact ⟨_, rfl, _, rfl, p, rs, y, rfl, Same.seqT (s1.trans s2) hp, hl, hr, hh, fun e H3 s3 ee => hQ e _ ((s1.trans s2).trans s3) ee⟩
theorem ok_is_suffix (T : Txt K mg) : Cal P w K mg base CX0 9 "is_suffix" ["rules", "host"] (sp_is_suffix K) := by
  refine T.d_is_suffix.ok0 sc_is_suffix (fun vs H Q E h => ?_) (fun f cdv A outer s H vs Q E hr h => ?_)
  · first | (obtain ⟨_, rfl, _⟩ := h; rfl) | (obtain ⟨_, _, rfl, _⟩ := h; rfl) | (obtain ⟨_, _, _, rfl, _⟩ := h; rfl) | (obtain ⟨_, _, _, _, rfl, _⟩ := h; rfl) | (obtain ⟨_, _, _, _, _, rfl, _⟩ := h; rfl)
  · refine ⟨_, (pss_one (ps_ret (pe_cmpR (op_eq) (pe_c (ok_suffix_of T) hr (by decide) (by rfl) pass0 (pa_cons (pv 0) (pa_cons (pv 1) pa_nil))) (pv 1) (nomark _)))), ?_⟩
    obtain ⟨p, rs, y, rfl, hp, hl, hr, hh, hQ⟩ := h
    have hy := hostB_len hh
    refine ⟨_, rfl, _, rfl, p, rs, y, rfl, hp, hl, hr, hh, fun H1 s1 ha => ?_, fun e H1 s1 ha ee => ?_⟩
    · refine ⟨_, rfl, rfl, ?_⟩
      have := hQ _ s1
      unfold ownT at this
      rw [ha] at this
      exact this
    · refine ⟨_, rfl, rfl, ?_⟩
      have := hQ _ s1
      unfold ownT at this
      rw [ha] at this
      have hrs : ∀ t ∈ rs.map tl, ruleB t = true := fun t ht => by obtain ⟨r, hr2, rfl⟩ := List.mem_map.mp ht; exact (hr.2 r hr2).1
      have hg := sufN_ge (rs := rs.map tl) (w := sp1 46 (tl y)) hrs (sp1_ne _ _)
      have hn : lastN (sufN (rs.map tl) (sp1 46 (tl y))) (sp1 46 (tl y)) ≠ [] := fun q => by
        have := lastN_len (sufN (rs.map tl) (sp1 46 (tl y))) (sp1 46 (tl y))
        rw [q, List.length_nil] at this
        omega
      have ed : decide (V.str e = V.str y) = decide (sufN (rs.map tl) (sp1 46 (tl y)) = (sp1 46 (tl y)).length) := by
        rw [Bool.eq_iff_iff, decide_eq_true_eq, decide_eq_true_eq, V.str.injEq, str_eq_iff, ee]
        constructor
        · intro q
          have h := sp1_joinL (c := 46) hn fun l hl => sp1_free 46 (tl y) l (lastN_mem hl)
          rw [q] at h
          have := congrArg List.length h
          rw [lastN_len] at this
          omega
        · intro q
          rw [lastN_all (by omega), joinL_sp1]
      rw [ed]
      exact this
theorem ok__is_scheme (T : Txt K mg) : Cal P w K mg base CX0 1 "_is_scheme" ["value"] sp__is_scheme := by
  refine T.d__is_scheme.ok0 sc__is_scheme (fun vs H Q E h => ?_) (fun f cdv A outer s H vs Q E hr h => ?_)
  · first | (obtain ⟨_, rfl, _⟩ := h; rfl) | (obtain ⟨_, _, rfl, _⟩ := h; rfl) | (obtain ⟨_, _, _, rfl, _⟩ := h; rfl) | (obtain ⟨_, _, _, _, rfl, _⟩ := h; rfl) | (obtain ⟨_, _, _, _, _, rfl, _⟩ := h; rfl)
  · obtain ⟨a_SCHEMES, hm_SCHEMES, sq_SCHEMES⟩ := T.c_SCHEMES
    refine ⟨_, (pss_one (ps_ret (pe_and (pe_callB call_isi (by rfl) T.b_isinstance (by decide +kernel) (pa_cons (pv 0) (pa_cons (pe_bltn (v := .ty "str") (by rfl) T.b_str (by decide +kernel) rfl) pa_nil))) (pe_one (pe_cmpR (op_in_seq) (pv 0) (pe_gt (by rfl) hm_SCHEMES) (by with_unfolding_all rfl)))))), ?_⟩
    obtain ⟨x, rfl, hx, hQ⟩ := h
    have sq : ∀ H1 : Hp, SqT K H1 a_SCHEMES (schemes2.map V.str) := sq_SCHEMES
    refine ⟨_, rfl, _, _, _, _, true, rfl, .ty _, .base (.str x), kit_str K, _, rfl, iteT ?_⟩
    refine ⟨_, rfl, a_SCHEMES, schemes2.map V.str, rfl, .inr (sq H), rfl, by decide +kernel, ?_⟩
    rw [in_strs, decide_eq_true hx]
    exact hQ
theorem ok_is_origin (T : Txt K mg) : Cal P w K mg base CX0 6 "is_origin" ["value"] (sp_is_origin K) := by
  refine T.d_is_origin.ok0 sc_is_origin (fun vs H Q E h => ?_) (fun f cdv A outer s H vs Q E hr h => ?_)
  · first | (obtain ⟨_, rfl, _⟩ := h; rfl) | (obtain ⟨_, _, rfl, _⟩ := h; rfl) | (obtain ⟨_, _, _, rfl, _⟩ := h; rfl) | (obtain ⟨_, _, _, _, rfl, _⟩ := h; rfl) | (obtain ⟨_, _, _, _, _, rfl, _⟩ := h; rfl)
  · refine ⟨_, (pss_cons (ps_if (PW.pt (pw_or (pt_not (pt_val (pe_callB call_isi (by rfl) T.b_isinstance (by decide +kernel) (pa_cons (pv 0) (pa_cons (pe_bltn (v := .ty "tuple") (by rfl) T.b_tuple (by decide +kernel) rfl) pa_nil))))) (pw_or1 (pt_cmpR (op_ne) (pe_callB call_len_seq (by rfl) T.b_len (by decide +kernel) (pa_cons (pv 0) pa_nil)) pe_int (nomark _)))))
      (pss_one (ps_ret pe_bl))
      pss_nil)
      (pss_one (ps_ret (pe_and (pe_c (ok__is_scheme T) hr (by decide) (by rfl) pass0 (pa_cons (pe_ix ix_tup (pv 0) pe_int (fun _ _ => rfl)) pa_nil)) (pe_one (pe_c (ok_is_host T) hr (by decide) (by rfl) pass0 (pa_cons (pe_ix ix_tup (pv 0) pe_int (fun _ _ => rfl)) pa_nil))))))), ?_⟩
    obtain ⟨p, x, y, rfl, hp, hx, hy, hQ⟩ := h
    refine ⟨_, rfl, _, _, _, _, true, rfl, .ty _, .base (.tup hp), kit_ty (by decide +kernel), _, rfl, iteF ?_⟩
    refine ⟨_, rfl, p, _, rfl, .inr (SqT.of hp), rfl, _, rfl, iteF ?_⟩
    refine ⟨_, rfl, p, _, _, _, rfl, rfl, SqT.of hp, rfl, x, rfl, hx, _, rfl, iteT ?_⟩
    refine ⟨_, rfl, p, _, _, _, rfl, rfl, SqT.of hp, rfl, _, true, rfl, .inl ⟨y, rfl, Nat.le_trans (hostB_len hy) (by decide), hy.symm⟩, hQ⟩
theorem ok_site_of (T : Txt K mg) : Cal P w K mg base CX0 9 "site_of" ["rules", "origin"] (sp_site_of K) := by
  refine T.d_site_of.ok0 sc_site_of (fun vs H Q E h => ?_) (fun f cdv A outer s H vs Q E hr h => ?_)
  · first | (obtain ⟨_, rfl, _⟩ := h; rfl) | (obtain ⟨_, _, rfl, _⟩ := h; rfl) | (obtain ⟨_, _, _, rfl, _⟩ := h; rfl) | (obtain ⟨_, _, _, _, rfl, _⟩ := h; rfl) | (obtain ⟨_, _, _, _, _, rfl, _⟩ := h; rfl)
  · refine ⟨_, (pss_cons (ps_expr (pe_c (ok_need_rules T) hr (by decide) (by rfl) pass0 (pa_cons (pv 0) pa_nil)))
      (pss_cons (ps_if (pt_not (pt_val (pe_c (ok_is_origin T) hr (by decide) (by rfl) pass0 (pa_cons (pv 1) pa_nil))))
      (pss_one ps_never)
      pss_nil)
      (pss_cons (ps_asg (pv 1) (pg_tup rfl (pgs_cons (pg_name (i := 2) sc_site_of.nd rfl (by first | exact Or.inl rfl | exact Or.inr rfl)) (pgs_cons (pg_name (i := 3) sc_site_of.nd rfl (by first | exact Or.inl rfl | exact Or.inr rfl)) pgs_nil))))
      (pss_one (ps_ret (pe_tup (pa_cons (pv 2) (pa_cons (pe_c (ok_known_family T) hr (by decide) (by rfl) pass0 (pa_cons (pv 0) (pa_cons (pv 3) pa_nil))) pa_nil)))))))), ?_⟩
    obtain ⟨p, o, rs, x, y, rfl, hp, hl, hr, ho, hx, hy, hQ⟩ := h
    refine ⟨_, rfl, p, rs, rfl, hp, hl, hr, fun H1 s1 => ?_⟩
    refine ⟨_, rfl, o, x, y, rfl, s1 _ _ ho, hx, hy, fun H2 s2 => ⟨_, rfl, iteF ?_⟩⟩
    refine ⟨_, rfl, o, _, rfl, SqT.of ((s1.trans s2) _ _ ho), rfl, _, _, rfl, _, _, rfl, rfl, ?_⟩
    refine ⟨_, rfl, _, rfl, _, rfl, p, rs, y, rfl, Same.seqT (s1.trans s2) hp, hl, hr, hy, fun e H3 s3 ez => ⟨by show 2 ≤ sizeLine; decide, fun q hq => ?_⟩⟩
    exact hQ q e _ (((s1.trans s2).trans s3).trans (Same.new hq)) ez upd_same
theorem ok__law_draw (T : Txt K mg) : Cal P w K mg base CX0 1 "_law_draw" ["cell", "k"] sp__law_draw := by
  refine T.d__law_draw.ok0 sc__law_draw (fun vs H Q E h => ?_) (fun f cdv A outer s H vs Q E hr h => ?_)
  · first | (obtain ⟨_, rfl, _⟩ := h; rfl) | (obtain ⟨_, _, rfl, _⟩ := h; rfl) | (obtain ⟨_, _, _, rfl, _⟩ := h; rfl) | (obtain ⟨_, _, _, _, rfl, _⟩ := h; rfl) | (obtain ⟨_, _, _, _, _, rfl, _⟩ := h; rfl)
  · refine ⟨_, (pss_one (ps_ret (pe_disp (pps_cons pe_str (pe_ifExp (pt_cmpR (op_ge) (pv 0) (pe_op op_pow pe_int pe_int) (nomark _)) (pv 0) pe_int) (pps_cons pe_str (pv 0) (pps_cons pe_str (pe_op op_mul pe_int (pv 1)) pps_nil))) rfl rfl (by simp) (by decide)))), ?_⟩
    obtain ⟨c, k, rfl, hk0, hk1, hQ⟩ := h
    have fin : ∀ l : Int, 0 ≤ l → ∀ p, H p = none → Q (.ref p) (upd (upd H p (.dK [])) p (.dK (mergeK [] (dkv l c (1000 * k))))) := fun l hl p hp =>
      hQ _ _ (fun b o e => by rw [upd_ne (ne_of_none e hp), upd_ne (ne_of_none e hp)]; exact e) hp ⟨l, c, 1000 * k, by rw [upd_same, dkv_merge], hl, by omega, by omega⟩
    intro p hp
    refine ⟨_, rfl, _, _, rfl, rfl, ⟨by decide, by decide, by decide⟩, _, _, rfl, rfl, _, rfl, ?_⟩
    refine iteB (fun hb => ?_) (fun hb => ?_)
    · have hc : (10 : Int) ^ (18 : Int).toNat ≤ c := of_decide_eq_true hb
      have h0 : (0 : Int) ≤ (10 : Int) ^ (18 : Int).toNat := by decide
      refine ⟨_, rfl, _, rfl, _, rfl, _, _, rfl, rfl, .inl ⟨by decide, by decide⟩, upd_same, dkv c c (1000 * k), rfl, by show 3 ≤ 15; decide, fin c (by omega) p hp⟩
    · refine ⟨_, rfl, _, rfl, _, _, rfl, rfl, .inl ⟨by decide, by decide⟩, upd_same, dkv 0 c (1000 * k), rfl, by show 3 ≤ 15; decide, fin 0 (by omega) p hp⟩
theorem ok__law_mixed (T : Txt K mg) : Cal P w K mg base CX0 1 "_law_mixed" ["cell", "k"] sp__law_mixed := by
  refine T.d__law_mixed.ok0 sc__law_mixed (fun vs H Q E h => ?_) (fun f cdv A outer s H vs Q E hr h => ?_)
  · first | (obtain ⟨_, rfl, _⟩ := h; rfl) | (obtain ⟨_, _, rfl, _⟩ := h; rfl) | (obtain ⟨_, _, _, rfl, _⟩ := h; rfl) | (obtain ⟨_, _, _, _, rfl, _⟩ := h; rfl) | (obtain ⟨_, _, _, _, _, rfl, _⟩ := h; rfl)
  · refine ⟨_, (pss_cons (ps_set (i := 2) sc__law_mixed.nd rfl (by first | exact Or.inl rfl | exact Or.inr rfl) (pe_op op_add (pe_op op_add (pe_op op_mod (pe_callTy call_int1 (by rfl) T.b_int (by decide +kernel) (pa_cons (pv 0) pa_nil)) (pe_ix ix_list (pe_lst (pa_cons pe_int (pa_cons pe_int (pa_cons pe_int (pa_cons pe_int pa_nil))))) (pe_op op_mod (pe_callTy call_int1 (by rfl) T.b_int (by decide +kernel) (pa_cons (pv 1) pa_nil)) pe_int) (fun _ _ => rfl))) (pe_op op_mul pe_int (pv 1))) pe_int))
      (pss_one (ps_ret (pe_op op_mod (pe_callTy call_int1 (by rfl) T.b_int (by decide +kernel) (pa_cons (pe_op op_mul (pe_op op_mod (pe_callTy call_int1 (by rfl) T.b_int (by decide +kernel) (pa_cons (pe_op op_mul (pv 2) (pv 2)) pa_nil)) pe_int) pe_int) pa_nil)) pe_int)))), ?_⟩
    obtain ⟨c, k, rfl, hk0, hk1, hQ⟩ := h
    refine ⟨_, rfl, .inl ⟨_, rfl, ?_⟩⟩
    refine ⟨by show 4 ≤ sizeLine; decide, fun p hp => ?_⟩
    refine ⟨_, rfl, .inl ⟨_, rfl, ?_⟩⟩
    refine ⟨_, _, rfl, rfl, by show (0 : Int) < 4; decide, ?_⟩
    obtain ⟨v, hv, ha⟩ := menu (xs := [V.int 1000000007, V.int 998244353, V.int 2147483629, V.int 1000000009]) (i := k % 4) (by omega) (by show k % 4 < 4; omega)
    obtain ⟨m, rfl, hm0, hm1⟩ : ∃ m : Int, v = .int m ∧ 0 < m ∧ m < 2147483647 := by
      simp only [List.mem_cons, List.not_mem_nil, or_false] at hv
      rcases hv with rfl | rfl | rfl | rfl <;> exact ⟨_, rfl, by decide, by decide⟩
    refine ⟨p, _, _, _, rfl, rfl, SqL.of upd_same, ha, ?_⟩
    refine ⟨_, _, rfl, rfl, hm0, ?_⟩
    refine ⟨_, rfl, _, _, rfl, rfl, .inl ⟨by decide, by decide⟩, ?_⟩
    refine ⟨_, _, rfl, rfl, ?_⟩
    refine ⟨_, _, rfl, rfl, ?_⟩
    have h1 : 0 ≤ c % m := Int.emod_nonneg _ (by omega)
    have h2 : c % m < m := Int.emod_lt_of_pos _ hm0
    generalize c % m = q at h1 h2 ⊢
    refine ⟨_, rfl, _, rfl, _, _, rfl, rfl, .inl ⟨by show (-(2 ^ 64) : Int) < q + 7919 * k + 13; omega, by show q + 7919 * k + 13 < (2 ^ 64 : Int); omega⟩, ?_⟩
    refine .inl ⟨_, rfl, ?_⟩
    refine ⟨_, _, rfl, rfl, by show (0 : Int) < 2147483647; decide, ?_⟩
    refine ⟨_, _, rfl, rfl, .inr ⟨by decide, by decide⟩, ?_⟩
    refine .inl ⟨_, rfl, ?_⟩
    refine ⟨_, _, rfl, rfl, by show (0 : Int) < 2147483647; decide, ?_⟩
    exact hQ _ _ (Same.new hp) (Int.emod_nonneg _ (by decide)) (Int.emod_lt_of_pos _ (by decide))
theorem ok__law_digit (T : Txt K mg) : Cal P w K mg base CX0 2 "_law_digit" ["draw", "span"] sp__law_digit := by
  refine T.d__law_digit.ok0 sc__law_digit (fun vs H Q E h => ?_) (fun f cdv A outer s H vs Q E hr h => ?_)
  · first | (obtain ⟨_, rfl, _⟩ := h; rfl) | (obtain ⟨_, _, rfl, _⟩ := h; rfl) | (obtain ⟨_, _, _, rfl, _⟩ := h; rfl) | (obtain ⟨_, _, _, _, rfl, _⟩ := h; rfl) | (obtain ⟨_, _, _, _, _, rfl, _⟩ := h; rfl)
  · have hu := hu_of hr
    refine ⟨_, (Evl.pss_cut (ps_if (pt_cmpR (op_eq) (pe_dget hu (pv 0) pe_str (fun _ _ => rfl)) pe_int (nomark _))
      (pss_one (ps_for PassesOwn.never rfl (pi_range1 (by rfl) T.b_range (pa_cons pe_int pa_nil)) (pg_name (i := 2) sc__law_digit.nd rfl (by first | exact Or.inl rfl | exact Or.inr rfl))
      (pss_cons (ps_dput hu (pv 0) pe_str (pe_op op_add (pe_dget hu (pv 0) pe_str (fun _ _ => rfl)) pe_int) rfl)
      (pss_one (ps_dput hu (pv 0) pe_str (pe_op op_add (pe_op op_mul (pe_dget hu (pv 0) pe_str (fun _ _ => rfl)) pe_int) (pe_c (ok__law_mixed T) hr (by decide) (by rfl) pass0 (pa_cons (pe_dget hu (pv 0) pe_str (fun _ _ => rfl)) (pa_cons (pe_dget hu (pv 0) pe_str (fun _ _ => rfl)) pa_nil)))) rfl)))))
      pss_nil)
      (pss_cons (ps_set (i := 3) sc__law_digit.nd rfl (by first | exact Or.inl rfl | exact Or.inr rfl) (pe_op op_mod (pe_callTy call_int1 (by rfl) T.b_int (by decide +kernel) (pa_cons (pe_dget hu (pv 0) pe_str (fun _ _ => rfl)) pa_nil)) (pv 1)))
      (pss_cons (ps_dput hu (pv 0) pe_str (pe_op op_fdivW (pe_callTy call_int1 (by rfl) T.b_int (by decide +kernel) (pa_cons (pe_dget hu (pv 0) pe_str (fun _ _ => rfl)) pa_nil)) (pv 1)) rfl)
      (pss_one (ps_ret (pv 3)))))), ?_⟩
    obtain ⟨d, sp, n, rfl, hs0, hs1, ⟨l, c, t, hd, hl, ht, hn⟩, hQ⟩ := h
    refine ⟨fun σ' H' => ∃ (j : Option V) (l1 t1 : Int), σ' = [some (.ref d), some (.int sp), j, none] ∧ Keep d H H' ∧ H' d = some (.dK (dkv l1 c t1)) ∧ 0 ≤ l1 ∧ 0 ≤ t1 ∧ t1 + 4 * (n : Int) ≤ 1000000000, ?_, ?_⟩
    · refine ⟨_, rfl, d, _, rfl, dget_left hd, rfl, _, rfl, ?_⟩
      refine iteB (fun hb => ?_) (fun hb => ?_)
      · refine ⟨4, rfl, by decide, by decide, for_range (n := 4) (fun i σ H1 => ∃ (j : Option V) (l1 t1 : Int), σ = [some (.ref d), some (.int sp), j, none] ∧ Keep d H H1 ∧ H1 d = some (.dK (dkv l1 c t1)) ∧ 0 ≤ l1 ∧ 0 ≤ t1 ∧ t1 = t + i) ⟨none, l, t, rfl, Keep.refl, hd, hl, ht, by simp⟩ ?_ ?_⟩
        · rintro i σ H1 hi ⟨j, l1, t1, rfl, k1, h1, hl1, ht1, et⟩
          refine ⟨_, rfl, d, _, rfl, dget_turns h1, _, _, rfl, rfl, _, rfl, d, _, rfl, dput_turns _ h1, ?_⟩
          have h2 : (upd H1 d (.dK (dkv l1 c (t1 + 1)))) d = some (.dK (dkv l1 c (t1 + 1))) := upd_same
          refine ⟨_, rfl, d, _, rfl, dget_left h2, _, _, rfl, rfl, .inr ⟨by decide, by decide⟩, _, rfl, d, _, rfl, dget_cell h2, _, rfl, d, _, rfl, dget_turns h2, ?_⟩
          refine ⟨_, _, rfl, by omega, by omega, fun r H3 s3 hr0 hr1 => ?_⟩
          refine ⟨_, _, rfl, rfl, _, rfl, d, _, rfl, dput_left _ (s3 _ _ h2), ?_⟩
          exact ⟨_, _, _, rfl, ((k1.upd).same s3).upd, upd_same, by omega, by omega, by omega⟩
        · rintro σ H1 ⟨j, l1, t1, rfl, k1, h1, hl1, ht1, et⟩
          exact ⟨j, l1, t1, rfl, k1, h1, hl1, ht1, by omega⟩
      · exact ⟨none, l, t, rfl, Keep.refl, hd, hl, ht, by omega⟩
    · rintro σ' H1 ⟨j, l1, t1, rfl, k1, h1, hl1, ht1, ht2⟩
      refine ⟨_, rfl, d, _, rfl, dget_left h1, .inl ⟨_, rfl, _, rfl, _, _, rfl, rfl, hs0, ?_⟩⟩
      refine ⟨_, rfl, d, _, rfl, dget_left h1, .inl ⟨_, rfl, _, rfl, _, _, rfl, rfl, ?_, _, rfl, d, _, rfl, dput_left _ h1, ?_⟩⟩
      · exact wide_div (b := 32) hs0 (by omega) (by decide) (by decide)
      · exact ⟨_, rfl, hQ _ _ (Int.emod_nonneg _ (by omega)) (Int.emod_lt_of_pos _ hs0) k1.upd ⟨_, _, _, upd_same, Int.ediv_nonneg hl1 (by omega), ht1, ht2⟩⟩
theorem ok__law_rules (T : Txt K mg) : Cal P w K mg base CX0 3 "_law_rules" ["draw"] sp__law_rules := by
  refine T.d__law_rules.ok0 sc__law_rules (fun vs H Q E h => ?_) (fun f cdv A outer s H vs Q E hr h => ?_)
  · first | (obtain ⟨_, rfl, _⟩ := h; rfl) | (obtain ⟨_, _, rfl, _⟩ := h; rfl) | (obtain ⟨_, _, _, rfl, _⟩ := h; rfl) | (obtain ⟨_, _, _, _, rfl, _⟩ := h; rfl) | (obtain ⟨_, _, _, _, _, rfl, _⟩ := h; rfl)
  · refine ⟨_, (pss_cons (ps_set (i := 1) sc__law_rules.nd rfl (by first | exact Or.inl rfl | exact Or.inr rfl) (pe_lst pa_nil))
      (pss_cons (ps_for PassesOwn.never rfl (pi_range1 (by rfl) T.b_range (pa_cons (pe_c (ok__law_digit T) hr (by decide) (by rfl) pass0 (pa_cons (pv 0) (pa_cons pe_int pa_nil))) pa_nil)) (pg_name (i := 2) sc__law_rules.nd rfl (by first | exact Or.inl rfl | exact Or.inr rfl))
      (pss_cons (ps_setLc (i := 3) (own := [(("i" : Str), 6)]) rfl sc__law_rules.nd rfl rfl (sw_true rfl rfl rfl (by decide +kernel)) (pi_range1 (by rfl) T.b_range (pa_cons (pe_op op_add pe_int (pe_c (ok__law_digit T) hr (by decide) (by rfl) pass0 (pa_cons (pv 0) (pa_cons pe_int pa_nil)))) pa_nil)) (blkOk_by (N := ["draw", "found", "j", "words", "way", "rule", "i"]) (sc := defScope s__law_rules) (by decide +kernel)) (fun _ _ _ _ _ => (pg_name (i := 6) sc__law_rules.nd rfl (by first | exact Or.inl rfl | exact Or.inr rfl))) (fun _ _ _ _ _ => pts_nil) (fun _ _ _ _ _ => (pe_ix ix_str pe_str (pe_c (ok__law_digit T) hr (by decide) (by rfl) pass0 (pa_cons (pv 0) (pa_cons pe_int pa_nil))) (fun _ _ => rfl))))
      (pss_cons (ps_set (i := 4) sc__law_rules.nd rfl (by first | exact Or.inl rfl | exact Or.inr rfl) (pe_c (ok__law_digit T) hr (by decide) (by rfl) pass0 (pa_cons (pv 0) (pa_cons pe_int pa_nil))))
      (Evl.pss_cut (ps_set (i := 5) sc__law_rules.nd rfl (by first | exact Or.inl rfl | exact Or.inr rfl) (pe_join pe_str (pe_ifExp (pt_cmpR (op_eq) (pv 4) pe_int (nomark _)) (pe_op op_cat (pe_lst (pa_cons pe_str pa_nil)) (pv 3)) (pv 3))))
      (Evl.pss_cut (ps_set (i := 5) sc__law_rules.nd rfl (by first | exact Or.inl rfl | exact Or.inr rfl) (pe_ifExp (pt_cmpR (op_eq) (pv 4) pe_int (nomark _)) (pe_op op_add_str pe_str (pe_join pe_str (pe_op op_cat (pv 3) (pe_lst (pa_cons pe_str pa_nil))))) (pv 5)))
      (pss_one (ps_set (i := 1) sc__law_rules.nd rfl (by first | exact Or.inl rfl | exact Or.inr rfl) (pe_op op_cat (pv 1) (pe_op op_rep (pe_lst (pa_cons (pv 5) pa_nil)) (pe_callTy call_int1 (by rfl) T.b_int (by decide +kernel) (pa_cons (pe_cmpR (op_notIn_seq) (pv 5) (pv 1) (by with_unfolding_all rfl)) pa_nil)))))))))))
      (pss_one (ps_ret (pe_callTy call_tuple_of (by rfl) T.b_tuple (by decide +kernel) (pa_cons (pv 1) pa_nil)))))), ?_⟩
    obtain ⟨d, n, rfl, D, hQ⟩ := h
    refine ⟨by show 0 ≤ sizeLine; decide, fun F hF => ?_⟩
    have hdF : F ≠ d := D.ne hF
    refine ⟨_, rfl, d, 7, n + 39, rfl, by decide, by decide, D.upd hdF.symm, fun r H1 h0 h1 k1 D1 => ?_⟩
    have hF1 := k1 _ _ upd_same hdF
    obtain ⟨m, rfl⟩ : ∃ m : Nat, r = (m : Int) := ⟨r.toNat, by omega⟩
    refine ⟨m, rfl, by omega, by omega, for_range (n := m) (fun i σ H2 => ∃ (F : Addr) (rs : List Str) (v1 v2 v3 v4 v5 : Option V), σ = [some (.ref d), some (.ref F), v1, v2, v3, v4, v5] ∧ rs.length ≤ i ∧ rs.Nodup ∧ (∀ r ∈ rs, GenR (tl r)) ∧ H2 F = some (.lst (rs.map V.str)) ∧ F ≠ d ∧ Keep d H H2 ∧ DrawAt H2 d (n + 39 - 6 * i)) ⟨F, [], none, none, none, none, none, rfl, Nat.le_refl _, List.nodup_nil, by simp, hF1, hdF, Same.then (Same.new hF) k1, D1⟩ ?_ ?_⟩
    · rintro i σ H2 hi ⟨F, rs, v1, v2, v3, v4, v5, rfl, hlen, hnd, hg, hl, hFd, kk, D2⟩
      refine ⟨_, rfl, d, 3, n + 38 - 6 * i, rfl, by decide, by decide, D2.less (by omega), fun r H3 h03 h13 k3 D3 => ?_⟩
      have hl3 := k3 _ _ hl hFd
      obtain ⟨m3, rfl⟩ : ∃ m3 : Nat, r = (m3 : Int) := ⟨r.toNat, by omega⟩
      refine ⟨_, _, rfl, rfl, _, rfl, by omega, by omega, fun L hL => ?_⟩
      have hdL : L ≠ d := D3.ne hL
      have hLF : F ≠ L := fun e => by rw [e, hL] at hl3; cases hl3
      refine lc_range (n := ((1 : Int) + (m3 : Int)).toNat) (fun i4 H4 => ∃ W : List Str, W.length = i4 ∧ (∀ w ∈ W, abc (tl w)) ∧ H4 L = some (.lst (W.map V.str)) ∧ Keep d H3 H4 ∧ H4 F = some (.lst (rs.map V.str)) ∧ DrawAt H4 d (n + 38 - 6 * i - i4)) ⟨[], rfl, by simp, upd_same, Keep.refl.updN hL, by rw [upd_ne hLF]; exact hl3, D3.upd hdL.symm⟩ ?_ ?_
      · rintro i4 H4 hi4 ⟨W, hW, hw, hlw, k4, hl4, D4⟩
        refine ⟨rfl, ?_⟩
        refine ⟨_, rfl, d, 3, n + 38 - 6 * i - i4 - 1, rfl, by decide, by decide, D4.less (by omega), fun r H5 h0 h1 k5 D5 => ?_⟩
        obtain ⟨c, hc, ha⟩ := abc_at h0 h1
        have hl5 : H5 L = some (.lst (W.map V.str)) := k5 L _ hlw hdL
        refine ⟨_, _, c, rfl, rfl, by decide +kernel, hc, ?_⟩
        refine ⟨_, hl5, Nat.lt_of_le_of_lt (by rw [List.length_map]; omega : _ ≤ 1000) (by decide), W ++ [⟨#[c]⟩], by rw [List.length_append, hW]; rfl, fun w hw' => ?_, by rw [upd_same, List.map_append]; rfl, ?_, by rw [upd_ne hLF]; exact k5 _ _ hl4 hFd, (D5.less (by omega)).upd hdL.symm⟩
        · rcases List.mem_append.mp hw' with q | q
          · exact hw w q
          · rw [List.mem_singleton.mp q]; exact ha
        · exact (k4.trans k5).updN hL
      · rintro H4 ⟨W, hW, hw, hlw, k4, hl4, D4⟩
        have hWl : W.length = 1 + m3 := by omega
        have hW0 : W ≠ [] := fun e => by rw [e] at hWl; simp at hWl; omega
        have k24 := kk.trans (k3.trans k4)
        refine ⟨_, rfl, d, 4, n + 38 - 6 * i - 4, rfl, by decide, by decide, D4.less (by omega), fun way H5 h05 h15 k5 D5 => ?_⟩
        have hlw5 := k5 _ _ hlw hdL
        have hl5 := k5 _ _ hl4 hFd
        have k25 := k24.trans k5
        have dot1 : ("." : Str).length = 1 := by decide +kernel
        have hW1 : ∀ x ∈ W, (tl x).length ≤ 1 := fun x hx => abc_len (hw x hx)
        have hWs := words_len hW1
        refine ⟨fun σ' H' => ∃ x : Str, σ' = [some (.ref d), some (.ref F), some (.int (0 + (i : Nat))), some (.ref L), some (.int way), some (.str x), v5] ∧ Same H5 H' ∧ ((way = 0 ∧ tl x = 42 :: 46 :: joinL [46] (W.map tl)) ∨ (way ≠ 0 ∧ tl x = joinL [46] (W.map tl))), ?_, ?_⟩
        · refine ⟨⟨_, rfl⟩, _, rfl, rfl, _, rfl, iteB (fun h0 => ?_) (fun h0 => ?_)⟩
          · have h0 : way = 0 := by rw [dec_int] at h0; exact beq_iff_eq.mp h0
            refine ⟨by show 1 ≤ sizeLine; decide, fun p hp => ?_⟩
            have s6 := Same.new (o := HO.lst [V.str ("*" : Str)]) hp
            refine ⟨_, rfl, _, _, _, _, rfl, rfl, upd_same, s6 _ _ hlw5, Nat.le_trans (by rw [List.length_map]; show 1 + _ ≤ 100; omega : _ ≤ 100) (by decide), fun p3 hp3 => ?_⟩
            have hs : ((("*" : Str) :: W).map (·.length)).sum ≤ 5 := by
              rw [List.map_cons, List.sum_cons]
              have : ("*" : Str).length = 1 := by decide +kernel
              show ("*" : Str).length + _ ≤ 5
              omega
            refine ⟨_, p3, ("*" : Str) :: W, rfl, rfl, .inl (SqL.of (by rw [upd_same]; rfl)), by rw [dot1, List.length_cons]; omega, _, rfl, s6.trans (Same.new hp3), .inl ⟨h0, ?_⟩⟩
            rw [words_join, List.map_cons, show tl ("*" : Str) = [42] by decide +kernel]
            exact joinL_app (L := [[42]]) (by simp) (by simp [hW0])
          · have h0 : ¬ way = 0 := by rw [dec_int] at h0; exact beq_eq_false_iff_ne.mp h0
            refine ⟨_, rfl, _, L, W, rfl, rfl, .inl (SqL.of hlw5), by rw [dot1]; omega, _, rfl, Same.refl _, .inr ⟨h0, words_join W⟩⟩
        · rintro σ' H6 ⟨x, rfl, s6, hx⟩
          refine ⟨fun σ' H' => ∃ x : Str, σ' = [some (.ref d), some (.ref F), some (.int (0 + (i : Nat))), some (.ref L), some (.int way), some (.str x), v5] ∧ Same H5 H' ∧ GenR (tl x), ?_, ?_⟩
          · refine ⟨_, rfl, rfl, _, rfl, iteB (fun h0 => ?_) (fun h0 => ?_)⟩
            · have h0 : way = 1 := by rw [dec_int] at h0; exact beq_iff_eq.mp h0
              refine ⟨⟨_, rfl⟩, _, rfl, by show 1 ≤ sizeLine; decide, fun p hp => ?_⟩
              have s7 := s6.trans (Same.new (o := HO.lst [V.str ("c" : Str)]) hp)
              refine ⟨_, _, _, _, rfl, rfl, s7 _ _ hlw5, upd_same, Nat.le_trans (by rw [List.length_map]; show _ + 1 ≤ 100; omega : _ ≤ 100) (by decide), fun p3 hp3 => ?_⟩
              have tc : tl ("c" : Str) = [99] := by decide +kernel
              have hs := words_len (W := W ++ [("c" : Str)]) (B := 1) fun x hx => by
                rcases List.mem_append.mp hx with q | q
                · exact hW1 x q
                · rw [List.mem_singleton.mp q, tc]; exact Nat.le_refl 1
              rw [List.length_append, List.length_singleton] at hs
              have hj : (Txt.join ("." : Str) (W ++ [("c" : Str)])).length ≤ 100 := by
                rw [len_tl, words_join]
                have := joinL_len (c := 46) (B := 1) ((W ++ [("c" : Str)]).map tl) fun l hl => by
                  obtain ⟨x, hx, rfl⟩ := List.mem_map.mp hl
                  rcases List.mem_append.mp hx with q | q
                  · exact hW1 x q
                  · rw [List.mem_singleton.mp q, tc]; exact Nat.le_refl 1
                rw [List.length_map, List.length_append, List.length_singleton] at this
                omega
              refine ⟨_, p3, W ++ [("c" : Str)], rfl, rfl, .inl (SqL.of (by rw [upd_same, List.map_append]; rfl)), by rw [dot1, List.length_append, List.length_singleton]; omega, _, _, rfl, rfl, Nat.le_trans (by have : ("!" : Str).length = 1 := (by decide +kernel); omega : _ ≤ 1000) (by decide), _, rfl, s7.trans (Same.new hp3), W.map tl ++ [[99]], by simp, by rw [List.length_append, List.length_map, List.length_singleton]; omega, fun l hl => ?_, .inr (.inr ⟨by rw [List.length_append, List.length_map, List.length_singleton]; omega, ?_⟩)⟩
              · rcases List.mem_append.mp hl with q | q
                · obtain ⟨w, hw', rfl⟩ := List.mem_map.mp q
                  exact hw w hw'
                · rw [List.mem_singleton.mp q]; exact .inr (.inr rfl)
              · rw [tl_append, words_join, List.map_append, List.map_cons, List.map_nil, tc, show tl ("!" : Str) = [33] by decide +kernel]
                rfl
            · refine ⟨_, rfl, _, rfl, s6, W.map tl, by simp [hW0], by rw [List.length_map]; omega, fun l hl => by obtain ⟨w, hw', rfl⟩ := List.mem_map.mp hl; exact hw w hw', ?_⟩
              rcases hx with ⟨_, e⟩ | ⟨_, e⟩
              · exact .inr (.inl e)
              · exact .inl e
          · rintro σ' H7 ⟨x, rfl, s7, hgx⟩
            have hl7 := s7 _ _ hl5
            refine ⟨_, rfl, _, rfl, by show 1 ≤ sizeLine; decide, fun p hp => ?_⟩
            have s8 := s7.trans (Same.new (o := HO.lst [V.str x]) hp)
            have hl8 := s8 _ _ hl5
            refine ⟨_, rfl, _, rfl, F, _, rfl, .inl (SqL.of hl8), rfl, flat_strs _, .inr ⟨_, rfl, ?_⟩⟩
            rw [in_strs]
            by_cases hm : x ∈ rs
            · rw [decide_eq_true hm]
              refine ⟨_, _, _, rfl, rfl, upd_same, by decide, by decide, by show 1 * 0 ≤ sizeLine; decide, fun p2 hp2 => ?_⟩
              have s9 := s8.trans (Same.new (o := HO.lst (List.replicate (0 : Int).toNat [V.str x]).flatten) hp2)
              refine ⟨_, _, _, _, rfl, rfl, s9 _ _ hl5, upd_same, Nat.le_trans (by rw [List.length_map]; show _ + 0 ≤ 100; omega : _ ≤ 100) (by decide), fun p3 hp3 => ?_⟩
              have s10 := s9.trans (Same.new (o := HO.lst (rs.map V.str ++ (List.replicate (0 : Int).toNat [V.str x]).flatten)) hp3)
              have k10 := k25.same s10
              have hd3 := ((D5.same s9).ne hp3)
              exact ⟨p3, rs, _, _, _, _, _, rfl, by omega, hnd, hg, by rw [upd_same]; simp, hd3, k10, (D5.same s10).less (by omega)⟩
            · rw [decide_eq_false hm]
              refine ⟨_, _, _, rfl, rfl, upd_same, by decide, by decide, by show 1 * 1 ≤ sizeLine; decide, fun p2 hp2 => ?_⟩
              have s9 := s8.trans (Same.new (o := HO.lst (List.replicate (1 : Int).toNat [V.str x]).flatten) hp2)
              refine ⟨_, _, _, _, rfl, rfl, s9 _ _ hl5, upd_same, Nat.le_trans (by rw [List.length_map]; show _ + 1 ≤ 100; omega : _ ≤ 100) (by decide), fun p3 hp3 => ?_⟩
              have s10 := s9.trans (Same.new (o := HO.lst (rs.map V.str ++ (List.replicate (1 : Int).toNat [V.str x]).flatten)) hp3)
              have k10 := k25.same s10
              have hd3 := ((D5.same s9).ne hp3)
              refine ⟨p3, rs ++ [x], _, _, _, _, _, rfl, by rw [List.length_append, List.length_singleton]; omega, ?_, fun r hr => ?_, by rw [upd_same, List.map_append]; rfl, hd3, k10, (D5.same s10).less (by omega)⟩
              · rw [List.nodup_append]
                refine ⟨hnd, by simp, fun a ha b hb e => ?_⟩
                rw [List.mem_singleton.mp hb] at e
                exact hm (e ▸ ha)
              · rcases List.mem_append.mp hr with q | q
                · exact hg r q
                · rw [List.mem_singleton.mp q]; exact hgx
    · rintro σ H2 ⟨F, rs, v1, v2, v3, v4, v5, rfl, hlen, hnd, hg, hl, hFd, kk, D2⟩
      refine ⟨_, rfl, F, _, rfl, .inl ⟨SqL.of hl, fun l hll => ?_⟩⟩
      have hld := D2.ne hll
      exact hQ l rs _ (by omega) hnd hg (kk.updN (kk.newer hld hll)) upd_same (kk.newer hld hll) ((D2.less (by omega)).upd hld.symm)
theorem ok__law_matches (T : Txt K mg) : Cal P w K mg base CX0 1 "_law_matches" ["rule", "words"] (sp__law_matches K) := by
  refine T.d__law_matches.okT sc__law_matches rfl rfl (fun vs H Q E h => ?_) (fun f cdv A outer s H vs Q E hr h => ?_)
  · first | (obtain ⟨_, rfl, _⟩ := h; rfl) | (obtain ⟨_, _, rfl, _⟩ := h; rfl) | (obtain ⟨_, _, _, rfl, _⟩ := h; rfl) | (obtain ⟨_, _, _, _, rfl, _⟩ := h; rfl) | (obtain ⟨_, _, _, _, _, rfl, _⟩ := h; rfl)
  · refine ⟨_, (psst_cons (pst_set (i := 2) sc__law_matches.nd rfl (by first | exact Or.inl rfl | exact Or.inr rfl) (pet_split (CwR.pet_replC (pv 0)) pe_str)) (PSsT.of (pss_cons (ps_if (pt_cmpR (op_gt) (pe_callB call_len_seq (by rfl) T.b_len (by decide +kernel) (pa_cons (pv 2) pa_nil)) (pe_callB call_len_seq (by rfl) T.b_len (by decide +kernel) (pa_cons (pv 1) pa_nil)) (nomark _))
      (pss_one (ps_ret pe_bl))
      pss_nil)
      (pss_cons (ps_set (i := 3) sc__law_matches.nd rfl (by first | exact Or.inl rfl | exact Or.inr rfl) (pe_slice sl_list (pv 1) (po_some (pe_op op_sub (pe_callB call_len_seq (by rfl) T.b_len (by decide +kernel) (pa_cons (pv 1) pa_nil)) (pe_callB call_len_seq (by rfl) T.b_len (by decide +kernel) (pa_cons (pv 2) pa_nil)))) po_none))
      (pss_one (ps_ret (pe_cmpR (op_eqD hr.units) (pe_lc (own := [(("j" : Str), 4)]) rfl sc__law_matches.nd (pi_range1 (by rfl) T.b_range (pa_cons (pe_callB call_len_seq (by rfl) T.b_len (by decide +kernel) (pa_cons (pv 2) pa_nil)) pa_nil)) (blkOk_by (N := ["rule", "words", "own", "last", "j"]) (sc := defScope s__law_matches) (by decide +kernel)) (fun _ _ _ _ _ => (pg_name (i := 4) sc__law_matches.nd rfl (by first | exact Or.inl rfl | exact Or.inr rfl))) (fun _ _ _ _ _ => (pts_one (pt_cmpR ((show OpR _ (compareOp .NotIn) (rInQ K true) from op_notIn_seq)) (pe_ix (show IxR _ (rIxL K) from ix_list) (pv 2) (pv 4) (fun _ _ => rfl)) (pe_tup (pa_cons pe_str (pa_cons (pe_ix (show IxR _ (rIxL K) from ix_list) (pv 3) (pv 4) (fun _ _ => rfl)) pa_nil))) (by with_unfolding_all rfl)))) (fun _ _ _ _ _ => (pv 4))) (pe_lst pa_nil) (nomark _)))))))), ?_⟩
    obtain ⟨x, p, W, rfl, hp, hg, hl, ha, hQ⟩ := h
    have hx : x.length ≤ 12 := by rw [len_tl]; exact hg.len
    have el : ("" : Str).length = 0 := by decide +kernel
    refine ⟨_, rfl, x, rfl, by rw [el]; omega, ⟨_, rfl⟩, _, _, rfl, rfl, by decide +kernel, ?_, fun q hq => ?_⟩
    · have := TK.replace_len x ("!" : Str) ("" : Str)
      rw [el] at this
      exact Nat.le_trans (by omega : _ ≤ 100) (by decide)
    have es := split_sp1 (Txt.replace x ("!" : Str) ("" : Str)) (c := 46) (by decide)
    rw [← dot_eq, replace_excl, filter_excl hg] at es
    generalize Txt.split (Txt.replace x ("!" : Str) ("" : Str)) ("." : Str) = P at *
    have s1 := Same.new (o := HO.lst (P.map V.str)) hq
    have m1 : (upd H q (.lst (P.map V.str))) q = some (.lst (P.map V.str)) := upd_same
    generalize upd H q (.lst (P.map V.str)) = H1 at *
    have hp1 := s1.seq hp
    have hPl : P.length = (patL (tl x)).length := by rw [← es, List.length_map]
    refine ⟨_, rfl, q, _, rfl, .inl (SqL.of m1), _, rfl, p, _, rfl, .inl hp1, _, _, rfl, rfl, _, rfl, iteB (fun h1 => ?_) (fun h1 => ?_)⟩
    · have h1 : ((W.map V.str).length : Int) < ((P.map V.str).length : Int) := of_decide_eq_true h1
      rw [List.length_map, List.length_map] at h1
      have := hQ _ s1
      unfold mtL at this
      rw [decide_eq_false (by rw [List.length_map]; omega), Bool.false_and] at this
      exact this
    have h1 : ¬ ((W.map V.str).length : Int) < ((P.map V.str).length : Int) := of_decide_eq_false h1
    rw [List.length_map, List.length_map] at h1
    have hle : (patL (tl x)).length ≤ (W.map tl).length := by rw [List.length_map]; omega
    refine ⟨_, rfl, _, rfl, p, _, rfl, .inl hp1, _, rfl, q, _, rfl, .inl (SqL.of m1), _, _, rfl, rfl, _, rfl, p, _, rfl, hp1, fun p2 hp2 => ?_⟩
    rw [cutV_from _ (by rw [List.length_map, List.length_map]; omega), List.length_map, List.length_map, ← List.map_drop, show ((W.length : Int) - (P.length : Int)).toNat = W.length - P.length by omega]
    have s2 := Same.new (o := HO.lst ((W.drop (W.length - P.length)).map V.str)) hp2
    have hZ : (W.drop (W.length - P.length)).map tl = lastN (patL (tl x)).length (W.map tl) := by
      rw [← hPl, ← lastN_map]; rfl
    have hZl : (W.drop (W.length - P.length)).length = P.length := by rw [List.length_drop]; omega
    have hZa : ∀ w ∈ W.drop (W.length - P.length), abc (tl w) := fun w hw => ha w (List.mem_of_mem_drop hw)
    generalize W.drop (W.length - P.length) = Z at *
    have mP2 := s2 _ _ m1
    have mZ2 : (upd H1 p2 (.lst (Z.map V.str))) p2 = some (.lst (Z.map V.str)) := upd_same
    generalize upd H1 p2 (.lst (Z.map V.str)) = H2 at *
    refine ⟨_, rfl, q, _, rfl, .inl (SqL.of mP2), P.length, by rw [List.length_map], by omega, by omega, fun L hL => ?_⟩
    refine lc_range (n := ((P.length : Nat) : Int).toNat) (fun i H3 => ∃ ns : List Nat, H3 L = some (.lst (ns.map fun n : Nat => V.int (n : Int))) ∧ ns.length ≤ i ∧ (ns = [] ↔ allAt (P.map tl) (Z.map tl) i = true) ∧ Same H2 H3) ⟨[], upd_same, Nat.le_refl _, by simp [allAt], Same.new hL⟩ ?_ ?_
    · rintro i H3 hi ⟨ns, hl3, hnl, hiff, s3⟩
      rw [Int.toNat_natCast] at hi
      have gP : (P.map V.str)[i]? = some (.str P[i]) := by rw [List.getElem?_map, List.getElem?_eq_getElem hi]; rfl
      have gZ : (Z.map V.str)[i]? = some (.str (Z[i]'(by omega))) := by rw [List.getElem?_map, List.getElem?_eq_getElem (by omega : i < Z.length)]; rfl
      refine ⟨rfl, ?_⟩
      refine ⟨_, rfl, _, rfl, q, _, _, _, rfl, rfl, SqL.of (s3 _ _ mP2), by rw [Int.zero_add]; exact atI_nat gP, _, rfl, _, rfl, p2, _, _, _, rfl, rfl, SqL.of (s3 _ _ mZ2), by rw [Int.zero_add]; exact atI_nat gZ, by show 2 ≤ sizeLine; decide, fun p3 hp3 => ?_⟩
      have s4 := s3.trans (Same.new (o := HO.tup [V.str ("*" : Str), V.str (Z[i]'(by omega))]) hp3)
      refine ⟨p3, _, rfl, .inr (SqT.of upd_same), rfl, rfl, _, rfl, ?_⟩
      have ei : inV (V.str P[i]) [V.str ("*" : Str), V.str (Z[i]'(by omega))] = okAt (P.map tl) (Z.map tl) i := by
        rw [show [V.str ("*" : Str), V.str (Z[i]'(by omega))] = [("*" : Str), Z[i]'(by omega)].map V.str from rfl, in_strs]
        unfold okAt
        rw [Bool.eq_iff_iff, decide_eq_true_eq, Bool.or_eq_true, decide_eq_true_eq, decide_eq_true_eq, List.getElem?_map, List.getElem?_map, List.getElem?_eq_getElem hi, List.getElem?_eq_getElem (by omega : i < Z.length)]
        simp only [List.mem_cons, List.not_mem_nil, or_false, Option.map_some, Option.some.injEq, str_eq_iff]
        rw [show tl ("*" : Str) = [42] by decide +kernel]
      rw [if_pos rfl, ei]
      have hsu := allAt_succ (P.map tl) (Z.map tl) i
      cases ho : okAt (P.map tl) (Z.map tl) i with
      | true =>
        rw [ho, Bool.and_true] at hsu
        exact iteF ⟨ns, (Same.new (o := HO.tup [V.str ("*" : Str), V.str (Z[i]'(by omega))]) hp3) _ _ hl3, by omega, by rw [hsu]; exact hiff, s4⟩
      | false =>
        rw [ho, Bool.and_false] at hsu
        refine iteT ⟨_, rfl, _, (Same.new (o := HO.tup [V.str ("*" : Str), V.str (Z[i]'(by omega))]) hp3) _ _ hl3, Nat.lt_of_le_of_lt (by rw [List.length_map]; omega : _ ≤ 100) (by decide), ns ++ [i], by rw [upd_same, List.map_append, Int.zero_add]; rfl, by rw [List.length_append, List.length_singleton]; omega, by rw [hsu]; simp, Same.put s4 hL⟩
    · rintro H3 ⟨ns, hl3, hnl, hiff, s3⟩
      refine ⟨by show 0 ≤ sizeLine; decide, fun L2 hL2 => ?_⟩
      have s4 := Same.new (o := HO.lst []) hL2
      refine ⟨_, _, .lst (SqL.of (s4 _ _ hl3)) (dpAll_nats ns), .lst (SqL.of upd_same) .nil, shaped_nats ns, shaped_nats [], ?_⟩
      rw [nats_eqv]
      have := hQ _ (((s1.trans s2).trans s3).trans s4)
      rw [mtL_allAt hg (fun w hw => by obtain ⟨z, hz, rfl⟩ := List.mem_map.mp hw; exact ha z hz) hle, ← hZ, ← hPl, ← es] at this
      rw [Int.toNat_natCast] at hiff
      rw [show decide (ns = []) = allAt (P.map tl) (Z.map tl) P.length by rw [Bool.eq_iff_iff, decide_eq_true_eq]; exact hiff]
      exact this
theorem ok__law_suffix (T : Txt K mg) : Cal P w K mg base CX0 2 "_law_suffix" ["rules", "words"] (sp__law_suffix K) := by
  refine T.d__law_suffix.ok0 sc__law_suffix (fun vs H Q E h => ?_) (fun f cdv A outer s H vs Q E hr h => ?_)
  · first | (obtain ⟨_, rfl, _⟩ := h; rfl) | (obtain ⟨_, _, rfl, _⟩ := h; rfl) | (obtain ⟨_, _, _, rfl, _⟩ := h; rfl) | (obtain ⟨_, _, _, _, rfl, _⟩ := h; rfl) | (obtain ⟨_, _, _, _, _, rfl, _⟩ := h; rfl)
  · refine ⟨_, (pss_cons (ps_setLc (i := 2) (own := [(("rule" : Str), 3)]) rfl sc__law_suffix.nd rfl rfl (sw_true rfl rfl rfl (by decide +kernel)) (pi_tup (pv 0)) (blkOk_by (N := ["rules", "words", "sizes", "rule"]) (sc := defScope s__law_suffix) (by decide +kernel)) (fun _ _ _ _ _ => (pg_name (i := 3) sc__law_suffix.nd rfl (by first | exact Or.inl rfl | exact Or.inr rfl))) (fun _ _ _ _ _ => (pts_one (PW.pt (pw_and (pt_cmpR (op_eq) (pe_ix ix_str (pv 3) pe_int (fun _ _ => rfl)) pe_str (nomark _)) (pw_and1 (pt_val (pe_c (ok__law_matches T) hr (by decide) (by rfl) pass0 (pa_cons (pv 3) (pa_cons (pv 1) pa_nil))))))))) (fun _ _ _ _ _ => (pe_op op_sub (pe_callB (show CallR _ (.builtin "len") (rLenQ K) from call_len_seq) (by rfl) T.b_len (by decide +kernel) (pa_cons (pe_split (pv 3) pe_str) pa_nil)) pe_int)))
      (Evl.pss_cut (ps_if (pt_cmpR (op_eqD hr.units) (pv 2) (pe_lst pa_nil) (nomark _))
      (pss_one (ps_setLc (i := 2) (own := [(("rule" : Str), 3)]) rfl sc__law_suffix.nd rfl rfl (sw_true rfl rfl rfl (by decide +kernel)) (pi_tup (pv 0)) (blkOk_by (N := ["rules", "words", "sizes", "rule"]) (sc := defScope s__law_suffix) (by decide +kernel)) (fun _ _ _ _ _ => (pg_name (i := 3) sc__law_suffix.nd rfl (by first | exact Or.inl rfl | exact Or.inr rfl))) (fun _ _ _ _ _ => (pts_one (PW.pt (pw_and (pt_cmpR (op_ne) (pe_ix ix_str (pv 3) pe_int (fun _ _ => rfl)) pe_str (nomark _)) (pw_and1 (pt_val (pe_c (ok__law_matches T) hr (by decide) (by rfl) pass0 (pa_cons (pv 3) (pa_cons (pv 1) pa_nil))))))))) (fun _ _ _ _ _ => (pe_callB (show CallR _ (.builtin "len") (rLenQ K) from call_len_seq) (by rfl) T.b_len (by decide +kernel) (pa_cons (pe_split (pv 3) pe_str) pa_nil)))))
      pss_nil)
      (pss_one (ps_ret (pe_ifExp (pt_cmpR (op_gt) (pe_callB (cr_max rfl) (by rfl) T.b_max (by decide +kernel) (pa_cons (pe_op op_cat (pv 2) (pe_lst (pa_cons pe_int pa_nil))) pa_nil)) pe_int (nomark _)) (pe_slice sl_list (pv 1) (po_some (pe_op op_sub (pe_callB call_len_seq (by rfl) T.b_len (by decide +kernel) (pa_cons (pv 1) pa_nil)) (pe_callB (cr_max rfl) (by rfl) T.b_max (by decide +kernel) (pa_cons (pe_op op_cat (pv 2) (pe_lst (pa_cons pe_int pa_nil))) pa_nil)))) po_none) (pe_slice sl_list (pv 1) (po_some (pe_un un_neg pe_int)) po_none)))))), ?_⟩
    obtain ⟨r, p, rs, W, rfl, hr, hp, hrl, hg, hW0, hWl, ha, hQ⟩ := h
    have dot1 : ("." : Str).length = 1 := by decide +kernel
    let qE : Str → Bool := fun t => excT (tl t) && mtL (patL (tl t)) (W.map tl)
    let qN : Str → Bool := fun t => !excT (tl t) && mtL (patL (tl t)) (W.map tl)
    have at0 : ∀ y ∈ rs, ∃ c, atI y.cps.toList 0 = some c ∧ excT (tl y) = decide (c = 33) ∧ y.length ≤ 12 ∧ 1 ≤ (patL (tl y)).length := fun y hy => by
      obtain ⟨a, r2, e, hx⟩ := (hg y hy).ne
      refine ⟨a, by show atI (tl y) ((0 : Nat) : Int) = _; rw [e]; exact atI_nat rfl, hx, by rw [len_tl]; exact (hg y hy).len, List.length_pos_iff.mpr (sp1_ne _ _)⟩
    have spl : ∀ y ∈ rs, (Txt.split y ("." : Str)).length = (patL (tl y)).length := fun y hy => by
      have := congrArg List.length (split_sp1 y (c := 46) (by decide))
      rw [List.length_map] at this
      rw [dot_eq, this, (hg y hy).size]
    refine ⟨_, rfl, r, rfl, ⟨_, hr⟩, fun L hL => lc_tup (K := K) (a := r) (xs := rs.map V.str) (fun i H1 => H1 L = some (.lst ((((rs.take i).filter qE).map fun t => (patL (tl t)).length - 1).map fun n : Nat => V.int (n : Int))) ∧ Same H H1) ⟨upd_same, Same.new hL⟩ (fun i H1 _ ⟨_, s⟩ => Same.seqT s hr) ?_ ?_⟩
    · rintro i v H1 hi ⟨hl, s1⟩
      obtain ⟨y, hy, rfl⟩ := strAt hi
      have hym := List.mem_of_getElem? hy
      obtain ⟨c, hc, hx, hy12, hy1⟩ := at0 y hym
      refine ⟨rfl, _, rfl, y, _, c, rfl, rfl, Nat.le_trans (by omega : _ ≤ 100) (by decide), hc, rfl, _, rfl, ?_⟩
      rw [one_excl, ← hx]
      have no : qE y = false → (fun H1 : Hp => H1 L = some (.lst ((((rs.take (i + 1)).filter qE).map fun t => (patL (tl t)).length - 1).map fun n : Nat => V.int (n : Int))) ∧ Same H H1) H1 := fun e => by
        refine ⟨?_, s1⟩
        rw [takeF_f hy e]; exact hl
      cases he : excT (tl y) with
      | false =>
        refine iteF (iteF (no ?_))
        show (excT (tl y) && _) = false
        rw [he]; rfl
      | true =>
        refine iteT ⟨_, rfl, _, rfl, y, p, W, rfl, s1.seq hp, hg y hym, hWl, ha, fun H2 s2 => ⟨_, rfl, ?_⟩⟩
        cases hm : mtL (patL (tl y)) (W.map tl) with
        | false =>
          refine iteF ⟨?_, s1.trans s2⟩
          rw [takeF_f hy (show (excT (tl y) && _) = false by rw [hm, Bool.and_false])]
          exact s2 _ _ hl
        | true =>
          refine iteT ⟨_, rfl, ⟨_, rfl⟩, _, _, rfl, rfl, by decide +kernel, Nat.le_trans (by omega : _ ≤ 100) (by decide), fun p2 hp2 => ?_⟩
          have s3 := Same.new (o := HO.lst ((Txt.split y ("." : Str)).map V.str)) hp2
          have sz : ((((rs.take i).filter qE).map fun t => (patL (tl t)).length - 1).map fun n : Nat => V.int (n : Int)).length ≤ 30 := by
            rw [List.length_map, List.length_map]
            have := List.length_filter_le qE (rs.take i)
            rw [List.length_take] at this
            omega
          refine ⟨p2, _, rfl, .inl (SqL.of upd_same), _, _, rfl, rfl, _, s3 _ _ (s2 _ _ hl), Nat.lt_of_le_of_lt sz (by decide), ?_, Same.put ((s1.trans s2).trans s3) hL⟩
          rw [takeF_t hy (show (excT (tl y) && _) = true by rw [he, hm]; rfl), upd_same, List.map_append, List.map_append, List.length_map, spl y hym]
          have ez : V.int ((((patL (tl y)).length : Nat) : Int) - 1) = V.int (((patL (tl y)).length - 1 : Nat) : Int) := by congr 1; omega
          show some (HO.lst (_ ++ [V.int ((((patL (tl y)).length : Nat) : Int) - 1)])) = some (HO.lst (_ ++ [V.int (((patL (tl y)).length - 1 : Nat) : Int)]))
          rw [ez]
    · rintro H1 ⟨hl, s1⟩
      rw [List.length_map, List.take_length] at hl
      have eqE : (rs.filter qE).map (fun t => (patL (tl t)).length - 1) = ((rs.map tl).filter fun t => excT t && mtL (patL t) (W.map tl)).map (fun t => (patL t).length - 1) := by rw [List.filter_map, List.map_map]; rfl
      have eqN : (rs.filter qN).map (fun t => (patL (tl t)).length) = ((rs.map tl).filter fun t => !excT t && mtL (patL t) (W.map tl)).map (fun t => (patL t).length) := by rw [List.filter_map, List.map_map]; rfl
      refine ⟨fun σ' H' => ∃ (L' : Addr) (ns : List Nat) (v : Option V), σ' = [some (.ref r), some (.ref p), some (.ref L'), v] ∧ H' L' = some (.lst (ns.map fun n : Nat => V.int (n : Int))) ∧ ns.length ≤ 30 ∧ Same H H' ∧
        ∀ m, m ∈ ns ++ [0] → (∀ y ∈ ns ++ [0], y ≤ m) → (if 0 < m then m else 1) = sufN (rs.map tl) (W.map tl), ?_, ?_⟩
      · refine ⟨_, rfl, by show 0 ≤ sizeLine; decide, fun p2 hp2 => ?_⟩
        have s2 := Same.new (o := HO.lst []) hp2
        refine ⟨_, _, .lst (SqL.of (s2 _ _ hl)) (dpAll_nats _), .lst (SqL.of upd_same) .nil, shaped_nats _, shaped_nats [], _, rfl, ?_⟩
        rw [nats_eqv]
        have sE : ((rs.filter qE).map fun t => (patL (tl t)).length - 1).length ≤ 30 := by
          rw [List.length_map]; exact Nat.le_trans (List.length_filter_le _ _) hrl
        have hrr : ∀ t ∈ rs.map tl, ruleB t = true := fun t ht => by obtain ⟨z, hz, rfl⟩ := List.mem_map.mp ht; exact (hg z hz).rule
        by_cases hE : rs.filter qE = []
        · rw [hE]
          refine iteT ⟨_, rfl, r, rfl, ⟨_, Same.seqT (s1.trans s2) hr⟩, fun M hM => ?_⟩
          have s12 := s1.trans s2
          generalize (upd H1 p2 (.lst [])) = H12 at *
          refine lc_tup (K := K) (a := r) (xs := rs.map V.str) (fun i H1 => H1 M = some (.lst ((((rs.take i).filter qN).map fun t => (patL (tl t)).length).map fun n : Nat => V.int (n : Int))) ∧ Same H12 H1) ⟨upd_same, Same.new hM⟩ (fun i H1 _ ⟨_, s⟩ => Same.seqT (s12.trans s) hr) ?_ ?_
          · rintro i v H3 hi ⟨hl, s3⟩
            obtain ⟨y, hy, rfl⟩ := strAt hi
            have hym := List.mem_of_getElem? hy
            obtain ⟨c, hc, hx, hy12, hy1⟩ := at0 y hym
            refine ⟨rfl, _, rfl, y, _, c, rfl, rfl, Nat.le_trans (by omega : _ ≤ 100) (by decide), hc, rfl, _, rfl, ?_⟩
            rw [one_excl, ← hx]
            cases he : excT (tl y) with
            | true =>
              refine iteF (iteF ⟨?_, s3⟩)
              rw [takeF_f hy (show (!excT (tl y) && _) = false by rw [he]; rfl)]
              exact hl
            | false =>
              refine iteT ⟨_, rfl, _, rfl, y, p, W, rfl, (s12.trans s3).seq hp, hg y hym, hWl, ha, fun H4 s4 => ⟨_, rfl, ?_⟩⟩
              cases hm : mtL (patL (tl y)) (W.map tl) with
              | false =>
                refine iteF ⟨?_, s3.trans s4⟩
                rw [takeF_f hy (show (!excT (tl y) && _) = false by rw [hm, Bool.and_false])]
                exact s4 _ _ hl
              | true =>
                refine iteT ⟨_, rfl, ⟨_, rfl⟩, _, _, rfl, rfl, by decide +kernel, Nat.le_trans (by omega : _ ≤ 100) (by decide), fun p3 hp3 => ?_⟩
                have s5 := Same.new (o := HO.lst ((Txt.split y ("." : Str)).map V.str)) hp3
                have sz : ((((rs.take i).filter qN).map fun t => (patL (tl t)).length).map fun n : Nat => V.int (n : Int)).length ≤ 30 := by
                  rw [List.length_map, List.length_map]
                  have := List.length_filter_le qN (rs.take i)
                  rw [List.length_take] at this
                  omega
                refine ⟨p3, _, rfl, .inl (SqL.of upd_same), _, s5 _ _ (s4 _ _ hl), Nat.lt_of_le_of_lt sz (by decide), ?_, Same.put ((s3.trans s4).trans s5) hM⟩
                rw [takeF_t hy (show (!excT (tl y) && _) = true by rw [he, hm]; rfl), upd_same, List.map_append, List.map_append, List.length_map, spl y hym]
                rfl
          · rintro H3 ⟨hl, s3⟩
            rw [List.length_map, List.take_length] at hl
            refine ⟨M, _, _, rfl, hl, by rw [List.length_map]; exact Nat.le_trans (List.length_filter_le _ _) hrl, s12.trans s3, fun m hm1 hm2 => ?_⟩
            rw [eqN] at hm1 hm2
            have hm := big_max hm1 hm2
            have e0 : excN (rs.map tl) (W.map tl) = 0 := by
              refine bigN_none ?_
              rw [hE, List.map_nil] at eqE
              exact List.map_eq_nil_iff.mp eqE.symm
            have e1 : sufN (rs.map tl) (W.map tl) = lonN (rs.map tl) (W.map tl) := by unfold sufN; rw [if_neg (by omega)]
            rw [e1, lonN_big, ← hm]
            split <;> omega
        · rw [decide_eq_false (by rw [List.map_eq_nil_iff]; exact hE)]
          refine iteF ⟨L, _, _, rfl, s2 _ _ hl, sE, s1.trans s2, fun m hm1 hm2 => ?_⟩
          rw [eqE] at hm1 hm2
          have hne : (rs.map tl).filter (fun t => excT t && mtL (patL t) (W.map tl)) ≠ [] := fun q => by
            rw [q] at eqE
            exact hE (List.map_eq_nil_iff.mp eqE)
          have := big_pred hne hm1 hm2
          have e0 : excN (rs.map tl) (W.map tl) = bigN 0 (fun t => excT t && mtL (patL t) (W.map tl)) (rs.map tl) := rfl
          have h0 : 0 < excN (rs.map tl) (W.map tl) := by
            obtain ⟨t, ht⟩ := List.exists_mem_of_ne_nil _ hne
            obtain ⟨ht, hq⟩ := List.mem_filter.mp ht
            have := bigN_mem (fun t => excT t && mtL (patL t) (W.map tl)) (rs.map tl) 0 t ht hq
            have h1 : 1 ≤ (patL t).length := List.length_pos_iff.mpr (sp1_ne _ _)
            omega
          have := excN_ge hrr h0
          unfold sufN
          rw [if_pos h0, if_pos (by omega)]
          omega
      · rintro σ' H2 ⟨L', ns, v, rfl, hl2, hnl, s2, hmx⟩
        have hmax : ∀ ms : List Int, ms = (ns ++ [0]).map (fun n : Nat => (n : Int)) → ∀ m : Int, m ∈ ms → (∀ y, y ∈ ms → y ≤ m) → ∃ k : Nat, m = (k : Int) ∧ (if 0 < k then k else 1) = sufN (rs.map tl) (W.map tl) := by
          rintro ms rfl m h1 h2
          obtain ⟨k, hk, rfl⟩ := List.mem_map.mp h1
          refine ⟨k, rfl, hmx k hk fun y hy => ?_⟩
          have := h2 (y : Int) (List.mem_map.mpr ⟨y, hy, rfl⟩)
          omega
        have hp2 := s2.seq hp
        refine ⟨_, rfl, by show 1 ≤ sizeLine; decide, fun q hq => ?_⟩
        have s3 := Same.new (o := HO.lst [V.int 0]) hq
        have nl : (ns.map fun n : Nat => V.int (n : Int)).length ≤ 30 := by rw [List.length_map]; exact hnl
        have esum : (ns.map fun n : Nat => V.int (n : Int)) ++ [V.int 0] = ((ns ++ [0]).map (fun n : Nat => (n : Int))).map V.int := by rw [List.map_append, List.map_append, List.map_map]; rfl
        refine ⟨_, _, _, _, rfl, rfl, s3 _ _ hl2, upd_same, Nat.le_trans (by show _ + 1 ≤ 100; omega : _ ≤ 100) (by decide), fun q2 hq2 => ?_⟩
        rw [esum]
        have s4 := s3.trans (Same.new (o := HO.lst (((ns ++ [0]).map (fun n : Nat => (n : Int))).map V.int)) hq2)
        refine ⟨q2, _, rfl, SqL.of upd_same, by simp, fun m h1 h2 => ?_⟩
        obtain ⟨k, rfl, hk⟩ := hmax _ rfl m h1 h2
        generalize (upd (upd H2 q (.lst [V.int 0])) q2 (.lst (((ns ++ [0]).map (fun n : Nat => (n : Int))).map V.int))) = H4 at *
        have hp4 := s4.seq hp2
        refine ⟨_, _, rfl, rfl, _, rfl, iteB (fun hc => ?_) (fun hc => ?_)⟩
        · have hc : (0 : Int) < (k : Int) := of_decide_eq_true hc
          rw [if_pos (by omega)] at hk
          refine ⟨_, rfl, _, rfl, p, _, rfl, .inl hp4, _, rfl, by show 1 ≤ sizeLine; decide, fun q3 hq3 => ?_⟩
          have s5 := Same.new (o := HO.lst [V.int 0]) hq3
          refine ⟨_, _, _, _, rfl, rfl, s5 _ _ (s4 _ _ hl2), upd_same, Nat.le_trans (by show _ + 1 ≤ 100; omega : _ ≤ 100) (by decide), fun q4 hq4 => ?_⟩
          rw [esum]
          have s6 := s5.trans (Same.new (o := HO.lst (((ns ++ [0]).map (fun n : Nat => (n : Int))).map V.int)) hq4)
          refine ⟨q4, _, rfl, SqL.of upd_same, by simp, fun m2 h1' h2' => ?_⟩
          obtain ⟨k2, rfl, hk2⟩ := hmax _ rfl m2 h1' h2'
          have ekk : k2 = k := by
            have a1 := h2 (k2 : Int) h1'
            have a2 := h2' (k : Int) h1
            omega
          subst ekk
          refine ⟨_, _, rfl, rfl, _, rfl, p, _, rfl, s6.seq hp4, fun q5 hq5 => ?_⟩
          have hsW := sufN_ge (rs := rs.map tl) (w := W.map tl) (fun t ht => by obtain ⟨z, hz, rfl⟩ := List.mem_map.mp ht; exact (hg z hz).rule) (by simpa using hW0)
          rw [List.length_map] at hsW
          have ec : cutV (W.map V.str) (some (((W.map V.str).length : Int) - (k2 : Int))) none = (lastN (sufN (rs.map tl) (W.map tl)) W).map V.str := by
            rw [cutV_from _ (by rw [List.length_map]; omega), List.length_map, ← List.map_drop, ← hk]
            unfold lastN
            rw [show ((W.length : Int) - (k2 : Int)).toNat = W.length - k2 by omega]
          have s7 := ((s2.trans s4).trans s6).trans (Same.new (o := HO.lst (cutV (W.map V.str) (some (((W.map V.str).length : Int) - (k2 : Int))) none)) hq5)
          exact hQ q5 _ s7 (((s2.trans s4).trans s6).free hq5) (by rw [upd_same, ec])
        · have hc : ¬ (0 : Int) < (k : Int) := of_decide_eq_false hc
          rw [if_neg (by omega)] at hk
          refine ⟨_, rfl, _, rfl, _, rfl, p, _, rfl, hp4, fun q3 hq3 => ?_⟩
          have ec : cutV (W.map V.str) (some (-1)) none = (lastN (sufN (rs.map tl) (W.map tl)) W).map V.str := by
            rw [← hk, lastN_map]
            exact cutV_last _ (n := 1) (Nat.le_refl _)
          have s5 := (s2.trans s4).trans (Same.new (o := HO.lst (cutV (W.map V.str) (some (-1)) none)) hq3)
          exact hQ q3 _ s5 ((s2.trans s4).free hq3) (by rw [upd_same, ec])
theorem ok__law_family (T : Txt K mg) : Cal P w K mg base CX0 3 "_law_family" ["rules", "words"] (sp__law_family K) := by
  refine T.d__law_family.ok0 sc__law_family (fun vs H Q E h => ?_) (fun f cdv A outer s H vs Q E hr h => ?_)
  · first | (obtain ⟨_, rfl, _⟩ := h; rfl) | (obtain ⟨_, _, rfl, _⟩ := h; rfl) | (obtain ⟨_, _, _, rfl, _⟩ := h; rfl) | (obtain ⟨_, _, _, _, rfl, _⟩ := h; rfl) | (obtain ⟨_, _, _, _, _, rfl, _⟩ := h; rfl)
  · refine ⟨_, (pss_one (ps_ret (pe_ifExp (pt_cmpR (op_neD hr.units) (pe_c (ok__law_suffix T) hr (by decide) (by rfl) pass0 (pa_cons (pv 0) (pa_cons (pv 1) pa_nil))) (pv 1) (nomark _)) (pe_slice sl_list (pv 1) (po_some (pe_op op_sub (pe_op op_sub (pe_callB call_len_seq (by rfl) T.b_len (by decide +kernel) (pa_cons (pv 1) pa_nil)) (pe_callB call_len_seq (by rfl) T.b_len (by decide +kernel) (pa_cons (pe_c (ok__law_suffix T) hr (by decide) (by rfl) pass0 (pa_cons (pv 0) (pa_cons (pv 1) pa_nil))) pa_nil))) pe_int)) po_none) (pv 1)))), ?_⟩
    obtain ⟨r, p, rs, W, rfl, hr, hp, hrl, hg, hW0, hWl, ha, hQ⟩ := h
    have hsW := sufN_ge (rs := rs.map tl) (w := W.map tl) (fun t ht => by obtain ⟨z, hz, rfl⟩ := List.mem_map.mp ht; exact (hg z hz).rule) (by simpa using hW0)
    rw [List.length_map] at hsW
    have hasc : ∀ w ∈ W, ascii w := fun w hw => ascii_abc (ha w hw)
    refine ⟨_, rfl, _, rfl, r, p, rs, W, rfl, hr, hp, hrl, hg, hW0, hWl, ha, fun e H1 s1 he hl => ⟨_, rfl, ?_⟩⟩
    refine ⟨_, _, dp_strs (SqL.of hl), dp_strs (s1.seq hp), lay_strs fun w hw => hasc w (lastN_mem hw), lay_strs hasc, _, rfl, ?_⟩
    rw [eqv_strsL]
    have hfl : famL (rs.map tl) (W.map tl) = (lastN (sufN (rs.map tl) (W.map tl) + 1) W).map tl := by
      rw [lastN_map]
      unfold famL
      rw [lastN_len, List.length_map, Nat.min_eq_left hsW.2]
    have hn : (lastN (sufN (rs.map tl) (W.map tl)) W).length = sufN (rs.map tl) (W.map tl) := by rw [lastN_len, Nat.min_eq_left hsW.2]
    by_cases hc : lastN (sufN (rs.map tl) (W.map tl)) W = W
    · rw [decide_eq_true hc]
      refine iteF ⟨_, rfl, hQ p W _ s1 ?_ (s1.seq hp)⟩
      rw [hfl, lastN_all]
      rw [hc] at hn
      omega
    · rw [decide_eq_false hc]
      have hlt : sufN (rs.map tl) (W.map tl) < W.length := by
        rcases Nat.lt_or_ge (sufN (rs.map tl) (W.map tl)) W.length with g | g
        · exact g
        · exact absurd (lastN_all g) hc
      refine iteT ⟨_, rfl, _, rfl, p, _, rfl, .inl (s1.seq hp), _, rfl, _, rfl, r, p, rs, W, rfl, Same.seqT s1 hr, s1.seq hp, hrl, hg, hW0, hWl, ha, fun e2 H2 s2 he2 hl2 => ?_⟩
      refine ⟨_, _, rfl, .inl (SqL.of hl2), _, _, rfl, rfl, _, _, rfl, rfl, _, rfl, p, _, rfl, (s1.trans s2).seq hp, fun p2 hp2 => ?_⟩
      have s3 := (s1.trans s2).trans (Same.new (o := HO.lst (cutV (W.map V.str) (some (((W.map V.str).length : Int) - ((lastN (sufN (rs.map tl) (W.map tl)) W).map V.str).length - 1)) none)) hp2)
      refine hQ p2 (lastN (sufN (rs.map tl) (W.map tl) + 1) W) _ s3 hfl.symm (SqL.of ?_)
      rw [upd_same]
      congr 2
      rw [cutV_from _ (by rw [List.length_map, List.length_map]; omega), List.length_map, List.length_map, hn, ← List.map_drop]
      unfold lastN
      rw [show ((W.length : Int) - (sufN (rs.map tl) (W.map tl) : Int) - 1).toNat = W.length - (sufN (rs.map tl) (W.map tl) + 1) by omega]
theorem ok__law_labels (T : Txt K mg) : Cal P w K mg base CX0 3 "_law_labels" ["draw"] sp__law_labels := by
  refine T.d__law_labels.ok0 sc__law_labels (fun vs H Q E h => ?_) (fun f cdv A outer s H vs Q E hr h => ?_)
  · first | (obtain ⟨_, rfl, _⟩ := h; rfl) | (obtain ⟨_, _, rfl, _⟩ := h; rfl) | (obtain ⟨_, _, _, rfl, _⟩ := h; rfl) | (obtain ⟨_, _, _, _, rfl, _⟩ := h; rfl) | (obtain ⟨_, _, _, _, _, rfl, _⟩ := h; rfl)
  · refine ⟨_, (pss_one (ps_ret (pe_lc (own := [(("j" : Str), 1)]) rfl sc__law_labels.nd (pi_range1 (by rfl) T.b_range (pa_cons (pe_op op_add pe_int (pe_c (ok__law_digit T) hr (by decide) (by rfl) pass0 (pa_cons (pv 0) (pa_cons pe_int pa_nil)))) pa_nil)) (blkOk_by (N := ["draw", "j"]) (sc := defScope s__law_labels) (by decide +kernel)) (fun _ _ _ _ _ => (pg_name (i := 1) sc__law_labels.nd rfl (by first | exact Or.inl rfl | exact Or.inr rfl))) (fun _ _ _ _ _ => pts_nil) (fun _ _ _ _ _ => (pe_ix ix_str pe_str (pe_c (ok__law_digit T) hr (by decide) (by rfl) pass0 (pa_cons (pv 0) (pa_cons pe_int pa_nil))) (fun _ _ => rfl)))))), ?_⟩
    obtain ⟨d, n, rfl, D, hQ⟩ := h
    refine ⟨_, rfl, d, 6, n + 9, rfl, by decide, by decide, D, fun r H1 h0 h1 k1 D1 => ?_⟩
    obtain ⟨m, rfl⟩ : ∃ m : Nat, r = (m : Int) := ⟨r.toNat, by omega⟩
    refine ⟨_, _, rfl, rfl, _, rfl, by omega, by omega, fun L hL => ?_⟩
    have hdL : L ≠ d := D1.ne hL
    refine lc_range (n := ((1 : Int) + (m : Int)).toNat) (fun i H2 => ∃ W : List Str, W.length = i ∧ (∀ w ∈ W, abc (tl w)) ∧ H2 L = some (.lst (W.map V.str)) ∧ Keep d H1 H2 ∧ DrawAt H2 d (n + 9 - i)) ⟨[], rfl, by simp, upd_same, Keep.refl.updN hL, D1.upd hdL.symm⟩ ?_ ?_
    · rintro i H2 hi ⟨W, hW, hw, hl, kk, D2⟩
      refine ⟨rfl, ?_⟩
      refine ⟨_, rfl, d, 3, n + 9 - i - 1, rfl, by decide, by decide, D2.less (by omega), fun r H3 h0 h1 k3 D3 => ?_⟩
      obtain ⟨c, hc, ha⟩ := abc_at h0 h1
      have hl3 : H3 L = some (.lst (W.map V.str)) := k3 L _ hl hdL
      refine ⟨_, _, c, rfl, rfl, by decide +kernel, hc, ?_⟩
      refine ⟨_, hl3, Nat.lt_of_le_of_lt (by rw [List.length_map]; omega : _ ≤ 1000) (by decide), W ++ [⟨#[c]⟩], by rw [List.length_append, hW]; rfl, fun w hw' => ?_, by rw [upd_same, List.map_append]; rfl, ?_, (D3.less (by omega)).upd hdL.symm⟩
      · rcases List.mem_append.mp hw' with q | q
        · exact hw w q
        · rw [List.mem_singleton.mp q]; exact ha
      · exact (kk.trans k3).updN hL
    · rintro H2 ⟨W, hW, hw, hl, kk, D2⟩
      have hWl : W.length = 1 + m := by omega
      have hW0 : W ≠ [] := fun e => by rw [e] at hWl; simp at hWl; omega
      exact hQ L W _ hW0 (by omega) hw (k1.trans kk) hl (k1.newer hdL hL) (D2.less (by omega))
theorem ok_law {f : Addr} {fd : FuncData} (F : Fun K "law" "law" s_law f fd) (T : Txt K mg) : FnOk P w K mg base CX0 10 f fd ["script"] (sp_law K) := by
  refine F.ok sc_law (fun vs H Q E h => ?_) (fun cdv A outer s H vs Q E hr h => ?_)
  · first | (obtain ⟨_, rfl, _⟩ := h; rfl) | (obtain ⟨_, _, rfl, _⟩ := h; rfl) | (obtain ⟨_, _, _, rfl, _⟩ := h; rfl) | (obtain ⟨_, _, _, _, rfl, _⟩ := h; rfl) | (obtain ⟨_, _, _, _, _, rfl, _⟩ := h; rfl)
  · refine ⟨_, (pss_cons (ps_for PassesOwn.never rfl (pi_enum (by rfl) T.b_enumerate (pa_cons (pe_op op_cat (pe_slice sl_list (pv 0) po_none (po_some pe_int)) (pe_lst (pa_cons (pe_callB (cr_sum rfl) (by rfl) T.b_sum (by decide +kernel) (pa_cons (pv 0) pa_nil)) pa_nil))) pa_nil)) (pg_tup rfl (pgs_cons (pg_name (i := 1) sc_law.nd rfl (by first | exact Or.inl rfl | exact Or.inr rfl)) (pgs_cons (pg_name (i := 2) sc_law.nd rfl (by first | exact Or.inl rfl | exact Or.inr rfl)) pgs_nil)))
      (pss_cons (ps_set (i := 3) sc_law.nd rfl (by first | exact Or.inl rfl | exact Or.inr rfl) (pe_c (ok__law_draw T) hr (by decide) (by rfl) pass0 (pa_cons (pv 2) (pa_cons (pv 1) pa_nil))))
      (pss_one (ps_for PassesOwn.never rfl (pi_range1 (by rfl) T.b_range (pa_cons pe_int pa_nil)) (pg_name (i := 4) sc_law.nd rfl (by first | exact Or.inl rfl | exact Or.inr rfl))
      (pss_cons (ps_par (i := 5) (j := 6) rfl sc_law.nd rfl rfl (by decide) rfl rfl (pa_cons (pe_c (ok__law_rules T) hr (by decide) (by rfl) pass0 (pa_cons (pv 3) pa_nil)) (pa_cons (pe_c (ok__law_labels T) hr (by decide) (by rfl) pass0 (pa_cons (pv 3) pa_nil)) pa_nil)) (by rfl))
      (pss_cons (ps_par (i := 7) (j := 8) rfl sc_law.nd rfl rfl (by decide) rfl rfl (pa_cons (pe_join pe_str (pv 6)) (pa_cons (pe_ix ix_list (pe_lst (pa_cons pe_str (pa_cons pe_str pa_nil))) (pe_c (ok__law_digit T) hr (by decide) (by rfl) pass0 (pa_cons (pv 3) (pa_cons pe_int pa_nil))) (fun _ _ => rfl)) pa_nil)) (by rfl))
      (pss_cons (ps_par (i := 9) (j := 10) rfl sc_law.nd rfl rfl (by decide) rfl rfl (pa_cons (pe_join pe_str (pe_c (ok__law_suffix T) hr (by decide) (by rfl) pass0 (pa_cons (pv 5) (pa_cons (pv 6) pa_nil)))) (pa_cons (pe_join pe_str (pe_c (ok__law_family T) hr (by decide) (by rfl) pass0 (pa_cons (pv 5) (pa_cons (pv 6) pa_nil)))) pa_nil)) (by rfl))
      (pss_cons (ps_for PassesOwn.never rfl (pi_list (pe_lst (pa_cons (pv 5) (pa_cons (pe_revT (pv 5)) pa_nil)))) (pg_name (i := 11) sc_law.nd rfl (by first | exact Or.inl rfl | exact Or.inr rfl))
      (pss_cons (ps_if (pt_cmpR (op_neD hr.units) (pe_lst (pa_cons (pe_c (ok_suffix_of T) hr (by decide) (by rfl) pass0 (pa_cons (pv 11) (pa_cons (pv 7) pa_nil))) (pa_cons (pe_c (ok_family_of T) hr (by decide) (by rfl) pass0 (pa_cons (pv 11) (pa_cons (pv 7) pa_nil))) pa_nil))) (pe_lst (pa_cons (pv 9) (pa_cons (pv 10) pa_nil))) (nomark _))
      (pss_one (ps_ret pe_bl))
      pss_nil)
      (pss_one (ps_if (PW.pt (pw_or (pt_cmpR (op_ne) (pe_c (ok_is_suffix T) hr (by decide) (by rfl) pass0 (pa_cons (pv 11) (pa_cons (pv 7) pa_nil))) (pe_cmpR (op_eq) (pv 9) (pv 7) (nomark _)) (nomark _)) (pw_or1 (pt_cmpR (op_neD hr.units) (pe_c (ok_site_of T) hr (by decide) (by rfl) pass0 (pa_cons (pv 11) (pa_cons (pe_tup (pa_cons (pv 8) (pa_cons (pv 7) pa_nil))) pa_nil))) (pe_tup (pa_cons (pv 8) (pa_cons (pv 10) pa_nil))) (nomark _)))))
      (pss_one (ps_ret pe_bl))
      pss_nil))))
      (pss_cons (ps_set (i := 12) sc_law.nd rfl (by first | exact Or.inl rfl | exact Or.inr rfl) (pe_join pe_str (pe_lc (own := [(("j" : Str), 13)]) rfl sc_law.nd (pi_range1 (by rfl) T.b_range (pa_cons pe_int pa_nil)) (blkOk_by (N := ["script", "k", "amount", "draw", "turn", "rules", "words", "host", "scheme", "suffix", "family", "some", "number", "j"]) (sc := defScope s_law) (by decide +kernel)) (fun _ _ _ _ _ => (pg_name (i := 13) sc_law.nd rfl (by first | exact Or.inl rfl | exact Or.inr rfl))) (fun _ _ _ _ _ => pts_nil) (fun _ _ _ _ _ => (pe_callTy call_str_int (by rfl) T.b_str (by decide +kernel) (pa_cons (pe_c (ok__law_digit T) hr (by decide) (by rfl) pass0 (pa_cons (pv 3) (pa_cons pe_int pa_nil))) pa_nil))))))
      (Evl.pss_cut (ps_set (i := 11) sc_law.nd rfl (by first | exact Or.inl rfl | exact Or.inr rfl) (pe_op op_catA (pv 5) (pe_tup (pa_cons (pe_ix ix_list (pe_split (pv 12) pe_str) pe_int (fun _ _ => rfl)) (pa_cons (pe_op op_add_str pe_str (pe_join pe_str (pe_slice sl_list (pe_split (pv 12) pe_str) (po_some pe_int) po_none))) pa_nil)))))
      (pss_cons (ps_if (PW.pt (pw_or (pt_cmpR (op_notN) (pe_c (ok_suffix_of T) hr (by decide) (by rfl) pass0 (pa_cons (pv 11) (pa_cons (pv 12) pa_nil))) pe_non (nomark _)) (pw_or1 (pt_cmpR (op_notBl) (pe_c (ok_is_suffix T) hr (by decide) (by rfl) pass0 (pa_cons (pv 5) (pa_cons (pv 12) pa_nil))) pe_bl (nomark _)))))
      (pss_one (ps_ret pe_bl))
      pss_nil)
      (pss_one (ps_if (PW.pt (pw_or (pt_cmpR (op_ne) (pe_c (ok_family_of T) hr (by decide) (by rfl) pass0 (pa_cons (pv 11) (pa_cons (pv 12) pa_nil))) (pv 12) (nomark _)) (pw_or1 (pt_cmpR (op_neD hr.units) (pe_c (ok_site_of T) hr (by decide) (by rfl) pass0 (pa_cons (pv 5) (pa_cons (pe_tup (pa_cons pe_str (pa_cons (pv 12) pa_nil))) pa_nil))) (pe_tup (pa_cons pe_str (pa_cons (pv 12) pa_nil))) (nomark _)))))
      (pss_one (ps_ret pe_bl))
      pss_nil)))))))))))))
      (pss_one (ps_ret pe_bl))), ?_⟩
    obtain ⟨a0, ns, rfl, hS, hlen, hQ⟩ := h
    refine ⟨_, rfl, 6, rfl, a0, _, rfl, hS, fun p hp => ?_⟩
    have s1 : Same H (upd H p (.lst (cutV (ns.map V.int) none (some 6)))) := Same.new hp
    refine ⟨_, rfl, a0, ns, rfl, s1.seq hS, by show 1 ≤ sizeLine; decide, fun p2 hp2 => ?_⟩
    have s2 := Same.new (o := HO.lst [V.int ns.sum]) hp2
    have hc6 : cutV (ns.map V.int) none (some 6) = (ns.take 6).map V.int := by
      rw [cutV_to _ (by decide), List.map_take]; rfl
    rw [hc6] at s1 s2 ⊢
    have l6 : (ns.take 6).length ≤ 6 := by rw [List.length_take]; omega
    refine ⟨_, _, _, _, rfl, rfl, s2 _ _ upd_same, upd_same, Nat.le_trans (by rw [List.length_map]; show _ + 1 ≤ 100; omega) (by decide : 100 ≤ sizeLine), fun p3 hp3 => ?_⟩
    have s3 := Same.new (o := HO.lst ((ns.take 6).map V.int ++ [V.int ns.sum])) hp3
    have hm : upd (upd (upd H p (.lst ((ns.take 6).map V.int))) p2 (.lst [V.int ns.sum])) p3 (.lst ((ns.take 6).map V.int ++ [V.int ns.sum])) p3 = some (.lst ((ns.take 6).map V.int ++ [V.int ns.sum])) := upd_same
    generalize (upd (upd (upd H p (.lst ((ns.take 6).map V.int))) p2 (.lst [V.int ns.sum])) p3 (.lst ((ns.take 6).map V.int ++ [V.int ns.sum]))) = Hb at hm ⊢
    have hxs : ∀ i x, ((ns.take 6).map V.int ++ [V.int ns.sum])[i]? = some x → i ≤ 6 ∧ ∃ z : Int, x = .int z := fun i x hi => by
      have h1 := (List.getElem?_eq_some_iff.mp hi).1
      have h2 := List.mem_of_getElem? hi
      rw [List.length_append, List.length_map, List.length_singleton] at h1
      refine ⟨by omega, ?_⟩
      rw [List.mem_append, List.mem_map, List.mem_singleton] at h2
      rcases h2 with ⟨z, _, rfl⟩ | rfl <;> exact ⟨_, rfl⟩
    generalize ((ns.take 6).map V.int ++ [V.int ns.sum]) = xs at hm hxs
    refine ⟨p3, xs, rfl, SqL.of hm, for_enum (K := K) (a := p3) (xs := xs) (fun i σ H' => ∃ v1 v2 v3 v4 v5 v6 v7 v8 v9 v10 v11 v12 v13 : Option V, σ = [some (.ref a0), v1, v2, v3, v4, v5, v6, v7, v8, v9, v10, v11, v12, v13] ∧ Same Hb H')
      ⟨none, none, none, none, none, none, none, none, none, none, none, none, none, rfl, Same.refl _⟩ (fun i σ H' _ ⟨_, _, _, _, _, _, _, _, _, _, _, _, _, _, q⟩ => SqL.of (q _ _ hm)) ?_ ?_⟩
    · rintro i x T σ H1 hi ⟨v1, v2, v3, v4, v5, v6, v7, v8, v9, v10, v11, v12, v13, rfl, sb⟩ hT
      obtain ⟨hi6, z, rfl⟩ := hxs i x hi
      refine ⟨T, _, rfl, SqT.of upd_same, rfl, _, _, rfl, _, _, rfl, rfl, ?_⟩
      have sT := sb.trans (Same.new (o := HO.tup [V.int (i : Nat), V.int z]) hT)
      refine ⟨_, rfl, _, rfl, z, i, rfl, by omega, by omega, fun d H2 sd hd D => ?_⟩
      have hbd : Hb d = none := sT.free hd
      have sb2 : Same Hb H2 := sT.trans sd
      refine ⟨6, rfl, by decide, by decide, for_range (n := 6) (fun i1 σ H3 => ∃ v4 v5 v6 v7 v8 v9 v10 v11 v12 v13 : Option V, σ = [some (.ref a0), some (.int (i : Nat)), some (.int z), some (.ref d), v4, v5, v6, v7, v8, v9, v10, v11, v12, v13] ∧ Same Hb H3 ∧ DrawAt H3 d (1000 - 100 * i1)) ⟨v4, v5, v6, v7, v8, v9, v10, v11, v12, v13, rfl, sb2, D.less (by decide)⟩ ?_ ?_⟩
      · rintro i1 σ H3 hi1 ⟨v4, v5, v6, v7, v8, v9, v10, v11, v12, v13, rfl, sb3, D3⟩
        refine ⟨_, rfl, d, 950 - 100 * i1, rfl, D3.less (by omega), fun p rs H4 hrl hrn hrg k4 hp hp0 D4 => ?_⟩
        refine ⟨_, rfl, d, 930 - 100 * i1, rfl, D4.less (by omega), fun q W H5 hW0 hWl hW k5 hq hq0 D5 => ?_⟩
        have hpd : p ≠ d := D3.ne hp0
        have hqd : q ≠ d := D4.ne hq0
        have hp5 := k5 _ _ hp hpd
        have sb5 : Same Hb H5 := fun b o e => (k4.trans k5) b o (sb3 b o e) (ne_of_none e hbd)
        have hw0 : W.map tl ≠ [] := by simp [hW0]
        have hwa : ∀ l ∈ W.map tl, abc l := fun l hl => by obtain ⟨x, hx, rfl⟩ := List.mem_map.mp hl; exact hW x hx
        have hww : ∀ l ∈ W.map tl, wlab l = true := fun l hl => abc_wlab (hwa l hl)
        have hwl : (W.map tl).length ≤ 6 := by rw [List.length_map]; exact hWl
        have hR : ∀ t ∈ rs.map tl, GenR t := fun t ht => by obtain ⟨r, hr2, rfl⟩ := List.mem_map.mp ht; exact hrg r hr2
        have hRr : ∀ t ∈ rs.map tl, ruleB t = true := fun t ht => (hR t ht).rule
        have hOK : RulesOK rs := ⟨hrn, fun r hr2 => ⟨(hrg r hr2).rule, by rw [len_tl]; exact Nat.le_trans (hrg r hr2).len (by decide)⟩⟩
        have eh := words_join W
        generalize hhs : Txt.join ("." : Str) W = hs at eh
        obtain ⟨hb, ha, hsp, hhl⟩ := host_facts hw0 (by omega) hww eh
        have dot1 : ("." : Str).length = 1 := by decide +kernel
        have hWs := words_len (W := W) (B := 1) fun x hx => abc_len (hW x hx)
        refine ⟨_, _, rfl, ⟨_, rfl⟩, _, rfl, _, q, W, rfl, rfl, .inl (SqL.of hq), by rw [dot1]; omega, ?_⟩
        rw [hhs]
        refine ⟨by show 2 ≤ sizeLine; decide, fun p4 hp4 => ?_⟩
        have p4d := D5.ne hp4
        refine ⟨_, rfl, d, 2, 920 - 100 * i1, rfl, by decide, by decide, (D5.upd p4d.symm).less (by omega), fun r H6 hr0 hr1 k6 D6 => ?_⟩
        obtain ⟨v, hv, hva⟩ := menu (xs := [V.str "http", V.str "https"]) (i := r) hr0 (by show r < 2; omega)
        obtain ⟨sc, rfl, hsc⟩ : ∃ sc : Str, v = .str sc ∧ sc ∈ schemes2 := by
          simp only [List.mem_cons, List.not_mem_nil, or_false] at hv
          rcases hv with rfl | rfl <;> exact ⟨_, rfl, by decide +kernel⟩
        refine ⟨p4, _, _, _, rfl, rfl, SqL.of (k6 _ _ upd_same p4d), hva, _, _, rfl, ?_⟩
        have k56 : Keep d H5 H6 := Same.then (Same.new hp4) k6
        have hp6 := k56 _ _ hp5 hpd
        have hq6 := k56 _ _ hq hqd
        have sb6 : Same Hb H6 := fun b o e => k56 b o (sb5 b o e) (ne_of_none e hbd)
        -- what is due
        refine ⟨⟨_, rfl⟩, _, rfl, _, rfl, p, q, rs, W, rfl, SqT.of hp6, SqL.of hq6, by omega, hrg, hW0, hWl, hW, fun e1 H7 s7 he1 hl1 => ?_⟩
        have hsuf := sufN_ge hRr hw0
        have l1 : lastN (sufN (rs.map tl) (W.map tl)) W = lastN (sufN (rs.map tl) (W.map tl)) W := rfl
        have esu := words_join (lastN (sufN (rs.map tl) (W.map tl)) W)
        rw [lastN_map] at esu
        have hS := words_len (W := lastN (sufN (rs.map tl) (W.map tl)) W) (B := 1) fun x hx => abc_len (hW x (lastN_mem hx))
        have hSl : (lastN (sufN (rs.map tl) (W.map tl)) W).length ≤ 6 := by rw [lastN_len]; omega
        refine ⟨_, e1, _, rfl, rfl, .inl (SqL.of hl1), by rw [dot1]; omega, ⟨_, rfl⟩, _, rfl, _, rfl, p, q, rs, W, rfl, SqT.of (s7 _ _ hp6), SqL.of (s7 _ _ hq6), by omega, hrg, hW0, hWl, hW, fun e2 F H8 s8 hF hF8 => ?_⟩
        have efa := words_join F
        rw [hF] at efa
        obtain ⟨f1, f2, f3⟩ := famL_len hRr hw0
        have hFm : ∀ x ∈ F, abc (tl x) := fun x hx => by
          have : tl x ∈ famL (rs.map tl) (W.map tl) := by rw [← hF]; exact List.mem_map.mpr ⟨x, hx, rfl⟩
          rw [f1] at this
          exact hwa _ (lastN_mem this)
        have hFl : F.length ≤ 6 := by
          have := congrArg List.length hF
          rw [List.length_map] at this
          omega
        have hF2 := words_len (W := F) (B := 1) fun x hx => abc_len (hFm x hx)
        refine ⟨_, e2, F, rfl, rfl, .inl hF8, by rw [dot1]; omega, _, _, rfl, ?_⟩
        generalize Txt.join ("." : Str) (lastN (sufN (rs.map tl) (W.map tl)) W) = su at *
        generalize Txt.join ("." : Str) F = fa at *
        have s68 := s7.trans s8
        have hp8 := s68 _ _ hp6
        have hbs : ascii hs := ascii_host hb
        -- both orders of the rules
        refine ⟨_, rfl, _, rfl, p, _, rfl, SqT.of hp8, fun pr hpr => ⟨by show 2 ≤ sizeLine; decide, fun pl hpl => ?_⟩⟩
        have s9 := (Same.new (o := HO.tup (rs.map V.str).reverse) hpr).trans (Same.new (o := HO.lst [V.ref p, V.ref pr]) hpl)
        have hpr9 := (Same.new (o := HO.lst [V.ref p, V.ref pr]) hpl) _ _ (upd_same (H := H8) (a := pr) (o := HO.tup (rs.map V.str).reverse))
        have hpl9 : (upd (upd H8 pr (.tup (rs.map V.str).reverse)) pl (.lst [V.ref p, V.ref pr])) pl = some (.lst [V.ref p, V.ref pr]) := upd_same
        generalize (upd (upd H8 pr (.tup (rs.map V.str).reverse)) pl (.lst [V.ref p, V.ref pr])) = H9 at *
        rw [← List.map_reverse] at hpr9
        have hp9 := s9 _ _ hp8
        refine ⟨pl, rfl, ⟨_, SqL.of hpl9⟩, for_list (K := K) (a := pl) (xs := [V.ref p, V.ref pr]) (fun i2 σ H10 => ∃ v11 : Option V, σ = [some (.ref a0), some (.int (i : Nat)), some (.int z), some (.ref d), some (.int (0 + (i1 : Nat))), some (.ref p), some (.ref q), some (.str hs), some (.str sc), some (.str su), some (.str fa), v11, v12, v13] ∧ Same H9 H10) ⟨v11, rfl, Same.refl _⟩ (fun i2 σ H10 _ ⟨_, _, s⟩ => SqL.of (s _ _ hpl9)) ?_ ?_⟩
        · rintro i2 v σ H10 hi2 ⟨v11, rfl, s10⟩
          obtain ⟨o, zs, rfl, ho, hzs, hzl, hzm⟩ : ∃ (o : Addr) (zs : List Str), v = .ref o ∧ H9 o = some (.tup (zs.map V.str)) ∧ RulesOK zs ∧ zs.length ≤ 30 ∧ ∀ t, t ∈ zs.map tl ↔ t ∈ rs.map tl := by
            rcases i2 with _ | _ | i2
            · cases hi2; exact ⟨p, rs, rfl, hp9, hOK, by omega, fun t => Iff.rfl⟩
            · cases hi2; exact ⟨pr, rs.reverse, rfl, hpr9, hOK.rev, by rw [List.length_reverse]; omega, fun t => by rw [List.map_reverse, List.mem_reverse]⟩
            · cases hi2
          have hsz := sufN_same (w := W.map tl) hzm
          have hfz := famL_same (w := W.map tl) hzm
          have ho10 := s10 _ _ ho
          refine ⟨_, rfl, _, rfl, o, zs, hs, rfl, SqT.of ho10, hzl, hzs, hb, (fun _ _ g => (by rw [ha] at g; cases g)), fun e3 H11 s11 _ ee3 => ?_⟩
          refine ⟨_, rfl, _, rfl, o, zs, hs, rfl, SqT.of (s11 _ _ ho10), hzl, hzs, hb, fun e4 H12 s12 ee4 => ?_⟩
          rw [hsp, hsz] at ee3
          unfold famT at ee4
          rw [ha, hsp, hfz] at ee4
          have eq3 : e3 = su := ext_tl (ee3.trans esu.symm)
          have eq4 : e4 = fa := ext_tl (ee4.trans efa.symm)
          subst eq3 eq4
          have asu : ascii e3 := fun t ht => by rw [esu] at ht; exact abc_lt (fun l hl => hwa l (lastN_mem hl)) t ht
          have afa : ascii e4 := fun t ht => by rw [efa] at ht; rw [f1] at ht; exact abc_lt (fun l hl => hwa l (lastN_mem hl)) t ht
          refine ⟨by show 2 ≤ sizeLine; decide, fun pa hpa => ⟨_, rfl, _, rfl, by show 2 ≤ sizeLine; decide, fun pb hpb => ?_⟩⟩
          have sa := Same.new (o := HO.lst [V.str e3, V.str e4]) hpa
          have sb' := Same.new (o := HO.lst [V.str e3, V.str e4]) hpb
          have la : ∀ w ∈ [e3, e4], ascii w := fun w hw => by
            rcases List.mem_cons.mp hw with rfl | hw
            · exact asu
            · rw [List.mem_singleton.mp hw]; exact afa
          refine ⟨_, _, dp_strs (ys := [e3, e4]) (SqL.of (sb' _ _ upd_same)), dp_strs (ys := [e3, e4]) (SqL.of upd_same), lay_strs la, lay_strs la, _, rfl, ?_⟩
          rw [eqv_strsL, decide_eq_true rfl]
          have s13 := (((s10.trans s11).trans s12).trans sa).trans sb'
          generalize (upd (upd H12 pa (.lst [V.str e3, V.str e4])) pb (.lst [V.str e3, V.str e4])) = H13 at *
          refine iteF ⟨_, rfl, _, rfl, o, zs, hs, rfl, SqT.of (s13 _ _ ho), hzl, hzs, hb, fun H14 s14 => ⟨_, rfl, _, rfl, rfl, rfl, _, rfl, ?_⟩⟩
          have eown : ownT (zs.map tl) (tl hs) = decide (V.str e3 = V.str hs) := by
            unfold ownT
            rw [ha, hsp, hsz, Bool.eq_iff_iff]
            simp only [Bool.not_false, Bool.true_and, decide_eq_true_eq, V.str.injEq, str_eq_iff]
            rw [esu, eh]
            constructor
            · intro g; rw [lastN_all (by omega)]
            · intro g
              have hn : lastN (sufN (rs.map tl) (W.map tl)) (W.map tl) ≠ [] := lastN_ne hsuf.1 hw0
              have := congrArg (fun l => (sp1 46 l).length) g
              rw [abc_sp1 hn (fun l hl => hwa l (lastN_mem hl)), abc_sp1 hw0 hwa, lastN_len] at this
              omega
          rw [eown, show (!decide (V.bl (decide (V.str e3 = V.str hs)) = V.bl (decide (V.str e3 = V.str hs)))) = false by simp]
          refine iteF ⟨_, rfl, _, rfl, _, rfl, by show 2 ≤ sizeLine; decide, fun po hpo => ?_⟩
          have s15 := (s13.trans s14).trans (Same.new (o := HO.tup [V.str sc, V.str hs]) hpo)
          refine ⟨o, po, zs, sc, hs, rfl, SqT.of (s15 _ _ ho), hzl, hzs, upd_same, hsc, hb, fun e5 z5 H15 s16 ez5 he5 => ?_⟩
          unfold famT at ez5
          rw [ha, hsp, hfz] at ez5
          have eq5 : z5 = e4 := ext_tl (ez5.trans efa.symm)
          subst eq5
          refine ⟨_, rfl, _, rfl, by show 2 ≤ sizeLine; decide, fun pt hpt => ?_⟩
          obtain ⟨_, _, _, _, sc2, _⟩ := sch_of hsc
          have lt : ∀ w ∈ [sc, z5], ascii w := fun w hw => by
            rcases List.mem_cons.mp hw with rfl | hw
            · exact sc2
            · rw [List.mem_singleton.mp hw]; exact afa
          have s17 := Same.new (o := HO.tup [V.str sc, V.str z5]) hpt
          refine ⟨_, _, dp_strsT (ys := [sc, z5]) (SqT.of (s17 _ _ he5)), dp_strsT (ys := [sc, z5]) (SqT.of upd_same), lay_strsT lt, lay_strsT lt, _, rfl, ?_⟩
          rw [eqv_strsT, decide_eq_true rfl]
          exact iteF ⟨_, rfl, (s15.trans s16).trans s17⟩
        · rintro σ H10 ⟨v11, rfl, s10⟩
          have D10 := ((D6.same s68).same s9).same s10
          have hp10 := s10 _ _ hp9
          refine ⟨⟨_, rfl⟩, 4, rfl, by decide, by decide, fun L hL => ?_⟩
          have hdL : L ≠ d := D10.ne hL
          refine lc_range (n := 4) (fun i H3 => ∃ W : List Str, W.length = i ∧ (∀ w ∈ W, ∃ n : Nat, n < 256 ∧ tl w = numL n) ∧ H3 L = some (.lst (W.map V.str)) ∧ Keep d H10 H3 ∧ DrawAt H3 d (920 - 100 * i1 - i)) ⟨[], rfl, by simp, upd_same, Keep.refl.updN hL, D10.upd hdL.symm⟩ ?_ ?_
          · rintro i H3 hi ⟨W, hW, hw, hl, kk, D3⟩
            refine ⟨rfl, ?_⟩
            refine ⟨_, rfl, d, 256, 920 - 100 * i1 - i - 1, rfl, by decide, by decide, D3.less (by omega), fun r H4 h0 h1 k4 D4 => ?_⟩
            obtain ⟨m, rfl⟩ : ∃ m : Nat, r = (m : Int) := ⟨r.toNat, by omega⟩
            have hlog : ((m : Int)).natAbs.log2 < 1920 := by
              have : ((m : Int)).natAbs < 2 ^ 8 := by rw [Int.natAbs_natCast]; omega
              exact Nat.lt_of_lt_of_le (PySem.Flt.log2_lt_of (by decide) this) (by decide)
            have hl4 : H4 L = some (.lst (W.map V.str)) := k4 L _ hl hdL
            refine ⟨_, rfl, hlog, _, hl4, Nat.lt_of_le_of_lt (by rw [List.length_map]; omega : _ ≤ 1000) (by decide), W ++ [Str.ofString (toString ((m : Nat) : Int))], by rw [List.length_append, hW]; rfl, fun w hw' => ?_, by rw [upd_same, List.map_append]; rfl, (kk.trans k4).updN hL, (D4.less (by omega)).upd hdL.symm⟩
            rcases List.mem_append.mp hw' with q | q
            · exact hw w q
            · rw [List.mem_singleton.mp q]; exact ⟨m, by omega, tl_num m⟩
          · rintro H3 ⟨N, hN, hw, hl, kk, D3⟩
            have nl : ∀ w ∈ N, w.length ≤ 3 := fun w hw' => by
              obtain ⟨n, hn, e⟩ := hw w hw'
              have h := num_ok n hn
              simp only [Bool.and_eq_true, decide_eq_true_eq] at h
              rw [len_tl, e]; exact h.2.2.2
            have hNs := PySem.StrLaws.sumLen_le (B := 3) N nl
            refine ⟨_, L, N, rfl, rfl, .inl (SqL.of hl), by rw [dot1]; omega, ?_⟩
            have hx : AddrW (Txt.join ("." : Str) N) := addr_joinW hN hw
            have enum := words_join N
            have hxl := hx.len
            obtain ⟨L4, esp, hL4, hLl, etl⟩ := hx.parts
            have hnh := hx.host
            generalize Txt.join ("." : Str) N = num at *
            have esp2 : sp1 46 (tl num) = N.map tl := by
              rw [enum]
              exact sp1_joinL (by simp; intro e; rw [e] at hN; cases hN) fun l hl2 => by
                obtain ⟨w, hw', rfl⟩ := List.mem_map.mp hl2
                obtain ⟨n, hn, e⟩ := hw w hw'
                have h := num_ok n hn
                simp only [Bool.and_eq_true, decide_eq_true_eq] at h
                rw [e]
                exact dot_free h.1
            have eP : Txt.split num ("." : Str) = N := by
              have e := split_sp1 num (c := 46) (by decide)
              rw [← dot_eq, esp2] at e
              exact map_tl_inj e
            have hadr : addrB (tl num) = true := by unfold addrB; rw [hnh.1, hnh.2]; rfl
            obtain ⟨n0, n1, n2, n3, rfl⟩ : ∃ n0 n1 n2 n3, N = [n0, n1, n2, n3] := by
              rcases N with _ | ⟨a, _ | ⟨b, _ | ⟨c, _ | ⟨e, _ | ⟨f, N⟩⟩⟩⟩⟩ <;> simp at hN
              exact ⟨_, _, _, _, rfl⟩
            have hp11 : H3 p = some (.tup (rs.map V.str)) := kk _ _ hp10 hpd
            refine ⟨fun σ' H' => ∃ (o : Addr) (y2 : Str), σ' = [some (.ref a0), some (.int (i : Nat)), some (.int z), some (.ref d), some (.int (0 + (i1 : Nat))), some (.ref p), some (.ref q), some (.str hs), some (.str sc), some (.str su), some (.str fa), some (.ref o), some (.str num), v13] ∧ Same H3 H' ∧ H' o = some (.tup ((rs ++ [n3, y2]).map V.str)) ∧ tl y2 = 42 :: 46 :: joinL [46] [tl n2, tl n3] ∧ y2.length ≤ 100, ?_, ?_⟩
            · refine ⟨_, rfl, _, rfl, ⟨_, rfl⟩, _, _, rfl, rfl, by decide +kernel, Nat.le_trans (by omega : _ ≤ 100) (by decide), fun p5 hp5 => ?_⟩
              rw [eP]
              refine ⟨p5, _, _, _, rfl, rfl, SqL.of upd_same, (rfl : atI _ ((3 : Nat) : Int) = _), ?_⟩
              refine ⟨⟨_, rfl⟩, _, rfl, ⟨_, rfl⟩, _, _, rfl, rfl, by decide +kernel, Nat.le_trans (by omega : _ ≤ 100) (by decide), fun p6 hp6 => ?_⟩
              rw [eP]
              refine ⟨_, rfl, p6, _, rfl, SqL.of upd_same, fun p7 hp7 => ?_⟩
              rw [show cutV ([n0, n1, n2, n3].map V.str) (some 2) none = [n2, n3].map V.str by rw [cutV_from _ (by decide)]; rfl]
              have l2 := nl n2 (by simp)
              have l3 := nl n3 (by simp)
              refine ⟨_, p7, [n2, n3], rfl, rfl, .inl (SqL.of upd_same), by rw [dot1]; simp only [List.map_cons, List.map_nil, List.sum_cons, List.sum_nil, List.length_cons, List.length_nil]; omega, ?_⟩
              have e23 := words_join [n2, n3]
              have l23 : (Txt.join ("." : Str) [n2, n3]).length ≤ 10 := by
                rw [len_tl, e23]
                show (tl n2 ++ ([46] ++ tl n3)).length ≤ 10
                rw [List.length_append, List.length_append, ← len_tl, ← len_tl]
                show _ + (1 + _) ≤ 10
                omega
              generalize Txt.join ("." : Str) [n2, n3] = t23 at *
              have st2 : ("*." : Str).length = 2 := by decide +kernel
              refine ⟨_, _, rfl, rfl, Nat.le_trans (by omega : _ ≤ 100) (by decide), by show 2 ≤ sizeLine; decide, fun p8 hp8 => ?_⟩
              have ey : tl (("*." : Str) ++ t23) = 42 :: 46 :: joinL [46] [tl n2, tl n3] := by
                rw [tl_append, e23, show tl ("*." : Str) = [42, 46] by decide +kernel]; rfl
              have ly : (("*." : Str) ++ t23).length ≤ 100 := by rw [Str.length_append]; omega
              have s20 := ((Same.new (o := HO.lst ([n0, n1, n2, n3].map V.str)) hp5).trans (Same.new (o := HO.lst ([n0, n1, n2, n3].map V.str)) hp6)).trans (Same.new (o := HO.lst ([n2, n3].map V.str)) hp7)
              have s21 := s20.trans (Same.new (o := HO.tup [V.str n3, V.str (("*." : Str) ++ t23)]) hp8)
              have m8 := (upd_same (H := upd (upd (upd H3 p5 (.lst ([n0, n1, n2, n3].map V.str))) p6 (.lst ([n0, n1, n2, n3].map V.str))) p7 (.lst ([n2, n3].map V.str))) (a := p8) (o := HO.tup [V.str n3, V.str (("*." : Str) ++ t23)]))
              refine ⟨p, p8, _, _, rfl, rfl, SqT.of (s21 _ _ hp11), SqT.of m8, Nat.le_trans (by rw [List.length_map]; show _ + 2 ≤ 100; omega : _ ≤ 100) (by decide), fun he => ?_, fun _ he => absurd he (by simp), fun _ _ p9 hp9' => ?_⟩
              · have hrs0 : rs = [] := List.map_eq_nil_iff.mp he
                exact ⟨p8, _, rfl, s21, by rw [m8, hrs0]; rfl, ey, ly⟩
              · exact ⟨p9, _, rfl, s21.trans (Same.new hp9'), by rw [upd_same, List.map_append]; rfl, ey, ly⟩
            · rintro σ' H4 ⟨o, y2, rfl, s4, ho, ey2, hy2⟩
              have lab : ∀ w ∈ [n0, n1, n2, n3], labB (tl w) = true ∧ digB (tl w) = true := fun w hw' => by
                obtain ⟨n, hn, e⟩ := hw w hw'
                have h := num_ok n hn
                simp only [Bool.and_eq_true, decide_eq_true_eq] at h
                rw [e]; exact ⟨h.1, h.2.2.1⟩
              have hOK2 : RulesOK (rs ++ [n3, y2]) := num_rules hOK hrg rfl ey2 (lab n3 (by simp)) (lab n2 (by simp)) (lab n3 (by simp)).1 (by have := nl n3 (by simp); omega) hy2
              have hl2 : (rs ++ [n3, y2]).length ≤ 30 := by rw [List.length_append]; show _ + 2 ≤ 30; omega
              have hhn : hostB (tl num) = true := hnh.1
              refine ⟨_, rfl, _, rfl, o, rs ++ [n3, y2], num, rfl, SqT.of ho, hl2, hOK2, hhn, (fun H5 s5 _ => ?_), fun _ _ _ g => (by rw [hadr] at g; cases g)⟩
              refine ⟨rfl, _, rfl, ?_⟩
              rw [show (!decide (V.non = V.non)) = false by simp]
              have hp5 : H5 p = some (.tup (rs.map V.str)) := s5 _ _ (s4 _ _ hp11)
              refine iteF ⟨_, rfl, _, rfl, p, rs, num, rfl, SqT.of hp5, by omega, hOK, hhn, fun H6 s6 => ⟨_, _, rfl, rfl, _, rfl, ?_⟩⟩
              have eo : ownT (rs.map tl) (tl num) = false := by unfold ownT; rw [hadr]; rfl
              rw [eo, show (!decide (false = false)) = false by simp]
              have s46 := (s4.trans s5).trans s6
              refine iteF ⟨_, rfl, _, rfl, o, rs ++ [n3, y2], num, rfl, SqT.of ((s5.trans s6) _ _ ho), hl2, hOK2, hhn, fun e7 H7 s7 ee7 => ⟨_, rfl, rfl, _, rfl, ?_⟩⟩
              unfold famT at ee7
              rw [hadr, if_pos rfl] at ee7
              rw [ext_tl ee7, show (!decide (V.str num = V.str num)) = false by simp]
              refine iteF ⟨_, rfl, _, rfl, by show 2 ≤ sizeLine; decide, fun po hpo => ?_⟩
              have s8 := (s6.trans s7).trans (Same.new (o := HO.tup [V.str ("http" : Str), V.str num]) hpo)
              refine ⟨p, po, rs, ("http" : Str), num, rfl, SqT.of (s8 _ _ hp5), by omega, hOK, upd_same, by decide +kernel, hhn, fun e8 z8 H8 s9' ez8 he8 => ⟨_, rfl, by show 2 ≤ sizeLine; decide, fun pt hpt => ?_⟩⟩
              unfold famT at ez8
              rw [hadr, if_pos rfl] at ez8
              have ez := ext_tl ez8
              subst ez
              have lt : ∀ w ∈ [("http" : Str), z8], ascii w := fun w hw => by
                rcases List.mem_cons.mp hw with rfl | hw
                · intro c hc; revert c; decide +kernel
                · rw [List.mem_singleton.mp hw]; exact ascii_host hhn
              have s10' := Same.new (o := HO.tup [V.str ("http" : Str), V.str z8]) hpt
              refine ⟨_, _, dp_strsT (ys := [("http" : Str), z8]) (SqT.of (s10' _ _ he8)), dp_strsT (ys := [("http" : Str), z8]) (SqT.of upd_same), lay_strsT lt, lay_strsT lt, _, rfl, ?_⟩
              rw [eqv_strsT, decide_eq_true rfl]
              have kk2 : Same Hb H3 := fun b o e => kk b o (s10 b o (s9 b o (s68 b o (sb6 b o e)))) (ne_of_none e hbd)
              have send := ((kk2.trans (s4.trans s5)).trans s8).trans (s9'.trans s10')
              have Dend := (((D3.same (s4.trans s5)).same s8).same (s9'.trans s10'))
              exact iteF ⟨_, _, _, _, _, _, _, _, _, _, rfl, send, Dend.less (by omega)⟩
      · rintro σ H3 ⟨v4, v5, v6, v7, v8, v9, v10, v11, v12, v13, rfl, sb3, D3⟩
        exact ⟨_, _, _, _, _, _, _, _, _, _, _, _, _, rfl, sb3⟩
    · rintro σ H1 ⟨v1, v2, v3, v4, v5, v6, v7, v8, v9, v10, v11, v12, v13, rfl, sb⟩
      exact hQ _
end
theorem bd_has_only : ∀ (kV doc pm : Value) (an : Option Addr) (cdv ct : Value) (us : List Value), us.length = (["text", "signs"] : List Str).length → bindArgs (PySem.W.fnOf "has_only" "has_only" (defArgs s_has_only) (defBody s_has_only) (defScope s_has_only) .none kV doc pm an cdv ct) ⟨us, []⟩ = pure ((["text", "signs"] : List Str).zip us) :=
  fun _ _ _ _ _ _ us hl => match us, hl with | [_, _], _ => rfl
theorem bd_is_digits : ∀ (kV doc pm : Value) (an : Option Addr) (cdv ct : Value) (us : List Value), us.length = (["text"] : List Str).length → bindArgs (PySem.W.fnOf "is_digits" "is_digits" (defArgs s_is_digits) (defBody s_is_digits) (defScope s_is_digits) .none kV doc pm an cdv ct) ⟨us, []⟩ = pure ((["text"] : List Str).zip us) :=
  fun _ _ _ _ _ _ us hl => match us, hl with | [_], _ => rfl
theorem bd__is_label : ∀ (kV doc pm : Value) (an : Option Addr) (cdv ct : Value) (us : List Value), us.length = (["text"] : List Str).length → bindArgs (PySem.W.fnOf "_is_label" "_is_label" (defArgs s__is_label) (defBody s__is_label) (defScope s__is_label) .none kV doc pm an cdv ct) ⟨us, []⟩ = pure ((["text"] : List Str).zip us) :=
  fun _ _ _ _ _ _ us hl => match us, hl with | [_], _ => rfl
theorem bd_are_labels : ∀ (kV doc pm : Value) (an : Option Addr) (cdv ct : Value) (us : List Value), us.length = (["texts"] : List Str).length → bindArgs (PySem.W.fnOf "are_labels" "are_labels" (defArgs s_are_labels) (defBody s_are_labels) (defScope s_are_labels) .none kV doc pm an cdv ct) ⟨us, []⟩ = pure ((["texts"] : List Str).zip us) :=
  fun _ _ _ _ _ _ us hl => match us, hl with | [_], _ => rfl
theorem bd__is_number : ∀ (kV doc pm : Value) (an : Option Addr) (cdv ct : Value) (us : List Value), us.length = (["label"] : List Str).length → bindArgs (PySem.W.fnOf "_is_number" "_is_number" (defArgs s__is_number) (defBody s__is_number) (defScope s__is_number) .none kV doc pm an cdv ct) ⟨us, []⟩ = pure ((["label"] : List Str).zip us) :=
  fun _ _ _ _ _ _ us hl => match us, hl with | [_], _ => rfl
theorem bd__are_four_numbers : ∀ (kV doc pm : Value) (an : Option Addr) (cdv ct : Value) (us : List Value), us.length = (["labels"] : List Str).length → bindArgs (PySem.W.fnOf "_are_four_numbers" "_are_four_numbers" (defArgs s__are_four_numbers) (defBody s__are_four_numbers) (defScope s__are_four_numbers) .none kV doc pm an cdv ct) ⟨us, []⟩ = pure ((["labels"] : List Str).zip us) :=
  fun _ _ _ _ _ _ us hl => match us, hl with | [_], _ => rfl
theorem bd_is_host : ∀ (kV doc pm : Value) (an : Option Addr) (cdv ct : Value) (us : List Value), us.length = (["value"] : List Str).length → bindArgs (PySem.W.fnOf "is_host" "is_host" (defArgs s_is_host) (defBody s_is_host) (defScope s_is_host) .none kV doc pm an cdv ct) ⟨us, []⟩ = pure ((["value"] : List Str).zip us) :=
  fun _ _ _ _ _ _ us hl => match us, hl with | [_], _ => rfl
theorem bd_need_host : ∀ (kV doc pm : Value) (an : Option Addr) (cdv ct : Value) (us : List Value), us.length = (["host"] : List Str).length → bindArgs (PySem.W.fnOf "need_host" "need_host" (defArgs s_need_host) (defBody s_need_host) (defScope s_need_host) .none kV doc pm an cdv ct) ⟨us, []⟩ = pure ((["host"] : List Str).zip us) :=
  fun _ _ _ _ _ _ us hl => match us, hl with | [_], _ => rfl
theorem bd__is_rule : ∀ (kV doc pm : Value) (an : Option Addr) (cdv ct : Value) (us : List Value), us.length = (["value"] : List Str).length → bindArgs (PySem.W.fnOf "_is_rule" "_is_rule" (defArgs s__is_rule) (defBody s__is_rule) (defScope s__is_rule) .none kV doc pm an cdv ct) ⟨us, []⟩ = pure ((["value"] : List Str).zip us) :=
  fun _ _ _ _ _ _ us hl => match us, hl with | [_], _ => rfl
theorem bd_need_rules : ∀ (kV doc pm : Value) (an : Option Addr) (cdv ct : Value) (us : List Value), us.length = (["rules"] : List Str).length → bindArgs (PySem.W.fnOf "need_rules" "need_rules" (defArgs s_need_rules) (defBody s_need_rules) (defScope s_need_rules) .none kV doc pm an cdv ct) ⟨us, []⟩ = pure ((["rules"] : List Str).zip us) :=
  fun _ _ _ _ _ _ us hl => match us, hl with | [_], _ => rfl
theorem bd_is_address_host : ∀ (kV doc pm : Value) (an : Option Addr) (cdv ct : Value) (us : List Value), us.length = (["value"] : List Str).length → bindArgs (PySem.W.fnOf "is_address_host" "is_address_host" (defArgs s_is_address_host) (defBody s_is_address_host) (defScope s_is_address_host) .none kV doc pm an cdv ct) ⟨us, []⟩ = pure ((["value"] : List Str).zip us) :=
  fun _ _ _ _ _ _ us hl => match us, hl with | [_], _ => rfl
theorem bd__last_labels : ∀ (kV doc pm : Value) (an : Option Addr) (cdv ct : Value) (us : List Value), us.length = (["host", "many"] : List Str).length → bindArgs (PySem.W.fnOf "_last_labels" "_last_labels" (defArgs s__last_labels) (defBody s__last_labels) (defScope s__last_labels) .none kV doc pm an cdv ct) ⟨us, []⟩ = pure ((["host", "many"] : List Str).zip us) :=
  fun _ _ _ _ _ _ us hl => match us, hl with | [_, _], _ => rfl
theorem bd__size : ∀ (kV doc pm : Value) (an : Option Addr) (cdv ct : Value) (us : List Value), us.length = (["text"] : List Str).length → bindArgs (PySem.W.fnOf "_size" "_size" (defArgs s__size) (defBody s__size) (defScope s__size) .none kV doc pm an cdv ct) ⟨us, []⟩ = pure ((["text"] : List Str).zip us) :=
  fun _ _ _ _ _ _ us hl => match us, hl with | [_], _ => rfl
theorem bd__matches : ∀ (kV doc pm : Value) (an : Option Addr) (cdv ct : Value) (us : List Value), us.length = (["pattern", "host"] : List Str).length → bindArgs (PySem.W.fnOf "_matches" "_matches" (defArgs s__matches) (defBody s__matches) (defScope s__matches) .none kV doc pm an cdv ct) ⟨us, []⟩ = pure ((["pattern", "host"] : List Str).zip us) :=
  fun _ _ _ _ _ _ us hl => match us, hl with | [_, _], _ => rfl
theorem bd__suffix_size : ∀ (kV doc pm : Value) (an : Option Addr) (cdv ct : Value) (us : List Value), us.length = (["rules", "host"] : List Str).length → bindArgs (PySem.W.fnOf "_suffix_size" "_suffix_size" (defArgs s__suffix_size) (defBody s__suffix_size) (defScope s__suffix_size) .none kV doc pm an cdv ct) ⟨us, []⟩ = pure ((["rules", "host"] : List Str).zip us) :=
  fun _ _ _ _ _ _ us hl => match us, hl with | [_, _], _ => rfl
theorem bd_known_suffix : ∀ (kV doc pm : Value) (an : Option Addr) (cdv ct : Value) (us : List Value), us.length = (["rules", "host"] : List Str).length → bindArgs (PySem.W.fnOf "known_suffix" "known_suffix" (defArgs s_known_suffix) (defBody s_known_suffix) (defScope s_known_suffix) .none kV doc pm an cdv ct) ⟨us, []⟩ = pure ((["rules", "host"] : List Str).zip us) :=
  fun _ _ _ _ _ _ us hl => match us, hl with | [_, _], _ => rfl
theorem bd_suffix_of : ∀ (kV doc pm : Value) (an : Option Addr) (cdv ct : Value) (us : List Value), us.length = (["rules", "host"] : List Str).length → bindArgs (PySem.W.fnOf "suffix_of" "suffix_of" (defArgs s_suffix_of) (defBody s_suffix_of) (defScope s_suffix_of) .none kV doc pm an cdv ct) ⟨us, []⟩ = pure ((["rules", "host"] : List Str).zip us) :=
  fun _ _ _ _ _ _ us hl => match us, hl with | [_, _], _ => rfl
theorem bd_known_family : ∀ (kV doc pm : Value) (an : Option Addr) (cdv ct : Value) (us : List Value), us.length = (["rules", "host"] : List Str).length → bindArgs (PySem.W.fnOf "known_family" "known_family" (defArgs s_known_family) (defBody s_known_family) (defScope s_known_family) .none kV doc pm an cdv ct) ⟨us, []⟩ = pure ((["rules", "host"] : List Str).zip us) :=
  fun _ _ _ _ _ _ us hl => match us, hl with | [_, _], _ => rfl
theorem bd_family_of : ∀ (kV doc pm : Value) (an : Option Addr) (cdv ct : Value) (us : List Value), us.length = (["rules", "host"] : List Str).length → bindArgs (PySem.W.fnOf "family_of" "family_of" (defArgs s_family_of) (defBody s_family_of) (defScope s_family_of) .none kV doc pm an cdv ct) ⟨us, []⟩ = pure ((["rules", "host"] : List Str).zip us) :=
  fun _ _ _ _ _ _ us hl => match us, hl with | [_, _], _ => rfl
theorem bd_is_suffix : ∀ (kV doc pm : Value) (an : Option Addr) (cdv ct : Value) (us : List Value), us.length = (["rules", "host"] : List Str).length → bindArgs (PySem.W.fnOf "is_suffix" "is_suffix" (defArgs s_is_suffix) (defBody s_is_suffix) (defScope s_is_suffix) .none kV doc pm an cdv ct) ⟨us, []⟩ = pure ((["rules", "host"] : List Str).zip us) :=
  fun _ _ _ _ _ _ us hl => match us, hl with | [_, _], _ => rfl
theorem bd__is_scheme : ∀ (kV doc pm : Value) (an : Option Addr) (cdv ct : Value) (us : List Value), us.length = (["value"] : List Str).length → bindArgs (PySem.W.fnOf "_is_scheme" "_is_scheme" (defArgs s__is_scheme) (defBody s__is_scheme) (defScope s__is_scheme) .none kV doc pm an cdv ct) ⟨us, []⟩ = pure ((["value"] : List Str).zip us) :=
  fun _ _ _ _ _ _ us hl => match us, hl with | [_], _ => rfl
theorem bd_is_origin : ∀ (kV doc pm : Value) (an : Option Addr) (cdv ct : Value) (us : List Value), us.length = (["value"] : List Str).length → bindArgs (PySem.W.fnOf "is_origin" "is_origin" (defArgs s_is_origin) (defBody s_is_origin) (defScope s_is_origin) .none kV doc pm an cdv ct) ⟨us, []⟩ = pure ((["value"] : List Str).zip us) :=
  fun _ _ _ _ _ _ us hl => match us, hl with | [_], _ => rfl
theorem bd_site_of : ∀ (kV doc pm : Value) (an : Option Addr) (cdv ct : Value) (us : List Value), us.length = (["rules", "origin"] : List Str).length → bindArgs (PySem.W.fnOf "site_of" "site_of" (defArgs s_site_of) (defBody s_site_of) (defScope s_site_of) .none kV doc pm an cdv ct) ⟨us, []⟩ = pure ((["rules", "origin"] : List Str).zip us) :=
  fun _ _ _ _ _ _ us hl => match us, hl with | [_, _], _ => rfl
theorem bd__law_draw : ∀ (kV doc pm : Value) (an : Option Addr) (cdv ct : Value) (us : List Value), us.length = (["cell", "k"] : List Str).length → bindArgs (PySem.W.fnOf "_law_draw" "_law_draw" (defArgs s__law_draw) (defBody s__law_draw) (defScope s__law_draw) .none kV doc pm an cdv ct) ⟨us, []⟩ = pure ((["cell", "k"] : List Str).zip us) :=
  fun _ _ _ _ _ _ us hl => match us, hl with | [_, _], _ => rfl
theorem bd__law_mixed : ∀ (kV doc pm : Value) (an : Option Addr) (cdv ct : Value) (us : List Value), us.length = (["cell", "k"] : List Str).length → bindArgs (PySem.W.fnOf "_law_mixed" "_law_mixed" (defArgs s__law_mixed) (defBody s__law_mixed) (defScope s__law_mixed) .none kV doc pm an cdv ct) ⟨us, []⟩ = pure ((["cell", "k"] : List Str).zip us) :=
  fun _ _ _ _ _ _ us hl => match us, hl with | [_, _], _ => rfl
theorem bd__law_digit : ∀ (kV doc pm : Value) (an : Option Addr) (cdv ct : Value) (us : List Value), us.length = (["draw", "span"] : List Str).length → bindArgs (PySem.W.fnOf "_law_digit" "_law_digit" (defArgs s__law_digit) (defBody s__law_digit) (defScope s__law_digit) .none kV doc pm an cdv ct) ⟨us, []⟩ = pure ((["draw", "span"] : List Str).zip us) :=
  fun _ _ _ _ _ _ us hl => match us, hl with | [_, _], _ => rfl
theorem bd__law_rules : ∀ (kV doc pm : Value) (an : Option Addr) (cdv ct : Value) (us : List Value), us.length = (["draw"] : List Str).length → bindArgs (PySem.W.fnOf "_law_rules" "_law_rules" (defArgs s__law_rules) (defBody s__law_rules) (defScope s__law_rules) .none kV doc pm an cdv ct) ⟨us, []⟩ = pure ((["draw"] : List Str).zip us) :=
  fun _ _ _ _ _ _ us hl => match us, hl with | [_], _ => rfl
theorem bd__law_matches : ∀ (kV doc pm : Value) (an : Option Addr) (cdv ct : Value) (us : List Value), us.length = (["rule", "words"] : List Str).length → bindArgs (PySem.W.fnOf "_law_matches" "_law_matches" (defArgs s__law_matches) (defBody s__law_matches) (defScope s__law_matches) .none kV doc pm an cdv ct) ⟨us, []⟩ = pure ((["rule", "words"] : List Str).zip us) :=
  fun _ _ _ _ _ _ us hl => match us, hl with | [_, _], _ => rfl
theorem bd__law_suffix : ∀ (kV doc pm : Value) (an : Option Addr) (cdv ct : Value) (us : List Value), us.length = (["rules", "words"] : List Str).length → bindArgs (PySem.W.fnOf "_law_suffix" "_law_suffix" (defArgs s__law_suffix) (defBody s__law_suffix) (defScope s__law_suffix) .none kV doc pm an cdv ct) ⟨us, []⟩ = pure ((["rules", "words"] : List Str).zip us) :=
  fun _ _ _ _ _ _ us hl => match us, hl with | [_, _], _ => rfl
theorem bd__law_family : ∀ (kV doc pm : Value) (an : Option Addr) (cdv ct : Value) (us : List Value), us.length = (["rules", "words"] : List Str).length → bindArgs (PySem.W.fnOf "_law_family" "_law_family" (defArgs s__law_family) (defBody s__law_family) (defScope s__law_family) .none kV doc pm an cdv ct) ⟨us, []⟩ = pure ((["rules", "words"] : List Str).zip us) :=
  fun _ _ _ _ _ _ us hl => match us, hl with | [_, _], _ => rfl
theorem bd__law_labels : ∀ (kV doc pm : Value) (an : Option Addr) (cdv ct : Value) (us : List Value), us.length = (["draw"] : List Str).length → bindArgs (PySem.W.fnOf "_law_labels" "_law_labels" (defArgs s__law_labels) (defBody s__law_labels) (defScope s__law_labels) .none kV doc pm an cdv ct) ⟨us, []⟩ = pure ((["draw"] : List Str).zip us) :=
  fun _ _ _ _ _ _ us hl => match us, hl with | [_], _ => rfl
theorem bd_law : ∀ (kV doc pm : Value) (an : Option Addr) (cdv ct : Value) (us : List Value), us.length = (["script"] : List Str).length → bindArgs (PySem.W.fnOf "law" "law" (defArgs s_law) (defBody s_law) (defScope s_law) .none kV doc pm an cdv ct) ⟨us, []⟩ = pure ((["script"] : List Str).zip us) :=
  fun _ _ _ _ _ _ us hl => match us, hl with | [_], _ => rfl
theorem fin_mk {l : PySem.W.OpenLaw} {w : World} {K : PySem.W.Frag} {mg : Str → Option Value} {fa : Addr} (hfa : mg "law" = some (.ref fa)) (D : Df K mg "law" s_law ["script"]) (T : Txt K mg) :
    ∃ fd : FuncData, (∀ (s : Shared) (v : Value), BindsTo s fd ⟨[v], []⟩ [("script", v)]) ∧ ∀ base : Heap, K.In base → base.Ns PySem.mainGlobals mg → FnOk l.prog w K mg base CX0 10 fa fd ["script"] (sp_law K) := by
  obtain ⟨f, fd, F, m, b⟩ := D
  cases hfa.symm.trans m
  exact ⟨fd, fun s v => .of_eq (b [v] rfl), fun base _ _ => ok_law F T⟩
theorem walk {l : PySem.W.OpenLaw} {q : Program} {loose : List Str} {XP : (Str → Option Value) → Heap → Prop} {YP : World → Heap → Prop} {d : DefRec} {K : Params → PySem.W.Frag} (hn : l.most = some 63) (hdf : d.params.defaults = [])
    (hY : ∀ (w : World) (h : Heap), YP w h → (K w.params).In h)
    (F : ∀ (w : World) (mg : Str → Option Value) (fa : Addr) (h : Heap), (K w.params).In h → h.Ns PySem.mainGlobals mg → mg d.name = some (.ref fa) →
      ∃ fd : FuncData, (∀ (s : Shared) (u : Value), BindsTo s fd ⟨[u], []⟩ [("script", u)]) ∧ ∀ base : Heap, (K w.params).In base → base.Ns PySem.mainGlobals mg → FnOk l.prog w (K w.params) mg base CX0 10 fa fd ["script"] (sp_law (K w.params))) :
    PySem.W.WalkO q loose XP YP l.row.toRowW d [] (fun f vs => PySem.call f vs) :=
  L2.walk_of (n := 63) (k := 10) (x := "script") (CX := fun _ => CX0) (sp := fun w => sp_law (K w.params)) hn (by decide) hdf ⟨rfl, by decide, by decide⟩ hY F (fun _ _ a ns hl _ hS => ⟨a, ns, rfl, hS, hl, fun _ => rfl⟩) fun _ _ _ _ _ z => z
end Pf
open PySem PySem.W PyProof.Rows
set_option maxRecDepth 100000 in
set_option maxHeartbeats 0 in
theorem PySem.Challenge.cw_crumbjar_k06_suffixes_and_families_holds : PySem.Challenge.rw_crumbjar_k06_suffixes_and_families.Holds := by
  w_on; o_law; k_head; (case hw => w_witness2)
  k_fill
  refine Pf.walk (l := PySem.Challenge.rw_crumbjar_k06_suffixes_and_families) rfl rfl (fun w h Y => PySem.W.kIn_of Y) ?F
  case F =>
    intro w mg fa h KX G hmg
    refine' Pf.fin_mk hmg (Kb.Df.mk KX G Pf.bd_law ?a31 ?l31 ?c31 ?k31) ⟨(PySem.W.mg_none_of KX G ?z0),
      (PySem.W.mg_none_of KX G ?z1),
      (PySem.W.mg_none_of KX G ?z2),
      (PySem.W.mg_none_of KX G ?z3),
      (PySem.W.mg_none_of KX G ?z4),
      (PySem.W.mg_none_of KX G ?z5),
      (PySem.W.mg_none_of KX G ?z6),
      (PySem.W.mg_none_of KX G ?z7),
      (PySem.W.mg_none_of KX G ?z8),
      ⟨_, PySem.W.mg_of KX G ?x0, ?r0⟩,
      ⟨_, PySem.W.mg_of KX G ?x1, ?r1⟩,
      ⟨_, PySem.W.mg_of KX G ?x2, ?r2⟩,
      ⟨_, PySem.W.mg_of KX G ?x3, ?r3⟩,
      ⟨_, PySem.W.mg_of KX G ?x4, ?r4⟩,
      ⟨_, PySem.W.mg_of KX G ?x5, ?r5⟩,
      ⟨_, PySem.W.mg_of KX G ?x6, Kb.sqT_of_lookup ?y6 ?u6 ?v6⟩,
      ⟨_, PySem.W.mg_of KX G ?x7, ?r7⟩,
      ⟨_, PySem.W.mg_of KX G ?x8, ?r8⟩,
      ⟨_, PySem.W.mg_of KX G ?x9, ?r9⟩,
      (Kb.Df.mk KX G Pf.bd_has_only ?a0 ?l0 ?c0 ?k0),
      (Kb.Df.mk KX G Pf.bd_is_digits ?a1 ?l1 ?c1 ?k1),
      (Kb.Df.mk KX G Pf.bd__is_label ?a2 ?l2 ?c2 ?k2),
      (Kb.Df.mk KX G Pf.bd_are_labels ?a3 ?l3 ?c3 ?k3),
      (Kb.Df.mk KX G Pf.bd__is_number ?a4 ?l4 ?c4 ?k4),
      (Kb.Df.mk KX G Pf.bd__are_four_numbers ?a5 ?l5 ?c5 ?k5),
      (Kb.Df.mk KX G Pf.bd_is_host ?a6 ?l6 ?c6 ?k6),
      (Kb.Df.mk KX G Pf.bd_need_host ?a7 ?l7 ?c7 ?k7),
      (Kb.Df.mk KX G Pf.bd__is_rule ?a8 ?l8 ?c8 ?k8),
      (Kb.Df.mk KX G Pf.bd_need_rules ?a9 ?l9 ?c9 ?k9),
      (Kb.Df.mk KX G Pf.bd_is_address_host ?a10 ?l10 ?c10 ?k10),
      (Kb.Df.mk KX G Pf.bd__last_labels ?a11 ?l11 ?c11 ?k11),
      (Kb.Df.mk KX G Pf.bd__size ?a12 ?l12 ?c12 ?k12),
      (Kb.Df.mk KX G Pf.bd__matches ?a13 ?l13 ?c13 ?k13),
      (Kb.Df.mk KX G Pf.bd__suffix_size ?a14 ?l14 ?c14 ?k14),
      (Kb.Df.mk KX G Pf.bd_known_suffix ?a15 ?l15 ?c15 ?k15),
      (Kb.Df.mk KX G Pf.bd_suffix_of ?a16 ?l16 ?c16 ?k16),
      (Kb.Df.mk KX G Pf.bd_known_family ?a17 ?l17 ?c17 ?k17),
      (Kb.Df.mk KX G Pf.bd_family_of ?a18 ?l18 ?c18 ?k18),
      (Kb.Df.mk KX G Pf.bd_is_suffix ?a19 ?l19 ?c19 ?k19),
      (Kb.Df.mk KX G Pf.bd__is_scheme ?a20 ?l20 ?c20 ?k20),
      (Kb.Df.mk KX G Pf.bd_is_origin ?a21 ?l21 ?c21 ?k21),
      (Kb.Df.mk KX G Pf.bd_site_of ?a22 ?l22 ?c22 ?k22),
      (Kb.Df.mk KX G Pf.bd__law_draw ?a23 ?l23 ?c23 ?k23),
      (Kb.Df.mk KX G Pf.bd__law_mixed ?a24 ?l24 ?c24 ?k24),
      (Kb.Df.mk KX G Pf.bd__law_digit ?a25 ?l25 ?c25 ?k25),
      (Kb.Df.mk KX G Pf.bd__law_rules ?a26 ?l26 ?c26 ?k26),
      (Kb.Df.mk KX G Pf.bd__law_matches ?a27 ?l27 ?c27 ?k27),
      (Kb.Df.mk KX G Pf.bd__law_suffix ?a28 ?l28 ?c28 ?k28),
      (Kb.Df.mk KX G Pf.bd__law_family ?a29 ?l29 ?c29 ?k29),
      (Kb.Df.mk KX G Pf.bd__law_labels ?a30 ?l30 ?c30 ?k30)⟩
    (case z0 => k_is)
    (case z1 => k_is)
    (case z2 => k_is)
    (case z3 => k_is)
    (case z4 => k_is)
    (case z5 => k_is)
    (case z6 => k_is)
    (case z7 => k_is)
    (case z8 => k_is)
    (case x0 => k_is)
    (case r0 => first | exact ⟨_, rfl⟩ | rfl)
    (case x1 => k_is)
    (case r1 => first | exact ⟨_, rfl⟩ | rfl)
    (case x2 => k_is)
    (case r2 => first | exact ⟨_, rfl⟩ | rfl)
    (case x3 => k_is)
    (case r3 => first | exact ⟨_, rfl⟩ | rfl)
    (case x4 => k_is)
    (case r4 => first | exact ⟨_, rfl⟩ | rfl)
    (case x5 => k_is)
    (case r5 => first | exact ⟨_, rfl⟩ | rfl)
    (case x6 => k_is)
    (case y6 => k_is)
    (case u6 => show _ ≤ _; decide)
    (case v6 => exact .cons ⟨_, rfl⟩ (.cons ⟨_, rfl⟩ (.nil)))
    (case x7 => k_is)
    (case r7 => first | exact ⟨_, rfl⟩ | rfl)
    (case x8 => k_is)
    (case r8 => first | exact ⟨_, rfl⟩ | rfl)
    (case x9 => k_is)
    (case r9 => first | exact ⟨_, rfl⟩ | rfl)
    (case a0 => k_is)
    (case l0 => k_is)
    (case c0 => k_is)
    (case k0 => k_is)
    (case a1 => k_is)
    (case l1 => k_is)
    (case c1 => k_is)
    (case k1 => k_is)
    (case a2 => k_is)
    (case l2 => k_is)
    (case c2 => k_is)
    (case k2 => k_is)
    (case a3 => k_is)
    (case l3 => k_is)
    (case c3 => k_is)
    (case k3 => k_is)
    (case a4 => k_is)
    (case l4 => k_is)
    (case c4 => k_is)
    (case k4 => k_is)
    (case a5 => k_is)
    (case l5 => k_is)
    (case c5 => k_is)
    (case k5 => k_is)
    (case a6 => k_is)
    (case l6 => k_is)
    (case c6 => k_is)
    (case k6 => k_is)
    (case a7 => k_is)
    (case l7 => k_is)
    (case c7 => k_is)
    (case k7 => k_is)
    (case a8 => k_is)
    (case l8 => k_is)
    (case c8 => k_is)
    (case k8 => k_is)
    (case a9 => k_is)
    (case l9 => k_is)
    (case c9 => k_is)
    (case k9 => k_is)
    (case a10 => k_is)
    (case l10 => k_is)
    (case c10 => k_is)
    (case k10 => k_is)
    (case a11 => k_is)
    (case l11 => k_is)
    (case c11 => k_is)
    (case k11 => k_is)
    (case a12 => k_is)
    (case l12 => k_is)
    (case c12 => k_is)
    (case k12 => k_is)
    (case a13 => k_is)
    (case l13 => k_is)
    (case c13 => k_is)
    (case k13 => k_is)
    (case a14 => k_is)
    (case l14 => k_is)
    (case c14 => k_is)
    (case k14 => k_is)
    (case a15 => k_is)
    (case l15 => k_is)
    (case c15 => k_is)
    (case k15 => k_is)
    (case a16 => k_is)
    (case l16 => k_is)
    (case c16 => k_is)
    (case k16 => k_is)
    (case a17 => k_is)
    (case l17 => k_is)
    (case c17 => k_is)
    (case k17 => k_is)
    (case a18 => k_is)
    (case l18 => k_is)
    (case c18 => k_is)
    (case k18 => k_is)
    (case a19 => k_is)
    (case l19 => k_is)
    (case c19 => k_is)
    (case k19 => k_is)
    (case a20 => k_is)
    (case l20 => k_is)
    (case c20 => k_is)
    (case k20 => k_is)
    (case a21 => k_is)
    (case l21 => k_is)
    (case c21 => k_is)
    (case k21 => k_is)
    (case a22 => k_is)
    (case l22 => k_is)
    (case c22 => k_is)
    (case k22 => k_is)
    (case a23 => k_is)
    (case l23 => k_is)
    (case c23 => k_is)
    (case k23 => k_is)
    (case a24 => k_is)
    (case l24 => k_is)
    (case c24 => k_is)
    (case k24 => k_is)
    (case a25 => k_is)
    (case l25 => k_is)
    (case c25 => k_is)
    (case k25 => k_is)
    (case a26 => k_is)
    (case l26 => k_is)
    (case c26 => k_is)
    (case k26 => k_is)
    (case a27 => k_is)
    (case l27 => k_is)
    (case c27 => k_is)
    (case k27 => k_is)
    (case a28 => k_is)
    (case l28 => k_is)
    (case c28 => k_is)
    (case k28 => k_is)
    (case a29 => k_is)
    (case l29 => k_is)
    (case c29 => k_is)
    (case k29 => k_is)
    (case a30 => k_is)
    (case l30 => k_is)
    (case c30 => k_is)
    (case k30 => k_is)
    (case a31 => k_is)
    (case l31 => k_is)
    (case c31 => k_is)
    (case k31 => k_is)
#print axioms PySem.Challenge.cw_crumbjar_k06_suffixes_and_families_holds
